import PyProof.Rows.All
import Wide.All
import OpenK.AllK
import Wide.FinOn
import PyProof.EqAt
import PyProof.EqKinds
import PyProof.TupleCall
import Lean
import PySem.Challenge.RW_risemarks_k82_after_as_a_hand
section
set_option Elab.async false
set_option linter.all false
set_option maxRecDepth 100000
set_option maxHeartbeats 4000000
namespace L2
open PySem PySem.Spec PyProof.Rows
abbrev Key:=Sum Int Str
def Gr:Key→Value→Bool
  | .inl k,v=>Value.isInt k v
  | .inr x,v=>Value.isStrOf x v
def LP (w:World):Key→Int
  | .inl k=>hashInt k
  | .inr x=>hashStr w x
theorem b6:∀ {k:Key} {v:Value},Gr k v=true→(∃ i t,k=Sum.inl i∧v=Value.int i t)∨(∃ x t,k=Sum.inr x∧v=Value.str x t)
  | .inl i,v,h=>by
    obtain ⟨t,e⟩:=Value.isInt_shape (k:=i) (v:=v) h
    exact .inl ⟨i,t,rfl,e⟩
  | .inr x,v,h=>by
    obtain ⟨t,e⟩:=Value.isStrOf_shape (x:=x) (v:=v) h
    exact .inr ⟨x,t,rfl,e⟩
theorem Ig (a b:Int):decide ((Sum.inl a:Key)=Sum.inl b)=(a == b):=by
  by_cases e:a=b
  · subst e;simp
  · have h:¬ (Sum.inl a:Key)=Sum.inl b:=fun q=>e (Sum.inl.inj q)
    rw [decide_eq_false h]
    exact (beq_eq_false_iff_ne.mpr e).symm
theorem Ib (a b:Str):decide ((Sum.inr a:Key)=Sum.inr b)=decide (a=b):=by
  by_cases e:a=b
  · subst e;simp
  · have h:¬ (Sum.inr a:Key)=Sum.inr b:=fun q=>e (Sum.inr.inj q)
    rw [decide_eq_false h,decide_eq_false e]
theorem Ie (a:Int) (b:Str):decide ((Sum.inl a:Key)=Sum.inr b)=false:=decide_eq_false (fun q=>nomatch q)
theorem Ic (a:Str) (b:Int):decide ((Sum.inr a:Key)=Sum.inl b)=false:=decide_eq_false (fun q=>nomatch q)
def xr (prog:Program) (w:World):PySem.KeyKind prog w Key where
  is:=Gr
  hash:=LP w
  inj:=fun v a b ha hb=>by
    rcases b6 ha with ⟨i,t,rfl,rfl⟩ | ⟨x,t,rfl,rfl⟩
    · rcases b6 hb with ⟨j,u,rfl,e⟩ | ⟨y,u,rfl,e⟩
      · injection e with e1 _;rw [e1]
      · exact nomatch e
    · rcases b6 hb with ⟨j,u,rfl,e⟩ | ⟨y,u,rfl,e⟩
      · exact nomatch e
      · injection e with e1 _;rw [e1]
  byValue:=fun k v h=>by
    rcases b6 h with ⟨i,t,rfl,rfl⟩ | ⟨x,t,rfl,rfl⟩ <;> rfl
  pyHash:=fun hv h=>by
    rcases b6 hv with ⟨i,t,rfl,rfl⟩ | ⟨x,t,rfl,rfl⟩
    · exact wpAny_pyHash_int h
    · exact wpAny_pyHash_str h
  eqBool:=fun hu hv h=>by
    rcases b6 hu with ⟨i,t,rfl,rfl⟩ | ⟨x,t,rfl,rfl⟩
    · rcases b6 hv with ⟨j,u,rfl,rfl⟩ | ⟨y,u,rfl,rfl⟩
      · rw [Ig] at h;exact wpAny_eqBool_int h
      · rw [Ie] at h;exact SeqAt.EqAt.int_str i t y u _ _ _ _ h
    · rcases b6 hv with ⟨j,u,rfl,rfl⟩ | ⟨y,u,rfl,rfl⟩
      · rw [Ic] at h;exact SeqAt.EqAt.str_int x t j u _ _ _ _ h
      · rw [Ib] at h;exact wpAny_eqBool_str h
  «strs»:=fun k x t v h=>by
    rcases b6 h with ⟨i,u,rfl,e⟩ | ⟨y,u,rfl,e⟩
    · exact nomatch e
    · injection e with e1 _
      subst e1
      cases v <;> rfl
inductive V where
  | non | bl (b:Bool) | int (i:Int) | str (x:Str) | byt (b:Array UInt8) | flt (b:UInt64) | ref (a:Addr) | ty (n:String)
  deriving DecidableEq
def RelV:V→Value→Prop
  | .non,u=>u=Value.none
  | .bl b,u=>u=Value.bool b
  | .int i,u=>∃ t,u=Value.int i t
  | .str x,u=>∃ t,u=Value.str x t
  | .byt b,u=>∃ t,u=Value.bytes b t
  | .flt b,u=>∃ t,u=Value.float b t
  | .ref a,u=>u=Value.ref a
  | .ty n,u=>u=Value.type n
abbrev Vals:List V→List Value→Prop:=Paired RelV
theorem Vals.length {xs:List V} {us:List Value} (r:Vals xs us):xs.length=us.length:=Paired.length r
theorem Vals.get:∀ {xs:List V} {us:List Value} {i:Nat} {x:V},Vals xs us→xs[i]?=some x→∃ u,us[i]?=some u∧RelV x u
  | _,_,_,_,.nil,e=>by simp at e
  | _,_,0,_,.cons r _,e=>by simp at e;subst e;exact ⟨_,rfl,r⟩
  | _,_,i+1,x,.cons _ t,e=>by
    obtain ⟨u,h1,h2⟩:=Vals.get (i:=i) (x:=x) t (by simpa using e)
    exact ⟨u,by simpa using h1,h2⟩
theorem Vals.set {x:V} {u:Value} (r:RelV x u):∀ {xs:List V} {us:List Value} (i:Nat),Vals xs us→Vals (xs.set i x) (us.set i u)
  | _,_,_,.nil=>.nil
  | _,_,0,.cons _ t=>.cons r t
  | _,_,i+1,.cons q t=>.cons q (Vals.set r i t)
theorem Vals.append:∀ {xs ys:List V} {us ws:List Value},Vals xs us→Vals ys ws→Vals (xs++ys) (us++ws)
  | _,_,_,_,.nil,s=>s
  | _,_,_,_,.cons r t,s=>.cons r (Vals.append t s)
theorem Vals.take:∀ {xs:List V} {us:List Value} (n:Nat),Vals xs us→Vals (xs.take n) (us.take n)
  | _,_,0,_=>.nil
  | _,_,_+1,.nil=>.nil
  | _,_,n+1,.cons r t=>.cons r (Vals.take n t)
theorem Vals.drop:∀ {xs:List V} {us:List Value} (n:Nat),Vals xs us→Vals (xs.drop n) (us.drop n)
  | _,_,0,r=>r
  | _,_,_+1,.nil=>.nil
  | _,_,n+1,.cons _ t=>Vals.drop n t
def kD:Option V→Option Value→Prop
  | some v,some u=>RelV v u
  | none,none=>True
  | _,_=>False
def KV {κ : Type}:List (κ×V)→List (κ×Value)→Prop:=Paired fun (p : κ×V) (q : κ×Value)=>p.1=q.1∧RelV p.2 q.2
def kV:Key→V
  | .inl i=>.int i
  | .inr x=>.str x
inductive HO where
    | lst (xs:List V)
    | tup (xs:List V)
    | dK (kvs:List (Key×V)) | dT (kvs:List (List Key×V))
    | set (S:Int→Bool) (n:Nat)
    | ins (C dx:Addr) (fs:List (Str×V))
    | own (x:Addr)
    | xd (fs:List (Str×V))
    | met (f x:Addr)
    | rng (lo hi:Int)
    | frz (o:Obj) (u:HO)
    | tbl (ps:Array Value)
    | ext (φ : Heap→Prop)
abbrev Hp:=Addr→Option HO
def upd (H:Hp) (a:Addr) (o:HO):Hp:=fun b=>if b=a then some o else H b
theorem aB {H:Hp} {a:Addr} {o:HO}:upd H a o a=some o:=by unfold upd;rw [if_pos rfl]
theorem az {H:Hp} {a b:Addr} {o:HO} (h:b≠a):upd H a o b=H b:=by unfold upd;rw [if_neg h]
theorem eE {H:Hp} {a:Addr} {o u:HO}:upd (upd H a o) a u=upd H a u:=by
  funext b;unfold upd;split <;> rfl
theorem aJ {H:Hp} {a b:Addr} {o:HO} (h:H a=some o) (h':H b=none):a≠b:=by
  intro e;subst e;rw [h] at h';cases h'
section
variable (P:Program) (w:World)
def bU (H:Hp) (h:Heap) (a:Addr):HO→Prop
  | .lst xs=>xs.length≤sizeLine∧∃ (its:List Value) (n:Nat),Vals xs its∧h.get? a=some { cls:=.type "list",data:=.seq its.toArray n }
  | .tup xs=>xs.length≤sizeLine∧∃ its:List Value,Vals xs its∧IsTup h a its.toArray
  | .dK kvs=>kvs.length≤sizeLine∧(a == sysModules)=false∧∃ vs,KV kvs vs∧h.DictOf (xr P w) a vs
  | .dT kvs=>kvs.length≤sizeLine∧(a == sysModules)=false∧∃ xs:List (List Key×Addr×Value),
      Paired (fun (p:List Key×V) (q:List Key×Addr×Value)=>p.1=q.1∧H q.2.1=some (.tup (p.1.map kV))∧RelV p.2 q.2.2) kvs xs ∧
      ∃ o es ep,h.get? a=some o∧o.ExactDict∧o.data = .dict es ep∧es.toList=xs.map (entryOfKey (tupleKind (xr P w)))∧(xs.map (·.1)).Nodup
  | .set S n=>h.SetOf (intKind P w) a S n
  | .ins C dx fs=>H dx=some (.own a)∧fs.length≤1000∧dx≠a∧h.get? a=some (PySem.W.instObj C dx) ∧
      ∃ mA,h.Ns1 dx mA∧(∀ f,kD (fs.lookup f) (mA f))∧PySem.Within mA (fs.map (·.1))
  | .own _=>∃ o,h.get? a=some o
  | .xd fs=>∃ mA,h.Ns1 a mA∧∀ f,kD (fs.lookup f) (mA f)
  | .rng lo hi=>∃ t u v,h.get? a=some { cls:=.type "range",data:=.fields #[.int lo t,.int hi u,.int 1 v] }
  | .frz o u=>h.get? a=some o∧bU H h a u
  | .tbl ps=>h.get? a=some { cls:=.none,data:=.fields ps }
  | .met f x=>h.get? a=some (PySem.W.methodObj (.ref f) (.ref x))
  | .ext φ=>φ h∧(∃ o,h.get? a=some o)∧∀ h1 h2:Heap,φ h1→(∀ o,h1.get? a=some o→h2.get? a=some o)→φ h2
def HOk (H:Hp) (h:Heap):Prop:=∀ a o,H a=some o→bU P w H h a o
end
section
variable {P:Program} {w:World} {H H':Hp} {h h':Heap} {a:Addr} {o:HO}
theorem bU.lt (x:bU P w H h a o):a < h.objs.size:=by
  cases o with
  | lst xs=>obtain ⟨_,_,_,_,e⟩:=x;exact Heap.lt_size e
  | tup xs=>obtain ⟨_,_,_,p⟩:=x;exact p.lt
  | dK kvs=>obtain ⟨_,_,_,_,o,_,_,e,_⟩:=x;exact Heap.lt_size e
  | dT kvs=>obtain ⟨_,_,_,_,o,_,_,e,_⟩:=x;exact Heap.lt_size e
  | set S n=>obtain ⟨o,_,_,_,e,_⟩:=x;exact Heap.lt_size e
  | ins C dx fs=>obtain ⟨_,_,_,e,_⟩:=x;exact Heap.lt_size e
  | own y=>obtain ⟨_,e⟩:=x;exact Heap.lt_size e
  | xd fs=>obtain ⟨_,⟨_,_,_,e,_⟩,_⟩:=x;exact Heap.lt_size e
  | rng lo hi=>obtain ⟨_,_,_,e⟩:=x;exact Heap.lt_size e
  | frz ob u=>obtain ⟨e,_⟩:=x;exact Heap.lt_size e
  | tbl ps=>exact Heap.lt_size (show h.get? a=some _ from x)
  | met f y=>exact Heap.lt_size (show h.get? a=some _ from x)
  | ext φ=>obtain ⟨_,⟨_,e⟩,_⟩:=x;exact Heap.lt_size e
theorem Paired.Ky {α β : Type} {F G : α→β→Prop}:∀ {l₁ : List α} {l₂ : List β},Paired F l₁ l₂→(∀ a b,F a b→G a b)→Paired G l₁ l₂
  | _,_,.nil,_=>.nil
  | _,_,.cons r t,f=>.cons (f _ _ r) (Paired.Ky t f)
theorem bU.stay (x:bU P w H h a o) (k:∀ b u,(b=a∨H b=some (.own a))→h.get? b=some u→h'.get? b=some u)
    (ho:∀ b,H b=some (.own a)→H' b=some (.own a)) (ht:∀ b xs,H b=some (.tup xs)→H' b=some (.tup xs)):bU P w H' h' a o:=by
  induction o with
  | lst xs=>obtain ⟨z,its,n,r,e⟩:=x;exact ⟨z,its,n,r,k _ _ (.inl rfl) e⟩
  | tup xs=>obtain ⟨z,its,r,ob,e,c⟩:=x;exact ⟨z,its,r,ob,k _ _ (.inl rfl) e,c⟩
  | dK kvs=>obtain ⟨z,y,vs,r,ob,es,ep,e,c⟩:=x;exact ⟨z,y,vs,r,ob,es,ep,k _ _ (.inl rfl) e,c⟩
  | dT kvs=>
    obtain ⟨z,y,xs,r,ob,es,ep,e,c⟩:=x
    exact ⟨z,y,xs,Paired.Ky r fun p q z=>⟨z.1,ht _ _ z.2.1,z.2.2⟩,ob,es,ep,k _ _ (.inl rfl) e,c⟩
  | set S n=>obtain ⟨ob,es,ep,t,e,c⟩:=x;exact ⟨ob,es,ep,t,k _ _ (.inl rfl) e,c⟩
  | ins C dx fs=>
    obtain ⟨d,z,ne,e,mA,⟨od,es,ep,e2,c⟩,r⟩:=x
    exact ⟨ho _ d,z,ne,k _ _ (.inl rfl) e,mA,⟨od,es,ep,k _ _ (.inr d) e2,c⟩,r⟩
  | own y=>obtain ⟨ob,e⟩:=x;exact ⟨ob,k _ _ (.inl rfl) e⟩
  | xd fs=>obtain ⟨mA,⟨od,es,ep,e,c⟩,r⟩:=x;exact ⟨mA,⟨od,es,ep,k _ _ (.inl rfl) e,c⟩,r⟩
  | rng lo hi=>obtain ⟨t,u,v,e⟩:=x;exact ⟨t,u,v,k _ _ (.inl rfl) e⟩
  | frz ob u ih=>obtain ⟨e,q⟩:=x;exact ⟨k _ _ (.inl rfl) e,ih q⟩
  | tbl ps=>
    have e:h.get? a=some { cls:=.none,data:=.fields ps }:=x
    show h'.get? a=some { cls:=.none,data:=.fields ps }
    exact k a _ (.inl rfl) e
  | met f y=>
    have e:h.get? a=some (PySem.W.methodObj (.ref f) (.ref y)):=x
    show h'.get? a=some (PySem.W.methodObj (.ref f) (.ref y))
    exact k a _ (.inl rfl) e
  | ext φ=>obtain ⟨p,⟨o,e⟩,st⟩:=x;exact ⟨st _ _ p fun o q=>k _ _ (.inl rfl) q,⟨o,k _ _ (.inl rfl) e⟩,st⟩
theorem HOk.lt (x:HOk P w H h) (e:H a=some o):a < h.objs.size:=(x a o e).lt
theorem HOk.fresh (x:HOk P w H h) (e:h.objs.size≤a):H a=none:=by
  cases q:H a with
  | none=>rfl
  | some u=>exact absurd (Nat.lt_of_lt_of_le (x.lt q) e) (Nat.lt_irrefl _)
theorem HOk.kept (x:HOk P w H h) (k:∀ b u,h.get? b=some u→h'.get? b=some u):HOk P w H h':=fun a o e=>
  (x a o e).stay (fun b u _ q=>k b u q) (fun _ q=>q) fun _ _ q=>q
theorem HOk.laid (x:HOk P w H h) (k:∀ b u,h.get? b=some u→h'.get? b=some u) (hp:h.objs.size≤a) (new:bU P w (upd H a o) h' a o):HOk P w (upd H a o) h':=fun b u e=>by
  have hn:=x.fresh hp
  by_cases hb:b=a
  · subst hb;rw [aB] at e;cases e;exact new
  · rw [az hb] at e
    exact (x b u e).stay (fun c v _ q=>k c v q) (fun c q=>by rw [az (aJ q hn)];exact q) fun c xs q=>by rw [az (aJ q hn)];exact q
end
def Rd (H:Hp) (a:Addr) (u:HO):Prop:=H a=some u∨∃ o,H a=some (.frz o u)
theorem Rd.ok {P:Program} {w:World} {H:Hp} {h:Heap} {a:Addr} {u:HO} (r:Rd H a u) (x:HOk P w H h):bU P w H h a u:=by
  rcases r with r | ⟨o,r⟩
  · exact x a u r
  · obtain ⟨_,q⟩:=x a _ r
    exact q
def Mut:Option HO→Prop
  | some (.lst _)=>True
  | some (.dK _)=>True
  | some (.dT _)=>True
  | some (.set _ _)=>True
  | some (.ins _ _ _)=>True
  | some (.ext _)=>True
  | _=>False
section
variable {P:Program} {w:World} {H:Hp} {h h':Heap} {x e:Addr} {o':HO}
theorem HOk.write (ok:HOk P w H h) (mu:Mut (H x)) (he:e=x∨H e=some (.own x)) (k:∀ b u,b≠e→h.get? b=some u→h'.get? b=some u) (heo:∃ u,h'.get? e=some u)
    (new:bU P w (upd H x o') h' x o'):HOk P w (upd H x o') h':=fun b u q=>by
  have Kw:∀ c y,H c=some (.own y)→c≠x:=fun c y r z=>by subst z;rw [r] at mu;exact mu
  have LH:∀ c xs,H c=some (.tup xs)→c≠x:=fun c xs r z=>by subst z;rw [r] at mu;exact mu
  by_cases hb:b=x
  · subst hb;rw [aB] at q;cases q;exact new
  · rw [az hb] at q
    by_cases hbe:b=e
    · have q':H b=some (.own x):=by
        rcases he with z | z
        · exact absurd (hbe.trans z) hb
        · rw [hbe];exact z
      rw [q] at q';cases q'
      obtain ⟨v,hv⟩:=heo
      exact ⟨v,by rw [hbe];exact hv⟩
    · refine (ok b u q).stay (fun c v hc r=>k c v ?_ r) (fun c r=>by rw [az (Kw c b r)];exact r) fun c xs r=>by rw [az (LH c xs r)];exact r
      rcases hc with rfl | hc
      · exact hbe
      · rintro rfl
        rcases he with z | z
        · exact Kw c b hc z
        · rw [hc] at z;cases z;exact hb rfl
end
structure Un (fs ex:List Addr) (H H':Hp) (h h':Heap):Prop where
  keep:∀ b o,h.get? b=some o→H b=none→b∉fs→b∉ex→h'.get? b=some o
  slot:∀ b o,h.get? b=some o→H b=none→b∈fs→b∉ex→∃ sl,h'.get? b=some { o with slots:=sl }
  free:∀ b o,h.get? b=some o→H b=none→b∉ex→H' b=none
  there:∀ b o,h.get? b=some o→b∉ex→∃ o',h'.get? b=some o'
  tups:∀ b xs,H b=some (.tup xs)→H' b=some (.tup xs)
  jh:∀ b o u,H b=some (.frz o u)→H' b=some (.frz o u)
  ju:∀ b ps,H b=some (.tbl ps)→∃ more,H' b=some (.tbl (ps++more))
section
variable {fs fs' ex ex':List Addr} {H H1 H2:Hp} {h h1 h2 h':Heap} {a x e:Addr} {o:HO}
theorem Un.any (u:Un fs ex H H1 h h1) {b:Addr} {ob:Obj} (q:h.get? b=some ob) (n:H b=none) (hx:b∉ex):∃ sl,h1.get? b=some { ob with slots:=sl }:=by
  by_cases hb:b∈fs
  · exact u.slot b ob q n hb hx
  · exact ⟨ob.slots,u.keep b ob q n hb hx⟩
theorem Un.trans (a:Un fs ex H H1 h h1) (b:Un fs ex H1 H2 h1 h2):Un fs ex H H2 h h2 where
  keep:=fun c ob q n hc hx=>b.keep c ob (a.keep c ob q n hc hx) (a.free c ob q n hx) hc hx
  slot:=fun c ob q n hc hx=>by
    obtain ⟨sl,e1⟩:=a.slot c ob q n hc hx
    obtain ⟨sl',e2⟩:=b.slot c _ e1 (a.free c ob q n hx) hc hx
    exact ⟨sl',e2⟩
  free:=fun c ob q n hx=>by
    obtain ⟨o',e1⟩:=a.there c ob q hx
    exact b.free c o' e1 (a.free c ob q n hx) hx
  there:=fun c ob q hx=>by
    obtain ⟨o',e1⟩:=a.there c ob q hx
    exact b.there c o' e1 hx
  tups:=fun c xs q=>b.tups c xs (a.tups c xs q)
  jh:=fun c ob xs q=>b.jh c ob xs (a.jh c ob xs q)
  ju:=fun c ps q=>by
    obtain ⟨m1,e1⟩:=a.ju c ps q
    obtain ⟨m2,e2⟩:=b.ju c _ e1
    exact ⟨m1++m2,by rw [e2,Array.append_assoc]⟩
theorem Un.kept (k:∀ b u,h.get? b=some u→h'.get? b=some u):Un fs ex H H h h':=
  ⟨fun b ob q _ _ _=>k b ob q,fun b ob q _ _ _=>⟨ob.slots,k b ob q⟩,fun _ _ _ n _=>n,fun b ob q _=>⟨ob,k b ob q⟩,fun _ _ q=>q,fun _ _ _ q=>q,fun _ ps q=>⟨#[],by rw [q];simp⟩⟩
theorem Un.refl:Un fs ex H H h h:=Un.kept fun _ _ q=>q
theorem Un.laid (k:∀ b u,h.get? b=some u→h'.get? b=some u) (hp:h.objs.size≤a) (hn:H a=none):Un fs ex H (upd H a o) h h' where
  keep:=fun b u q _ _ _=>k b u q
  slot:=fun b u q _ _ _=>⟨u.slots,k b u q⟩
  free:=fun b u q n _=>by rw [az (Nat.ne_of_lt (Nat.lt_of_lt_of_le (Heap.lt_size q) hp))];exact n
  there:=fun b u q _=>⟨u,k b u q⟩
  tups:=fun b xs q=>by rw [az (aJ q hn)];exact q
  jh:=fun b u xs q=>by rw [az (aJ q hn)];exact q
  ju:=fun b ps q=>⟨#[],by rw [az (aJ q hn),q];simp⟩
theorem Un.write (mu:Mut (H x)) (he:e=x∨H e=some (.own x)) (k:∀ b u,b≠e→h.get? b=some u→h'.get? b=some u) (heo:∃ u,h'.get? e=some u):Un fs ex H (upd H x o) h h':=by
  have hx:∀ b,H b=none→b≠x:=fun b n z=>by subst z;rw [n] at mu;exact mu
  have hb:∀ b,H b=none→b≠e:=fun b n z=>by
    subst z
    rcases he with r | r
    · exact hx b n r
    · rw [n] at r;cases r
  have hm:∀ b u,H b=some u→¬ Mut (some u)→b≠x:=fun b u q nm z=>by subst z;rw [q] at mu;exact nm mu
  refine ⟨fun b u q n _ _=>k b u (hb b n) q,fun b u q n _ _=>⟨u.slots,k b u (hb b n) q⟩,fun b u q n _=>by rw [az (hx b n)];exact n,fun b u q _=>?_,
    fun b xs q=>by rw [az (hm b _ q fun z=>z)];exact q,fun b u xs q=>by rw [az (hm b _ q fun z=>z)];exact q,fun b ps q=>⟨#[],by rw [az (hm b _ q fun z=>z),q];simp⟩⟩
  by_cases hbe:b=e
  · subst hbe;exact heo
  · exact ⟨u,k b u hbe q⟩
end
def trk (h:Heap) (H:Hp):List Addr:=(List.range h.objs.size).filter fun a=>(H a).isSome
def p7 (h:Heap) (H:Hp):Heap:=PySem.W.hideAll h (trk h H)
theorem zE (h:Heap) (H:Hp):(p7 h H).objs.size=h.objs.size:=PySem.W.hideAll_size _ _
theorem Cj {h:Heap} {H:Hp} {b:Addr} {o:Obj} (e:h.get? b=some o) (n:H b=none):(p7 h H).get? b=some o:=
  PySem.W.hideAll_get _ e fun hm=>by
    have q:(H b).isSome=true:=(List.mem_filter.mp hm).2
    rw [n] at q;simp at q
theorem EH {h:Heap} {H:Hp} {b:Addr} {o:Obj} (e:(p7 h H).get? b=some o):h.get? b=some o∧H b=none:=by
  have e':h.get? b=some o:=PySem.W.of_hideAll (trk h H) e
  refine ⟨e',?_⟩
  cases q:H b with
  | none=>rfl
  | some x=>
    have hm:b∈trk h H:=List.mem_filter.mpr ⟨List.mem_range.mpr (Heap.lt_size e'),by simp [q]⟩
    have z:(p7 h H).get? b=none:=PySem.W.hideAll_none (trk h H) hm
    rw [z] at e;cases e
structure Mod (K:PySem.W.Frag) (mg:Str→Option Value) (base:Heap):Prop where
  kin:K.In base
  glob:base.Ns mainGlobals mg
  blt:∃ mb,base.Ns builtinsNs mb∧∀ x:Str,x ≠ "__name__" → mb x=bootBuiltins x
  nolimit:base.NoLimit
structure Cx where
  prog:Program
  w:World
  K:PySem.W.Frag
  mg:Str→Option Value
  base:Heap
  A:Around
  N:List Str
  s₀ : Shared
  H₀ : Hp
  env:Env
  outer:List Env
  stack:List Env
  ex:List Addr
  fn:Str→Bool
  calm:Bool
  pn:List (Addr×Obj)
  xe:Value→Shared→Prop
def frs (l:List Env):List Addr:=l.filterMap (·.frame)
abbrev Cx.fs (X:Cx):List Addr:=frs X.outer
def Vis (sc:Scope) (x:Str):Prop:=sc.names.lookup x=some .local∨sc.names.lookup x=some .cell∨sc.names.lookup x=some .free
def Loc (sc:Scope) (x:Str):Prop:=sc.names.lookup x=some .local∨sc.names.lookup x=some .cell
def Look (env:Env) (h:Heap) (m:Str→Option Value) (x:Str) (u:Value):Prop:=
  (env.kindOf x=some .local∧m x=some u)∨((env.kindOf x=some .cell∨env.kindOf x=some .free)∧∃ c,env.cells.lookup x=some c∧h.IsCell c (some u))
structure Cx.Ok (X:Cx):Prop where
  mod:Mod X.K X.mg X.base
  kind:X.env.scope.kind = .function
  glob:X.env.globals=mainGlobals
  blt:X.env.builtins=builtinsNs
  above:X.s₀.heap.objs.size≤X.env.locals
  inj:∀ x y c,X.env.cells.lookup x=some c→X.env.cells.lookup y=some c→x=y
  has:∀ x,(X.env.kindOf x=some .cell∨X.env.kindOf x=some .free)→∃ c,X.env.cells.lookup x=some c
  cab:∀ x c,X.fn x=true→X.env.cells.lookup x=some c→X.s₀.heap.objs.size≤c
  hd:X.calm=true→X.A.handled=none
  frames:X.A.frames=some X.stack
  stk:X.stack=X.outer∨(X.stack=X.env::X.outer∧X.env.frame=some X.env.locals)
  exf:∀ b∈X.ex,b≠X.env.locals∧∀ x c,X.env.cells.lookup x=some c→c≠b
  bs:∀ b o,X.base.get? b=some o→X.s₀.heap.get? b=some o∧X.H₀ b=none
  bsz:X.base.objs.size≤X.s₀.heap.objs.size
  noex:∀ b o,X.base.get? b=some o→b∉X.ex
  exfs:∀ b∈X.ex,b∉X.fs
  jg:X.s₀.heap.FunFrames X.base X.outer
  frf:∀ b∈X.fs,X.H₀ b=none
structure Inv (X:Cx) (pins:List (Addr×Obj)) (σ : List (Option V)) (H:Hp) (s:Shared):Prop where
  ok:X.Ok
  os:s.os=X.s₀.os
  bare:AllBare s.gens
  base:Un X.fs X.ex X.H₀ H X.s₀.heap s.heap
  loc:∃ m,s.heap.Ns X.env.locals m∧∀ (i:Nat) (x:Str) (v:V),X.N[i]?=some x→σ[i]?=some (some v)→Vis X.env.scope x→∃ u,RelV v u∧Look X.env s.heap m x u
  cell:∀ x c,X.env.cells.lookup x=some c→∃ v,s.heap.IsCell c v
  free:H X.env.locals=none
  freeC:∀ x c,X.env.cells.lookup x=some c→H c=none
  pin:∀ p∈X.pn++pins,s.heap.get? p.1=some p.2∧H p.1=none∧p.1≠X.env.locals∧p.1∉X.fs∧∀ v,p.2.data≠.cell v
  hok:HOk X.prog X.w H s.heap
  len : σ.length=X.N.length
section
variable {X:Cx} {pins:List (Addr×Obj)} {σ : List (Option V)} {H H':Hp} {s:Shared} {h':Heap}
theorem Cx.Ok.LM (ok:X.Ok) {b:Addr} {o:Obj} (e:X.base.get? b=some o):b∉X.fs:=fun hb=>by
  have:=(ok.jg.mem hb).1
  rw [e] at this;cases this
theorem Inv.bs (I:Inv X pins σ H s):∀ b o,X.base.get? b=some o→s.heap.get? b=some o∧H b=none:=fun b o e=>
  ⟨I.base.keep b o (I.ok.bs b o e).1 (I.ok.bs b o e).2 (I.ok.LM e) (I.ok.noex b o e),I.base.free b o (I.ok.bs b o e).1 (I.ok.bs b o e).2 (I.ok.noex b o e)⟩
theorem Inv.bk (I:Inv X pins σ H s):∀ b o,X.base.get? b=some o→s.heap.get? b=some o:=fun b o e=>(I.bs b o e).1
theorem Inv.mod (I:Inv X pins σ H s):Mod X.K X.mg X.base:=I.ok.mod
theorem Inv.kIn (I:Inv X pins σ H s):X.K.In s.heap:=I.ok.mod.kin.keeps I.bk
theorem Inv.lt (I:Inv X pins σ H s):X.env.locals < s.heap.objs.size:=let ⟨_,hn,_⟩:=I.loc;hn.lt
theorem Inv.sz (I:Inv X pins σ H s):X.s₀.heap.objs.size≤s.heap.objs.size:=Nat.le_trans I.ok.above (Nat.le_of_lt I.lt)
theorem Inv.Kx (I:Inv X pins σ H s) {a:Addr} (h:s.heap.objs.size≤a):a∉X.fs:=fun hb=>by
  obtain ⟨_,o,ho,_⟩:=I.ok.jg.mem hb
  exact absurd (Nat.lt_of_lt_of_le (Heap.lt_size ho) (Nat.le_trans I.sz h)) (Nat.lt_irrefl _)
theorem Inv.cne (I:Inv X pins σ H s):∀ x c,X.env.cells.lookup x=some c→c≠X.env.locals:=fun x c e z=>by
  obtain ⟨v,o,ho,hd⟩:=I.cell x c e
  obtain ⟨m,⟨o',es,ep,ho',hd',_⟩,_⟩:=I.loc
  rw [z,ho'] at ho;cases ho;rw [hd'] at hd;cases hd
theorem Inv.jg (I:Inv X pins σ H s):s.heap.FunFrames X.base X.outer:=by
  have all:∀ (l:List Env),(∀ b∈frs l,b∈X.fs)→X.s₀.heap.FunFrames X.base l→s.heap.FunFrames X.base l:=by
    intro l
    induction l with
    | nil=>intro _ _;trivial
    | cons env r ih=>
      intro hs hl
      obtain ⟨hk,⟨L,o,hf,hn,ho,hd⟩,hr⟩:=hl
      have hL:L∈X.fs:=hs L (by unfold frs;rw [List.filterMap_cons,hf];exact List.mem_cons_self)
      obtain ⟨sl,e⟩:=I.base.slot L o ho (I.ok.frf L hL) hL fun z=>I.ok.exfs L z hL
      exact ⟨hk,⟨L,_,hf,hn,e,hd⟩,ih (fun b hb=>hs b (by unfold frs;rw [List.filterMap_cons,hf];exact List.mem_cons_of_mem _ hb)) hr⟩
  exact all X.outer (fun _ hb=>hb) I.ok.jg
theorem Inv.stack (I:Inv X pins σ H s):s.heap.FunFrames X.base X.stack:=by
  rcases I.ok.stk with e | ⟨e,hf⟩
  · rw [e];exact I.jg
  · rw [e]
    obtain ⟨m,hn,_⟩:=I.loc
    refine .cons (by rw [I.ok.kind];decide) hf hn ?_ I.jg
    exact Heap.get?_none_of_le (Nat.le_trans I.ok.bsz I.ok.above)
theorem Inv.o4 (I:Inv X pins σ H s):∀ b∈frs X.stack,b∈X.env.locals::X.fs:=fun b hb=>by
  rcases I.ok.stk with e | ⟨e,hf⟩
  · rw [e] at hb;exact List.mem_cons_of_mem _ hb
  · rw [e] at hb
    unfold frs at hb
    rw [List.filterMap_cons,hf] at hb
    exact hb
theorem Inv.o5 (I:Inv X pins σ H s):∀ b∈frs X.stack,H b=none:=fun b hb=>by
  rcases List.mem_cons.mp (I.o4 b hb) with e | hb
  · rw [e];exact I.free
  · obtain ⟨_,o,ho,_⟩:=I.ok.jg.mem hb
    exact I.base.free b o ho (I.ok.frf b hb) fun z=>I.ok.exfs b z hb
theorem Inv.step {g':Array GenState} {t':Nat} {d':Drawn} {ch:List Addr} (I:Inv X pins σ H s)
    (hch:∀ b∈ch,(b∈X.ex∨X.s₀.heap.objs.size≤b)∧b≠X.env.locals∧(∀ x c,X.env.cells.lookup x=some c→c≠b)∧∀ p∈X.pn++pins,p.1≠b)
    (keep:∀ b o,b≠X.env.locals→b∉X.fs→b∉ch→s.heap.get? b=some o→H b=none→h'.get? b=some o)
    (slot:∀ b o,b≠X.env.locals→b∈X.fs→b∉ch→s.heap.get? b=some o→H b=none→∃ sl,h'.get? b=some { o with slots:=sl }) (free:∀ b o,b∉ch→s.heap.get? b=some o→H b=none→H' b=none)
    (there:∀ b o,b∉ch→s.heap.get? b=some o→∃ o',h'.get? b=some o')
    (tups:∀ b xs,H b=some (.tup xs)→H' b=some (.tup xs)) (jh:∀ b o u,H b=some (.frz o u)→H' b=some (.frz o u)) (ju:∀ b ps,H b=some (.tbl ps)→∃ more,H' b=some (.tbl (ps++more)))
    (ns:∀ m,s.heap.Ns X.env.locals m→h'.Ns X.env.locals m) (hok:HOk X.prog X.w H' h') (hg:AllBare g') :
    Inv X pins σ H' { s with heap:=h',gens:=g',drawn:=d',toks:=t' }:=by
  have neL:∀ b o,X.s₀.heap.get? b=some o→b≠X.env.locals:=fun b o e=>Nat.ne_of_lt (Nat.lt_of_lt_of_le (Heap.lt_size e) I.ok.above)
  have neC:∀ b o,X.s₀.heap.get? b=some o→b∉X.ex→b∉ch:=fun b o e hx hb=>by
    rcases (hch b hb).1 with z | z
    · exact hx z
    · exact absurd (Nat.lt_of_lt_of_le (Heap.lt_size e) z) (Nat.lt_irrefl _)
  have cellK:∀ x c,X.env.cells.lookup x=some c→∀ v,s.heap.IsCell c v→h'.IsCell c v:=fun x c e v ⟨o,ho,hd⟩=>by
    have nch:c∉ch:=fun z=>(hch c z).2.2.1 x c e rfl
    by_cases hc:c∈X.fs
    · obtain ⟨sl,q⟩:=slot c o (I.cne x c e) hc nch ho (I.freeC x c e)
      exact ⟨_,q,hd⟩
    · exact ⟨o,keep c o (I.cne x c e) hc nch ho (I.freeC x c e),hd⟩
  refine ⟨I.ok,I.os,hg,⟨fun b o e n hb hx=>?_,fun b o e n hb hx=>?_,fun b o e n hx=>?_,fun b o e hx=>?_,fun b xs e=>tups b xs (I.base.tups b xs e),fun b o xs e=>jh b o xs (I.base.jh b o xs e),fun b ps e=>?_⟩,?_,fun x c e=>?_,?_,fun x c e=>?_,fun p hp=>?_,hok,I.len⟩
  · exact keep b o (neL b o e) hb (neC b o e hx) (I.base.keep b o e n hb hx) (I.base.free b o e n hx)
  · obtain ⟨sl,e1⟩:=I.base.slot b o e n hb hx
    obtain ⟨sl',e2⟩:=slot b _ (neL b o e) hb (neC b o e hx) e1 (I.base.free b o e n hx)
    exact ⟨sl',e2⟩
  · obtain ⟨o',e1⟩:=I.base.there b o e hx
    exact free b o' (neC b o e hx) e1 (I.base.free b o e n hx)
  · obtain ⟨o',e1⟩:=I.base.there b o e hx
    exact there b o' (neC b o e hx) e1
  · obtain ⟨m1,e1⟩:=I.base.ju b ps e
    obtain ⟨m2,e2⟩:=ju b _ e1
    exact ⟨m1++m2,by rw [e2,Array.append_assoc]⟩
  · obtain ⟨m,hn,hl⟩:=I.loc
    refine ⟨m,ns m hn,fun i x v e1 e2 e3=>?_⟩
    obtain ⟨u,r,l⟩:=hl i x v e1 e2 e3
    refine ⟨u,r,?_⟩
    rcases l with l | ⟨k,c,e,z⟩
    · exact .inl l
    · exact .inr ⟨k,c,e,cellK x c e _ z⟩
  · obtain ⟨v,z⟩:=I.cell x c e
    exact ⟨v,cellK x c e v z⟩
  · obtain ⟨m,⟨o,_,_,ho,_⟩,_⟩:=I.loc
    exact free _ o (fun z=>(hch _ z).2.1 rfl) ho I.free
  · obtain ⟨v,o,ho,hd⟩:=I.cell x c e
    exact free c o (fun z=>(hch c z).2.2.1 x c e rfl) ho (I.freeC x c e)
  · obtain ⟨e,n,ne,nf,d⟩:=I.pin p hp
    have nch:p.1∉ch:=fun z=>(hch p.1 z).2.2.2 p hp rfl
    exact ⟨keep p.1 p.2 ne nf nch e n,free p.1 p.2 nch e n,ne,nf,d⟩
theorem Inv.un {t':Nat} (I:Inv X pins σ H s) (u:Un X.fs [] H H' s.heap h') (hok:HOk X.prog X.w H' h'):Inv X pins σ H' { s with heap:=h',toks:=t' }:=by
  obtain ⟨m,⟨o,es,ep,ho,r⟩,_⟩:=id I.loc
  obtain ⟨sl,hL⟩:=u.any ho I.free (by simp)
  exact I.step (g':=s.gens) (d':=s.drawn) (ch:=[]) (fun _ z=>nomatch z) (fun b o _ hb _ e n=>u.keep b o e n hb (by simp)) (fun b o _ hb _ e n=>u.slot b o e n hb (by simp)) (fun b o _ e n=>u.free b o e n (by simp)) (fun b o _ e=>u.there b o e (by simp)) u.tups u.jh u.ju (fun m' hm=>by
    obtain ⟨o',es',ep',ho',r'⟩:=hm
    rw [ho] at ho';cases ho'
    exact ⟨_,es',ep',hL,r'⟩) hok I.bare
theorem Inv.call {g':Array GenState} {t':Nat} {d':Drawn} {ch:List Addr} (I:Inv X pins σ H s) (u:Un (frs X.stack) ch H H' s.heap h') (hok:HOk X.prog X.w H' h') (hg:AllBare g')
    (hch:∀ b∈ch,(b∈X.ex∨X.s₀.heap.objs.size≤b)∧b≠X.env.locals∧(∀ x c,X.env.cells.lookup x=some c→c≠b)∧∀ p∈X.pn++pins,p.1≠b) :
    Inv X pins σ H' { s with heap:=h',gens:=g',drawn:=d',toks:=t' }:=by
  obtain ⟨m,⟨o,es,ep,ho,r⟩,_⟩:=id I.loc
  obtain ⟨sl,hL⟩:=u.any ho I.free fun z=>(hch _ z).2.1 rfl
  exact I.step (ch:=ch) hch (fun b o hL hb hc e n=>u.keep b o e n (fun z=>(List.mem_cons.mp (I.o4 b z)).elim hL hb) hc) (fun b o _ _ hc e n=>u.any e n hc) (fun b o hc e n=>u.free b o e n hc) (fun b o hc e=>u.there b o e hc) u.tups u.jh u.ju (fun m' hm=>by
    obtain ⟨o',es',ep',ho',r'⟩:=hm
    rw [ho] at ho';cases ho'
    exact ⟨_,es',ep',hL,r'⟩) hok hg
theorem Inv.turned {t':Nat} {it:Addr} (I:Inv X pins σ H s) (k:∀ b o,b≠it→s.heap.get? b=some o→h'.get? b=some o) (hn:H it=none) (hL:it≠X.env.locals)
    (h1:it∈X.ex∨X.s₀.heap.objs.size≤it) (h2:∀ x c,X.env.cells.lookup x=some c→c≠it) (h3:∀ p∈X.pn++pins,p.1≠it):Inv X pins σ H { s with heap:=h',toks:=t' }:=by
  have nit:∀ b u,H b=some u→b≠it:=fun b u e z=>by rw [z,hn] at e;cases e
  refine I.step (g':=s.gens) (d':=s.drawn) (ch:=[it]) (fun b hb=>?_) (fun b o _ _ hc e _=>k b o (fun z=>hc (by simp [z])) e) (fun b o _ _ hc e _=>⟨o.slots,k b o (fun z=>hc (by simp [z])) e⟩) (fun _ _ _ _ n=>n)
    (fun b o hc e=>⟨o,k b o (fun z=>hc (by simp [z])) e⟩) (fun _ _ e=>e) (fun _ _ _ e=>e) (fun b ps e=>⟨#[],by rw [e];simp⟩) (fun m hm=>?_) (fun b u e=>?_) I.bare
  · have e:b=it:=by simpa using hb
    subst e
    exact ⟨h1,hL,h2,h3⟩
  · obtain ⟨o,es,ep,ho,r⟩:=hm
    exact ⟨o,es,ep,k _ o (Ne.symm hL) ho,r⟩
  · refine (I.hok b u e).stay (fun c v hc q=>k c v ?_ q) (fun _ q=>q) fun _ _ q=>q
    rcases hc with z | z
    · rw [z];exact nit b u e
    · exact nit c _ z
theorem Inv.tok (I:Inv X pins σ H s) (t:Nat):Inv X pins σ H { s with toks:=t }:=I.un (h':=s.heap) (t':=t) Un.refl I.hok
theorem Inv.kept {t':Nat} (I:Inv X pins σ H s) (k:∀ b u,s.heap.get? b=some u→h'.get? b=some u):Inv X pins σ H { s with heap:=h',toks:=t' }:=I.un (Un.kept k) (I.hok.kept k)
theorem Inv.laid {a:Addr} {o:HO} {t':Nat} (I:Inv X pins σ H s) (k:∀ b u,s.heap.get? b=some u→h'.get? b=some u) (hp:s.heap.objs.size≤a) (new:bU X.prog X.w (upd H a o) h' a o) :
    Inv X pins σ (upd H a o) { s with heap:=h',toks:=t' }:=I.un (Un.laid k hp (I.hok.fresh hp)) (I.hok.laid k hp new)
theorem Inv.write {x e:Addr} {o:HO} {t':Nat} (I:Inv X pins σ H s) (mu:Mut (H x)) (he:e=x∨H e=some (.own x)) (k:∀ b u,b≠e→s.heap.get? b=some u→h'.get? b=some u) (heo:∃ u,h'.get? e=some u)
    (new:bU X.prog X.w (upd H x o) h' x o):Inv X pins σ (upd H x o) { s with heap:=h',toks:=t' }:=I.un (Un.write mu he k heo) (I.hok.write mu he k heo new)
theorem Inv.lG {lY:List (Addr×Obj)} (I:Inv X pins σ H s) (h:∀ p∈lY,s.heap.get? p.1=some p.2∧H p.1=none∧p.1≠X.env.locals∧p.1∉X.fs∧∀ v,p.2.data≠.cell v):Inv X lY σ H s:=
  ⟨I.ok,I.os,I.bare,I.base,I.loc,I.cell,I.free,I.freeC,fun p hp=>(List.mem_append.mp hp).elim (fun z=>I.pin p (List.mem_append_left _ z)) (h p),I.hok,I.len⟩
theorem sd {N:List Str} (hN:N.Nodup) {i j:Nat} {x:Str} (a:N[i]?=some x) (b:N[j]?=some x):i=j:=by
  obtain ⟨h1,e1⟩:=List.getElem?_eq_some_iff.mp a
  obtain ⟨h2,e2⟩:=List.getElem?_eq_some_iff.mp b
  exact (List.getElem_inj hN).mp (e1.trans e2.symm)
theorem yv {M:Model} {A:Around} {E:Value→Shared→Prop} {i:Nat} {x:Str} {v:V} {u:Value} {Q:Unit→Shared→Prop} (I:Inv X pins σ H s) (hN:X.N.Nodup) (hi:X.N[i]?=some x) (hx:Loc X.env.scope x) (r:RelV v u)
    (h:∀ s',Inv X pins (σ.set i (some v)) H s'→(∃ a,Heap.SameBut a s.heap s'.heap∧(a=X.env.locals∨X.env.cells.lookup x=some a))→Q () s') (hf:X.fn x=true∨X.env.scope.names.lookup x=some .local:=by first | exact .inl rfl | exact .inr rfl | assumption):wpAny M A (storeName X.env x u) Q E s:=by
  obtain ⟨m,hn,hl⟩:=id I.loc
  have hcls:(X.env.scope.kind == .class || (X.env.scope.kind == .module && X.env.locals != X.env.globals))=false:=by rw [I.ok.kind];rfl
  have hiσ : i < σ.length:=by rw [I.len];exact (List.getElem?_eq_some_iff.mp hi).1
  have cne:=I.cne
  have tracked:∀ {a:Addr} {h':Heap},(∃ o,s.heap.get? a=some o∧H a=none)→Heap.SameBut a s.heap h'→HOk X.prog X.w H h':=fun {a h'} ha hs b ob e=>by
    obtain ⟨_,_,hfree⟩:=ha
    refine (I.hok b ob e).stay (fun c w' hc q=>(hs.2 c ?_).trans q) (fun _ q=>q) fun _ _ q=>q
    rintro rfl
    rcases hc with rfl | hc
    · rw [hfree] at e;cases e
    · rw [hfree] at hc;cases hc
  rcases hx with hk | hk
  · refine wpAny_storeName_local hk hn (fun h' hn' hs=>?_) hcls
    obtain ⟨oL,_,_,hoL,_⟩:=id hn
    refine h _ ⟨I.ok,I.os,I.bare,⟨fun b o e n hb hx=>?_,fun b o e n hb hx=>?_,I.base.free,fun b o e hx=>?_,I.base.tups,I.base.jh,I.base.ju⟩,⟨_,hn',fun j y v' e1 e2 e3=>?_⟩,fun y c e=>?_,I.free,I.freeC,fun p hp=>?_,tracked ⟨oL,hoL,I.free⟩ hs,by simpa using I.len⟩ ⟨_,hs,.inl rfl⟩
    · exact (hs.2 b (Nat.ne_of_lt (Nat.lt_of_lt_of_le (Heap.lt_size e) I.ok.above))).trans (I.base.keep b o e n hb hx)
    · obtain ⟨sl,e1⟩:=I.base.slot b o e n hb hx
      exact ⟨sl,(hs.2 b (Nat.ne_of_lt (Nat.lt_of_lt_of_le (Heap.lt_size e) I.ok.above))).trans e1⟩
    · obtain ⟨o',e1⟩:=I.base.there b o e hx
      exact ⟨o',(hs.2 b (Nat.ne_of_lt (Nat.lt_of_lt_of_le (Heap.lt_size e) I.ok.above))).trans e1⟩
    · by_cases hj:j=i
      · subst hj
        rw [hi] at e1;cases e1
        rw [List.getElem?_set_self hiσ] at e2
        cases e2
        exact ⟨u,r,.inl ⟨hk,by simp⟩⟩
      · rw [List.getElem?_set_ne (Ne.symm hj)] at e2
        obtain ⟨u',r',q⟩:=hl j y v' e1 e2 e3
        refine ⟨u',r',?_⟩
        rcases q with ⟨k,e⟩ | ⟨k,c,e,z⟩
        · refine .inl ⟨k,?_⟩
          have:y≠x:=fun e=>hj (sd hN e1 (e▸hi))
          simp [this,e]
        · exact .inr ⟨k,c,e,z.sameBut hs (cne y c e)⟩
    · obtain ⟨w',z⟩:=I.cell y c e
      exact ⟨w',z.sameBut hs (cne y c e)⟩
    · obtain ⟨e,n,ne,nf,d⟩:=I.pin p hp
      exact ⟨(hs.2 p.1 ne).trans e,n,ne,nf,d⟩
  · have hfn:X.fn x=true:=by
      rcases hf with z | z
      · exact z
      · rw [z] at hk;cases hk
    obtain ⟨c,hc⟩:=I.ok.has x (.inl hk)
    obtain ⟨w',z⟩:=I.cell x c hc
    refine wpAny_storeName_cell I.ok.kind hk hc z (fun h' hc' hs=>?_)
    obtain ⟨oc,hoc,hocd⟩:=id z
    refine h { s with heap:=h' } ⟨I.ok,I.os,I.bare,⟨fun b o e n hb hx=>?_,fun b o e n hb hx=>?_,I.base.free,fun b o e hx=>?_,I.base.tups,I.base.jh,I.base.ju⟩,⟨m,hn.sameBut hs (Ne.symm (cne x c hc)),fun j y v' e1 e2 e3=>?_⟩,fun y c' e=>?_,I.free,I.freeC,fun p hp=>?_,tracked ⟨oc,hoc,I.freeC x c hc⟩ hs,by simpa using I.len⟩ ⟨c,hs,.inr hc⟩
    · exact (hs.2 b (Nat.ne_of_lt (Nat.lt_of_lt_of_le (Heap.lt_size e) (I.ok.cab x c hfn hc)))).trans (I.base.keep b o e n hb hx)
    · obtain ⟨sl,e1⟩:=I.base.slot b o e n hb hx
      exact ⟨sl,(hs.2 b (Nat.ne_of_lt (Nat.lt_of_lt_of_le (Heap.lt_size e) (I.ok.cab x c hfn hc)))).trans e1⟩
    · obtain ⟨o',e1⟩:=I.base.there b o e hx
      exact ⟨o',(hs.2 b (Nat.ne_of_lt (Nat.lt_of_lt_of_le (Heap.lt_size e) (I.ok.cab x c hfn hc)))).trans e1⟩
    · by_cases hj:j=i
      · subst hj
        rw [hi] at e1;cases e1
        rw [List.getElem?_set_self hiσ] at e2
        cases e2
        exact ⟨u,r,.inr ⟨.inl hk,c,hc,hc'⟩⟩
      · rw [List.getElem?_set_ne (Ne.symm hj)] at e2
        obtain ⟨u',r',q⟩:=hl j y v' e1 e2 e3
        refine ⟨u',r',?_⟩
        rcases q with q | ⟨k,c',e,z'⟩
        · exact .inl q
        · refine .inr ⟨k,c',e,z'.sameBut hs ?_⟩
          rintro rfl
          exact hj (sd hN e1 (I.ok.inj _ _ _ e hc▸hi))
    · by_cases hcc:c'=c
      · subst hcc;exact ⟨_,hc'⟩
      · obtain ⟨w2,z2⟩:=I.cell y c' e
        exact ⟨w2,z2.sameBut hs hcc⟩
    · obtain ⟨e,n,ne,nf,d⟩:=I.pin p hp
      refine ⟨(hs.2 p.1 ?_).trans e,n,ne,nf,d⟩
      intro q
      rw [q,hoc] at e
      have q':oc=p.2:=Option.some.inj e
      exact d w' (by rw [← q'];exact hocd)
theorem qZ {M:Model} {A:Around} {E:Value→Shared→Prop} {i:Nat} {x:Str} {v:V} {u:Value} {Q:Unit→Shared→Prop} (I:Inv X pins σ H s) (hN:X.N.Nodup) (hi:X.N[i]?=some x) (hx:Loc X.env.scope x) (r:RelV v u)
    (h:∀ s',Inv X pins (σ.set i (some v)) H s'→Q () s') (hf:X.fn x=true∨X.env.scope.names.lookup x=some .local:=by first | exact .inl rfl | exact .inr rfl | assumption):wpAny M A (storeName X.env x u) Q E s:=
  yv I hN hi hx r (fun s' I' _=>h s' I') hf
theorem Inv.GH {s':Shared} {ch:List Addr} (I:Inv X pins σ H s) (ho:s'.os=s.os) (u:Un (frs X.stack) ch H H' s.heap s'.heap) (hok:HOk X.prog X.w H' s'.heap) (hg:AllBare s'.gens)
    (hch:∀ b∈ch,(b∈X.ex∨X.s₀.heap.objs.size≤b)∧b≠X.env.locals∧(∀ x c,X.env.cells.lookup x=some c→c≠b)∧∀ p∈X.pn++pins,p.1≠b):Inv X pins σ H' s':=by
  obtain ⟨h',g',d',t',o'⟩:=s'
  have e:o'=s.os:=ho
  subst e
  exact I.call (g':=g') (t':=t') (d':=d') u hok hg hch
end
abbrev XK:=Value→Option Addr→Hp→Prop
abbrev St:=List (Option V)
abbrev VK:=V→Hp→Prop
abbrev TE:=St→Hp→VK→Prop
abbrev TT:=St→Hp→(Bool→Hp→Prop)→Prop
abbrev TA:=St→Hp→(List V→Hp→Prop)→Prop
structure Ends where
  nx:St→Hp→Prop
  rt:VK
  bk:St→Hp→Prop:=fun _ _=>False
  ct:St→Hp→Prop:=fun _ _=>False
abbrev TS:=Ends→St→Hp→Prop
def EP (X:Cx) (pins:List (Addr×Obj)) (σ : St) (Q:VK) (u:Value) (s':Shared):Prop:=∃ v H',Inv X pins σ H' s'∧RelV v u∧Q v H'
def TP (X:Cx) (pins:List (Addr×Obj)) (σ : St) (Q:Bool→Hp→Prop) (b:Bool) (s':Shared):Prop:=∃ H',Inv X pins σ H' s'∧Q b H'
def AP (X:Cx) (pins:List (Addr×Obj)) (σ : St) (Q:List V→Hp→Prop) (us:List Value) (s':Shared):Prop:=∃ vs H',Inv X pins σ H' s'∧Vals vs us∧Q vs H'
def SP (X:Cx) (pins:List (Addr×Obj)) (D:Ends) (f:Flow) (s':Shared):Prop:=
  match f with
  | .next=>∃ σ' H',Inv X pins σ' H' s'∧D.nx σ' H'
  | .brk=>∃ σ' H',Inv X pins σ' H' s'∧D.bk σ' H'
  | .cont=>∃ σ' H',Inv X pins σ' H' s'∧D.ct σ' H'
  | .ret u=>∃ v σ' H',Inv X pins σ' H' s'∧RelV v u∧D.rt v H'
def PE (X:Cx) (e:Expr) (t:TE):Prop:=
  ∀ (pins:List (Addr×Obj)) (s:Shared) (σ : St) (H:Hp) (Q:VK),Inv X pins σ H s→t σ H Q→wpAny (model X.prog X.w) X.A (eval e X.env) (EP X pins σ Q) X.xe s
def PT (X:Cx) (e:Expr) (t:TT):Prop:=
  ∀ (pins:List (Addr×Obj)) (s:Shared) (σ : St) (H:Hp) (Q:Bool→Hp→Prop),Inv X pins σ H s→t σ H Q→wpAny (model X.prog X.w) X.A (isTrue e X.env (eval e X.env)) (TP X pins σ Q) X.xe s
def PW (X:Cx) (e:Expr) (t:TT):Prop:=
  ∀ (whole:Sem Value) (pins:List (Addr×Obj)) (s:Shared) (σ : St) (H:Hp) (Q:Bool→Hp→Prop),Inv X pins σ H s→t σ H Q→wpAny (model X.prog X.w) X.A (isTrue e X.env whole) (TP X pins σ Q) X.xe s
theorem PW.pt {X:Cx} {e:Expr} {t:TT} (h:PW X e t):PT X e t:=h _
def PA (X:Cx) (es:List Expr) (t:TA):Prop:=
  ∀ (pos:Pos) (pins:List (Addr×Obj)) (s:Shared) (σ : St) (H:Hp) (Q:List V→Hp→Prop),Inv X pins σ H s→t σ H Q→wpAny (model X.prog X.w) X.A (spliced (backTo pos (starEach es X.env))) (AP X pins σ Q) X.xe s
def PS (X:Cx) (st:Stmt) (t:TS):Prop:=
  ∀ (pins:List (Addr×Obj)) (s:Shared) (σ : St) (H:Hp) (D:Ends),Inv X pins σ H s→t D σ H→wpAny (model X.prog X.w) X.A (exec st X.env) (SP X pins D) X.xe s
def PSs (X:Cx) (st:List Stmt) (t:TS):Prop:=
  ∀ (pins:List (Addr×Obj)) (s:Shared) (σ : St) (H:Hp) (D:Ends),Inv X pins σ H s→t D σ H→wpAny (model X.prog X.w) X.A (execs st X.env) (SP X pins D) X.xe s
theorem thn {α : Type} {t:Sem α} {Q Q' : α→Shared→Prop} {M:Model} {A:Around} {E:Value→Shared→Prop} {s:Shared} (h:wpAny M A t Q E s) (hQ:∀ a s,Q a s→Q' a s):wpAny M A t Q' E s:=wpAny_mono h hQ fun _ _ x=>x
section
variable {X:Cx}
def GS (i:Nat):TE:=fun σ H Q=>∃ v,σ[i]?=some (some v)∧Q v H
def tC (v:V):TE:=fun _ H Q=>Q v H
theorem Hs {i:Nat} {x:Str} {pos:Pos} (hN:X.N[i]?=some x) (hv:Vis X.env.scope x) (hd:(x == ("__debug__" : Str))=false:=by decide) (hcd:(x == ("__classdict__" : Str))=false:=by decide):PE X (.Name x pos) (GS i):=by
  intro pins s σ H Q I h
  obtain ⟨v,e,h⟩:=h
  obtain ⟨m,hn,hl⟩:=I.loc
  obtain ⟨u,r,l⟩:=hl i x v hN e hv
  have fin:EP X pins σ Q u s:=⟨v,H,I,r,h⟩
  rcases l with ⟨hk,hm⟩ | ⟨hk,c,hc,hcell⟩
  · exact wpAny_Name (wpAny_loadName_local I.ok.kind hk hn hm fin) hd
  · rcases hk with hk | hk
    · exact wpAny_Name (wpAny_loadName_cell I.ok.kind hk hc hcell fin) hd
    · exact wpAny_Name (wpAny_loadName_free I.ok.kind hk hc hcell fin hcd) hd
theorem ah {i j pos}:PE X (.Constant (.int i) j pos) (tC (.int i)):=fun _ _ _ H _ I h=>wpAny_Constant_int ⟨.int i,H,I.tok _,⟨_,rfl⟩,h⟩
theorem dZ {b j pos}:PE X (.Constant (.bool b) j pos) (tC (.bl b)):=fun _ _ _ H _ I h=>Constant_bool ⟨.bl b,H,I,rfl,h⟩
theorem cz {j pos}:PE X (.Constant .none j pos) (tC .non):=fun _ _ _ H _ I h=>Constant_none ⟨.non,H,I,rfl,h⟩
theorem aL {x j pos}:PE X (.Constant (.str x) j pos) (tC (.str x)):=fun _ _ _ H _ I h=>Calls.Constant_str ⟨.str x,H,I.tok _,⟨_,rfl⟩,h⟩
def Gl (X:Cx) (x:Str):Prop:=X.env.kindOf x=some .globalImplicit
theorem fK {E:Value→Shared→Prop} {pins:List (Addr×Obj)} {s:Shared} {σ : St} {H:Hp} {x:Str} {u:Value} {pos:Pos} {Q:Value→Shared→Prop} (I:Inv X pins σ H s) (hg:Gl X x) (hm:X.mg x=some u) (h:Q u s)
    (hd:(x == ("__debug__" : Str))=false:=by decide):wpAny (model X.prog X.w) X.A (eval (.Name x pos) X.env) Q E s:=
  Calls.Name_function_global I.ok.kind hg (Calls.loadGlobal_global (by rw [I.ok.glob];exact I.mod.glob.keeps I.bk) hm h) hd
theorem fq {E:Value→Shared→Prop} {pins:List (Addr×Obj)} {s:Shared} {σ : St} {H:Hp} {x:Str} {u:Value} {pos:Pos} {Q:Value→Shared→Prop} (I:Inv X pins σ H s) (hg:Gl X x) (hm:X.mg x=none) (hv:bootBuiltins x=some u) (h:Q u s)
    (hn:x ≠ "__name__" := by decide) (hd:(x == ("__debug__" : Str))=false:=by decide):wpAny (model X.prog X.w) X.A (eval (.Name x pos) X.env) Q E s:=by
  obtain ⟨mb,h1,h2⟩:=I.mod.blt
  exact Calls.Name_function_global I.ok.kind hg (Calls.loadGlobal_builtin (by rw [I.ok.glob];exact I.mod.glob.keeps I.bk) hm (by rw [I.ok.blt];exact h1.keeps I.bk) ((h2 x hn).trans hv) h) hd
theorem Ef {x:Str} {v:V} {u:Value} {pos:Pos} (hg:Gl X x) (hm:X.mg x=some u) (r:RelV v u) (hd:(x == ("__debug__" : Str))=false:=by decide):PE X (.Name x pos) (tC v):=
  fun _ _ _ H _ I h=>fK I hg hm ⟨v,H,I,r,h⟩ hd
theorem lI {x:Str} {v:V} {u:Value} {pos:Pos} (hg:Gl X x) (hm:X.mg x=none) (hv:bootBuiltins x=some u) (r:RelV v u) (hn:x ≠ "__name__" := by decide) (hd:(x == ("__debug__" : Str))=false:=by decide):PE X (.Name x pos) (tC v):=
  fun _ _ _ H _ I h=>fq I hg hm hv ⟨v,H,I,r,h⟩ hn hd
variable {a b:Expr} {ta tb:TE} {pos:Pos}
def PC (X:Cx) (op:CmpOp) (a b:Expr) (t:TE):Prop:=
  ∀ (pins:List (Addr×Obj)) (s:Shared) (σ : St) (H:Hp) (Q:VK),Inv X pins σ H s→t σ H Q →
    wpAny (model X.prog X.w) X.A (eval a X.env) (fun v s₁=>wpAny (model X.prog X.w) X.A (eval b X.env) (fun u s₂=>wpAny (model X.prog X.w) X.A (compareOp op v u) (EP X pins σ Q) X.xe s₂) X.xe s₁) X.xe s
theorem l8 (b:Expr) {op:CmpOp} (h:op≠.In) (h2:op≠.NotIn):behindInMarks op b=false:=by
  have e1:(op == CmpOp.In)=false:=by cases op <;> first | rfl | exact absurd rfl h
  have e2:(op == CmpOp.NotIn)=false:=by cases op <;> first | rfl | exact absurd rfl h2
  cases b <;> simp [behindInMarks,e1,e2]
def JW (ta:TE):TE:=fun σ H Q=>ta σ H fun x H1=>Q (.bl (decide (x = .non))) H1
def F6 (ta:TE):TE:=fun σ H Q=>ta σ H fun x H1=>Q (.bl (!decide (x = .non))) H1
theorem RelV.r9 {x:V} {v:Value} (r:RelV x v):(v == Value.none)=decide (x = .non):=by
  cases x with
  | non=>cases r;rfl
  | bl _=>cases r;rfl
  | int _=>obtain ⟨t,rfl⟩:=r;rfl
  | str _=>obtain ⟨t,rfl⟩:=r;rfl
  | byt _=>obtain ⟨t,rfl⟩:=r;rfl
  | flt _=>obtain ⟨t,rfl⟩:=r;rfl
  | ref _=>cases r;rfl
  | ty _=>cases r;rfl
theorem dh {j pos'} (ha:PE X a ta):PC X .Is a (.Constant .none j pos') (JW ta):=by
  intro pins s σ H Q I h
  refine thn (ha pins s σ H _ I h) fun v s1 ⟨x,H1,I1,r1,q1⟩=>?_
  exact Constant_none (is_none_gen ⟨.bl _,H1,I1,by rw [r1.r9];rfl,q1⟩)
theorem gj {j pos'} (ha:PE X a ta):PC X .IsNot a (.Constant .none j pos') (F6 ta):=by
  intro pins s σ H Q I h
  refine thn (ha pins s σ H _ I h) fun v s1 ⟨x,H1,I1,r1,q1⟩=>?_
  exact Constant_none (isnot_none_gen ⟨.bl _,H1,I1,by rw [r1.r9];rfl,q1⟩)
def tB (t:TE):TT:=fun σ H Q=>t σ H fun x H1=>∃ c,x = .bl c∧Q c H1
theorem BC {op:CmpOp} {t:TE} (h:PC X op a b t) (h1:behindInMarks op b=false:=by first | exact l8 _ (by decide) (by decide) | rfl):PE X (.Compare a [op] [b] pos) t:=fun pins s σ H Q I hw=>wpAny_Compare1 (h pins s σ H Q I hw) h1
theorem cy {op:CmpOp} {t:TE} (h:PC X op a b t) (h1:behindInMarks op b=false:=by first | exact l8 _ (by decide) (by decide) | rfl):PT X (.Compare a [op] [b] pos) (tB t):=by
  intro pins s σ H Q I hw
  refine wpAny_isTrue_Compare1 (thn (h pins s σ H _ I hw) fun v s1 h1=>thn h1 fun u s2 h2=>thn h2 fun c s3 ⟨x,H1,I1,r1,q1⟩=>?_) h1
  obtain ⟨d,rfl,q⟩:=q1
  cases r1
  exact wpAny_truthy_bool ⟨H1,I1,q⟩
theorem b8 {e:Expr} {t:TE} (h:PE X e t) (he:∀ whole,isTrue e X.env whole=(do let v ← whole;standAt e.pos;holding [v] (truthy v)):=by intro _;rfl):PT X e (tB t):=by
  intro pins s σ H Q I hw
  refine isTrue_plain (thn (h pins s σ H _ I hw) fun v s1 ⟨x,H1,I1,r1,q1⟩=>?_) (he _)
  obtain ⟨d,rfl,q⟩:=q1
  cases r1
  exact wpAny_truthy_bool ⟨H1,I1,q⟩
variable {tA tB':TT} {rest:List Expr}
def J1 (t u:TT):TT:=fun σ H Q=>t σ H fun c H1=>if c=true then u σ H1 Q else Q false H1
def tOr (t u:TT):TT:=fun σ H Q=>t σ H fun c H1=>if c=true then Q true H1 else u σ H1 Q
def JU (t:TT):TT:=fun σ H Q=>t σ H fun c H1=>Q (!c) H1
theorem dH (ha:PT X a tA):PW X (.BoolOp .And [a] pos) tA:=by
  intro wh pins s σ H Q I h
  refine isTrue_and (thn (ha pins s σ H Q I h) fun c s1 e=>?_)
  cases c with
  | true=>exact isTrue_and_nil e
  | false=>exact e
theorem jW (ha:PT X a tA):PW X (.BoolOp .Or [a] pos) tA:=by
  intro wh pins s σ H Q I h
  refine isTrue_or (thn (ha pins s σ H Q I h) fun c s1 e=>?_)
  cases c with
  | false=>exact isTrue_or_nil e
  | true=>exact e
theorem fO (ha:PT X a tA) (hb:PW X (.BoolOp .And (b::rest) pos) tB'):PW X (.BoolOp .And (a::b::rest) pos) (J1 tA tB'):=by
  intro wh pins s σ H Q I h
  refine isTrue_and (thn (ha pins s σ H _ I h) fun c s1 ⟨H1,I1,q1⟩=>?_)
  cases c with
  | true=>exact hb wh pins s1 σ H1 Q I1 q1
  | false=>exact ⟨H1,I1,q1⟩
theorem kL (ha:PT X a tA) (hb:PW X (.BoolOp .Or (b::rest) pos) tB'):PW X (.BoolOp .Or (a::b::rest) pos) (tOr tA tB'):=by
  intro wh pins s σ H Q I h
  refine isTrue_or (thn (ha pins s σ H _ I h) fun c s1 ⟨H1,I1,q1⟩=>?_)
  cases c with
  | true=>exact ⟨H1,I1,q1⟩
  | false=>exact hb wh pins s1 σ H1 Q I1 q1
theorem cU (ha:PT X a tA):PT X (.UnaryOp .Not a pos) (JU tA):=by
  intro pins s σ H Q I h
  exact isTrue_not (ha pins s σ H (fun c H1=>Q (!c) H1) I h)
def Gd (ta tb:TE):TE:=fun σ H Q=>ta σ H fun x H1=>∃ c,x = .bl c∧if c=true then tb σ H1 Q else Q (.bl false) H1
def F5 (ta:TE):TE:=fun σ H Q=>ta σ H fun x H1=>∃ c,x = .bl c∧Q (.bl (!c)) H1
theorem jY {op} {t:TE} (h:PE X a t):PE X (.BoolOp op [a] pos) t:=fun pins s σ H Q I hw=>BoolOp_one (h pins s σ H Q I hw)
theorem jZ (ha:PE X a ta) (hb:PE X (.BoolOp .And (b::rest) pos) tb):PE X (.BoolOp .And (a::b::rest) pos) (Gd ta tb):=by
  intro pins s σ H Q I h
  refine BoolOp_and (thn (ha pins s σ H _ I h) fun v s1 ⟨x,H1,I1,r1,q1⟩=>?_)
  obtain ⟨c,rfl,q1⟩:=q1
  cases r1
  refine wpAny_truthy_bool ?_
  cases c with
  | true=>exact hb pins s1 σ H1 Q I1 q1
  | false=>exact ⟨.bl false,H1,I1,rfl,q1⟩
theorem Hu (ha:PE X a ta):PE X (.UnaryOp .Not a pos) (F5 ta):=by
  intro pins s σ H Q I h
  refine UnaryOp_ (thn (ha pins s σ H _ I h) fun v s1 ⟨x,H1,I1,r1,q1⟩=>?_)
  obtain ⟨c,rfl,q1⟩:=q1
  cases r1
  exact not_of (wpAny_truthy_bool ⟨.bl (!c),H1,I1,rfl,q1⟩)
def tIf (t:TT) (ta tb:TE):TE:=fun σ H Q=>t σ H fun c H1=>if c=true then ta σ H1 Q else tb σ H1 Q
theorem bZ {c:Expr} (hc:PT X c tA) (ha:PE X a ta) (hb:PE X b tb):PE X (.IfExp c a b pos) (tIf tA ta tb):=by
  intro pins s σ H Q I h
  refine wpAny_IfExp (thn (hc pins s σ H _ I h) fun d s1 ⟨H1,I1,q1⟩=>?_)
  cases d with
  | true=>exact ha pins s1 σ H1 Q I1 q1
  | false=>exact hb pins s1 σ H1 Q I1 q1
end
def SqL (K:PySem.W.Frag) (H:Hp) (a:Addr) (xs:List V):Prop:=
  Rd H a (.lst xs) ∨
    ∃ (o:Obj) (its:Array Value) (n:Nat),K.lookup a=some o∧o.cls = .type "list" ∧ o.dict=none∧o.data = .seq its n∧its.size≤sizeLine∧Vals xs its.toList
def SqT (K:PySem.W.Frag) (H:Hp) (a:Addr) (xs:List V):Prop:=
  Rd H a (.tup xs) ∨
    ∃ (o:Obj) (its:Array Value) (n:Nat),K.lookup a=some o∧o.cls = .type "tuple" ∧ o.data = .seq its n∧its.size≤sizeLine∧Vals xs its.toList
def Mq:Value→Option V
  | .none=>some .non
  | .bool b=>some (.bl b)
  | .int i _=>some (.int i)
  | .str x _=>some (.str x)
  | .bytes b _=>some (.byt b)
  | .float b _=>some (.flt b)
  | .ref a=>some (.ref a)
  | .type n=>some (.ty n)
  | _=>none
theorem RelV.abs {x:V} {u:Value} (r:RelV x u):Mq u=some x:=by
  cases x with
  | non=>cases r;rfl
  | bl _=>cases r;rfl
  | int _=>obtain ⟨t,rfl⟩:=r;rfl
  | str _=>obtain ⟨t,rfl⟩:=r;rfl
  | byt _=>obtain ⟨t,rfl⟩:=r;rfl
  | flt _=>obtain ⟨t,rfl⟩:=r;rfl
  | ref _=>cases r;rfl
  | ty _=>cases r;rfl
theorem RelV.inj {x y:V} {u:Value} (r:RelV x u) (q:RelV y u):x=y:=Option.some.inj (r.abs.symm.trans q.abs)
theorem Vals.inj:∀ {xs ys:List V} {us:List Value},Vals xs us→Vals ys us→xs=ys
  | _,_,_,.nil,.nil=>rfl
  | _,_,_,.cons r t,.cons r' t'=>by rw [r.inj r',Vals.inj t t']
section
variable {X:Cx} {pins:List (Addr×Obj)} {σ : St} {H:Hp} {s:Shared} {a:Addr} {xs ys:List V}
theorem SqL.of {K:PySem.W.Frag} (h:H a=some (.lst xs)):SqL K H a xs:=.inl (.inl h)
theorem SqT.of {K:PySem.W.Frag} (h:H a=some (.tup xs)):SqT K H a xs:=.inl (.inl h)
theorem Inv.list (I:Inv X pins σ H s) (h:SqL X.K H a xs):∃ its:List Value,Vals xs its∧PlainL s.heap a its.toArray∧xs.length≤sizeLine:=by
  rcases h with h | ⟨o,its,n,hk,hc,hd,hs,hz,r⟩
  · obtain ⟨z,its,n,r,e⟩:=h.ok I.hok
    exact ⟨its,r,⟨_,n,e,rfl,rfl,rfl⟩,z⟩
  · refine ⟨its.toList,r,⟨o,n,I.kIn a o hk,hc,hd,by simpa using hs⟩,?_⟩
    have e:=r.length
    simp only [Array.length_toList] at e
    omega
theorem Inv.tuple (I:Inv X pins σ H s) (h:SqT X.K H a xs):∃ its:List Value,Vals xs its∧IsTup s.heap a its.toArray∧xs.length≤sizeLine:=by
  rcases h with h | ⟨o,its,n,hk,hc,hs,hz,r⟩
  · obtain ⟨z,its,r,p⟩:=h.ok I.hok
    exact ⟨its,r,p,z⟩
  · refine ⟨its.toList,r,⟨o,I.kIn a o hk,hc,n,by simpa using hs⟩,?_⟩
    have e:=r.length
    simp only [Array.length_toList] at e
    omega
theorem Inv.jE (I:Inv X pins σ H s) (h:SqL X.K H a xs) (h':SqL X.K H a ys):xs=ys:=by
  obtain ⟨its,r,⟨o,n,e,_,_,d⟩,_⟩:=I.list h
  obtain ⟨its',r',⟨o',n',e',_,_,d'⟩,_⟩:=I.list h'
  rw [e] at e';cases e'
  rw [d] at d'
  injection d' with d1 _
  have:its=its':=by simpa using congrArg Array.toList d1
  subst this
  exact r.inj r'
theorem Inv.iR (I:Inv X pins σ H s) (h:SqT X.K H a xs) (h':SqT X.K H a ys):xs=ys:=by
  obtain ⟨its,r,⟨o,e,_,n,d⟩,_⟩:=I.tuple h
  obtain ⟨its',r',⟨o',e',_,n',d'⟩,_⟩:=I.tuple h'
  rw [e] at e';cases e'
  rw [d] at d'
  injection d' with d1 _
  have:its=its':=by simpa using congrArg Array.toList d1
  subst this
  exact r.inj r'
end
abbrev Cx.i9 (X:Cx) (E:Value→Shared→Prop):Cx:={ X with xe:=E }
abbrev Cx.nox (X:Cx):Cx:=X.i9 fun _ _=>False
theorem Cx.Ok.i9 {X:Cx} (ok:X.Ok) (E:Value→Shared→Prop):(X.i9 E).Ok:=
  ⟨ok.mod,ok.kind,ok.glob,ok.blt,ok.above,ok.inj,ok.has,ok.cab,ok.hd,ok.frames,ok.stk,ok.exf,ok.bs,ok.bsz,ok.noex,ok.exfs,ok.jg,ok.frf⟩
theorem Cx.Ok.c8 {X:Cx} {E:Value→Shared→Prop} (ok:(X.i9 E).Ok):X.Ok:=
  ⟨ok.mod,ok.kind,ok.glob,ok.blt,ok.above,ok.inj,ok.has,ok.cab,ok.hd,ok.frames,ok.stk,ok.exf,ok.bs,ok.bsz,ok.noex,ok.exfs,ok.jg,ok.frf⟩
section
variable {X:Cx} {pins:List (Addr×Obj)} {σ : St} {H:Hp} {s:Shared} {E:Value→Shared→Prop}
theorem Inv.i9 (I:Inv X pins σ H s) (E:Value→Shared→Prop):Inv (X.i9 E) pins σ H s:=⟨I.ok.i9 E,I.os,I.bare,I.base,I.loc,I.cell,I.free,I.freeC,I.pin,I.hok,I.len⟩
theorem Inv.c8 (I:Inv (X.i9 E) pins σ H s):Inv X pins σ H s:=⟨I.ok.c8,I.os,I.bare,I.base,I.loc,I.cell,I.free,I.freeC,I.pin,I.hok,I.len⟩
theorem SP.c8 {D:Ends} {f:Flow} {s':Shared} (h:SP (X.i9 E) pins D f s'):SP X pins D f s':=by
  cases f with
  | next=>obtain ⟨σ',H',I,q⟩:=h;exact ⟨σ',H',I.c8,q⟩
  | brk=>obtain ⟨σ',H',I,q⟩:=h;exact ⟨σ',H',I.c8,q⟩
  | cont=>obtain ⟨σ',H',I,q⟩:=h;exact ⟨σ',H',I.c8,q⟩
  | ret u=>obtain ⟨v,σ',H',I,r,q⟩:=h;exact ⟨v,σ',H',I.c8,r,q⟩
theorem PSs.nox {st:List Stmt} {t:TS} (h:PSs X.nox st t):PSs X st t:=fun pins s σ H D I hw=>
  wpAny_mono (h pins s σ H D (I.i9 _) hw) (fun _ _ q=>q.c8) fun _ _ z=>False.elim z
end
section
variable {X:Cx} {st:Stmt} {rest:List Stmt} {t u:TS} {e:Expr} {te:TE} {pos:Pos}
def F7:TS:=fun D σ H=>D.nx σ H
def GV (t u:TS):TS:=fun D σ H=>t { D with nx:=u D } σ H
theorem aE:PSs X [] F7:=fun _ _ σ H _ I h=>wpAny_execs_nil ⟨σ,H,I,h⟩
theorem ai (h1:PS X st t) (h2:PSs X rest u):PSs X (st::rest) (GV t u):=by
  intro pins s σ H D I h
  refine wpAny_execs_cons (thn (h1 pins s σ H { D with nx:=u D } I h) fun f s1 q=>?_)
  cases f with
  | next=>
    obtain ⟨σ',H',I',q⟩:=q
    exact h2 pins s1 σ' H' D I' q
  | ret v=>exact q
  | brk=>exact q
  | cont=>exact q
theorem aj (h1:PS X st t):PSs X [st] t:=by
  intro pins s σ H D I h
  refine wpAny_execs_cons (thn (h1 pins s σ H D I h) fun f s1 q=>?_)
  cases f with
  | next=>exact wpAny_execs_nil q
  | ret v=>exact q
  | brk=>exact q
  | cont=>exact q
theorem Inv.quiet {pins:List (Addr×Obj)} {σ : St} {H:Hp} {s:Shared} (I:Inv X pins σ H s):interactive X.env=false:=by simp [interactive,I.ok.kind]
def Ga (te:TE):TS:=fun D σ H=>te σ H fun _ H1=>D.nx σ H1
theorem bT (he:PE X e te) (hs:swapsWith e none pos.line X.env=pure false:=by rfl):PS X (.Expr e pos) (Ga te):=by
  intro pins s σ H D I h
  exact wpAny_Expr_any (thn (he pins s σ H _ I h) fun v s1 ⟨x,H1,I1,r1,q1⟩=>⟨σ,H1,I1,q1⟩) I.quiet hs
def JT (te:TE):TS:=fun D σ H=>te σ H D.rt
theorem au (he:PE X e te):PS X (.Return (some e) pos) (JT te):=by
  intro pins s σ H D I h
  exact wpAny_Return_some (thn (he pins s σ H _ I h) fun v s1 ⟨x,H1,I1,r1,q1⟩=>⟨x,σ,H1,I1,r1,q1⟩)
def JX (c:TT) (t u:TS):TS:=fun D σ H=>c σ H fun b H1=>if b=true then t D σ H1 else u D σ H1
theorem aX {c:Expr} {a b:List Stmt} {tc:TT} (hc:PT X c tc) (ha:PSs X a t) (hb:PSs X b u):PS X (.If c a b pos) (JX tc t u):=by
  intro pins s σ H D I h
  refine wpAny_If (thn (hc pins s σ H _ I h) fun d s1 ⟨H1,I1,q1⟩=>?_)
  cases d with
  | true=>exact ha pins s1 σ H1 D I1 q1
  | false=>exact hb pins s1 σ H1 D I1 q1
def GW:TS:=fun _ _ _=>False
theorem ie:PS X st GW:=fun _ _ _ _ _ _ h=>h.elim
end
abbrev TG:=V→St→Hp→(St→Hp→Prop)→Prop
abbrev TGs:=List V→St→Hp→(St→Hp→Prop)→Prop
def PG (X:Cx) (target:Expr) (t:TG):Prop:=
  ∀ (pins:List (Addr×Obj)) (s:Shared) (σ : St) (H:Hp) (v:V) (u:Value) (Q:St→Hp→Prop),Inv X pins σ H s→RelV v u→t v σ H Q →
    wpAny (model X.prog X.w) X.A (assign target X.env u) (fun _ s'=>∃ σ' H',Inv X pins σ' H' s'∧Q σ' H') X.xe s
def PGs (X:Cx) (ts:List Expr) (t:TGs):Prop:=
  ∀ (pins:List (Addr×Obj)) (s:Shared) (σ : St) (H:Hp) (vs:List V) (us:List Value) (Q:St→Hp→Prop),Inv X pins σ H s→Vals vs us→t vs σ H Q →
    wpAny (model X.prog X.w) X.A (assignInOrder ((assignEach ts X.env).map (·.2)) us) (fun _ s'=>∃ σ' H',Inv X pins σ' H' s'∧Q σ' H') X.xe s
abbrev JC:=V→V→V→Hp→(Hp→Prop)→Prop
def Ls (X:Cx) (t:JC):Prop:=
  ∀ (pins:List (Addr×Obj)) (s:Shared) (σ : St) (H:Hp) (o i v:V) (ov iv u:Value) (Q:Hp→Prop),Inv X pins σ H s→RelV o ov→RelV i iv→RelV v u→t o i v H Q →
    wpAny (model X.prog X.w) X.A (setItem ov iv u) (fun _ s'=>∃ H',Inv X pins σ H' s'∧Q H') X.xe s
section
variable {X:Cx} {pos:Pos}
abbrev bO (i:Nat):TG:=fun v σ H Q=>Q (σ.set i (some v)) H
theorem bg {i:Nat} {x:Str} (hN:X.N.Nodup) (hi:X.N[i]?=some x) (hx:Loc X.env.scope x) (hf:X.fn x=true∨X.env.scope.names.lookup x=some .local:=by first | exact .inl rfl | exact .inr rfl | assumption):PG X (.Name x pos) (bO i):=by
  intro pins s σ H v u Q I r h
  exact wpAny_assign_Name (qZ I hN hi hx r (fun s' I'=>⟨_,H,I',h⟩) hf)
def Lj:TGs:=fun vs σ H Q=>vs=[]∧Q σ H
def GD (t:TG) (u:TGs):TGs:=fun vs σ H Q=>∃ v r,vs=v::r∧t v σ H fun σ' H'=>u r σ' H' Q
theorem fH:PGs X [] Lj:=by
  intro pins s σ H vs us Q I r h
  obtain ⟨e,h⟩:=h
  subst e
  cases r
  exact assignInOrder_nil ⟨σ,H,I,h⟩
theorem bz {e:Expr} {es:List Expr} {t:TG} {u:TGs} (h1:PG X e t) (h2:PGs X es u)
    (hs:(assignEach (e::es) X.env).map (·.2)=assign e X.env::(assignEach es X.env).map (·.2):=by rfl):PGs X (e::es) (GD t u):=by
  intro pins s σ H vs us Q I r h
  obtain ⟨v,vr,e1,h⟩:=h
  subst e1
  cases r with
  | cons r rr=>
    rw [hs]
    refine assignInOrder_cons (thn (h1 pins s σ H _ _ _ I r h) fun _ s1 ⟨σ1,H1,I1,q1⟩=>?_)
    exact h2 pins s1 σ1 H1 _ _ Q I1 rr q1
def Li (K:PySem.W.Frag) (n:Nat) (t:TGs):TG:=fun v σ H Q=>∃ a xs,v = .ref a∧SqT K H a xs∧xs.length=n∧t xs σ H Q
theorem iw {es:List Expr} {k:Nat} {t:TGs} {n:Nat} (hc:X.calm=true) (h:PGs X es t)
    (hn:(assignEach es X.env).length=n:=by rfl) (hst:(assignEach es X.env).findIdx? (·.1)=none:=by rfl):PG X (.Tuple es k pos) (Li X.K n t):=by
  intro pins s σ H v u Q I r hw
  obtain ⟨a,xs,e1,hq,hl,hw⟩:=hw
  subst e1
  cases r
  obtain ⟨its,rv,ht,hz⟩:=I.tuple hq
  refine assign_Tuple_tuple (I.ok.hd hc) ht (by simp [hn,← hl,rv.length]) hst fun h' hx=>?_
  have I1:Inv X pins σ H { s with heap:=h' }:=I.kept (t':=s.toks) fun b o e=>hx b o (Nat.ne_of_lt (Heap.lt_size e)) e
  exact h pins _ σ H xs _ Q I1 (by simpa using rv) hw
def Mi (to ti:TE) (t:JC):TG:=fun v σ H Q=>to σ H fun o H1=>ti σ H1 fun i H2=>t o i v H2 fun H3=>Q σ H3
theorem lZ {o i:Expr} {to ti:TE} {t:JC} (ho:PE X o to) (hi:PE X i ti) (hs:Ls X t)
    (ha:∀ v,assign (.Subscript o i pos) X.env v=(do
      let ov ← holding [v] (eval o X.env)
      let iv ← holding [v,ov] (eval i X.env)
      standAt pos
      holding [v,ov,iv] (setItem ov iv v)
      release [v,ov,iv] []):=by intro _;rfl):PG X (.Subscript o i pos) (Mi to ti t):=by
  intro pins s σ H v u Q I r h
  rw [ha]
  refine wpAny_bind (wpAny_holding (thn (ho pins s σ H _ I h) fun ov s1 ⟨x,H1,I1,r1,q1⟩=>?_))
  refine wpAny_bind (wpAny_holding (thn (hi pins s1 σ H1 _ I1 q1) fun iv s2 ⟨y,H2,I2,r2,q2⟩=>?_))
  refine wpAny_bind (wpAny_standAt (wpAny_bind (wpAny_holding (thn (hs pins s2 σ H2 x y v ov iv u _ I2 r1 r2 r q2) fun _ s3 ⟨H3,I3,q3⟩=>?_))))
  exact wpAny_release ⟨σ,H3,I3,q3⟩
def GX (te:TE) (g:TG):TS:=fun D σ H=>te σ H fun x H1=>g x σ H1 D.nx
theorem fj {tg e:Expr} {te:TE} {g:TG} (he:PE X e te) (hg:PG X tg g) (hs:swapsWithSole [tg] e pos.line X.env=pure false:=by rfl) (hw:swappedStores [tg] e X.env=pure none:=by rfl)
    (h1:(assignEach [tg] X.env).map (·.2)=[assign tg X.env]:=by rfl):PS X (.Assign [tg] e pos) (GX te g):=by
  intro pins s σ H D I h
  refine wpAny_Assign_stores (thn (he pins s σ H _ I h) fun v s1 ⟨x,H1,I1,r1,q1⟩=>?_) hs hw
  rw [h1]
  exact thn (hg pins s1 σ H1 x v _ I1 r1 q1) fun _ s2 q=>q
theorem aK {i:Nat} {x:Str} {e:Expr} {te:TE} {pos':Pos} (hN:X.N.Nodup) (hi:X.N[i]?=some x) (hx:Loc X.env.scope x) (he:PE X e te) (hs:swapsWith e (some (.Name x pos')) pos.line X.env=pure false:=by rfl) (hf:X.fn x=true∨X.env.scope.names.lookup x=some .local:=by first | exact .inl rfl | exact .inr rfl | assumption) :
    PS X (.Assign [.Name x pos'] e pos) (GX te (bO i)):=by
  intro pins s σ H D I h
  refine wpAny_Assign_Name (thn (he pins s σ H _ I h) fun v s1 ⟨y,H1,I1,r1,q1⟩=>?_) hs
  exact qZ I1 hN hi hx r1 (fun s2 I2=>⟨_,H1,I2,q1⟩) hf
end
structure It where
  go:Nat→Hp→Prop
  yld:Nat→Hp→V→Hp→Prop
  stop:Nat→Hp→Prop
def iO (X:Cx) (pins:List (Addr×Obj)) (H:Hp) (b:Addr):Prop:=
  H b=none∧b≠X.env.locals∧b∉X.fs∧(b∈X.ex∨X.s₀.heap.objs.size≤b)∧(∀ x c,X.env.cells.lookup x=some c→c≠b)∧∀ p∈X.pn++pins,p.1≠b
theorem Inv.Ft {X:Cx} {pins:List (Addr×Obj)} {σ : St} {H H':Hp} {s:Shared} {b:Addr} (I:Inv X pins σ H s) (hb:s.heap.objs.size≤b) (hn:H' b=none):iO X pins H' b:=by
  refine ⟨hn,Nat.ne_of_gt (Nat.lt_of_lt_of_le I.lt hb),I.Kx hb,.inr (Nat.le_trans I.sz hb),fun x c e z=>?_,fun p hp z=>?_⟩
  · obtain ⟨v,q⟩:=I.cell x c e
    exact absurd (Nat.lt_of_lt_of_le q.lt (by rw [z];exact hb)) (Nat.lt_irrefl _)
  · exact absurd (Nat.lt_of_lt_of_le (Heap.lt_size (I.pin p hp).1) (by rw [z];exact hb)) (Nat.lt_irrefl _)
structure Turn (P:Program) (w:World) (K:PySem.W.Frag) (tg:Expr) (J:It) (fp:List Addr) (it:Addr) (tn:Nat→Heap→Prop):Prop where
  mem:it∈fp
  obj:∀ i h,tn i h→∀ b∈fp,∃ o,h.get? b=some o∧∀ v,o.data≠.cell v
  keep:∀ i h h',tn i h→(∀ b∈fp,∀ o,h.get? b=some o→h'.get? b=some o)→tn i h'
  item:∀ (X:Cx),X.prog=P→X.w=w→X.K=K→X.calm=true→∀ (i:Nat) (pins:List (Addr×Obj)) (s:Shared) (σ : St) (H:Hp) (E:Value→Shared→Prop),Inv X pins σ H s→(∀ b∈fp,iO X pins H b)→tn i s.heap→J.go i H →
    wpAny (model P w) X.A (pyNext (.ref it)) (fun r s1=>∃ u,r=some u ∧
      wpAny (model P w) X.A (letOwnedTupleGo tg (.ref it) u) (fun _ s2=>∃ x H',Inv X pins σ H' s2∧RelV x u∧J.yld i H x H'∧tn (i+1) s2.heap∧∀ b∈fp,H' b=none) E s1) E s
  done:∀ (X:Cx),X.prog=P→X.w=w→X.K=K→X.calm=true→∀ (i:Nat) (pins:List (Addr×Obj)) (s:Shared) (σ : St) (H:Hp) (E:Value→Shared→Prop),Inv X pins σ H s→(∀ b∈fp,iO X pins H b)→tn i s.heap→J.stop i H →
    wpAny (model P w) X.A (pyNext (.ref it)) (fun r s1=>r=none∧Inv X pins σ H s1) E s
  self:∀ (A:Around) (i:Nat) (s:Shared) (Q:Value→Shared→Prop) (E:Value→Shared→Prop),tn i s.heap→Q (.ref it) s→wpAny (model P w) A (pyIter (.ref it)) Q E s
abbrev TI:=St→Hp→(It→Hp→Prop)→Prop
def PIE (X:Cx) (pins:List (Addr×Obj)) (σ : St) (tg:Expr) (R:It→Hp→Prop) (itv:Value) (s2:Shared):Prop:=
  ∃ (it:Addr) (fp:List Addr) (tn:Nat→Heap→Prop) (J:It) (H':Hp),itv = .ref it∧Inv X pins σ H' s2∧Turn X.prog X.w X.K tg J fp it tn∧tn 0 s2.heap∧(∀ b∈fp,iO X pins H' b)∧R J H'
def PI (X:Cx) (tg iter:Expr) (wi:TI):Prop:=
  ∀ (pins:List (Addr×Obj)) (s:Shared) (σ : St) (H:Hp) (R:It→Hp→Prop),Inv X pins σ H s→wi σ H R →
    wpAny (model X.prog X.w) X.A (eval iter X.env) (fun v s1=>wpAny (model X.prog X.w) X.A (pyIter v) (PIE X pins σ tg R) X.xe s1) X.xe s
theorem Ck {M:Model} {A:Around} {E:Value→Shared→Prop} {s:Shared} {tg:Expr} {it:Addr} {u:Value} {o:Obj} {n:String} {vs:Array Value} {Q:Unit→Shared→Prop} (ho:s.heap.get? it=some o) (hc:o.cls = .type n) (hd:o.data = .fields vs)
    (hn:["enumerate", "zip", "dict_itemiterator", "dict_reverseitemiterator", "odict_iterator", "itertools.zip_longest", "itertools.pairwise"].contains n=false) (hQ:Q () s):wpAny M A (letOwnedTupleGo tg (.ref it) u) Q E s:=by
  unfold letOwnedTupleGo
  cases tg <;> first
    | exact wpAny_pure hQ
    | (cases u <;> first
        | exact wpAny_pure hQ
        | (refine wpAny_bind (wpAny_load ho ?_)
           rw [hc,hd]
           show wpAny M A (if (["enumerate", "zip", "dict_itemiterator", "dict_reverseitemiterator", "odict_iterator", "itertools.zip_longest", "itertools.pairwise"].contains n && vs[0]? == some (rawInt _))=true then _ else _) Q E s
           rw [if_neg (by intro h;rw [hn,Bool.false_and] at h;cases h)]
           exact wpAny_pure hQ))
def Itl (K:PySem.W.Frag) (a:Addr):It:=
  ⟨fun i H=>∃ xs x,SqL K H a xs∧xs[i]?=some x,fun i H x H'=>H'=H∧∀ xs,SqL K H a xs→xs[i]?=some x,fun i H=>∃ xs,SqL K H a xs∧xs.length≤i⟩
def Itt (K:PySem.W.Frag) (a:Addr):It:=
  ⟨fun i H=>∃ xs x,SqT K H a xs∧xs[i]?=some x,fun i H x H'=>H'=H∧∀ xs,SqT K H a xs→xs[i]?=some x,fun i H=>∃ xs,SqT K H a xs∧xs.length≤i⟩
def Itr (lo:Int) (n:Nat):It:=⟨fun i _=>i < n,fun i H x H'=>H'=H∧x = .int (lo+i),fun i _=>n≤i⟩
theorem yt {P:Program} {w:World} {K:PySem.W.Frag} {tg:Expr} (a it:Addr):Turn P w K tg (Itl K a) [it] it (fun i h=>h.IsListIter it a i) where
  mem:=by simp
  obj:=fun i h st b hb=>by
    have e:b=it:=by simpa using hb
    subst e
    obtain ⟨o,e,c,d⟩:=st
    exact ⟨o,e,fun v z=>by rw [d] at z;cases z⟩
  keep:=fun i h h' st k=>st.at fun o e=>k it (by simp) o e
  item:=by
    intro X hP hw hK hc i pins s σ H E I hf st hg
    subst hP hw hK
    obtain ⟨xs,x,hq,hx⟩:=hg
    obtain ⟨its,rv,p,hz⟩:=I.list hq
    obtain ⟨u,hu,ru⟩:=rv.get hx
    obtain ⟨f0,f1,f2,f3,f4,f5⟩:=hf it (by simp)
    refine wpAny_pyNext_list_item st p.isList (x:=u) (by simpa using hu) fun h' st' sb=>?_
    have I1:Inv X pins σ H { s with heap:=h' }:=I.turned (t':=s.toks) (fun b o hb e=>(sb.2 b hb).trans e) f0 f1 f3 f4 f5
    obtain ⟨o,e,c,d⟩:=id st'
    exact ⟨u,rfl,Ck (s:={ s with heap:=h' }) e c d (by decide) ⟨x,H,I1,ru,⟨rfl,fun ys hy=>by rw [I.jE hy hq];exact hx⟩,st',fun b hb=>(hf b hb).1⟩⟩
  done:=by
    intro X hP hw hK hc i pins s σ H E I hf st hg
    subst hP hw hK
    obtain ⟨xs,hq,hx⟩:=hg
    obtain ⟨its,rv,p,hz⟩:=I.list hq
    obtain ⟨f0,f1,f2,f3,f4,f5⟩:=hf it (by simp)
    have hl:=rv.length
    exact wpAny_pyNext_list_end (I.ok.hd hc) st p.isList (by simp;omega) fun h' eb=>⟨rfl,I.turned (t':=s.toks) (fun b o hb e=>eb b o hb e) f0 f1 f3 f4 f5⟩
  self:=fun _ _ _ _ _ st h=>wpAny_pyIter_listiter st h
theorem ur {P:Program} {w:World} {K:PySem.W.Frag} {tg:Expr} (a it:Addr):Turn P w K tg (Itt K a) [it] it (fun i h=>h.IsTupleIter it a i) where
  mem:=by simp
  obj:=fun i h st b hb=>by
    have e:b=it:=by simpa using hb
    subst e
    obtain ⟨o,e,c,d⟩:=st
    exact ⟨o,e,fun v z=>by rw [d] at z;cases z⟩
  keep:=fun i h h' st k=>st.at fun o e=>k it (by simp) o e
  item:=by
    intro X hP hw hK hc i pins s σ H E I hf st hg
    subst hP hw hK
    obtain ⟨xs,x,hq,hx⟩:=hg
    obtain ⟨its,rv,p,hz⟩:=I.tuple hq
    obtain ⟨u,hu,ru⟩:=rv.get hx
    obtain ⟨f0,f1,f2,f3,f4,f5⟩:=hf it (by simp)
    refine wpAny_pyNext_tuple_item st (show s.heap.IsTuple a its.toArray from p) (x:=u) (by simpa using hu) fun h' st' sb=>?_
    have I1:Inv X pins σ H { s with heap:=h' }:=I.turned (t':=s.toks) (fun b o hb e=>(sb.2 b hb).trans e) f0 f1 f3 f4 f5
    obtain ⟨o,e,c,d⟩:=id st'
    exact ⟨u,rfl,Ck (s:={ s with heap:=h' }) e c d (by decide) ⟨x,H,I1,ru,⟨rfl,fun ys hy=>by rw [I.iR hy hq];exact hx⟩,st',fun b hb=>(hf b hb).1⟩⟩
  done:=by
    intro X hP hw hK hc i pins s σ H E I hf st hg
    subst hP hw hK
    obtain ⟨xs,hq,hx⟩:=hg
    obtain ⟨its,rv,p,hz⟩:=I.tuple hq
    obtain ⟨f0,f1,f2,f3,f4,f5⟩:=hf it (by simp)
    have hl:=rv.length
    exact wpAny_pyNext_tuple_end (I.ok.hd hc) st (show s.heap.IsTuple a its.toArray from p) (by simp;omega) fun h' eb=>⟨rfl,I.turned (t':=s.toks) (fun b o hb e=>eb b o hb e) f0 f1 f3 f4 f5⟩
  self:=fun _ _ _ _ _ st h=>wpAny_pyIter_tupleiter st h
theorem uu {P:Program} {w:World} {K:PySem.W.Frag} {tg:Expr} (it:Addr) (lo:Int) (n:Nat):Turn P w K tg (Itr lo n) [it] it (fun i h=>IsRangeIter h it (lo+(i:Nat) * 1) ((n:Int) - (i:Nat)) 1) where
  mem:=by simp
  obj:=fun i h st b hb=>by
    have e:b=it:=by simpa using hb
    subst e
    exact ⟨_,st,fun v z=>by
      have z':Data.fields _=Data.cell v:=z
      cases z'⟩
  keep:=fun i h h' st k=>k it (by simp) _ st
  item:=by
    intro X hP hw hK hc i pins s σ H E I hf st hg
    subst hP hw hK
    obtain ⟨f0,f1,f2,f3,f4,f5⟩:=hf it (by simp)
    have W:=Walks.range (prog:=X.prog) (w:=X.w) (I.ok.hd hc) it lo 1 n
    refine W.item i s _ _ hg st fun v h' tk hv st' kk=>?_
    obtain ⟨t,rfl⟩:=hv
    have I1:Inv X pins σ H { s with heap:=h',toks:=tk }:=I.turned (fun b o hb e=>kk b o (by simpa using hb) e) f0 f1 f3 f4 f5
    refine ⟨_,rfl,Ck (s:={ s with heap:=h',toks:=tk }) (n:="range_iterator") st' rfl rfl (by decide) ⟨.int (lo+i),H,I1,⟨t,?_⟩,⟨rfl,rfl⟩,st',fun b hb=>(hf b hb).1⟩⟩
    rw [Int.mul_one]
  done:=by
    intro X hP hw hK hc i pins s σ H E I hf st hg
    subst hP hw hK
    obtain ⟨f0,f1,f2,f3,f4,f5⟩:=hf it (by simp)
    exact wpAny_pyNext_range_end (I.ok.hd hc) st (by have:n≤i:=hg;omega) fun h' eb=>⟨rfl,I.turned (t':=s.toks) (fun b o hb e=>eb b o hb e) f0 f1 f3 f4 f5⟩
  self:=fun _ _ _ _ _ st h=>wpAny_pyIter_rangeiter st h
section
variable {X:Cx} {tg:Expr}
def Gv (K:PySem.W.Frag) (tl:TE):TI:=fun σ H R=>tl σ H fun x H1=>∃ a,x = .ref a∧(∃ xs,SqL K H1 a xs)∧R (Itl K a) H1
def KC (K:PySem.W.Frag) (tl:TE):TI:=fun σ H R=>tl σ H fun x H1=>∃ a,x = .ref a∧(∃ xs,SqT K H1 a xs)∧R (Itt K a) H1
theorem eK {l:Expr} {tl:TE} (hl:PE X l tl):PI X tg l (Gv X.K tl):=by
  intro pins s σ H R I h
  refine thn (hl pins s σ H _ I h) fun v s1 ⟨x,H1,I1,r1,q1⟩=>?_
  obtain ⟨a,e,⟨xs,hq⟩,q⟩:=q1
  subst e
  cases r1
  obtain ⟨its,rv,p,hz⟩:=I1.list hq
  refine wpAny_pyIter_list p.isList ?_
  refine ⟨s1.heap.objs.size,[s1.heap.objs.size],_,_,H1,rfl,I1.kept (t':=s1.toks) fun b o e=>Heap.get?_push_of_some _ e,yt a _,⟨_,Heap.get?_push_size _ rfl,rfl,rfl⟩,fun b hb=>?_,q⟩
  have e:b=s1.heap.objs.size:=by simpa using hb
  subst e
  exact I1.Ft (Nat.le_refl _) (I1.hok.fresh (Nat.le_refl _))
theorem Hq {l:Expr} {tl:TE} (hl:PE X l tl):PI X tg l (KC X.K tl):=by
  intro pins s σ H R I h
  refine thn (hl pins s σ H _ I h) fun v s1 ⟨x,H1,I1,r1,q1⟩=>?_
  obtain ⟨a,e,⟨xs,hq⟩,q⟩:=q1
  subst e
  cases r1
  obtain ⟨its,rv,p,hz⟩:=I1.tuple hq
  refine wpAny_pyIter_tuple (show s1.heap.IsTuple a its.toArray from p) ?_
  refine ⟨s1.heap.objs.size,[s1.heap.objs.size],_,_,H1,rfl,I1.kept (t':=s1.toks) fun b o e=>Heap.get?_push_of_some _ e,ur a _,⟨_,Heap.get?_push_size _ rfl,rfl,rfl⟩,fun b hb=>?_,q⟩
  have e:b=s1.heap.objs.size:=by simpa using hb
  subst e
  exact I1.Ft (Nat.le_refl _) (I1.hok.fresh (Nat.le_refl _))
theorem rN {pins:List (Addr×Obj)} {σ : St} {H:Hp} {s:Shared} {R:It→Hp→Prop} {E:Value→Shared→Prop} {lo hi:Int} {t u v:Tok} {tk:Nat} (I:Inv X pins σ H s) (h1 : -(2 ^ 62)≤lo) (h2:lo < 2 ^ 62) (h3 : -(2 ^ 62)≤hi) (h4:hi < 2 ^ 62)
    (q:R (Itr lo (hi - lo).toNat) H):wpAny (model X.prog X.w) X.A (pyIter (.ref s.heap.objs.size)) (PIE X pins σ tg R) E { s with heap:=s.heap.push { cls:=.type "range",data:=.fields #[.int lo t,.int hi u,.int 1 v] },toks:=tk }:=by
  refine wpAny_pyIter_range (IsRange.new ..) (small_one h1 h2 h3 h4) ?_
  have I1:Inv X pins σ H { s with heap:=s.heap.push { cls:=.type "range",data:=.fields #[.int lo t,.int hi u,.int 1 v] },toks:=tk }:=I.kept fun b o e=>Heap.get?_push_of_some _ e
  refine ⟨(s.heap.push { cls:=.type "range",data:=.fields #[.int lo t,.int hi u,.int 1 v] }).objs.size,[(s.heap.push { cls:=.type "range",data:=.fields #[.int lo t,.int hi u,.int 1 v] }).objs.size],_,_,H,rfl,
    I1.kept (t':=tk) fun b o e=>Heap.get?_push_of_some _ e,uu _ lo (hi - lo).toNat,?_,fun b hb=>?_,q⟩
  · have e1:lo+((0:Nat):Int) * 1=lo:=by simp
    have e2:(((hi - lo).toNat:Nat):Int) - ((0:Nat):Int)=Builtin.Range.rangeSize lo hi 1:=by rw [rangeSize_one];split <;> omega
    show IsRangeIter _ _ (lo+((0:Nat):Int) * 1) ((((hi - lo).toNat:Nat):Int) - ((0:Nat):Int)) 1
    rw [e1,e2]
    exact Heap.get?_push_size _ rfl
  · have e:b=(s.heap.push { cls:=.type "range",data:=.fields #[.int lo t,.int hi u,.int 1 v] }).objs.size:=by simpa using hb
    subst e
    exact I1.Ft (Nat.le_refl _) (I1.hok.fresh (Nat.le_refl _))
def Gu (ta:TA):TI:=fun σ H R=>ta σ H fun vs H1=>∃ j:Int,vs=[.int j]∧-(2 ^ 62)≤j∧j < 2 ^ 62∧R (Itr 0 j.toNat) H1
def Gs (ta:TA):TI:=fun σ H R=>ta σ H fun vs H1=>∃ i j:Int,vs=[.int i,.int j]∧(-(2 ^ 62)≤i∧i < 2 ^ 62∧-(2 ^ 62)≤j∧j < 2 ^ 62)∧R (Itr i (j - i).toNat) H1
theorem oh {a:Expr} {ta:TA} {p pos:Pos} (hg:Gl X "range") (hm:X.mg "range" = none) (ha:PA X [a] ta) (hs:starEach [a] X.env=[(false,eval a X.env)]:=by rfl):PI X tg (.Call (.Name "range" p) [a] [] pos) (Gu ta):=by
  intro pins s σ H R I h
  refine Call_ (fq I hg hm boot_range (PyProof.Rows.callWith_type1 (thn (ha pos pins s σ H _ I h) fun us s1 ⟨vs,H1,I1,r1,q1⟩=>?_) hs rfl))
  obtain ⟨j,e,q1,q2,q⟩:=q1
  subst e
  cases r1 with
  | cons r rr=>
    cases rr
    obtain ⟨t,rfl⟩:=r
    exact call_range_1 (rN I1 (by omega) (by omega) q1 q2 (by simpa using q))
theorem yW {a b:Expr} {ta:TA} {p pos:Pos} (hg:Gl X "range") (hm:X.mg "range" = none) (ha:PA X [a,b] ta) (hs:starEach [a,b] X.env=[(false,eval a X.env),(false,eval b X.env)]:=by rfl) (hs2:starEach [b] X.env=[(false,eval b X.env)]:=by rfl) :
    PI X tg (.Call (.Name "range" p) [a,b] [] pos) (Gs ta):=by
  intro pins s σ H R I h
  refine Call_ (fq I hg hm boot_range (PyProof.Rows.callWith_type1 (thn (ha pos pins s σ H _ I h) fun us s1 ⟨vs,H1,I1,r1,q1⟩=>?_) (by rw [hs,hs2]) (by rw [hs2];rfl)))
  obtain ⟨i,j,e,⟨q1,q2,q3,q4⟩,q⟩:=q1
  subst e
  cases r1 with
  | cons r rr=>
    cases rr with
    | cons r' rr=>
      cases rr
      obtain ⟨t,rfl⟩:=r
      obtain ⟨t',rfl⟩:=r'
      exact call_range_2 (rN I1 q1 q2 q3 q4 q)
def JY (wi:TI) (g:TG) (tb:TS):TS:=fun D σ H=>wi σ H fun J H1=>∃ W:Nat→Nat→St→Hp→Prop,(∃ m,W 0 m σ H1)∧∀ i m σ H,W i m σ H →
  (J.stop i H∧D.nx σ H)∨(J.go i H∧∃ N:St→Hp→Prop,(∀ σ' H',N σ' H'→∃ m',m' < m∧W (i+1) m' σ' H')∧∀ x H',J.yld i H x H'→g x σ H' fun σ2 H2=>tb { D with nx:=N,ct:=N,bk:=D.nx } σ2 H2)
def ir (fp:List Addr) (h:Heap):List (Addr×Obj):=fp.filterMap fun b=>(h.get? b).map fun o=>(b,o)
theorem je {fp:List Addr} {h:Heap} {b:Addr} {o:Obj} (hb:b∈fp) (e:h.get? b=some o):(b,o)∈ir fp h:=List.mem_filterMap.mpr ⟨b,hb,by rw [e];rfl⟩
theorem oj {fp:List Addr} {h:Heap} {p:Addr×Obj} (hp:p∈ir fp h):p.1∈fp∧h.get? p.1=some p.2:=by
  obtain ⟨b,hb,e⟩:=List.mem_filterMap.mp hp
  cases q:h.get? b with
  | none=>rw [q] at e;cases e
  | some o=>
    rw [q] at e
    have e':(b,o)=p:=Option.some.inj e
    subst e'
    exact ⟨hb,q⟩
theorem Inv.pinned {pins:List (Addr×Obj)} {σ : St} {H:Hp} {s:Shared} {fp:List Addr} (I:Inv X pins σ H s) (hf:∀ b∈fp,iO X pins H b) (ho:∀ b∈fp,∃ o,s.heap.get? b=some o∧∀ v,o.data≠.cell v):Inv X (pins++ir fp s.heap) σ H s:=
  I.lG fun p hp=>(List.mem_append.mp hp).elim (fun z=>I.pin p (List.mem_append_right _ z)) fun z=>by
    obtain ⟨hb,e⟩:=oj z
    obtain ⟨f0,f1,f2,_⟩:=hf p.1 hb
    obtain ⟨o,e',d⟩:=ho p.1 hb
    rw [e] at e';cases e'
    exact ⟨e,f0,f1,f2,d⟩
theorem Inv.jt {pins pl:List (Addr×Obj)} {σ : St} {H:Hp} {s:Shared} (I:Inv X (pins++pl) σ H s):Inv X pins σ H s:=I.lG fun p hp=>I.pin p (List.mem_append_right _ (List.mem_append_left _ hp))
theorem ig {iter:Expr} {body:List Stmt} {wi:TI} {g:TG} {tb:TS} {pos:Pos} (hp:PassesOwn (model X.prog X.w) X.A X.env X.xe) (hc:X.calm=true) (hi:PI X tg iter wi) (hg:PG X tg g) (hb:PSs X body tb)
    (hs:∀ x,foldedSetIterable iter X.env x=pure x:=by intro _;rfl):PS X (.For tg iter body [] pos) (JY wi g tb):=by
  intro pins s σ H D I h
  refine wpAny_For (thn (hi pins s σ H _ I h) fun v s1 h1=>thn h1 fun itv s2 h2=>?_) hs
  obtain ⟨it,fp,tn,J,H2,e,I2,T,st2,f2,W,⟨m0,w0⟩,turn⟩:=h2
  subst e
  -- what stays true of the iterator's objects through the loop
  have GY:∀ {H':Hp},(∀ b∈fp,H' b=none)→∀ b∈fp,iO X pins H' b:=fun hn b hb=>⟨hn b hb,(f2 b hb).2⟩
  refine codeAny_forLoop_any (fun n s'=>∃ i σ' H',Inv X pins σ' H' s'∧tn i s'.heap∧(∀ b∈fp,H' b=none)∧W i n σ' H') ?_ m0 ⟨0,σ,H2,I2,st2,fun b hb=>(f2 b hb).1,w0⟩
  rintro n s3 ⟨i,σ3,H3,I3,st3,fr3,w3⟩
  rcases turn i n σ3 H3 w3 with ⟨stop,qn⟩ | ⟨go,N,hN,step⟩
  · refine wpAny_passesOwn hp (thn (T.done X rfl rfl rfl hc i pins s3 σ3 H3 X.xe I3 (GY fr3) st3 stop) fun r s4 ⟨hr,I4⟩=>?_)
    subst hr
    exact wpAny_execs_nil ⟨σ3,H3,I4,qn⟩
  · refine wpAny_passesOwn hp (thn (T.item X rfl rfl rfl hc i pins s3 σ3 H3 X.xe I3 (GY fr3) st3 go) fun r s4 ⟨u,hr,h4⟩=>?_)
    subst hr
    refine wpAny_passesOwn hp (thn h4 fun _ s5 ⟨x,H5,I5,r5,y5,st5,fr5⟩=>?_)
    have I5':=I5.pinned (GY fr5) (T.obj _ _ st5)
    refine wpAny_passesOwn hp (thn (hg _ s5 σ3 H5 x u _ I5' r5 (step x H5 y5)) fun _ s6 ⟨σ6,H6,I6,q6⟩=>?_)
    refine wpAny_passesOwn hp (thn (hb _ s6 σ6 H6 _ I6 q6) fun f s7 q7=>?_)
    have again:∀ {σ7:St} {H7:Hp},Inv X (pins++ir fp s5.heap) σ7 H7 s7→N σ7 H7→∃ m,m < n∧∃ i σ' H',Inv X pins σ' H' s7∧tn i s7.heap∧(∀ b∈fp,H' b=none)∧W i m σ' H':=fun {σ7 H7} I7 n7=>by
      obtain ⟨m',hm,w7⟩:=hN σ7 H7 n7
      refine ⟨m',hm,i+1,σ7,H7,I7.jt,T.keep _ _ _ st5 fun b hb o e=>(I7.pin (b,o) (List.mem_append_right _ (List.mem_append_right _ (je hb e)))).1,fun b hb=>?_,w7⟩
      obtain ⟨o,e,d⟩:=T.obj _ _ st5 b hb
      exact (I7.pin (b,o) (List.mem_append_right _ (List.mem_append_right _ (je hb e)))).2.1
    cases f with
    | next=>obtain ⟨σ7,H7,I7,n7⟩:=q7;exact again I7 n7
    | cont=>obtain ⟨σ7,H7,I7,n7⟩:=q7;exact again I7 n7
    | brk=>obtain ⟨σ7,H7,I7,q7⟩:=q7;exact ⟨σ7,H7,I7.jt,q7⟩
    | ret v=>obtain ⟨x7,σ7,H7,I7,r7,q7⟩:=q7;exact ⟨x7,σ7,H7,I7.jt,r7,q7⟩
end
theorem Cv {K:PySem.W.Frag} {a:Addr} {xs:List V} {g:TG} {tb:TS} {D:Ends} {σ : St} {H:Hp} (Pv:Nat→St→Hp→Prop) (h0:Pv 0 σ H) (hl:∀ i σ H,i≤xs.length→Pv i σ H→SqL K H a xs)
    (hs:∀ i x σ H,xs[i]?=some x→Pv i σ H→g x σ H fun σ2 H2=>tb { D with nx:=Pv (i+1),ct:=Pv (i+1),bk:=D.nx } σ2 H2) (hd:∀ σ H,Pv xs.length σ H→D.nx σ H) :
    ∃ W:Nat→Nat→St→Hp→Prop,(∃ m,W 0 m σ H)∧∀ i m σ H,W i m σ H →
      ((Itl K a).stop i H∧D.nx σ H)∨((Itl K a).go i H∧∃ N:St→Hp→Prop,(∀ σ' H',N σ' H'→∃ m',m' < m∧W (i+1) m' σ' H')∧∀ x H',(Itl K a).yld i H x H'→g x σ H' fun σ2 H2=>tb { D with nx:=N,ct:=N,bk:=D.nx } σ2 H2):=by
  refine ⟨fun i m σ H=>m=xs.length - i∧i≤xs.length∧Pv i σ H,⟨xs.length,by simp,Nat.zero_le _,h0⟩,?_⟩
  rintro i m σ H ⟨rfl,hi,p⟩
  have q:=hl i σ H hi p
  by_cases hlt:i < xs.length
  · refine .inr ⟨⟨xs,xs[i],q,by simp [hlt]⟩,Pv (i+1),fun σ' H' p'=>⟨xs.length - (i+1),by omega,rfl,hlt,p'⟩,fun x H' y=>?_⟩
    obtain ⟨e,y⟩:=y
    subst e
    exact hs i x σ _ (y xs q) p
  · have e:i=xs.length:=by omega
    subst e
    exact .inl ⟨⟨xs,q,Nat.le_refl _⟩,hd σ H p⟩
theorem zJ {lo:Int} {n:Nat} {g:TG} {tb:TS} {D:Ends} {σ : St} {H:Hp} (Pv:Nat→St→Hp→Prop) (h0:Pv 0 σ H)
    (hs:∀ i σ H,i < n→Pv i σ H→g (.int (lo+i)) σ H fun σ2 H2=>tb { D with nx:=Pv (i+1),ct:=Pv (i+1),bk:=D.nx } σ2 H2) (hd:∀ σ H,Pv n σ H→D.nx σ H) :
    ∃ W:Nat→Nat→St→Hp→Prop,(∃ m,W 0 m σ H)∧∀ i m σ H,W i m σ H →
      ((Itr lo n).stop i H∧D.nx σ H)∨((Itr lo n).go i H∧∃ N:St→Hp→Prop,(∀ σ' H',N σ' H'→∃ m',m' < m∧W (i+1) m' σ' H')∧∀ x H',(Itr lo n).yld i H x H'→g x σ H' fun σ2 H2=>tb { D with nx:=N,ct:=N,bk:=D.nx } σ2 H2):=by
  refine ⟨fun i m σ H=>m=n - i∧i≤n∧Pv i σ H,⟨n,by simp,Nat.zero_le _,h0⟩,?_⟩
  rintro i m σ H ⟨rfl,hi,p⟩
  by_cases hlt:i < n
  · refine .inr ⟨hlt,Pv (i+1),fun σ' H' p'=>⟨n - (i+1),by omega,rfl,hlt,p'⟩,fun x H' y=>?_⟩
    obtain ⟨e,y⟩:=y
    subst e y
    exact hs i σ _ hlt p
  · have e:i=n:=by omega
    subst e
    exact .inl ⟨Nat.le_refl _,hd σ H p⟩
abbrev R2:=V→V→Hp→VK→Prop
def OpR (X:Cx) (f:Value→Value→Sem Value) (r:R2):Prop:=
  ∀ (pins:List (Addr×Obj)) (s:Shared) (σ : St) (H:Hp) (x y:V) (v u:Value) (Q:VK),Inv X pins σ H s→RelV x v→RelV y u→r x y H Q →
    wpAny (model X.prog X.w) X.A (f v u) (EP X pins σ Q) X.xe s
def cK (X:Cx) (f:Value) (r:List V→Hp→VK→Prop):Prop:=
  ∀ (pins:List (Addr×Obj)) (s:Shared) (σ : St) (H:Hp) (xs:List V) (us:List Value) (Q:VK),Inv X pins σ H s→Vals xs us→r xs H Q →
    wpAny (model X.prog X.w) X.A (call f us) (EP X pins σ Q) X.xe s
def tOp (r:R2) (ta tb:TE):TE:=fun σ H Q=>ta σ H fun x H1=>tb σ H1 fun y H2=>r x y H2 Q
def rI (C:Int→Int→Prop) (g:Int→Int→V):R2:=fun x y H Q=>∃ i j,x = .int i∧y = .int j∧C i j∧Q (g i j) H
def rI0 (g:Int→Int→V):R2:=fun x y H Q=>∃ i j,x = .int i∧y = .int j∧Q (g i j) H
section
variable {X:Cx} {a b c:Expr} {ta tb tc:TE} {pos:Pos}
theorem JA (ha:PE X a ta) (hb:PE X b tb) {pins:List (Addr×Obj)} {s:Shared} {σ : St} {H:Hp} {R:V→V→Hp→Prop} (I:Inv X pins σ H s)
    (h:ta σ H fun x H1=>tb σ H1 fun y H2=>R x y H2) {Q:Value→Shared→Prop} {f:Value→Value→Sem Value}
    (hf:∀ v u s2 x y H2,Inv X pins σ H2 s2→RelV x v→RelV y u→R x y H2→wpAny (model X.prog X.w) X.A (f v u) Q X.xe s2) :
    wpAny (model X.prog X.w) X.A (eval a X.env) (fun v s₁=>wpAny (model X.prog X.w) X.A (eval b X.env) (fun u s₂=>wpAny (model X.prog X.w) X.A (f v u) Q X.xe s₂) X.xe s₁) X.xe s:=by
  refine thn (ha pins s σ H _ I h) fun v s1 ⟨x,H1,I1,r1,q1⟩=>?_
  refine thn (hb pins s1 σ H1 _ I1 q1) fun u s2 ⟨y,H2,I2,r2,q2⟩=>?_
  exact hf v u s2 x y H2 I2 r1 r2 q2
theorem aQ {op:Operator} {r:R2} (ho:OpR X (binaryOp op) r) (ha:PE X a ta) (hb:PE X b tb):PE X (.BinOp a op b pos) (tOp r ta tb):=by
  intro pins s σ H Q I h
  exact wpAny_BinOp (JA ha hb I h fun v u s2 x y H2 I2 rx ry q=>ho pins s2 σ H2 x y v u Q I2 rx ry q)
theorem opI {f:Value→Value→Sem Value} {C:Int→Int→Prop} {g:Int→Int→Int}
    (rule:∀ (i j:Int) (t u:Tok) (s:Shared) (Q:Value→Shared→Prop) (E:Value→Shared→Prop),C i j→Q (.int (g i j) s.toks) { s with toks:=s.toks+1 }→wpAny (model X.prog X.w) X.A (f (.int i t) (.int j u)) Q E s) :
    OpR X f (rI C fun i j=>.int (g i j)):=by
  intro pins s σ H x y v u Q I rx ry h
  obtain ⟨i,j,rfl,rfl,hc,q⟩:=h
  obtain ⟨t,rfl⟩:=rx
  obtain ⟨t',rfl⟩:=ry
  exact rule i j t t' s _ _ hc ⟨.int (g i j),H,I.tok _,⟨_,rfl⟩,q⟩
theorem Kr {f:Value→Value→Sem Value} {g:Int→Int→Int}
    (rule:∀ (i j:Int) (t u:Tok) (s:Shared) (Q:Value→Shared→Prop) (E:Value→Shared→Prop),Q (.int (g i j) s.toks) { s with toks:=s.toks+1 }→wpAny (model X.prog X.w) X.A (f (.int i t) (.int j u)) Q E s) :
    OpR X f (rI0 fun i j=>.int (g i j)):=by
  intro pins s σ H x y v u Q I rx ry h
  obtain ⟨i,j,rfl,rfl,q⟩:=h
  obtain ⟨t,rfl⟩:=rx
  obtain ⟨t',rfl⟩:=ry
  exact rule i j t t' s _ _ ⟨.int (g i j),H,I.tok _,⟨_,rfl⟩,q⟩
theorem Ej {f:Value→Value→Sem Value} {g:Int→Int→Bool}
    (rule:∀ (i j:Int) (t u:Tok) (s:Shared) (Q:Value→Shared→Prop) (E:Value→Shared→Prop),Q (.bool (g i j)) s→wpAny (model X.prog X.w) X.A (f (.int i t) (.int j u)) Q E s) :
    OpR X f (rI0 fun i j=>.bl (g i j)):=by
  intro pins s σ H x y v u Q I rx ry h
  obtain ⟨i,j,rfl,rfl,q⟩:=h
  obtain ⟨t,rfl⟩:=rx
  obtain ⟨t',rfl⟩:=ry
  exact rule i j t t' s _ _ ⟨.bl (g i j),H,I,rfl,q⟩
def My (i j:Int):Prop:=0≤j∧j≤1000000∧i.natAbs < 2 ^ 64
def wA (i j:Int):Prop:=(-(2 ^ 64) < i∧i < 2 ^ 64)∨(-(2 ^ 64) < j∧j < 2 ^ 64)
theorem wA.ok {i j:Int} (h:wA i j):IntMulOk i j:=by
  rcases h with ⟨h1,h2⟩ | ⟨h1,h2⟩
  · exact .of_left (intBits_le_64 h1 h2)
  · exact .of_right (intBits_le_64 h1 h2)
theorem bL:OpR X (binaryOp .Add) (rI0 fun i j=>.int (i+j)):=Kr fun _ _ _ _ _ _ _ q=>add_int q
theorem iz:OpR X (binaryOp .Sub) (rI0 fun i j=>.int (i - j)):=Kr fun _ _ _ _ _ _ _ q=>sub_int q
theorem pS:OpR X (binaryOp .Mult) (rI wA fun i j=>.int (i * j)):=opI fun _ _ _ _ _ _ _ hc q=>mul_int q hc.ok
theorem fk:OpR X (binaryOp .Mod) (rI (fun _ j=>0 < j) fun i j=>.int (i % j)):=opI fun i j _ _ _ _ _ hc q=>by
  have h1:(0:Int) < j:=hc
  exact mod_int' (by omega) (by rw [Int.fmod_eq_emod_of_nonneg i (by omega)];exact q)
theorem uQ:OpR X (binaryOp .Pow) (rI My fun i j=>.int (i ^ j.toNat)):=opI fun _ _ _ _ _ _ _ hc q=>pow_int_small hc.1 hc.2.1 hc.2.2 q
end
def Kd:V→V→Bool
  | .non,.non=>true | .non,.int _=>true | .int _,.non=>true | .non,.bl _=>true | .bl _,.non=>true | .non,.str _=>true | .str _,.non=>true
  | .int _,.int _=>true | .bl _,.bl _=>true | .str _,.str _=>true | .byt _,.byt _=>true
  | .int _,.str _=>true | .str _,.int _=>true | .bl _,.str _=>true | .str _,.bl _=>true
  | _,_=>false
def rEq:R2:=fun x y H Q=>Kd x y=true∧Q (.bl (decide (x=y))) H
def rNe:R2:=fun x y H Q=>Kd x y=true∧Q (.bl (!decide (x=y))) H
theorem xM {i j:Int}:decide (V.int i=V.int j)=(i == j):=by
  rw [Bool.eq_iff_iff]
  simp
theorem CJ {i j:Bool}:decide (V.bl i=V.bl j)=(i == j):=by
  rw [Bool.eq_iff_iff]
  simp
theorem xK {i j:Str}:decide (V.str i=V.str j)=(i == j):=by
  rw [Bool.eq_iff_iff]
  simp
theorem xN {i j:Array UInt8}:decide (V.byt i=V.byt j)=(i.toList == j.toList):=by
  rw [Bool.eq_iff_iff]
  cases i
  cases j
  simp
section
variable {X:Cx} {a b c:Expr} {ta tb tc:TE} {pos:Pos}
theorem bG {pins:List (Addr×Obj)} {σ : St} {H:Hp} {s:Shared} {Q:VK} {k k':Bool} (I:Inv X pins σ H s) (q:Q (.bl k) H) (e:k=k'):EP X pins σ Q (.bool k') s:=by
  subst e
  exact ⟨.bl k,H,I,rfl,q⟩
theorem bQ:OpR X (compareOp .Eq) rEq:=by
  intro pins s σ H x y v u Q I rx ry h
  obtain ⟨hs,q⟩:=h
  cases x with
  | non=>
    cases rx
    cases y with
    | non=>cases ry;exact PySem.EqNone.eq_none_none (bG I q (by simp))
    | bl j=>cases ry;exact PySem.EqNone.eq_none_bool (bG I q (by simp))
    | int j=>obtain ⟨t',rfl⟩:=ry;exact PySem.EqNone.eq_none_int (bG I q (by simp))
    | str j=>obtain ⟨t',rfl⟩:=ry;exact PySem.EqNone.eq_none_str (bG I q (by simp))
    | _=>exact absurd (show false=true from hs) Bool.false_ne_true
  | bl i=>
    cases rx
    cases y with
    | non=>cases ry;exact PySem.EqNone.eq_bool_none (bG I q (by simp))
    | bl j=>cases ry;exact eq_bool (bG I q CJ)
    | str j=>obtain ⟨t',rfl⟩:=ry;exact PySem.EqMixed.eq_bool_str (bG I q (by simp))
    | _=>exact absurd (show false=true from hs) Bool.false_ne_true
  | int i=>
    obtain ⟨t,rfl⟩:=rx
    cases y with
    | non=>cases ry;exact PySem.EqNone.eq_int_none (bG I q (by simp))
    | int j=>obtain ⟨t',rfl⟩:=ry;exact eq_int (bG I q xM)
    | str j=>obtain ⟨t',rfl⟩:=ry;exact PySem.EqMixed.eq_int_str (bG I q (by simp))
    | _=>exact absurd (show false=true from hs) Bool.false_ne_true
  | str i=>
    obtain ⟨t,rfl⟩:=rx
    cases y with
    | non=>cases ry;exact PySem.EqNone.eq_str_none (bG I q (by simp))
    | bl j=>cases ry;exact PySem.EqMixed.eq_str_bool (bG I q (by simp))
    | int j=>obtain ⟨t',rfl⟩:=ry;exact PySem.EqMixed.eq_str_int (bG I q (by simp))
    | str j=>obtain ⟨t',rfl⟩:=ry;exact eq_str (bG I q xK)
    | _=>exact absurd (show false=true from hs) Bool.false_ne_true
  | byt i=>
    obtain ⟨t,rfl⟩:=rx
    cases y with
    | byt j=>obtain ⟨t',rfl⟩:=ry;exact PySem.W.eq_bytes (bG I q xN)
    | _=>exact absurd (show false=true from hs) Bool.false_ne_true
  | _=>cases y <;> exact absurd (show false=true from hs) Bool.false_ne_true
theorem xq:OpR X (compareOp .NotEq) rNe:=by
  intro pins s σ H x y v u Q I rx ry h
  obtain ⟨hs,q⟩:=h
  cases x with
  | non=>
    cases rx
    cases y with
    | non=>cases ry;exact PySem.EqNone.ne_none_none (bG I q (by simp))
    | bl j=>cases ry;exact PySem.EqNone.ne_none_bool (bG I q (by simp))
    | int j=>obtain ⟨t',rfl⟩:=ry;exact PySem.EqNone.ne_none_int (bG I q (by simp))
    | str j=>obtain ⟨t',rfl⟩:=ry;exact PySem.EqNone.ne_none_str (bG I q (by simp))
    | _=>exact absurd (show false=true from hs) Bool.false_ne_true
  | bl i=>
    cases rx
    cases y with
    | non=>cases ry;exact PySem.EqNone.ne_bool_none (bG I q (by simp))
    | bl j=>cases ry;exact ne_bool (bG I q (congrArg not CJ))
    | str j=>obtain ⟨t',rfl⟩:=ry;exact PySem.EqMixed.ne_bool_str (bG I q (by simp))
    | _=>exact absurd (show false=true from hs) Bool.false_ne_true
  | int i=>
    obtain ⟨t,rfl⟩:=rx
    cases y with
    | non=>cases ry;exact PySem.EqNone.ne_int_none (bG I q (by simp))
    | int j=>obtain ⟨t',rfl⟩:=ry;exact ne_int (bG I q (congrArg not xM))
    | str j=>obtain ⟨t',rfl⟩:=ry;exact PySem.EqMixed.ne_int_str (bG I q (by simp))
    | _=>exact absurd (show false=true from hs) Bool.false_ne_true
  | str i=>
    obtain ⟨t,rfl⟩:=rx
    cases y with
    | non=>cases ry;exact PySem.EqNone.ne_str_none (bG I q (by simp))
    | bl j=>cases ry;exact PySem.EqMixed.ne_str_bool (bG I q (by simp))
    | int j=>obtain ⟨t',rfl⟩:=ry;exact PySem.EqMixed.ne_str_int (bG I q (by simp))
    | str j=>obtain ⟨t',rfl⟩:=ry;exact ne_str (bG I q (congrArg not xK))
    | _=>exact absurd (show false=true from hs) Bool.false_ne_true
  | byt i=>
    obtain ⟨t,rfl⟩:=rx
    cases y with
    | byt j=>obtain ⟨t',rfl⟩:=ry;exact PySem.W.ne_bytes (bG I q (congrArg not xN))
    | _=>exact absurd (show false=true from hs) Bool.false_ne_true
  | _=>cases y <;> exact absurd (show false=true from hs) Bool.false_ne_true
theorem oi:OpR X (compareOp .Lt) (rI0 fun i j=>.bl (decide (i < j))):=Ej fun _ _ _ _ _ _ _ q=>lt_int q
theorem rS:OpR X (compareOp .LtE) (rI0 fun i j=>.bl (decide (i≤j))):=Ej fun _ _ _ _ _ _ _ q=>le_int q
theorem jB:OpR X (compareOp .Gt) (rI0 fun i j=>.bl (decide (j < i))):=Ej fun _ _ _ _ _ _ _ q=>gt_int q
theorem l6:OpR X (compareOp .GtE) (rI0 fun i j=>.bl (decide (j≤i))):=Ej fun _ _ _ _ _ _ _ q=>ge_int q
theorem aM (b:Expr) {op:CmpOp} (h:op≠.In:=by decide) (h2:op≠.NotIn:=by decide):behindInMarks op b=false:=by
  have e1:(op == CmpOp.In)=false:=by cases op <;> first | rfl | exact absurd rfl h
  have e2:(op == CmpOp.NotIn)=false:=by cases op <;> first | rfl | exact absurd rfl h2
  cases b <;> simp [behindInMarks,e1,e2]
theorem eS {op:CmpOp} {r:R2} (ho:OpR X (compareOp op) r) (ha:PE X a ta) (hb:PE X b tb) (hm:behindInMarks op b=false):PE X (.Compare a [op] [b] pos) (tOp r ta tb):=by
  intro pins s σ H Q I h
  exact wpAny_Compare1 (JA ha hb I h fun v u s2 x y H2 I2 rx ry q=>ho pins s2 σ H2 x y v u Q I2 rx ry q) hm
def F3 (t:TE):TT:=fun σ H Q=>t σ H fun x H'=>∃ k,x = .bl k∧Q k H'
theorem aG {op:CmpOp} {r:R2} (ho:OpR X (compareOp op) r) (ha:PE X a ta) (hb:PE X b tb) (hm:behindInMarks op b=false):PT X (.Compare a [op] [b] pos) (F3 (tOp r ta tb)):=by
  intro pins s σ H Q I h
  refine wpAny_isTrue_Compare1 (thn (ha pins s σ H _ I h) fun v s1 ⟨x,H1,I1,r1,q1⟩=>thn (hb pins s1 σ H1 _ I1 q1) fun u s2 ⟨y,H2,I2,r2,q2⟩=>
    thn (ho pins s2 σ H2 x y v u _ I2 r1 r2 q2) fun c s3 ⟨z,H3,I3,r3,k,e,q3⟩=>?_) hm
  subst e
  cases r3
  exact wpAny_truthy_bool ⟨H3,I3,q3⟩
theorem pZ:(sizeLine:Nat) < 2 ^ 63:=by rw [sizeLine_eq];decide
theorem vals1 {x:V} {us:List Value} (r:Vals [x] us):∃ u,us=[u]∧RelV x u:=by
  cases r with
  | cons r1 r2=>cases r2;exact ⟨_,rfl,r1⟩
theorem vals2 {x y:V} {us:List Value} (r:Vals [x,y] us):∃ u w',us=[u,w']∧RelV x u∧RelV y w':=by
  cases r with
  | cons r1 r2=>
    cases r2 with
    | cons r3 r4=>cases r4;exact ⟨_,_,rfl,r1,r3⟩
theorem zO (hc:X.calm=true):cK X (.builtin "max") (fun xs H Q=>∃ i j,xs=[.int i,.int j]∧Q (.int (if j > i then j else i)) H):=by
  intro pins s σ H xs us Q I r h
  obtain ⟨i,j,rfl,q⟩:=h
  obtain ⟨u,w',rfl,⟨t,rfl⟩,⟨t',rfl⟩⟩:=vals2 r
  refine max_two_ints (I.ok.hd hc) fun h' tk k=>⟨_,H,I.kept k,?_,q⟩
  by_cases hj:j > i
  · rw [if_pos hj,if_pos hj];exact ⟨_,rfl⟩
  · rw [if_neg hj,if_neg hj];exact ⟨_,rfl⟩
theorem zN (hc:X.calm=true):cK X (.builtin "min") (fun xs H Q=>∃ i j,xs=[.int i,.int j]∧Q (.int (if j < i then j else i)) H):=by
  intro pins s σ H xs us Q I r h
  obtain ⟨i,j,rfl,q⟩:=h
  obtain ⟨u,w',rfl,⟨t,rfl⟩,⟨t',rfl⟩⟩:=vals2 r
  refine min_two_ints (I.ok.hd hc) fun h' tk k=>⟨_,H,I.kept k,?_,q⟩
  by_cases hj:j < i
  · rw [if_pos hj,if_pos hj];exact ⟨_,rfl⟩
  · rw [if_neg hj,if_neg hj];exact ⟨_,rfl⟩
theorem zS:cK X (.type "int") (fun xs H Q=>(∃ i,xs=[.int i]∧Q (.int i) H)∨∃ k,xs=[.bl k]∧Q (.int (if k then 1 else 0)) H):=by
  intro pins s σ H xs us Q I r h
  rcases h with ⟨i,rfl,q⟩ | ⟨k,rfl,q⟩
  · obtain ⟨u,rfl,t,rfl⟩:=vals1 r
    exact call_int_int ⟨.int i,H,I,⟨_,rfl⟩,q⟩
  · obtain ⟨u,rfl,r1⟩:=vals1 r
    cases r1
    exact call_int_bool ⟨.int (if k then 1 else 0),H,I.tok _,⟨_,rfl⟩,q⟩
end
structure vU (h:Heap) (x dx C:Addr) (mA:Str→Option Value):Prop where
  obj:h.get? x=some (PySem.W.instObj C dx)
  ns:h.Ns1 dx mA
  ne:dx≠x
theorem zw {h:Heap} {dx:Addr} {mA:Str→Option Value} (n:h.Ns1 dx mA):∃ od,h.get? dx=some od∧∀ name,PySem.W.lookIn name od=some (mA name):=by
  obtain ⟨o,es,ep,ho,hd,hk,_,hm⟩:=n
  refine ⟨o,ho,fun name=>?_⟩
  have e:=hm name
  unfold nsFind findBy at e
  rw [← Array.find?_toList] at e
  unfold PySem.W.lookIn
  rw [hd]
  dsimp only
  split
  · rename_i y q
    rw [q] at e
    exact congrArg some e
  · rename_i q
    rw [q] at e
    have a:es.toList.any (·.refKey)=false:=by
      rw [List.any_eq_false]
      intro y hy
      obtain ⟨z,t,hkey⟩:=hk y (Array.mem_toList_iff.mp hy)
      simp [DictEntry.refKey,hkey]
    have a':¬ es.toList.any (·.refKey)=true:=by rw [a];exact Bool.false_ne_true
    rw [if_neg a']
    exact congrArg some e
theorem vU.look {h:Heap} {x dx C:Addr} {mA:Str→Option Value} (I:vU h x dx C mA):∃ od,PySem.W.InstAt h x (PySem.W.instObj C dx) C (some od)∧∀ name,PySem.W.lookIn name od=some (mA name):=
  let ⟨od,ho,hl⟩:=zw I.ns
  ⟨od,⟨I.obj,rfl,rfl,ho⟩,hl⟩
section
variable {prog:Program} {w:World} {A:Around} {E:Value→Shared→Prop} {s:Shared} {K:PySem.W.Frag} {x dx C f:Addr} {mA:Str→Option Value} {name:Str} {v:Value}
theorem get_map {expr:Bool} {Q:Value→Shared→Prop} (X:K.In s.heap) (I:vU s.heap x dx C mA) (hg:PySem.W.plainGet K C name=true) (hh:PySem.W.hasDictIn K C=true)
    (ha:PySem.W.findIn K (.ref C) name=some none) (hv:mA name=some v) (hv':PySem.W.handedIn v=true) (h:Q v { s with toks:=s.toks+1 }) :
    wpAny (model prog w) A (getAttr (.ref x) name expr) Q E s:=by
  obtain ⟨od,J,hl⟩:=I.look
  exact PySem.W.get_value X J (PySem.W.plainGet_of hg).1 (PySem.W.findObj_own hh ha rfl (by rw [hl,hv])) hv' h
theorem Cm {pl:Sem Bool} {Q:Value×List Value→Shared→Prop} (X:K.In s.heap) (I:vU s.heap x dx C mA) (hg:PySem.W.plainGet K C name=true)
    (hf:PySem.W.findIn K (.ref C) name=some (some (.ref f))) (ht:PySem.W.isFn K (.ref f)=true) (hv:mA name=none) (h:Q (.ref f,[.ref x]) s) :
    wpAny (model prog w) A (getMethod (.ref x) name pl) Q E s:=by
  obtain ⟨od,J,hl⟩:=I.look
  exact PySem.W.method_fn X J (PySem.W.plainGet_of hg).1 (PySem.W.plainGet_of hg).2 hf (beq_iff_eq.mp ht) (by show (PySem.W.lookIn name od).map (·.isSome)=some false;rw [hl,hv];rfl) h
theorem DJ {ns:List Str} {Q:Unit→Shared→Prop} (X:K.In s.heap) (I:vU s.heap x dx C mA)
    (hs:PySem.W.findIn K (.ref C) "__setattr__" = some (some (.builtin "object.__setattr__"))) (hp:PySem.W.plainOver K C=true) (ht:PySem.W.takerIn K C name=some none) (hh:PySem.W.hasDictIn K C=true)
    (hw:PySem.Within mA ns) (hsz:ns.length≤sizeLine)
    (h:∀ h',vU h' x dx C (fun y=>if y=name then some v else mA y)→Heap.SameBut dx s.heap h'→Q () { s with heap:=h',toks:=s.toks+2 }) :
    wpAny (model prog w) A (setAttr (.ref x) name v) Q E s:=by
  obtain ⟨od,J,hl⟩:=I.look
  refine PySem.W.set_plain X J hs (PySem.W.osa_open (s:={ s with toks:=s.toks+1 }) (r:=none) X J hp ht fun b=>?_)
  obtain ⟨cd,hc,hd'⟩:=PySem.W.any_some hh
  have hx:s.heap.get? x=some ⟨.ref C,some dx,.plain,#[]⟩:=I.obj
  refine wpAny_bind (wpAny_pure (wpAny_bind (wpAny_bind (wpAny_loadPart hx (wpAny_bind (PySem.W.Looks.here (s:={ s with toks:=s.toks+1 }) (PySem.W.looks_clsIn X hc) ?_))))))
  rw [hd']
  refine wpAny_pure (a:=some dx) (wpAny_bind (wpAny_pure (wpAny_bind ?_)))
  refine wpAny_nsSet1 (s:={ s with toks:=s.toks+1 }) I.ns fun h' hn2 hs2=>?_
  obtain ⟨oD,esD,epD,hoD,hdD,hcD⟩:=hn2.count (PySem.Within.cons name v hw)
  refine wpAny_bind (wpAny_lookBehind hoD (by rw [hdD];exact pastItsLine_dict (Nat.le_trans hcD (by rw [List.length_cons];omega))) ?_)
  exact wpAny_pure (h _ ⟨(hs2.2 _ (Ne.symm I.ne)).trans I.obj,hn2,I.ne⟩ hs2)
theorem B8 {R:Result→Shared→Prop} {vs:List Value} {kw:List (Str×Value)} (X:K.In s.heap) (hm:PySem.W.makesIn K C=true)
    (hi:PySem.W.findIn K (.ref C) "__init__" = some (some (.ref f))) (hf:PySem.W.typeIn K (.ref f)=some (.type "function"))
    (h:codeAny (model prog w) (A.under (.builtin "type.__call__" ⟨.ref C::vs,kw⟩)) (.call (.ref f) ⟨.ref (s.heap.objs.size+1)::vs,kw⟩) (PySem.W.InitBack (s.heap.objs.size+1) R)
      { s with heap:=(s.heap.push PySem.W.emptyDict).push (PySem.W.instObj C s.heap.objs.size) }) :
    codeAny (model prog w) A (.call (.ref C) ⟨vs,kw⟩) R s:=by
  obtain ⟨hh,g,d,t,os⟩:=s
  exact PySem.W.make_core (PySem.W.makes_of X hm) (PySem.W.looks_findIn X hi) (fun self=>PySem.W.bind_fn X self hf) (.inl rfl) h
end
def br (f:Str) (v:V):List (Str×V)→List (Str×V)
  | []=>[(f,v)]
  | (g,x)::r=>if g=f then (g,v)::r else (g,x)::br f v r
theorem iA (f g:Str) (v:V):∀ fs:List (Str×V),(br f v fs).lookup g=if g=f then some v else fs.lookup g
  | []=>by
    show List.lookup g [(f,v)]=_
    by_cases h:g=f
    · have hb:(g == f)=true:=beq_iff_eq.mpr h
      simp only [List.lookup,hb,if_pos h]
    · have hb:(g == f)=false:=beq_eq_false_iff_ne.mpr h
      simp only [List.lookup,hb,if_neg h]
  | (k,x)::r=>by
    have ih:=iA f g v r
    rw [show br f v ((k,x)::r)=(if k=f then (k,v)::r else (k,x)::br f v r) from rfl]
    by_cases hk:k=f
    · rw [if_pos hk]
      by_cases h:g=k
      · have hb:(g == k)=true:=beq_iff_eq.mpr h
        simp only [List.lookup,hb,if_pos (h.trans hk)]
      · have hb:(g == k)=false:=beq_eq_false_iff_ne.mpr h
        simp only [List.lookup,hb,if_neg (fun e:g=f=>h (e.trans hk.symm))]
    · rw [if_neg hk]
      by_cases h:g=k
      · have hb:(g == k)=true:=beq_iff_eq.mpr h
        simp only [List.lookup,hb,if_neg (fun e:g=f=>hk (h.symm.trans e))]
      · have hb:(g == k)=false:=beq_eq_false_iff_ne.mpr h
        simp only [List.lookup,hb]
        exact ih
theorem fX (f:Str) (v:V):∀ fs:List (Str×V),f∈(br f v fs).map (·.1)∧∀ g,g∈fs.map (·.1)→g∈(br f v fs).map (·.1)
  | []=>⟨by simp [br],fun g h=>by simp at h⟩
  | (k,x)::r=>by
    obtain ⟨i1,i2⟩:=fX f v r
    rw [show br f v ((k,x)::r)=(if k=f then (k,v)::r else (k,x)::br f v r) from rfl]
    by_cases hk:k=f
    · rw [if_pos hk]
      subst hk
      exact ⟨by simp,fun g h=>by simpa using h⟩
    · rw [if_neg hk]
      refine ⟨?_,fun g h=>?_⟩
      · rw [List.map_cons]
        exact List.mem_cons_of_mem _ i1
      · rw [List.map_cons] at h ⊢
        rcases List.mem_cons.mp h with e | e
        · exact List.mem_cons.mpr (.inl e)
        · exact List.mem_cons_of_mem _ (i2 g e)
theorem kN (f:Str) (v:V):∀ fs:List (Str×V),(br f v fs).length≤fs.length+1
  | []=>by simp [br]
  | (k,x)::r=>by
    have ih:=kN f v r
    rw [show br f v ((k,x)::r)=(if k=f then (k,v)::r else (k,x)::br f v r) from rfl]
    by_cases hk:k=f
    · rw [if_pos hk,List.length_cons,List.length_cons];omega
    · rw [if_neg hk,List.length_cons,List.length_cons];omega
theorem kD.some_of {v:V} {o:Option Value} (r:kD (some v) o):∃ u,o=some u∧RelV v u:=by
  cases o with
  | none=>exact (show False from r).elim
  | some u=>exact ⟨u,rfl,r⟩
theorem kD.none_of {o:Option Value} (r:kD none o):o=none:=by
  cases o with
  | none=>rfl
  | some u=>exact (show False from r).elim
theorem zF {v:V} {u:Value} (r:RelV v u):PySem.W.handedIn u=true:=by
  cases v with
  | non=>cases (show u=Value.none from r);rfl
  | bl b=>cases (show u=Value.bool b from r);rfl
  | int i=>obtain ⟨t,e⟩:=(show ∃ t,u=Value.int i t from r);cases e;rfl
  | str x=>obtain ⟨t,e⟩:=(show ∃ t,u=Value.str x t from r);cases e;rfl
  | byt b=>obtain ⟨t,e⟩:=(show ∃ t,u=Value.bytes b t from r);cases e;rfl
  | flt b=>obtain ⟨t,e⟩:=(show ∃ t,u=Value.float b t from r);cases e;rfl
  | ref a=>cases (show u=Value.ref a from r);rfl
  | ty n=>cases (show u=Value.type n from r);rfl
section
variable {P:Program} {w:World} {H H':Hp} {h h':Heap} {a C dx:Addr} {fs fs':List (Str×V)}
theorem jH (hok:HOk P w H h) (e:H a=some (.ins C dx fs)):∃ mA,vU h a dx C mA∧(∀ f,kD (fs.lookup f) (mA f))∧PySem.Within mA (fs.map (·.1))∧fs.length≤1000∧H dx=some (.own a):=by
  obtain ⟨d,z,ne,ob,mA,n,r,q⟩:=(show bU P w H h a (.ins C dx fs) from hok a _ e)
  exact ⟨mA,⟨ob,n,ne⟩,r,q,z,d⟩
end
structure Cls (K:PySem.W.Frag) (C:Addr):Prop where
  pg:PySem.W.plainGet K C Str.empty=true
  hd:PySem.W.hasDictIn K C=true
  po:PySem.W.plainOver K C=true
  sa:PySem.W.findIn K (.ref C) "__setattr__" = some (some (.builtin "object.__setattr__"))
theorem Cls.get {K:PySem.W.Frag} {C:Addr} (c:Cls K C) (f:Str):PySem.W.plainGet K C f=true:=c.pg
def aY (K:PySem.W.Frag) (C:Addr) (f:Str):Prop:=PySem.W.findIn K (.ref C) f=some none
theorem aY.JS {K:PySem.W.Frag} {C:Addr} {f:Str} (n:aY K C f):PySem.W.takerIn K C f=some none:=by
  unfold PySem.W.takerIn
  rw [show PySem.W.findIn K (.ref C) f=some none from n]
  rfl
structure Con (K:PySem.W.Frag) (C:Addr) (f:Str) (v:V) (u:Value):Prop where
  at_:PySem.W.findIn K (.ref C) f=some (some u)
  rel:RelV v u
  get:PySem.W.specialIn K u "__get__" = some none
  cp:PySem.W.copiedNames.contains f=false
structure Meth (K:PySem.W.Frag) (C:Addr) (m:Str) (f:Addr):Prop where
  at_:PySem.W.findIn K (.ref C) m=some (some (.ref f))
  fn:PySem.W.isFn K (.ref f)=true
  kp:PySem.W.keepIn K (.ref f)=true
section
variable {X:Cx} {pins:List (Addr×Obj)} {σ : St} {H:Hp} {s:Shared} {a C dx:Addr} {fs:List (Str×V)} {f:Str} {v:V} {A:Around} {E:Value→Shared→Prop}
theorem vq {b:Bool} {Q:Value→Shared→Prop} (I:Inv X pins σ H s) (e:H a=some (.ins C dx fs)) (c:Cls X.K C) (n:aY X.K C f) (l:fs.lookup f=some v)
    (h:∀ u s',Inv X pins σ H s'→RelV v u→Q u s'):wpAny (model X.prog X.w) A (getAttr (.ref a) f b) Q E s:=by
  obtain ⟨mA,O,r,_,_,_⟩:=jH I.hok e
  obtain ⟨u,hu,ru⟩:=kD.some_of (v:=v) (o:=mA f) (by rw [← l];exact r f)
  exact get_map I.kIn O (c.get f) c.hd n hu (zF ru) (h u _ (I.tok _) ru)
theorem gz {m:Str} {g:Addr} {pl:Sem Bool} {Q:Value×List Value→Shared→Prop} (I:Inv X pins σ H s) (e:H a=some (.ins C dx fs)) (c:Cls X.K C) (k:Meth X.K C m g) (l:fs.lookup m=none)
    (h:Q (.ref g,[.ref a]) s):wpAny (model X.prog X.w) A (getMethod (.ref a) m pl) Q E s:=by
  obtain ⟨mA,O,r,_,_,_⟩:=jH I.hok e
  have hn:mA m=none:=kD.none_of (by rw [← l];exact r m)
  exact Cm I.kIn O (c.get m) k.at_ k.fn hn h
theorem uA {y:V} {u:Value} {Q:Unit→Shared→Prop} (I:Inv X pins σ H s) (e:H a=some (.ins C dx fs)) (c:Cls X.K C) (n:aY X.K C f) (hl:fs.length < 1000) (ry:RelV y u)
    (h:∀ s',Inv X pins σ (upd H a (.ins C dx (br f y fs))) s'→Q () s'):wpAny (model X.prog X.w) A (setAttr (.ref a) f u) Q E s:=by
  obtain ⟨mA,O,r,wi,_,ho⟩:=jH I.hok e
  have hz:(fs.map (·.1)).length≤sizeLine:=by rw [List.length_map,sizeLine_eq];omega
  refine DJ I.kIn O c.sa c.po n.JS c.hd wi hz fun h' O' sb=>h _ ?_
  have hd:∃ o,h'.get? dx=some o:=let ⟨o,_,_,e',_⟩:=O'.ns;⟨o,e'⟩
  refine I.write (x:=a) (e:=dx) (by rw [e];exact True.intro) (.inr ho) (fun b q hb z=>(sb.2 b hb).trans z) hd ?_
  refine ⟨by rw [az O.ne];exact ho,?_,O.ne,O'.obj,_,O'.ns,fun g=>?_,fun g hg=>?_⟩
  · have:=kN f y fs;omega
  · show kD ((br f y fs).lookup g) (if g=f then some u else mA g)
    rw [iA]
    by_cases q:g=f
    · rw [if_pos q,if_pos q];exact ry
    · rw [if_neg q,if_neg q];exact r g
  · by_cases q:g=f
    · rw [q];exact (fX f y fs).1
    · refine (fX f y fs).2 g (wi g fun z=>hg ?_)
      show (if g=f then some u else mA g)=none
      rw [if_neg q];exact z
theorem Inv.made (I:Inv X pins σ H s):Inv X pins σ (upd (upd H s.heap.objs.size (.own (s.heap.objs.size+1))) (s.heap.objs.size+1) (.ins C s.heap.objs.size []))
    { s with heap:=(s.heap.push PySem.W.emptyDict).push (PySem.W.instObj C s.heap.objs.size) }:=by
  have e1:(s.heap.push PySem.W.emptyDict).get? s.heap.objs.size=some PySem.W.emptyDict:=Heap.get?_push_size s.heap rfl
  have e2:((s.heap.push PySem.W.emptyDict).push (PySem.W.instObj C s.heap.objs.size)).get? (s.heap.objs.size+1)=some (PySem.W.instObj C s.heap.objs.size):=by
    have:=Heap.get?_push_size (s.heap.push PySem.W.emptyDict) (o:=PySem.W.instObj C s.heap.objs.size) rfl
    rwa [Heap.size_push] at this
  have e3:(s.heap.push PySem.W.emptyDict).Ns s.heap.objs.size (fun _=>none):=⟨PySem.W.emptyDict,#[],_,e1,rfl,(fun e he=>absurd he (by simp)),fun _=>rfl⟩
  have I1:=I.laid (a:=s.heap.objs.size) (o:=.own (s.heap.objs.size+1)) (h':=s.heap.push PySem.W.emptyDict) (t':=s.toks) (fun b u q=>Heap.get?_push_of_some _ q) (Nat.le_refl _) ⟨_,e1⟩
  refine I1.laid (a:=s.heap.objs.size+1) (o:=.ins C s.heap.objs.size []) (t':=s.toks) (fun b u q=>Heap.get?_push_of_some _ q) (Nat.le_of_eq (Heap.size_push _ _)) ?_
  have ne:s.heap.objs.size≠s.heap.objs.size+1:=Nat.ne_of_lt (Nat.lt_succ_self _)
  refine ⟨by rw [az ne,aB],Nat.zero_le _,ne,e2,fun _=>none,(Heap.Ns1.of_empty e3).at fun o q=>Heap.get?_push_of_some _ q,fun _=>True.intro,fun y hy=>absurd rfl hy⟩
theorem FN {prog:Program} {w:World} {env:Env} {e:Expr} {f:Str} {pos:Pos} {s:Shared} {Q:Value→Shared→Prop} (hb:attributeBase e f env (eval e env)=eval e env)
    (h:wpAny (model prog w) A (eval e env) (fun o s₁=>wpAny (model prog w) A (getAttr o f true) Q E s₁) E s):wpAny (model prog w) A (eval (.Attribute e f pos) env) Q E s:=
  Attribute_any_ h (by rw [arm_eval_Attribute,hb])
end
def JZ (K:PySem.W.Frag) (ta:TE) (f:Str):TE:=fun σ H Q=>ta σ H fun x H1=>∃ a C dx fs v,x = .ref a∧H1 a=some (.ins C dx fs)∧Cls K C∧aY K C f∧fs.lookup f=some v∧Q v H1
def Kf (K:PySem.W.Frag) (ta tv:TE) (f:Str):TS:=fun D σ H=>tv σ H fun y H1=>ta σ H1 fun x H2=>∃ a C dx fs,x = .ref a∧H2 a=some (.ins C dx fs)∧Cls K C∧aY K C f∧fs.length < 1000 ∧
  D.nx σ (upd H2 a (.ins C dx (br f y fs)))
section
variable {X:Cx} {o e value:Expr} {f:Str} {pos pos' tpos:Pos} {ta tv:TE}
theorem bw (he:PE X e ta) (hb:attributeBase e f X.env (eval e X.env)=eval e X.env):PE X (.Attribute e f pos) (JZ X.K ta f):=by
  intro pins s σ H Q I h
  refine FN hb (thn (he pins s σ H _ I h) fun u s1 ⟨x,H1,I1,rx,a,C,dx,fs,v,ex,ea,c,n,l,q⟩=>?_)
  subst ex
  obtain rfl:u=Value.ref a:=rx
  exact vq I1 ea c n l fun u' s2 I2 ru=>⟨v,H1,I2,ru,q⟩
theorem cP (ha:PE X o ta) (hv:PE X value tv) (hs:swapsWith value (some (.Attribute o f pos')) pos.line X.env=pure false):PS X (.Assign [.Attribute o f pos'] value pos) (Kf X.K ta tv f):=by
  intro pins s σ H D I h
  refine plainObj_wpAny_Assign_Attribute (thn (hv pins s σ H _ I h) fun u s1 ⟨y,H1,I1,ry,q⟩=>thn (ha pins s1 σ H1 _ I1 q) fun ov s2 ⟨x,H2,I2,rx,a,C,dx,fs,ex,ea,c,n,l,q2⟩=>?_) hs
  subst ex
  obtain rfl:ov=Value.ref a:=rx
  exact uA I2 ea c n l ry fun s3 I3=>⟨σ,_,I3,q2⟩
end
section
variable {X:Cx} {pins:List (Addr×Obj)} {σ : St} {H:Hp} {s:Shared} {A:Around} {E:Value→Shared→Prop} {Q:Value→Shared→Prop} {c:Value} {b:Bool}
inductive iZ (K:PySem.W.Frag) (H:Hp):V→Value→Prop where
  | non:iZ K H .non (.type "NoneType")
  | bl (x:Bool):iZ K H (.bl x) (.type "bool")
  | int (i:Int):iZ K H (.int i) (.type "int")
  | str (x:Str):iZ K H (.str x) (.type "str")
  | flt (x:UInt64):iZ K H (.flt x) (.type "float")
  | lst {a:Addr} {xs:List V} (e:H a=some (.lst xs)):iZ K H (.ref a) (.type "list")
  | frz {a:Addr} {o:Obj} {xs:List V} (e:H a=some (.frz o (.lst xs))):iZ K H (.ref a) (.type "list")
  | tup {a:Addr} {xs:List V} (e:H a=some (.tup xs)):iZ K H (.ref a) (.type "tuple")
  | dK {a:Addr} {kvs:List (Key×V)} (e:H a=some (.dK kvs)):iZ K H (.ref a) (.type "dict")
  | dT {a:Addr} {kvs:List (List Key×V)} (e:H a=some (.dT kvs)):iZ K H (.ref a) (.type "dict")
  | ins {a C dx:Addr} {fs:List (Str×V)} (e:H a=some (.ins C dx fs)) (cl:Cls K C) (ha:PySem.W.findIn K (.ref C) "__class__" = some (some (.builtin "object.__class__")))
      (hn:PySem.W.specialIn K (.builtin "object.__class__") "__get__" = some (some (.builtin "getset_descriptor.__get__"))) (htk:PySem.W.takesIn K (.builtin "object.__class__")=some true)
      (hm:PySem.W.mroIn K C (.type "object")=some true):iZ K H (.ref a) (.ref C)
theorem oq {x:V} {u t:Value} (I:Inv X pins σ H s) (rx:RelV x u) (ty:iZ X.K H x t) (e:PySem.W.kitOne X.K t c=some b) (h:∀ tk,Q (.bool b) { s with toks:=tk }) :
    wpAny (model X.prog X.w) A (call (.builtin "isinstance") [u,c]) Q E s:=by
  cases ty with
  | non=>cases (show u=Value.none from rx);exact PySem.W.kia_one PySem.W.kitx_none I.kIn True.intro e (fun z=>nomatch z) h
  | bl y=>cases (show u=Value.bool y from rx);exact PySem.W.kia_one PySem.W.kitx_bool I.kIn True.intro e (fun z=>nomatch z) h
  | int i=>obtain ⟨t,q⟩:=(show ∃ t,u=Value.int i t from rx);cases q;exact PySem.W.kia_one PySem.W.kitx_int I.kIn True.intro e (fun z=>nomatch z) h
  | str y=>obtain ⟨t,q⟩:=(show ∃ t,u=Value.str y t from rx);cases q;exact PySem.W.kia_one PySem.W.kitx_str I.kIn True.intro e (fun z=>nomatch z) h
  | flt y=>obtain ⟨t,q⟩:=(show ∃ t,u=Value.float y t from rx);cases q;exact PySem.W.kia_one PySem.W.kitx_float I.kIn True.intro e (fun z=>nomatch z) h
  | @lst a xs ea=>
    cases (show u=Value.ref a from rx)
    obtain ⟨_,_,n,_,h1⟩:=(show bU X.prog X.w H s.heap a (.lst xs) from I.hok a _ ea)
    exact PySem.W.kia_one PySem.W.kitx_list I.kIn ⟨_,h1,rfl⟩ e (fun z=>nomatch z) h
  | @frz a ob xs ea=>
    cases (show u=Value.ref a from rx)
    obtain ⟨_,_,_,n,_,h1⟩:=(show bU X.prog X.w H s.heap a (.frz ob (.lst xs)) from I.hok a _ ea)
    exact PySem.W.kia_one PySem.W.kitx_list I.kIn ⟨_,h1,rfl⟩ e (fun z=>nomatch z) h
  | @tup a xs ea=>
    cases (show u=Value.ref a from rx)
    obtain ⟨_,_,_,p⟩:=(show bU X.prog X.w H s.heap a (.tup xs) from I.hok a _ ea)
    obtain ⟨o,h1,h2,_⟩:=p
    exact PySem.W.kia_one PySem.W.kitx_tuple I.kIn ⟨o,h1,h2⟩ e (fun z=>nomatch z) h
  | @dK a kvs ea=>
    cases (show u=Value.ref a from rx)
    obtain ⟨_,_,vs,_,p⟩:=(show bU X.prog X.w H s.heap a (.dK kvs) from I.hok a _ ea)
    obtain ⟨o,es,ep,h1,h2,_⟩:=p
    exact PySem.W.kia_one PySem.W.kitx_dict I.kIn ⟨o,h1,h2.1⟩ e (fun z=>nomatch z) h
  | @dT a kvs ea=>
    cases (show u=Value.ref a from rx)
    obtain ⟨_,_,xs,_,o,es,ep,h1,h2,_⟩:=(show bU X.prog X.w H s.heap a (.dT kvs) from I.hok a _ ea)
    exact PySem.W.kia_one PySem.W.kitx_dict I.kIn ⟨o,h1,h2.1⟩ e (fun z=>nomatch z) h
  | @ins a C dx fs ea cl ha hn htk hm=>
    cases (show u=Value.ref a from rx)
    obtain ⟨mA,O,_⟩:=jH I.hok ea
    obtain ⟨od,J,_⟩:=O.look
    exact PySem.W.kia_one (PySem.W.kitx_own (cl.get _) cl.hd ha hn htk hm) I.kIn J e (fun z=>nomatch z) h
end
structure bX (k:Nat) (A:Around):Prop where
  hd:A.handled=none
  dp:A.depth+3 * k+5 < recursionLimit
  un:A.units+16 * k+200 < cLine
theorem bX.mono {j k:Nat} {A:Around} (r:bX k A) (h:j≤k):bX j A:=⟨r.hd,by have:=r.dp;omega,by have:=r.un;omega⟩
theorem bX.deeper {k:Nat} {A:Around} (r:bX (k+1) A) (env:Env):bX k (A.deeper env):=
  ⟨r.hd,by have:=r.dp;show A.depth+1+3 * k+5 < _;omega,by have:=r.un;show A.units+3+16 * k+200 < _;omega⟩
theorem vm {A:Around} {C:Addr} {us:List Value} {kw:List (Str×Value)}:(A.under (.builtin "type.__call__" ⟨.ref C::us,kw⟩)).depth=A.depth+1:=by
  first | rfl | simp [Around.under,Code.weight,Code.isCreation,Code.isGuard,Code.isCaller,Code.frames,Code.isFrame,guardIds]
theorem vh {A:Around} {C:Addr} {us:List Value} {kw:List (Str×Value)}:(A.under (.builtin "type.__call__" ⟨.ref C::us,kw⟩)).units=A.units+1:=by
  first | rfl | simp [Around.under,Code.cUnits,Code.frames,Code.isFrame]
theorem bX.make {k:Nat} {A:Around} (r:bX (k+1) A) (C:Addr) (us:List Value) (kw:List (Str×Value)):bX k (A.under (.builtin "type.__call__" ⟨.ref C::us,kw⟩)):=
  ⟨r.hd,by have:=r.dp;rw [vm];omega,by have:=r.un;rw [vh];omega⟩
theorem bX.depth {k:Nat} {A:Around} (r:bX k A):A.depth < recursionLimit:=by have:=r.dp;omega
theorem bX.units {k:Nat} {A:Around} (r:bX k A):A.units+64 < cLine:=by have:=r.un;omega
def qW:TA:=fun _ H Q=>Q [] H
def kK (ta:TE) (tr:TA):TA:=fun σ H Q=>ta σ H fun x H1=>tr σ H1 fun xs H2=>Q (x::xs) H2
section
variable {X:Cx} {e:Expr} {es:List Expr} {te:TE} {t:TA} {pos:Pos}
theorem af:PA X [] qW:=fun _ _ _ _ H Q I h=>Calls.spliced_nil ⟨[],H,I,.nil,h⟩
theorem aa (ha:PE X e te) (hr:PA X es t) (hs:starEach (e::es) X.env=(false,eval e X.env)::starEach es X.env:=by rfl):PA X (e::es) (kK te t):=by
  intro pos pins s σ H Q I h
  rw [hs]
  show wpAny _ _ (spliced ((false,eval e X.env)::backTo pos (starEach es X.env))) _ _ s
  refine Calls.spliced_cons (thn (ha pins s σ H _ I h) fun u s1 ⟨x,H1,I1,r1,q1⟩=>?_)
  exact thn (hr pos pins s1 σ H1 _ I1 q1) fun us s2 ⟨xs,H2,I2,r2,q2⟩=>⟨x::xs,H2,I2,.cons r1 r2,q2⟩
def Dw (t:TA):TE:=fun σ H Q=>t σ H fun xs H1=>xs.length≤sizeLine∧∀ p,H1 p=none→Q (.ref p) (upd H1 p (.tup xs))
def JV (t:TA):TE:=fun σ H Q=>t σ H fun xs H1=>xs.length≤sizeLine∧∀ p,H1 p=none→Q (.ref p) (upd H1 p (.lst xs))
theorem aS {x1} (h:PA X es t):PE X (.Tuple es x1 pos) (Dw t):=by
  intro pins s σ H Q I hq
  refine wpAny_Tuple_spliced (thn (h pos pins s σ H _ I hq) fun us s1 ⟨xs,H1,I1,r,z,q⟩=>⟨by rw [← r.length];exact z,?_⟩)
  have hf:H1 s1.heap.objs.size=none:=I1.hok.fresh (Nat.le_refl _)
  refine ⟨.ref s1.heap.objs.size,upd H1 s1.heap.objs.size (.tup xs),I1.laid (t':=s1.toks) (fun b u e=>Heap.get?_push_of_some _ e) (Nat.le_refl _) ?_,rfl,q _ hf⟩
  exact ⟨z,us,r,⟨_,Heap.get?_push_size _ rfl,rfl,_,rfl⟩⟩
theorem b9 (h:PA X es t):PE X (.List es pos) (JV t):=by
  intro pins s σ H Q I hq
  refine wpAny_List_spliced (thn (h pos pins s σ H _ I hq) fun us s1 ⟨xs,H1,I1,r,z,q⟩=>⟨by rw [← r.length];exact z,?_⟩)
  have hf:H1 s1.heap.objs.size=none:=I1.hok.fresh (Nat.le_refl _)
  refine ⟨.ref s1.heap.objs.size,upd H1 s1.heap.objs.size (.lst xs),I1.laid (t':=s1.toks) (fun b u e=>Heap.get?_push_of_some _ e) (Nat.le_refl _) ?_,rfl,q _ hf⟩
  exact ⟨z,us,0,r,Heap.get?_push_size _ rfl⟩
end
abbrev Sp:=List V→Hp→VK→XK→Prop
abbrev CXT:=List Env→Hp→Shared→XK→Value→Shared→Prop
structure tS (P:Program) (w:World) (K:PySem.W.Frag) (mg:Str→Option Value) (base:Heap) (A:Around) (outer:List Env) (s:Shared) (H:Hp):Prop where
  frames:A.frames=some outer
  mod:Mod K mg base
  bs:∀ b o,base.get? b=some o→s.heap.get? b=some o∧H b=none
  bsz:base.objs.size≤s.heap.objs.size
  jg:s.heap.FunFrames base outer
  frf:∀ b∈frs outer,H b=none
  hok:HOk P w H s.heap
  bare:AllBare s.gens
def CE (outer:List Env) (P:Program) (w:World) (H:Hp) (s:Shared) (Q:VK) (u:Value) (s':Shared):Prop:=
  ∃ v H',s'.os=s.os∧AllBare s'.gens∧Un (frs outer) [] H H' s.heap s'.heap∧HOk P w H' s'.heap∧RelV v u∧Q v H'
def CR (CX:CXT) (outer:List Env) (P:Program) (w:World) (H:Hp) (s:Shared) (Q:VK) (E:XK) (r:Result) (s':Shared):Prop:=
  match r with
  | .ok (.ret u)=>CE outer P w H s Q u s'
  | .ok _=>False
  | .error e=>CX outer H s E e s'
structure fF (P:Program) (w:World) (K:PySem.W.Frag) (mg:Str→Option Value) (base:Heap) (CX:CXT) (k:Nat) (f:Addr) (fd:FuncData) (ps:List Str) (sp:Sp):Prop where
  len:∀ vs H Q E,sp vs H Q E→vs.length=ps.length
  run:∀ (A:Around) (outer:List Env) (s:Shared) (H:Hp) (args:Args) (us:List Value) (vs:List V) (Q:VK) (E:XK),bX k A→tS P w K mg base A outer s H→BindsTo s fd args (ps.zip us)→Vals vs us→sp vs H Q E →
    codeAny (model P w) A (.call (.ref f) args) (CR CX outer P w H s Q E) s
theorem fF.imp {P:Program} {w:World} {K:PySem.W.Frag} {mg:Str→Option Value} {base:Heap} {CX:CXT} {k:Nat} {f:Addr} {fd:FuncData} {ps:List Str} {sp sp':Sp} (F:fF P w K mg base CX k f fd ps sp)
    (h:∀ vs H Q E,sp' vs H Q E→sp vs H Q E):fF P w K mg base CX k f fd ps sp':=
  ⟨fun vs H Q E q=>F.len vs H Q E (h _ _ _ _ q),fun A outer s H args us vs Q E hr he hb hv hs=>F.run A outer s H args us vs Q E hr he hb hv (h _ _ _ _ hs)⟩
theorem tS.make {P:Program} {w:World} {K:PySem.W.Frag} {mg:Str→Option Value} {base:Heap} {A:Around} {outer:List Env} {s:Shared} {H:Hp} (e:tS P w K mg base A outer s H) (C:Addr) (us:List Value) (kw:List (Str×Value)) :
    tS P w K mg base (A.under (.builtin "type.__call__" ⟨.ref C::us,kw⟩)) outer s H:=⟨by first | exact e.frames | (simpa [Around.under,Code.envs,Code.isFrame,pushEnvs] using e.frames),e.mod,e.bs,e.bsz,e.jg,e.frf,e.hok,e.bare⟩
section
variable {X:Cx} {pins:List (Addr×Obj)} {σ : St} {H:Hp} {s s':Shared}
theorem Inv.Fx (I:Inv X pins σ H s):tS X.prog X.w X.K X.mg X.base X.A X.stack s H:=
  ⟨I.ok.frames,I.ok.mod,I.bs,Nat.le_trans I.ok.bsz I.sz,I.stack,I.o5,I.hok,I.bare⟩
theorem Inv.after {Q:VK} {u:Value} (I:Inv X pins σ H s) (h:CE X.stack X.prog X.w H s Q u s'):EP X pins σ Q u s':=by
  obtain ⟨v,H',os,bare,un,hok,r,q⟩:=h
  obtain ⟨hh,g,d,t,os'⟩:=s'
  obtain rfl:os'=s.os:=os
  exact ⟨v,H',I.call (h':=hh) (g':=g) (d':=d) (t':=t) (ch:=[]) un hok bare (fun b z=>absurd z (by simp)),r,q⟩
end
def Ay (sp:Sp) (dvs:List V) (E:XK) (t:TA):TE:=fun σ H Q=>t σ H fun vs H1=>sp (vs++dvs) H1 Q E
def qX (C:Addr) (m:Str) (sp:Sp) (dvs:List V) (E:XK) (ta:TE) (t:TA):TE:=fun σ H Q=>ta σ H fun x H1=>∃ a dx fs,x = .ref a∧H1 a=some (.ins C dx fs)∧fs.lookup m=none ∧
  t σ H1 fun vs H2=>sp (x::(vs++dvs)) H2 Q E
def qY (C:Addr) (sp:Sp) (dvs:List V) (E:XK) (t:TA):TE:=fun σ H Q=>t σ H fun vs H1=>∀ x dx,H1 x=none→H1 dx=none→dx≠x →
  sp (.ref x::(vs++dvs)) (upd (upd H1 dx (.own x)) x (.ins C dx [])) (fun v H2=>v = .non∧Q (.ref x) H2) E
def Binds (K:PySem.W.Frag) (fd:FuncData) (ps:List Str) (ds:List Value):Prop:=
  ∀ (s:Shared) (us:List Value),K.In s.heap→(us++ds).length=ps.length→BindsTo s fd ⟨us,[]⟩ (ps.zip (us++ds))
theorem Binds.all {K:PySem.W.Frag} {fd:FuncData} {ps:List Str} (h:∀ us:List Value,us.length=ps.length→bindArgs fd ⟨us,[]⟩=pure (ps.zip us)):Binds K fd ps []:=fun s us _ hl=>by
  rw [List.append_nil] at hl ⊢
  exact .of_eq (h us hl)
def Passes (CX:CXT) (X:Cx) (E:XK):Prop:=∀ (pins:List (Addr×Obj)) (σ : St) (H:Hp) (s:Shared) (e:Value) (s':Shared),Inv X pins σ H s→CX X.stack H s E e s'→X.xe e s'
section
variable {X:Cx} {CX:CXT} {k:Nat} {f C:Addr} {fd:FuncData} {ps:List Str} {sp:Sp} {dvs:List V} {ds:List Value} {E:XK} {x m:Str} {p pos apos:Pos} {e o:Expr} {es:List Expr} {ta:TE} {t:TA}
theorem uK {pins:List (Addr×Obj)} {σ : St} {H:Hp} {s:Shared} {Q:VK} {us:List Value} {vs:List V} (F:fF X.prog X.w X.K X.mg X.base CX k f fd ps sp) (hr:bX k X.A) (hb:Binds X.K fd ps ds) (hd:Vals dvs ds) (hx:Passes CX X E)
    (I:Inv X pins σ H s) (r:Vals vs us) (h:sp (vs++dvs) H Q E):wpAny (model X.prog X.w) X.A (call (.ref f) us) (EP X pins σ Q) X.xe s:=by
  have r2:Vals (vs++dvs) (us++ds):=r.append hd
  have hl:(us++ds).length=ps.length:=by rw [← r2.length];exact F.len _ _ _ _ h
  refine wpAny_call (codeAny_mono (F.run X.A X.stack s H ⟨us,[]⟩ (us++ds) (vs++dvs) Q E hr I.Fx (hb s us I.kIn hl) r2 h) fun r s' hq=>?_)
  cases r with
  | error e=>exact hx pins σ H s e s' I hq
  | ok fl=>
    cases fl with
    | ret u=>exact I.after hq
    | next=>exact False.elim hq
    | brk=>exact False.elim hq
    | cont=>exact False.elim hq
theorem Eg (F:fF X.prog X.w X.K X.mg X.base CX k f fd ps sp) (hr:bX k X.A) (hg:Gl X x) (hm:X.mg x=some (.ref f)) (hk:PySem.W.keepIn X.K (.ref f)=true) (hb:Binds X.K fd ps ds) (hd:Vals dvs ds) (hx:Passes CX X E)
    (ha:PA X (e::es) t) (hdb:(x == ("__debug__" : Str))=false:=by decide) (he:starEach (e::es) X.env=(false,eval e X.env)::starEach es X.env:=by rfl) (hpl:(backTo pos (starEach es X.env)).any (·.1)=false:=by rfl) :
    PE X (.Call (.Name x p) (e::es) [] pos) (Ay sp dvs E t):=by
  intro pins s σ H Q I h
  refine wpAny_Call_Name_kw (fK I hg hm ?_ hdb)
  refine PySem.W.callWith_K (h₀:=X.base) I.ok.mod.kin hk (thn (ha pos pins s σ H _ I h) fun us s1 ⟨vs,H1,I1,r,q⟩=>⟨I1.kIn,?_⟩) he hpl
  exact uK F hr hb hd hx I1 r q
theorem Eb {pl:Sem Bool} (he:PE X o ta) (c:Cls X.K C) (hm:Meth X.K C m f) (F:fF X.prog X.w X.K X.mg X.base CX k f fd ps sp) (hr:bX k X.A) (hb:Binds X.K fd ps ds) (hd:Vals dvs ds) (hx:Passes CX X E) (ha:PA X (e::es) t)
    (hst:starEach (e::es) X.env=(false,eval e X.env)::starEach es X.env:=by rfl) (hpl:(backTo pos (starEach es X.env)).any (·.1)=false:=by rfl)
    (ht:eval (.Call (.Attribute o m apos) (e::es) [] pos) X.env=(do
      let ov ← eval o X.env
      standAt apos.atName
      let (f,first) ← holding [ov] (getMethod ov m pl)
      callWith pos f first (backTo pos (starEach (e::es) X.env)) (backToKw pos (keywordEach [] X.env))):=by rfl) :
    PE X (.Call (.Attribute o m apos) (e::es) [] pos) (qX C m sp dvs E ta t):=by
  intro pins s σ H Q I h
  refine PySem.W.methodCall_KW (pl:=pl) (thn (he pins s σ H _ I h) fun u s1 ⟨x,H1,I1,rx,a,dx,fs,ex,ea,l,q⟩=>?_) ht
  subst ex
  obtain rfl:u=Value.ref a:=rx
  refine gz I1 ea c hm l ?_
  refine PySem.W.callWith_K (first:=[.ref a]) (h₀:=X.base) I.ok.mod.kin hm.kp (thn (ha pos pins s1 σ H1 _ I1 q) fun us s2 ⟨vs,H2,I2,r,q2⟩=>⟨I2.kIn,?_⟩) hst hpl
  exact uK (us:=.ref a::us) (vs:=.ref a::vs) F hr hb hd hx I2 (.cons rfl r) q2
theorem BA {pl:Sem Bool} (he:PE X o ta) (c:Cls X.K C) (hm:Meth X.K C m f) (F:fF X.prog X.w X.K X.mg X.base CX k f fd ps sp) (hr:bX k X.A) (hb:Binds X.K fd ps ds) (hd:Vals dvs ds) (hx:Passes CX X E)
    (ht:eval (.Call (.Attribute o m apos) [] [] pos) X.env=(do
      let ov ← eval o X.env
      standAt apos.atName
      let (f,first) ← holding [ov] (getMethod ov m pl)
      callWith pos f first (backTo pos (starEach [] X.env)) (backToKw pos (keywordEach [] X.env))):=by rfl) :
    PE X (.Call (.Attribute o m apos) [] [] pos) (qX C m sp dvs E ta qW):=by
  intro pins s σ H Q I h
  refine PySem.W.methodCall_KW (pl:=pl) (thn (he pins s σ H _ I h) fun u s1 ⟨x,H1,I1,rx,a,dx,fs,ex,ea,l,q⟩=>?_) ht
  subst ex
  obtain rfl:u=Value.ref a:=rx
  refine gz I1 ea c hm l ?_
  exact PySem.W.callWith_K0 (first:=[.ref a]) I1.kIn hm.kp (uK (us:=[.ref a]) (vs:=[.ref a]) F hr hb hd hx I1 (.cons rfl .nil) q)
structure Mk (K:PySem.W.Frag) (C f:Addr):Prop where
  makes:PySem.W.makesIn K C=true
  init:PySem.W.findIn K (.ref C) "__init__" = some (some (.ref f))
  fn:PySem.W.isFn K (.ref f)=true
  kp:PySem.W.keepIn K (.ref C)=true
theorem Bk {pins:List (Addr×Obj)} {σ : St} {H:Hp} {s:Shared} {Q:VK} {us:List Value} {vs:List V} (M:Mk X.K C f) (F:fF X.prog X.w X.K X.mg X.base CX k f fd ps sp) (hr:bX (k+1) X.A) (hb:Binds X.K fd ps ds) (hd:Vals dvs ds)
    (hx:Passes CX X E) (I:Inv X pins σ H s) (r:Vals vs us)
    (h:∀ x dx,H x=none→H dx=none→dx≠x→sp (.ref x::(vs++dvs)) (upd (upd H dx (.own x)) x (.ins C dx [])) (fun v H2=>v = .non∧Q (.ref x) H2) E) :
    wpAny (model X.prog X.w) X.A (call (.ref C) us) (EP X pins σ Q) X.xe s:=by
  have hq:=h (s.heap.objs.size+1) s.heap.objs.size (I.hok.fresh (Nat.le_succ _)) (I.hok.fresh (Nat.le_refl _)) (Nat.ne_of_lt (Nat.lt_succ_self _))
  have I2:=Inv.made (C:=C) I
  have r2:Vals (V.ref (s.heap.objs.size+1)::(vs++dvs)) (Value.ref (s.heap.objs.size+1)::(us++ds)):=.cons rfl (r.append hd)
  have hl:(Value.ref (s.heap.objs.size+1)::us++ds).length=ps.length:=by
    have e:=r2.length
    rw [F.len _ _ _ _ hq] at e
    exact e.symm
  refine wpAny_call (B8 (f:=f) I.kIn M.makes M.init (beq_iff_eq.mp M.fn) (codeAny_mono (F.run _ X.stack _ _ ⟨Value.ref (s.heap.objs.size+1)::us,[]⟩ (Value.ref (s.heap.objs.size+1)::(us++ds)) _ _ E (hr.make C us [])
    (I2.Fx.make C us []) (hb _ (Value.ref (s.heap.objs.size+1)::us) I2.kIn hl) r2 hq) fun r s' hq'=>?_))
  cases r with
  | error e=>exact hx pins σ _ _ e s' I2 hq'
  | ok fl=>
    cases fl with
    | ret u=>
      obtain ⟨v,H',I3,rv,ev,q3⟩:=I2.after hq'
      subst ev
      exact ⟨rv,⟨V.ref (s.heap.objs.size+1),H',I3,rfl,q3⟩⟩
    | next=>exact False.elim hq'
    | brk=>exact False.elim hq'
    | cont=>exact False.elim hq'
theorem xj (M:Mk X.K C f) (F:fF X.prog X.w X.K X.mg X.base CX k f fd ps sp) (hr:bX (k+1) X.A) (hg:Gl X x) (hm:X.mg x=some (.ref C)) (hb:Binds X.K fd ps ds) (hd:Vals dvs ds) (hx:Passes CX X E)
    (ha:PA X (e::es) t) (hdb:(x == ("__debug__" : Str))=false:=by decide) (he:starEach (e::es) X.env=(false,eval e X.env)::starEach es X.env:=by rfl) (hpl:(backTo pos (starEach es X.env)).any (·.1)=false:=by rfl) :
    PE X (.Call (.Name x p) (e::es) [] pos) (qY C sp dvs E t):=by
  intro pins s σ H Q I h
  refine wpAny_Call_Name_kw (fK I hg hm ?_ hdb)
  refine PySem.W.callWith_K (h₀:=X.base) I.ok.mod.kin M.kp (thn (ha pos pins s σ H _ I h) fun us s1 ⟨vs,H1,I1,r,q⟩=>⟨I1.kIn,?_⟩) he hpl
  exact Bk M F hr hb hd hx I1 r q
end
section
variable {X:Cx} {CX:CXT} {k:Nat} {f C:Addr} {fd:FuncData} {ps ks:List Str} {sp:Sp} {E:XK} {x m:Str} {p pos apos kpos:Pos} {e o:Expr} {es:List Expr} {kws:List Keyword} {te ta:TE} {t tk:TA} {nm:Option Str}
structure Mt (K:PySem.W.Frag) (fd:FuncData) (ps ks:List Str) (g:List Value→List Value→List Value) (gV:List V→List V→List V):Prop where
  to:∀ (s:Shared) (us ws:List Value),K.In s.heap→(g us ws).length=ps.length→BindsTo s fd ⟨us,ks.zip ws⟩ (ps.zip (g us ws))
  rel:∀ {vs:List V} {us:List Value} {zs:List V} {ws:List Value},Vals vs us→Vals zs ws→Vals (gV vs zs) (g us ws)
variable {g:List Value→List Value→List Value} {gV:List V→List V→List V}
end
structure ay (N P:List Str) (sc:Scope):Prop where
  kind:sc.kind = .function
  co:sc.isCoroutine=false
  gen:sc.isGenerator=false
  nd:N.Nodup
  pre:N.take P.length=P
  par:∀ x∈P,sc.names.lookup x=some .local∨sc.names.lookup x=some .cell
  nofree:∀ y∈sc.names,y.2≠.free
theorem oJ {kindOf:Str→Option NameKind} {x:Str}:∀ {binds:List (Str×Value)} {m:Str→Option Value},(∀ v,(x,v)∉binds)→bindL kindOf binds m x=m x
  | [],_,_=>rfl
  | (n,v)::r,m,h=>by
    unfold bindL
    rw [oJ fun w hw=>h w (List.mem_cons_of_mem _ hw)]
    split
    · have:x≠n:=by rintro rfl;exact h v List.mem_cons_self
      simp [this]
    · rfl
theorem oM {kindOf:Str→Option NameKind} {x:Str}:∀ {binds:List (Str×Value)} {m:Str→Option Value},(∀ v,(x,v)∉binds)→bindC kindOf binds m x=m x
  | [],_,_=>rfl
  | (n,v)::r,m,h=>by
    unfold bindC
    rw [oM fun w hw=>h w (List.mem_cons_of_mem _ hw)]
    split
    · rfl
    · have:x≠n:=by rintro rfl;exact h v List.mem_cons_self
      simp [this]
theorem oK {kindOf:Str→Option NameKind} {x:Str} {v:Value}:∀ {P:List Str} {vs:List Value} {i:Nat} {m:Str→Option Value},P.Nodup→P[i]?=some x→vs[i]?=some v→kindOf x=some .local →
    bindL kindOf (P.zip vs) m x=some v
  | [],_,_,_,_,h,_,_=>by simp at h
  | _::_,[],_,_,_,_,h,_=>by simp at h
  | p::P,w::vs,0,m,nd,h1,h2,hk=>by
    simp at h1 h2;subst h1;subst h2
    show bindL kindOf ((p,w)::P.zip vs) m p=_
    unfold bindL
    rw [oJ fun v hv=>(List.nodup_cons.mp nd).1 (List.of_mem_zip hv).1,if_pos hk]
    simp
  | p::P,w::vs,i+1,m,nd,h1,h2,hk=>by
    show bindL kindOf ((p,w)::P.zip vs) m x=_
    unfold bindL
    exact oK (i:=i) (List.nodup_cons.mp nd).2 (by simpa using h1) (by simpa using h2) hk
theorem oN {kindOf:Str→Option NameKind} {x:Str} {v:Value}:∀ {P:List Str} {vs:List Value} {i:Nat} {m:Str→Option Value},P.Nodup→P[i]?=some x→vs[i]?=some v→kindOf x≠some .local →
    bindC kindOf (P.zip vs) m x=some v
  | [],_,_,_,_,h,_,_=>by simp at h
  | _::_,[],_,_,_,_,h,_=>by simp at h
  | p::P,w::vs,0,m,nd,h1,h2,hk=>by
    simp at h1 h2;subst h1;subst h2
    show bindC kindOf ((p,w)::P.zip vs) m p=_
    unfold bindC
    rw [oM fun v hv=>(List.nodup_cons.mp nd).1 (List.of_mem_zip hv).1,if_neg hk]
    simp
  | p::P,w::vs,i+1,m,nd,h1,h2,hk=>by
    show bindC kindOf ((p,w)::P.zip vs) m x=_
    unfold bindC
    exact oN (i:=i) (List.nodup_cons.mp nd).2 (by simpa using h1) (by simpa using h2) hk
def start (N:List Str) (vs:List V):St:=vs.map some++List.replicate (N.length - vs.length) none
def aZ (CX:CXT) (P:Program) (w:World) (K:PySem.W.Frag) (mg:Str→Option Value) (base:Heap) (N:List Str) (qual:Str) (scope:Scope) (f:Addr) (cd:Value) (A:Around) (outer:List Env) (s:Shared) (H:Hp) (E:XK):Cx where
  prog:=P
  w:=w
  K:=K
  mg:=mg
  base:=base
  A:=A.deeper (envOfC qual scope s.heap.objs.size f cd)
  N:=N
  s₀:=s
  H₀:=H
  env:=envOfC qual scope s.heap.objs.size f cd
  outer:=outer
  stack:=envOfC qual scope s.heap.objs.size f cd::outer
  ex:=[]
  calm:=true
  fn:=fun _=>true
  pn:=[]
  xe:=fun e s'=>wpAny (model P w) (A.deeper (envOfC qual scope s.heap.objs.size f cd)) (leaving (envOfC qual scope s.heap.objs.size f cd) e) (fun _ s''=>CX outer H s E e s'') (fun e' s''=>CX outer H s E e' s'') s'
theorem tD {sc:Scope} {n:Nat} {x:Str} (h:sc.names.lookup x=some .cell):∃ c,(cellsFrom n sc.names []).lookup x=some c:=by
  have q:=PySem.W.cellsFrom_some sc.names n [] (.inl h)
  exact Option.isSome_iff_exists.mp q
theorem zB {CX:CXT} {P:Program} {w:World} {K:PySem.W.Frag} {mg:Str→Option Value} {base:Heap} {N ps:List Str} {qual:Str} {scope:Scope} {f:Addr} {cd:Value} {A:Around} {outer:List Env} {s s1:Shared} {H:Hp} {E:XK} {us:List Value} {vs:List V}
    (S:ay N ps scope) (hd:A.handled=none) (e0:tS P w K mg base A outer s H) (hl:vs.length=ps.length) (r:Vals vs us)
    (x:InCallC s s.heap.objs.size (bindL (envOfC qual scope s.heap.objs.size f cd).kindOf (ps.zip us) fun _=>none) (cellsFrom (s.heap.objs.size+1) scope.names []) (bindC (envOfC qual scope s.heap.objs.size f cd).kindOf (ps.zip us) fun _=>none) s1) :
    Inv (aZ CX P w K mg base N qual scope f cd A outer s H E) [] (start N vs) H s1:=by
  have hpl:ps.length≤N.length:=by have:=congrArg List.length S.pre;rw [List.length_take] at this;omega
  obtain ⟨h1,tk,rfl,hk⟩:=x.done
  have noA:∀ b:Addr,b∉(aZ CX P w K mg base N qual scope f cd A outer s H E).ex:=fun b z=>absurd (show b∈([]:List Addr) from z) (by simp)
  refine ⟨⟨e0.mod,S.kind,rfl,rfl,Nat.le_refl _,fun y z c h1 h2=>?_,fun y hy=>?_,fun y c _ h=>?_,fun _=>hd,Around.frames_deeper e0.frames,.inr ⟨rfl,rfl⟩,fun b z=>absurd z (noA b),e0.bs,e0.bsz,fun b _ _=>noA b,fun b z=>absurd z (noA b),e0.jg,e0.frf⟩,
    rfl,e0.bare,Un.kept hk,⟨_,x.toInCall.ns,fun i y v h1 h2 h3=>?_⟩,fun y c h=>⟨_,x.cell y c h⟩,e0.hok.fresh (Nat.le_refl _),fun y c h=>?_,fun p hp=>absurd (show p∈([]:List (Addr×Obj)) from hp) (by simp),e0.hok.kept hk,?_⟩
  · exact name_of_addr x.apart (PySem.mem_of_lookup h1) (PySem.mem_of_lookup h2)
  · have hy:scope.names.lookup y=some .cell∨scope.names.lookup y=some .free:=hy
    rcases hy with hy | hy
    · exact tD hy
    · exact absurd rfl (S.nofree _ (PySem.mem_of_lookup hy))
  · exact Nat.le_of_lt (x.above y c (PySem.mem_of_lookup h))
  · have hi:i < vs.length:=by
      unfold start at h2
      by_cases hi:i < vs.length
      · exact hi
      · rw [List.getElem?_append_right (by simpa using hi)] at h2
        rw [List.getElem?_replicate] at h2
        split at h2 <;> cases h2
    have ha:vs[i]?=some v:=by
      unfold start at h2
      rw [List.getElem?_append_left (by simpa using hi),List.getElem?_map] at h2
      cases e:vs[i]? with
      | none=>rw [e] at h2;cases h2
      | some a=>rw [e] at h2;cases h2;rfl
    obtain ⟨u,hu,rv⟩:=r.get ha
    have hp:ps[i]?=some y:=by
      rw [← S.pre,List.getElem?_take_of_lt (by omega)];exact h1
    have ndP:ps.Nodup:=by rw [← S.pre];exact S.nd.sublist (List.take_sublist _ _)
    refine ⟨u,rv,?_⟩
    rcases S.par y (List.mem_of_getElem? hp) with k | k
    · exact .inl ⟨k,oK ndP hp hu k⟩
    · obtain ⟨c,e⟩:=tD (n:=s.heap.objs.size+1) k
      refine .inr ⟨.inl k,c,e,?_⟩
      have q:=x.cell y c e
      rw [oN ndP hp hu (by show scope.names.lookup y≠_;rw [k];decide)] at q
      exact q
  · exact e0.hok.fresh (Nat.le_of_lt (x.above y c (PySem.mem_of_lookup h)))
  · unfold start
    show _=N.length
    rw [List.length_append,List.length_map,List.length_replicate]
    omega
theorem sR {CX:CXT} {P:Program} {w:World} {K:PySem.W.Frag} {mg:Str→Option Value} {base:Heap} {k:Nat} {f:Addr} {name qual:Str} {params:Arguments} {body:List Stmt} {scope:Scope} {dV kV doc pm cdv ct oc:Value} {an od:Option Addr}
    {osl:Array (Option Value)} {N ps:List Str} {sp:Sp} (lk:K.lookup f=some ⟨oc,od,.func (PySem.W.fnOf name qual params body scope dV kV doc pm an cdv ct),osl⟩) (hcd:PySem.W.codeIn K cdv qual=true) (S:ay N ps scope)
    (len:∀ vs H Q E,sp vs H Q E→vs.length=ps.length)
    (hbody:∀ (A:Around) (outer:List Env) (s:Shared) (H:Hp) (vs:List V) (Q:VK) (E:XK),bX k (A.deeper (envOfC qual scope s.heap.objs.size f cdv))→sp vs H Q E →
      ∃ t,PSs (aZ CX P w K mg base N qual scope f cdv A outer s H E) body t∧t { nx:=fun _ H'=>Q .non H',rt:=Q } (start N vs) H) :
    fF P w K mg base CX (k+1) f (PySem.W.fnOf name qual params body scope dV kV doc pm an cdv ct) ps sp:=by
  refine ⟨len,fun A outer s H args us vs Q E hr e0 hb r hsp=>?_⟩
  have hl:=len _ _ _ _ hsp
  have KX:K.In s.heap:=e0.mod.kin.keeps fun b o e=>(e0.bs b o e).1
  have lim:s.heap.NoLimit:=e0.mod.nolimit.keeps fun b o e=>(e0.bs b o e).1
  have hkind:∀ y∈ps.zip us,scope.names.lookup y.1=some .local∨(scope.names.lookup y.1=some .cell∧((cellsFrom (s.heap.objs.size+1) scope.names []).lookup y.1).isSome=true):=fun ⟨n,v⟩ hy=>by
    rcases S.par n (List.of_mem_zip hy).1 with q | q
    · exact .inl q
    · exact .inr ⟨q,PySem.W.cellsFrom_some _ _ _ (.inl q)⟩
  refine codeAny_call_function hr.depth (KX _ _ lk) rfl S.co S.gen rfl (PySem.W.codeRec_of KX hcd) (hb _ _ _ _ ?_)
  refine wpAny_newFunctionEnv_cells S.kind hkind fun env he s1 x=>?_
  subst he
  refine ⟨lim.keeps x.toInCall.keep,codeAny_func ?_⟩
  obtain ⟨t,ht,hq⟩:=hbody A outer s H vs Q E (hr.deeper _) hsp
  have I:Inv (aZ CX P w K mg base N qual scope f cdv A outer s H E) [] (start N vs) H s1:=zB S hr.hd e0 hl r x
  refine wpAny_mono (ht [] s1 (start N vs) H _ I hq) (fun fl s' hs=>?_) fun e s' hs=>hs
  have fin:∀ {σ':St} {H':Hp} {v:V} {u:Value},Inv (aZ CX P w K mg base N qual scope f cdv A outer s H E) [] σ' H' s'→RelV v u→Q v H'→CE outer P w H s Q u s':=
    fun {σ' H' v u} J rv q=>⟨v,H',J.os,J.bare,J.base,J.hok,rv,q⟩
  cases fl with
  | ret u=>
    obtain ⟨v,σ',H',J,rv,q⟩:=hs
    exact fin J rv q
  | next=>
    obtain ⟨σ',H',J,q⟩:=hs
    exact fin (v:=V.non) (u:=Value.none) J rfl q
  | brk=>
    obtain ⟨_,_,_,q⟩:=hs
    exact False.elim q
  | cont=>
    obtain ⟨_,_,_,q⟩:=hs
    exact False.elim q
section
variable {X:Cx} {x:Str} {p pos:Pos} {e:Expr} {es:List Expr} {t:TA} {id T:String} {r:List V→Hp→VK→Prop}
def tCB (r:List V→Hp→VK→Prop) (t:TA):TE:=fun σ H Q=>t σ H fun vs H1=>r vs H1 Q
theorem bq (hc:cK X (.builtin id) r) (hg:Gl X x) (hm:X.mg x=none) (hv:bootBuiltins x=some (.builtin id)) (ha:PA X (e::es) t) (hn:x ≠ "__name__" := by decide) (hdb:(x == ("__debug__" : Str))=false:=by decide)
    (he:starEach (e::es) X.env=(false,eval e X.env)::starEach es X.env:=by rfl) (hpl:(backTo pos (starEach es X.env)).any (·.1)=false:=by rfl):PE X (.Call (.Name x p) (e::es) [] pos) (tCB r t):=by
  intro pins s σ H Q I h
  refine wpAny_Call_Name_kw (fq I hg hm hv ?_ hn hdb)
  exact PyProof.Rows.callWith_builtin1 (thn (ha pos pins s σ H _ I h) fun us s1 ⟨vs,H1,I1,r1,q1⟩=>hc pins s1 σ H1 vs us Q I1 r1 q1) he hpl
theorem cO (hc:cK X (.type T) r) (hg:Gl X x) (hm:X.mg x=none) (hv:bootBuiltins x=some (.type T)) (ha:PA X (e::es) t) (hn:x ≠ "__name__" := by decide) (hdb:(x == ("__debug__" : Str))=false:=by decide)
    (he:starEach (e::es) X.env=(false,eval e X.env)::starEach es X.env:=by rfl) (hpl:(backTo pos (starEach es X.env)).any (·.1)=false:=by rfl):PE X (.Call (.Name x p) (e::es) [] pos) (tCB r t):=by
  intro pins s σ H Q I h
  refine wpAny_Call_Name_kw (fq I hg hm hv ?_ hn hdb)
  exact PyProof.Rows.callWith_type1 (thn (ha pos pins s σ H _ I h) fun us s1 ⟨vs,H1,I1,r1,q1⟩=>hc pins s1 σ H1 vs us Q I1 r1 q1) he hpl
end
end L2
namespace HT
open PySem PyProof.Rows
def lexLt:List Int→List Int→Bool
  | [],[]=>false
  | [],_::_=>true
  | _::_,[]=>false
  | x::xs,y::ys=>if x=y then lexLt xs ys else decide (x < y)
theorem jf (x y:Int) (xs ys:List Int):lexLt (x::xs) (y::ys)=if x=y then lexLt xs ys else decide (x < y):=rfl
theorem nG:lexLt [] []=false:=rfl
theorem mw (y:Int) (ys:List Int):lexLt [] (y::ys)=true:=rfl
theorem mz (x:Int) (xs:List Int):lexLt (x::xs) []=false:=rfl
theorem CG (A:Around) (s:Shared) (a:Int) (t:Tok) (c:Int) (u:Tok):∃ e,SeqAt.EqAt A s (.int a t) (.int c u) e∧(e=true↔a=c):=
  ⟨(a == c),SeqAt.EqAt.int_int a t c u,by simp⟩
section
variable {prog:Program} {w:World} {A:Around} {E:Value→Shared→Prop} {s:Shared}
def sIx (n d:Nat):Option Int→Nat
  | none=>d
  | some v=>if v < 0 then (v+(n:Int)).toNat else min v.toNat n
theorem rK (n d:Nat):sIx n d none=d:=rfl
theorem wX (n d k:Nat):sIx n d (some (k:Int))=min k n:=by
  show (if (k:Int) < 0 then ((k:Int)+(n:Int)).toNat else min (k:Int).toNat n)=min k n
  rw [if_neg (by omega),Int.toNat_natCast]
theorem G7 (n d:Nat) (hd:d≤n) (o:Option Int):sIx n d o≤n:=by
  cases o with
  | none=>exact hd
  | some v=>
    show (if v < 0 then (v+(n:Int)).toNat else min v.toNat n)≤n
    by_cases hv:v < 0
    · rw [if_pos hv];omega
    · rw [if_neg hv];exact Nat.min_le_right _ _
theorem xO (v:Int) (n d:Nat):(if v < 0 then max (v+(n:Int)) 0 else min v (n:Int))=((sIx n d (some v):Nat):Int):=by
  show (if v < 0 then max (v+(n:Int)) 0 else min v (n:Int))=(((if v < 0 then (v+(n:Int)).toNat else min v.toNat n):Nat):Int)
  by_cases hv:v < 0
  · simp only [if_pos hv];omega
  · simp only [if_neg hv];omega
theorem vS (lo hi:Option Int) (n:Nat):Builtin.Slice.sliceAdjust lo hi 1 (n:Int)=(((sIx n 0 lo:Nat):Int),((sIx n n hi:Nat):Int)):=by
  have h1:¬ ((1:Int) < 0):=by omega
  unfold Builtin.Slice.sliceAdjust
  simp only [h1,if_false]
  refine Prod.ext ?_ ?_
  · cases lo with
    | none=>rfl
    | some v=>exact xO v n 0
  · cases hi with
    | none=>rfl
    | some v=>exact xO v n n
theorem uP (i j:Nat):Builtin.Slice.slicePlaces (i:Int) (j:Int) 1=j - i:=by
  unfold Builtin.Slice.slicePlaces
  have h1:(1:Int) > 0:=by omega
  simp only [h1,if_true,Int.ediv_one]
  split <;> omega
theorem lV {v:Value} {o:Option Int} {Q:Option Int→Shared→Prop} (p:IsPart v o) (h:Q o s):wpAny (model prog w) A (Builtin.Slice.slicePartIndex v) Q E s:=by
  cases p with
  | none=>exact slicePart_none h
  | int i t=>exact slicePart_int h
theorem jU {sl:Addr} {vl vu:Value} {lo hi:Option Int} {n:Nat} {Q:Int×Int×Nat→Shared→Prop} (hs:s.heap.IsSliceOf sl vl vu .none) (pl:IsPart vl lo) (pu:IsPart vu hi)
    (h:Q (((sIx n 0 lo:Nat):Int),1,sIx n n hi - sIx n 0 lo) s):wpAny (model prog w) A (Builtin.Slice.sliceApplied (.ref sl) (pure (n:Int))) Q E s:=by
  obtain ⟨os,hos,hcs,hds⟩:=id hs
  unfold Builtin.Slice.sliceApplied Builtin.Slice.sliceFields
  refine wpAny_bind (wpAny_bind (wpAny_field hos hds (x:=vl) rfl (wpAny_bind (wpAny_field hos hds (x:=vu) rfl (wpAny_bind (wpAny_field hos hds (x:=.none) rfl (wpAny_pure ?_)))))))
  refine wpAny_bind (slicePart_none ?_)
  show wpAny _ _ (if ((1:Int) == 0)=true then _ else _) _ _ s
  rw [if_neg (by decide)]
  refine wpAny_bind (lV pl (wpAny_bind (lV pu (wpAny_bind (wpAny_pure ?_)))))
  show wpAny _ _ (match Builtin.Slice.sliceAdjust lo hi 1 (n:Int) with | (lo,hi)=>pure (lo,(1:Int),Builtin.Slice.slicePlaces lo hi 1)) _ _ s
  rw [vS lo hi n]
  show wpAny _ _ (pure (((sIx n 0 lo:Nat):Int),(1:Int),Builtin.Slice.slicePlaces ((sIx n 0 lo:Nat):Int) ((sIx n n hi:Nat):Int) 1)) _ _ s
  rw [uP]
  exact wpAny_pure h
theorem Bx (xs:Array Value) (i k:Nat):((List.range k).filterMap fun (m:Nat)=>xs[((i:Int)+(m:Int) * 1).toNat]?).toArray=((xs.toList.drop i).take k).toArray:=by
  have e:(fun (m:Nat)=>xs[((i:Int)+(m:Int) * 1).toNat]?)=fun m=>xs[i+m]?:=by
    funext m
    have:((i:Int)+(m:Int) * 1).toNat=i+m:=by omega
    rw [this]
  rw [e]
  have:=pick_run xs i k
  rw [List.filterMap_map] at this
  have e2:((fun x=>xs[x]?) ∘ fun x=>i+x)=fun m=>xs[i+m]?:=rfl
  rw [e2] at this
  rw [this]
theorem jJ {t sl:Addr} {items:Array Value} {vl vu:Value} {lo hi:Option Int} {Q:Value→Shared→Prop} (ht:IsTup s.heap t items) (hs:s.heap.IsSliceOf sl vl vu .none) (pl:IsPart vl lo) (pu:IsPart vu hi)
    (hw:¬ (sIx items.size 0 lo=0∧sIx items.size items.size hi=items.size))
    (h:Q (.ref s.heap.objs.size) { s with heap:=s.heap.push { cls:=.type "tuple",data:=.seq ((items.toList.drop (sIx items.size 0 lo)).take (sIx items.size items.size hi - sIx items.size 0 lo)).toArray } })
    (hsz:items.size≤sizeLine):wpAny (model prog w) A (getItem (.ref t) (.ref sl)) Q E s:=by
  have xB:sizeOk (.seq ((items.toList.drop (sIx items.size 0 lo)).take (sIx items.size items.size hi - sIx items.size 0 lo)).toArray):=by
    show ((items.toList.drop (sIx items.size 0 lo)).take (sIx items.size items.size hi - sIx items.size 0 lo)).toArray.size≤sizeLine
    rw [List.size_toArray,List.length_take,List.length_drop,Array.length_toList]
    omega
  have hj:sIx items.size items.size hi≤items.size:=G7 _ _ (Nat.le_refl _) hi
  obtain ⟨os,hos,hcs,hds⟩:=id hs
  have hTs:s.TypeIs (.ref sl) "slice" := ⟨os,hos,hcs⟩
  unfold getItem
  try with_reducible refine wpAny_holding ?_
  first | refine wpAny_bind (wpAny_pure ?_) | skip
  refine wpAny_bind (wpAny_sequenceKey ht.typeIs (by decide) ?_)
  refine wpAny_bind (wpAny_callSpecial?_slot (name:=Str.ofString "__getitem__") ht.typeIs PyProof.Rows.slot_tuple_getitem
    (wpAny_call_entry PyProof.Rows.slot_tuple_getitem ht.typeIs entry_tuple_getitem ?_ (args_tuple_getitem _ _)))
  show wpAny _ _ (Builtin.Tuple.tupleItemsOf (.ref t) >>= _) _ _ s
  refine wpAny_bind (tupleItemsOf_ ht ?_)
  refine wpAny_bind (wpAny_typeOf hTs ?_)
  rw [if_pos (by decide)]
  refine wpAny_bind (jU hs pl pu ?_)
  have hno:¬ ((((sIx items.size 0 lo:Nat):Int) == 0 && (1:Int) == 1 && (sIx items.size items.size hi - sIx items.size 0 lo) == items.size)=true):=by
    intro q
    rw [Bool.and_eq_true,Bool.and_eq_true] at q
    have q1:((sIx items.size 0 lo:Nat):Int)=0:=eq_of_beq q.1.1
    have q2:sIx items.size items.size hi - sIx items.size 0 lo=items.size:=eq_of_beq q.2
    exact hw ⟨by omega,by omega⟩
  show wpAny _ _ (if (((sIx items.size 0 lo:Nat):Int) == 0 && (1:Int) == 1 && (sIx items.size items.size hi - sIx items.size 0 lo) == items.size)=true then _ else _) _ _ s
  rw [if_neg hno,Bx]
  first
    | exact wpAny_bind (m:=Builtin.Tuple.tupleExact _) (wpAny_newObj_type (wpAny_pure ⟨_,rfl,wpAny_pure h⟩) xB)
    | exact wpAny_bind (m:=Builtin.Tuple.tupleExact _) (wpAny_newObj_type (wpAny_bind (wpAny_pure (wpAny_pure ⟨_,rfl,wpAny_pure h⟩))) xB)
    | exact wpAny_bind (wpAny_bind (m:=Builtin.Tuple.tupleExact _) (wpAny_newObj_type (wpAny_pure (wpAny_pure ⟨_,rfl,wpAny_pure h⟩)) xB))
    | exact wpAny_bind (wpAny_bind (m:=Builtin.Tuple.tupleExact _) (wpAny_newObj_type (wpAny_pure ⟨_,rfl,wpAny_pure h⟩) xB))
end
end HT
namespace L2
open PySem PySem.Spec PyProof.Rows
abbrev TO:=St→Hp→(Option Int→Hp→Prop)→Prop
def PO (X:Cx) (e:Option Expr) (t:TO):Prop:=
  ∀ (pins:List (Addr×Obj)) (s:Shared) (σ : St) (H:Hp) (Q:Option Int→Hp→Prop),Inv X pins σ H s→t σ H Q →
    wpAny (model X.prog X.w) X.A (evalPart e X.env) (fun u s'=>∃ o H',Inv X pins σ H' s'∧IsPart u o∧Q o H') X.xe s
def wH:TO:=fun _ H Q=>Q none H
def F4 (t:TE):TO:=fun σ H Q=>t σ H fun x H1=>∃ i,x = .int i∧Q (some i) H1
theorem intsAre_of {ns:List Int}:∀ {us:List Value},Vals (ns.map V.int) us→IntsAre us ns:=by
  induction ns with
  | nil=>intro us r;rw [List.map_nil] at r;cases r;exact .nil
  | cons n ns ih=>
    intro us r
    rw [List.map_cons] at r
    cases r with
    | cons r1 r2=>
      obtain ⟨t,e⟩:=r1
      subst e
      exact .cons n t (ih r2)
section
variable {X:Cx} {e:Expr} {te:TE} {lo hi:Option Expr} {tl th:TO} {pos p2:Pos}
theorem eH:PO X none wH:=by
  intro pins s σ H Q I h
  rw [evalPart_none]
  exact wpAny_pure ⟨none,H,I,.none,h⟩
theorem eF (h:PE X e te):PO X (some e) (F4 te):=by
  intro pins s σ H Q I hw
  rw [evalPart_some]
  refine thn (h pins s σ H _ I hw) fun u s1 ⟨x,H1,I1,r1,q1⟩=>?_
  obtain ⟨i,rfl,q⟩:=q1
  obtain ⟨t,rfl⟩:=r1
  exact ⟨some i,H1,I1,.int i t,q⟩
def SlR (X:Cx) (r:V→Option Int→Option Int→Hp→VK→Prop):Prop:=
  ∀ (pins:List (Addr×Obj)) (s:Shared) (σ : St) (H:Hp) (x:V) (v vl vu:Value) (lo hi:Option Int) (sl:Addr) (Q:VK),Inv X pins σ H s→RelV x v→s.heap.IsSliceOf sl vl vu .none→IsPart vl lo→IsPart vu hi→r x lo hi H Q →
    ∃ T id,typeLookup (.type T) "__getitem__" = pure (some (.builtin id))∧s.TypeIs v T∧wpAny (model X.prog X.w) X.A (getItem v (.ref sl)) (EP X pins σ Q) X.xe s
def tSl (r:V→Option Int→Option Int→Hp→VK→Prop) (te:TE) (tl th:TO):TE:=fun σ H Q=>te σ H fun x H1=>tl σ H1 fun l H2=>th σ H2 fun u H3=>r x l u H3 Q
theorem dg {r:V→Option Int→Option Int→Hp→VK→Prop} (hr:SlR X r) (he:PE X e te) (hl:PO X lo tl) (hu:PO X hi th):PE X (.Subscript e (.Slice lo hi none p2) pos) (tSl r te tl th):=by
  intro pins s σ H Q I h
  refine Subscript_ (thn (he pins s σ H _ I h) fun v s1 ⟨x,H1,I1,r1,q1⟩=>?_)
  refine wpAny_Slice (thn (hl pins s1 σ H1 _ I1 q1) fun vl s2 ⟨l,H2,I2,pl,q2⟩=>thn (hu pins s2 σ H2 _ I2 q2) fun vu s3 ⟨u,H3,I3,pu,q3⟩=>?_)
  rw [evalPart_none]
  refine wpAny_pure ?_
  have I4:Inv X pins σ H3 { s3 with heap:=s3.heap.push { cls:=.type "slice",data:=.fields #[vl,vu,.none] } }:=I3.kept (t':=s3.toks) fun b ob q=>Heap.get?_push_of_some _ q
  obtain ⟨T,id,hT,ht,hg⟩:=hr pins { s3 with heap:=s3.heap.push { cls:=.type "slice",data:=.fields #[vl,vu,.none] } } σ H3 x v vl vu l u s3.heap.objs.size Q I4 r1 (Heap.IsSliceOf.new ..) pl pu q3
  show wpAny (model X.prog X.w) X.A (subscriptTail e (.Slice lo hi none p2) v (.ref s3.heap.objs.size)) (EP X pins σ Q) X.xe { s3 with heap:=s3.heap.push { cls:=.type "slice",data:=.fields #[vl,vu,.none] } }
  exact tail_any (ops:=[.ref s3.heap.objs.size,v]) ht hT hg (by with_unfolding_all rfl)
def vD (xs:List V) (lo hi:Option Int):List V:=(xs.drop (HT.sIx xs.length 0 lo)).take (HT.sIx xs.length xs.length hi - HT.sIx xs.length 0 lo)
theorem sW (xs:List V) (lo hi:Option Int):(vD xs lo hi).length≤xs.length:=by
  unfold vD
  rw [List.length_take,List.length_drop]
  omega
def Bq (K:PySem.W.Frag):V→Option Int→Option Int→Hp→VK→Prop:=fun x lo hi H Q=>∃ a xs,x = .ref a∧SqT K H a xs ∧
  ¬ (HT.sIx xs.length 0 lo=0∧HT.sIx xs.length xs.length hi=xs.length)∧∀ p,H p=none→Q (.ref p) (upd H p (.tup (vD xs lo hi)))
theorem gg:SlR X (Bq X.K):=by
  intro pins s σ H x v vl vu lo hi sl Q I rx hs pl pu h
  obtain ⟨a,xs,rfl,hx,hw,q⟩:=h
  cases rx
  obtain ⟨its,r,ht,hz⟩:=I.tuple hx
  have hlen:its.toArray.size=xs.length:=by rw [List.size_toArray];exact r.length.symm
  refine ⟨"tuple",_,PyProof.Rows.slot_tuple_getitem.lookup,ht.typeIs,?_⟩
  refine HT.jJ ht hs pl pu (by rw [hlen];exact hw) ?_ (by rw [hlen];exact hz)
  rw [hlen]
  refine ⟨.ref s.heap.objs.size,_,I.laid (t':=s.toks) (o:=.tup (vD xs lo hi)) (fun b ob q=>Heap.get?_push_of_some _ q) (Nat.le_refl _) ?_,rfl,q _ (I.hok.fresh (Nat.le_refl _))⟩
  exact ⟨Nat.le_trans (sW xs lo hi) hz,_,(r.drop (HT.sIx xs.length 0 lo)).take (HT.sIx xs.length xs.length hi - HT.sIx xs.length 0 lo),IsTup.new _ _⟩
theorem Vals.lJ {xs:List V} {us:List Value} (r:Vals xs us):us=[]↔xs=[]:=by
  cases r with
  | nil=>simp
  | cons _ _=>simp
end
def ixN (n:Nat) (i:Int):Option Nat:=if 0≤i then (if i < n then some i.toNat else none) else if -(n:Int)≤i then some (i+n).toNat else none
def atI {α : Type} (xs:List α) (i:Int):Option α:=(ixN xs.length i).bind fun j=>xs[j]?
theorem xy {n:Nat} {i:Int} {j:Nat} (h:ixN n i=some j):seqIndex? i n=some j∧j < n∧-(n:Int)≤i∧i < n:=by
  unfold ixN at h
  by_cases h0 : 0≤i
  · rw [if_pos h0] at h
    by_cases h1:i < n
    · rw [if_pos h1] at h
      have e:i.toNat=j:=Option.some.inj h
      exact ⟨by rw [seqIndex_of h0 h1,e],by omega,by omega,h1⟩
    · rw [if_neg h1] at h;cases h
  · rw [if_neg h0] at h
    by_cases h1 : -(n:Int)≤i
    · rw [if_pos h1] at h
      have e:(i+n).toNat=j:=Option.some.inj h
      exact ⟨by rw [seqIndex_neg (by omega) h1,e],by omega,h1,by omega⟩
    · rw [if_neg h1] at h;cases h
theorem xU {α : Type} {xs:List α} {i:Int} {v : α} (h:atI xs i=some v):∃ j,seqIndex? i xs.length=some j∧xs[j]?=some v∧j < xs.length∧-(xs.length:Int)≤i∧i < xs.length:=by
  unfold atI at h
  cases e:ixN xs.length i with
  | none=>rw [e] at h;cases h
  | some j=>
    rw [e] at h
    obtain ⟨h1,h2,h3,h4⟩:=xy e
    exact ⟨j,h1,h,h2,h3,h4⟩
theorem eV {α : Type} {xs:List α} {j:Nat} {v : α} (h:xs[j]?=some v):atI xs (j:Int)=some v:=by
  have hj:j < xs.length:=(List.getElem?_eq_some_iff.mp h).1
  have e:ixN xs.length (j:Int)=some j:=by
    unfold ixN
    rw [if_pos (by omega),if_pos (by omega)];simp
  unfold atI;rw [e];exact h
def FQ (b:Expr):Prop:=∀ o i,subscripted b false o i=operate [o,i] (getItem o i)
def IxR (X:Cx) (r:R2):Prop:=
  ∀ (value slice:Expr) (pins:List (Addr×Obj)) (s:Shared) (σ : St) (H:Hp) (x y:V) (v u:Value) (Q:VK),Inv X pins σ H s→RelV x v→RelV y u→r x y H Q →
    subscripted slice false v u=operate [v,u] (getItem v u)→wpAny (model X.prog X.w) X.A (subscriptTail value slice v u) (EP X pins σ Q) X.xe s
def MtR (X:Cx) (id:String) (r:V→List V→Hp→VK→Prop):Prop:=
  ∀ (pins:List (Addr×Obj)) (s:Shared) (σ : St) (H:Hp) (x:V) (xs:List V) (v:Value) (us:List Value) (Q:VK),Inv X pins σ H s→RelV x v→Vals xs us→r x xs H Q →
    wpAny (model X.prog X.w) X.A (call (.builtin id) (v::us)) (EP X pins σ Q) X.xe s
section
variable {X:Cx} {a b:Expr} {ta tb:TE} {pos:Pos}
theorem aq {r:R2} (hr:IxR X r) (ha:PE X a ta) (hb:PE X b tb) (hs:FQ b):PE X (.Subscript a b pos) (tOp r ta tb):=by
  intro pins s σ H Q I h
  exact Subscript_ (JA ha hb I h fun v u s2 x y H2 I2 rx ry q=>hr a b pins s2 σ H2 x y v u Q I2 rx ry q (hs _ _))
def Hi (K:PySem.W.Frag):R2:=fun x y H Q=>∃ p xs i v,x = .ref p∧y = .int i∧SqL K H p xs∧atI xs i=some v∧Q v H
def D8 (K:PySem.W.Frag):R2:=fun x y H Q=>∃ p xs i v,x = .ref p∧y = .int i∧SqT K H p xs∧atI xs i=some v∧Q v H
theorem cI:IxR X (Hi X.K):=by
  intro value slice pins s σ H x y v u Q I rx ry h hs
  obtain ⟨p,xs,i,z,rfl,rfl,hq,he,q⟩:=h
  cases rx
  obtain ⟨t,rfl⟩:=ry
  obtain ⟨its,r,pl,hz⟩:=I.list hq
  obtain ⟨j,h1,h2,h3,h4,h5⟩:=xU he
  obtain ⟨w,ew,rw'⟩:=r.get h2
  have hl:=r.length
  have hn:=pZ
  have fin:EP X pins σ Q w s:=⟨z,H,I,rw',q⟩
  by_cases h0 : 0≤i
  · have hj:i.toNat=j:=by
      rw [seqIndex_of h0 h5] at h1
      exact Option.some.inj h1
    exact item_listR pl.isList h0 (by omega) (by rw [hj];simpa using ew) fin hs
  · have hj:(i+(its.toArray.size:Int)).toNat=j:=by
      rw [seqIndex_neg (by omega) h4] at h1
      rw [List.size_toArray,← hl]
      exact Option.some.inj h1
    exact subscriptTail_builtinR (x:=w) pl.isList.typeIs slot_list_getitem.lookup
      (wpAny_getItem_list_neg (Q:=fun r s'=>r=w∧EP X pins σ Q r s') pl.isList (by omega) (by rw [List.size_toArray] <;> omega) (by omega) (by rw [hj];simpa using ew) ⟨rfl,fin⟩) hs
theorem ao:IxR X (D8 X.K):=by
  intro value slice pins s σ H x y v u Q I rx ry h hs
  obtain ⟨p,xs,i,z,rfl,rfl,hq,he,q⟩:=h
  cases rx
  obtain ⟨t,rfl⟩:=ry
  obtain ⟨its,r,pl,hz⟩:=I.tuple hq
  obtain ⟨j,h1,h2,h3,h4,h5⟩:=xU he
  obtain ⟨w,ew,rw'⟩:=r.get h2
  have hl:=r.length
  have hn:=pZ
  have fin:EP X pins σ Q w s:=⟨z,H,I,rw',q⟩
  exact subscriptTail_builtinR (x:=w) pl.typeIs slot_tuple_getitem.lookup
    (getItem_tuple (j:=j) (Q:=fun r s'=>r=w∧EP X pins σ Q r s') pl (by omega) (by omega) (by rw [List.size_toArray,← hl];exact h1) (by simpa using ew) ⟨rfl,fin⟩) hs
theorem vg (its:List Value) (n j:Nat) (u:Value):Obj.mapSeq (·.setIfInBounds j u) { cls:=.type "list",data:=.seq its.toArray n }={ cls:=.type "list",data:=.seq (its.set j u).toArray n }:=by
  simp [Obj.mapSeq]
theorem Inv.lst {pins:List (Addr×Obj)} {σ : St} {H:Hp} {s:Shared} {p:Addr} {xs:List V} (I:Inv X pins σ H s) (h:H p=some (.lst xs)) :
    ∃ (its:List Value) (n:Nat),Vals xs its∧s.heap.get? p=some { cls:=.type "list",data:=.seq its.toArray n }∧xs.length≤sizeLine:=by
  obtain ⟨z,its,n,r,e⟩:=I.hok p _ h
  exact ⟨its,n,r,e,z⟩
theorem Inv.Ia {pins:List (Addr×Obj)} {σ : St} {H:Hp} {s:Shared} {p:Addr} {xs ys:List V} {its its':List Value} {n n':Nat} {f:Obj→Obj} (I:Inv X pins σ H s) (h:H p=some (.lst xs))
    (ho:s.heap.get? p=some { cls:=.type "list",data:=.seq its.toArray n }) (hf:f { cls:=.type "list",data:=.seq its.toArray n }={ cls:=.type "list",data:=.seq its'.toArray n' }) (r:Vals ys its') (hz:ys.length≤sizeLine) (t:Nat) :
    Inv X pins σ (upd H p (.lst ys)) { s with heap:=s.heap.update p f,toks:=t }:=by
  have e:(s.heap.update p f).get? p=some { cls:=.type "list",data:=.seq its'.toArray n' }:=by
    rw [Heap.get?_update_self f ho (by rw [hf] <;> rfl),hf]
  refine I.write (x:=p) (e:=p) (by rw [h];trivial) (.inl rfl) (fun b u hb q=>(Heap.get?_update_other _ _ (Ne.symm hb)).trans q) ⟨_,e⟩ ?_
  exact ⟨hz,its',n',r,e⟩
def Kh:V→V→V→Hp→(Hp→Prop)→Prop:=fun o i v H Q=>∃ p xs k j,o = .ref p∧i = .int k∧H p=some (.lst xs)∧ixN xs.length k=some j∧Q (upd H p (.lst (xs.set j v)))
theorem set_list:Ls X Kh:=by
  intro pins s σ H o i v ov iv u Q I ro ri rv h
  obtain ⟨p,xs,k,j,rfl,rfl,hp,hj,q⟩:=h
  cases ro
  obtain ⟨t,rfl⟩:=ri
  obtain ⟨its,n,r,ho,hz⟩:=I.lst hp
  obtain ⟨h1,h2,h3,h4⟩:=xy hj
  have hl:=r.length
  have hn:=pZ
  have I':Inv X pins σ (upd H p (.lst (xs.set j v))) { s with heap:=s.heap.update p (Obj.mapSeq (·.setIfInBounds j u)) }:=
    I.Ia hp ho (vg its n j u) (r.set rv j) (by rw [List.length_set];exact hz) s.toks
  by_cases h0 : 0≤k
  · have hk:k.toNat=j:=by
      rw [seqIndex_of h0 h4] at h1
      exact Option.some.inj h1
    exact PySem.W.ki_setAt ho h0 (by omega) (by rw [List.size_toArray,← hl];exact h4) (by rw [hk];exact ⟨_,I',q⟩)
  · have hk:(k+(its.toArray.size:Int)).toNat=j:=by
      rw [seqIndex_neg (by omega) h3] at h1
      rw [List.size_toArray,← hl]
      exact Option.some.inj h1
    exact PySem.W.ki_setBack ho (by omega) (by rw [List.size_toArray,← hl];exact h3) (by omega) (by rw [hk];exact ⟨_,I',q⟩)
def cj:V→Bool
  | .non=>true
  | .bl _=>true
  | .int _=>true
  | .str _=>true
  | _=>false
def eqV:V→V→Bool
  | .non,.non=>true
  | .bl a,.bl b=>a == b
  | .bl a,.int b=>(if a then 1 else 0) == b
  | .int a,.bl b=>a == (if b then 1 else 0)
  | .int a,.int b=>a == b
  | .str a,.str b=>a == b
  | _,_=>false
theorem vC {A:Around} {s:Shared} {y x:V} {u v:Value} (ry:RelV y u) (rx:RelV x v) (fy:cj y=true) (fx:cj x=true):SeqAt.EqAt A s u v (eqV y x):=by
  cases y with
  | non=>
    cases ry
    cases x with
    | non=>cases rx;exact SeqAt.EqAt.same _
    | bl b=>cases rx;exact SeqAt.EqAt.none_bool b
    | int b=>obtain ⟨t,rfl⟩:=rx;exact SeqAt.EqAt.none_int b t
    | str b=>obtain ⟨t,rfl⟩:=rx;exact SeqAt.EqAt.none_str b t
    | _=>exact absurd (show false=true from fx) Bool.false_ne_true
  | bl a=>
    cases ry
    cases x with
    | non=>cases rx;exact SeqAt.EqAt.bool_none a
    | bl b=>cases rx;exact SeqAt.EqAt.bool_bool a b
    | int b=>obtain ⟨t,rfl⟩:=rx;exact SeqAt.EqAt.bool_int a b t
    | str b=>obtain ⟨t,rfl⟩:=rx;exact SeqAt.EqAt.bool_str a b t
    | _=>exact absurd (show false=true from fx) Bool.false_ne_true
  | int a=>
    obtain ⟨t',rfl⟩:=ry
    cases x with
    | non=>cases rx;exact SeqAt.EqAt.int_none a t'
    | bl b=>cases rx;exact SeqAt.EqAt.int_bool a t' b
    | int b=>obtain ⟨t,rfl⟩:=rx;exact SeqAt.EqAt.int_int a t' b t
    | str b=>obtain ⟨t,rfl⟩:=rx;exact SeqAt.EqAt.int_str a t' b t
    | _=>exact absurd (show false=true from fx) Bool.false_ne_true
  | str a=>
    obtain ⟨t',rfl⟩:=ry
    cases x with
    | non=>cases rx;exact SeqAt.EqAt.str_none a t'
    | bl b=>cases rx;exact SeqAt.EqAt.str_bool a t' b
    | int b=>obtain ⟨t,rfl⟩:=rx;exact SeqAt.EqAt.str_int a t' b t
    | str b=>obtain ⟨t,rfl⟩:=rx;exact SeqAt.EqAt.str_str a t' b t
    | _=>exact absurd (show false=true from fx) Bool.false_ne_true
  | _=>exact absurd (show false=true from fy) Bool.false_ne_true
def eqU (x:V) (u:Value):Bool:=match u with
  | .none=>eqV .non x
  | .bool b=>eqV (.bl b) x
  | .int i _=>eqV (.int i) x
  | .str z _=>eqV (.str z) x
  | _=>false
theorem CF {x y:V} {u:Value} (r:RelV y u) (f:cj y=true):eqU x u=eqV y x:=by
  cases y with
  | non=>cases r;rfl
  | bl b=>cases r;rfl
  | int i=>obtain ⟨t,rfl⟩:=r;rfl
  | str z=>obtain ⟨t,rfl⟩:=r;rfl
  | _=>exact absurd (show false=true from f) Bool.false_ne_true
theorem qG {x:V}:∀ {xs:List V} {us:List Value},Vals xs us→xs.all cj=true→us.any (eqU x)=xs.any fun y=>eqV y x
  | _,_,.nil,_=>rfl
  | y::xs,u::us,.cons r t,f=>by
    rw [List.all_cons,Bool.and_eq_true] at f
    rw [List.any_cons,List.any_cons,CF r f.1,qG t f.2]
theorem mh {A:Around} {s:Shared} {x:V} {v:Value} (rx:RelV x v) (fx:cj x=true):∀ {xs:List V} {us:List Value},Vals xs us→xs.all cj=true→∀ u∈us,SeqAt.EqAt A s u v (eqU x u)
  | _,_,.nil,_=>fun u hu=>by cases hu
  | y::xs,u::us,.cons r t,f=>fun u' hu=>by
    rw [List.all_cons,Bool.and_eq_true] at f
    rcases List.mem_cons.mp hu with rfl | hu
    · rw [CF r f.1];exact vC r rx f.1 fx
    · exact mh rx fx t f.2 u' hu
def inV (x:V) (xs:List V):Bool:=xs.any fun y=>eqV y x
def rIn (K:PySem.W.Frag) (neg:Bool):R2:=fun x y H Q=>∃ p xs,y = .ref p∧(SqL K H p xs∨SqT K H p xs)∧cj x=true∧xs.all cj=true∧Q (.bl (if neg then !inV x xs else inV x xs)) H
theorem fW:OpR X (compareOp .In) (rIn X.K false):=by
  intro pins s σ H x y v u Q I rx ry h
  obtain ⟨p,xs,rfl,hq,fx,fs,q⟩:=h
  cases ry
  rcases hq with hq | hq
  · obtain ⟨its,r,pl,hz⟩:=I.list hq
    refine SeqAt.in_listAt (eqU x) pl.isList (fun w hw=>mh rx fx r fs w (by simpa using hw)) ⟨.bl _,H,I,rfl,?_⟩
    rw [show its.toArray.any (eqU x)=its.any (eqU x) by simp,qG r fs]
    exact q
  · obtain ⟨its,r,pl,hz⟩:=I.tuple hq
    refine SeqAt.in_tupleAt (eqU x) pl (fun w hw=>mh rx fx r fs w (by simpa using hw)) ⟨.bl _,H,I,rfl,?_⟩
    rw [show its.toArray.any (eqU x)=its.any (eqU x) by simp,qG r fs]
    exact q
theorem ql:cK X (.builtin "len") (fun xs H Q=>∃ p ys,xs=[.ref p]∧(SqL X.K H p ys∨SqT X.K H p ys)∧Q (.int ys.length) H):=by
  intro pins s σ H xs us Q I r h
  obtain ⟨p,ys,rfl,hq,q⟩:=h
  obtain ⟨u,rfl,rx⟩:=vals1 r
  cases rx
  have hn:=pZ
  rcases hq with hq | hq
  · obtain ⟨its,r',pl,hz⟩:=I.list hq
    have hlen:=r'.length
    exact Calls.call_len_list pl.isList (by simp only [List.size_toArray] <;> omega) ⟨.int ys.length,H,I.tok _,⟨s.toks+1,by rw [List.size_toArray,hlen]⟩,q⟩
  · obtain ⟨its,r',pl,hz⟩:=I.tuple hq
    have hlen:=r'.length
    exact len_tuple pl (by simp only [List.size_toArray] <;> omega) ⟨.int ys.length,H,I.tok _,⟨s.toks+1,by rw [List.size_toArray,hlen]⟩,q⟩
theorem qk:cK X (.type "list") (fun xs H Q=>∃ p ys,xs=[.ref p]∧(SqL X.K H p ys∨SqT X.K H p ys)∧∀ l,H l=none→Q (.ref l) (upd H l (.lst ys))):=by
  intro pins s σ H xs us Q I r h
  obtain ⟨p,ys,rfl,hq,q⟩:=h
  obtain ⟨u,rfl,rx⟩:=vals1 r
  cases rx
  have fin:∀ (its:List Value),Vals ys its→ys.length≤sizeLine→∀ (h':Heap) (c':Nat),(∀ b o',s.heap.get? b=some o'→h'.get? b=some o') →
      h'.get? s.heap.objs.size=some { cls:=.type "list",dict:=none,data:=.seq its.toArray c',slots:=#[] }→EP X pins σ Q (.ref s.heap.objs.size) { s with heap:=h' }:=fun its r' hz h' c' kp e=>
    ⟨.ref s.heap.objs.size,_,I.laid (t':=s.toks) kp (Nat.le_refl _) (show bU X.prog X.w _ h' _ (.lst ys) from ⟨hz,its,c',r',e⟩),rfl,q _ (I.hok.fresh (Nat.le_refl _))⟩
  rcases hq with hq | hq
  · obtain ⟨its,r',pl,hz⟩:=I.list hq
    have hlen:=r'.length
    obtain ⟨o,ho,hc,n,hd⟩:=pl.isList
    exact call_list_seq p (.inl rfl) ho hc hd (fun h' c' kp e=>fin its r' hz h' c' kp e) (by simp only [List.size_toArray] <;> omega)
  · obtain ⟨its,r',pl,hz⟩:=I.tuple hq
    have hlen:=r'.length
    obtain ⟨o,ho,hc,n,hd⟩:=pl
    exact call_list_seq p (.inr rfl) ho hc hd (fun h' c' kp e=>fin its r' hz h' c' kp e) (by simp only [List.size_toArray] <;> omega)
theorem nK:cK X (.type "tuple") (fun xs H Q=>∃ p ys,xs=[.ref p]∧((SqL X.K H p ys∧∀ l,H l=none→Q (.ref l) (upd H l (.tup ys)))∨(SqT X.K H p ys∧Q (.ref p) H))):=by
  intro pins s σ H xs us Q I r h
  obtain ⟨p,ys,rfl,h⟩:=h
  obtain ⟨u,rfl,rx⟩:=vals1 r
  cases rx
  rcases h with ⟨hq,q⟩ | ⟨hq,q⟩
  · obtain ⟨its,r',pl,hz⟩:=I.list hq
    have hlen:=r'.length
    refine call_tuple_list pl.isList (fun h' kp=>?_) (by simp only [List.size_toArray] <;> omega)
    have I1:Inv X pins σ H { s with heap:=h' }:=I.kept (t':=s.toks) kp
    have I2:Inv X pins σ (upd H h'.objs.size (.tup ys)) { s with heap:=h'.push { cls:=.type "tuple",data:=.seq its.toArray } }:=
      I1.laid (t':=s.toks) (fun b o e=>Heap.get?_push_of_some _ e) (Nat.le_refl _) (show bU X.prog X.w _ _ _ (.tup ys) from ⟨hz,its,r',IsTup.new _ _⟩)
    exact ⟨.ref h'.objs.size,_,I2,rfl,q _ (I1.hok.fresh (Nat.le_refl _))⟩
  · obtain ⟨its,r',pl,hz⟩:=I.tuple hq
    exact call_tuple_same pl ⟨.ref p,H,I,rfl,q⟩
def tyV (K:PySem.W.Frag) (T:String) (x:V) (H:Hp):Prop:=match x with
  | .str _=>T = "str"
  | .int _=>T = "int"
  | .ref p=>(T = "list" ∧ ∃ xs,SqL K H p xs)∨(T = "tuple" ∧ ∃ o,K.lookup p=some o∧o.cls = .type "tuple" ∧ o.dict=none) ∨
      (T = "dict" ∧ ((∃ kvs,H p=some (.dK kvs))∨∃ kvs,H p=some (.dT kvs)))∨(T = "set" ∧ ∃ S n,H p=some (.set S n))
  | _=>False
theorem GR {pins:List (Addr×Obj)} {σ : St} {H:Hp} {s:Shared} {T:String} {x:V} {v:Value} (I:Inv X pins σ H s) (r:RelV x v) (ty:tyV X.K T x H) :
    s.TypeIs v T∧∀ a,v = .ref a→∃ ob,s.heap.get? a=some ob∧ob.dict=none:=by
  cases x with
  | str z=>
    obtain ⟨t,rfl⟩:=r
    cases (show T = "str" from ty)
    exact ⟨typeIs_str s z t,fun _ e=>nomatch e⟩
  | int i=>
    obtain ⟨t,rfl⟩:=r
    cases (show T = "int" from ty)
    exact ⟨typeIs_int s i t,fun _ e=>nomatch e⟩
  | ref p=>
    cases r
    rcases ty with ⟨rfl,xs,hq⟩ | ⟨rfl,o,hk,hc,hd⟩ | ⟨rfl,hk⟩ | ⟨rfl,S,n,hk⟩
    · obtain ⟨its,_,pl,_⟩:=I.list hq
      refine ⟨pl.isList.typeIs,fun a e=>?_⟩
      cases e
      obtain ⟨o,n,e,c,hd,_⟩:=pl
      exact ⟨o,e,hd⟩
    · refine ⟨⟨o,I.kIn p o hk,hc⟩,fun a e=>?_⟩
      cases e
      exact ⟨o,I.kIn _ o hk,hd⟩
    · have z:∃ o,s.heap.get? p=some o∧o.ExactDict:=by
        rcases hk with ⟨kvs,hk⟩ | ⟨kvs,hk⟩
        · obtain ⟨_,_,_,_,o,_,_,e,ex,_⟩:=I.hok p _ hk
          exact ⟨o,e,ex⟩
        · obtain ⟨_,_,_,_,o,_,_,e,ex,_⟩:=I.hok p _ hk
          exact ⟨o,e,ex⟩
      obtain ⟨o,e,ex⟩:=z
      refine ⟨⟨o,e,ex.1⟩,fun a e2=>?_⟩
      cases e2
      exact ⟨o,e,ex.2.1⟩
    · obtain ⟨o,_,_,_,e,ex,_⟩:=I.hok p _ hk
      refine ⟨⟨o,e,ex.1⟩,fun a e2=>?_⟩
      cases e2
      exact ⟨o,e,ex.2.1⟩
  | _=>exact False.elim ty
def tBM (K:PySem.W.Frag) (T:String) (r:V→List V→Hp→VK→Prop) (to:TE) (t:TA):TE:=fun σ H Q=>to σ H fun x H1=>tyV K T x H1∧t σ H1 fun xs H2=>r x xs H2 Q
variable {o e:Expr} {es:List Expr} {to:TE} {t:TA} {name:Str} {apos cpos:Pos} {T id:String} {r:V→List V→Hp→VK→Prop}
theorem xo (pa:PlainAttrs T) (slot:Slot T name id) (hty:typeOf (.builtin id)=pure (.type "method_descriptor")) (hm:MtR X id r) (ho:PE X o to) (ha:PA X (e::es) t)
    (hbase:attributeBase o name X.env (eval o X.env)=eval o X.env:=by rfl)
    (hfew:((backTo cpos (starEach (e::es) X.env)).all (fun x=>!x.1) && (backToKw cpos (keywordEach [] X.env)).all (fun x=>x.1.isSome)
      && decide ((e::es).length+([]:List Keyword).length+(if ([]:List Keyword).isEmpty then 0 else 1) < 30))=true:=by rfl)
    (hline:(apos.endLine == cpos.line)=true:=by rfl) (hs:starEach (e::es) X.env=(false,eval e X.env)::starEach es X.env:=by rfl) (hplain:(backTo cpos (starEach es X.env)).any (·.1)=false:=by rfl) :
    PE X (.Call (.Attribute o name apos) (e::es) [] cpos) (tBM X.K T r to t):=by
  intro pins s σ H Q I h
  refine wpAny_Call_method_late hbase hfew hline rfl (thn (ho pins s σ H _ I h) fun v s1 ⟨x,H1,I1,r1,ty,q1⟩=>?_)
  obtain ⟨h1,h2⟩:=GR I1 r1 ty
  refine ⟨T,id,pa,slot,hty,h1,h2,?_⟩
  have hA:=ha cpos pins s1 σ H1 _ I1 q1
  rw [hs] at hA ⊢
  refine Calls.callWith_builtin (by show (false || (backTo cpos (starEach es X.env)).any (·.1))=false;rw [hplain] <;> rfl) (Calls.evalArgs_plain ?_)
  exact thn hA fun us s2 ⟨vs,H2,I2,r2,q2⟩=>hm pins s2 σ H2 x vs v us Q I2 r1 r2 q2
end
def MtM (X:Cx) (id:String) (r:V→List V→Hp→VK→Prop):Prop:=
  ∀ (pins:List (Addr×Obj)) (s:Shared) (σ : St) (H:Hp) (x:V) (xs:List V) (v:Value) (us:List Value) (Q:VK),Inv X pins σ H s→RelV x v→Vals xs us→r x xs H Q →
    wpAny (model X.prog X.w) X.A (call (.builtin id) (v::us)) (EP X pins σ Q) X.xe s
theorem Vals.one:∀ {x:V} {us:List Value},Vals [x] us→∃ u,us=[u]∧RelV x u
  | _,_,.cons r .nil=>⟨_,rfl,r⟩
section
variable {X:Cx} {pins:List (Addr×Obj)} {σ : St} {H:Hp} {s:Shared} {l b:Addr} {xs ys zs:List V}
theorem Inv.Kz {its its':List Value} {n:Nat} {f:Array Value→Array Value} {t':Nat} (I:Inv X pins σ H s) (hH:H l=some (.lst xs))
    (e:s.heap.get? l=some { cls:=.type "list",data:=.seq its.toArray n }) (hf:f its.toArray=its'.toArray) (hv:Vals ys its') (hz:ys.length≤sizeLine) :
    Inv X pins σ (upd H l (.lst ys)) { s with heap:=s.heap.update l (Obj.mapSeq f),toks:=t' }:=by
  have q:=PySem.IsL.update e f
  rw [hf] at q
  refine I.write (x:=l) (e:=l) (by rw [hH];exact trivial) (.inl rfl) (fun b' u hb hu=>(Heap.get?_update_other s.heap (Obj.mapSeq f) (Ne.symm hb)).trans hu) ⟨_,q⟩ ?_
  exact ⟨hz,its',_,hv,q⟩
theorem Inv.LN {its:List Value} {t':Nat} (I:Inv X pins σ H s) (hv:Vals ys its) (hz:ys.length≤sizeLine) :
    Inv X pins σ (upd H s.heap.objs.size (.lst ys)) { s with heap:=s.heap.push { cls:=.type "list",data:=.seq its.toArray },toks:=t' }:=
  I.laid (fun _ _ q=>Heap.get?_push_of_some _ q) (Nat.le_refl _) ⟨hz,its,0,hv,Heap.get?_push_size _ rfl⟩
theorem Inv.fresh (I:Inv X pins σ H s):H s.heap.objs.size=none:=I.hok.fresh (Nat.le_refl _)
theorem Inv.B9 (I:Inv X pins σ H s) (hH:H l=some (.lst xs)):xs.length≤sizeLine∧∃ (its:List Value) (n:Nat),Vals xs its∧xs.length=its.length∧s.heap.get? l=some { cls:=.type "list",data:=.seq its.toArray n }:=by
  obtain ⟨z,its,n,r,e⟩:=I.hok l _ hH
  exact ⟨z,its,n,r,r.length,e⟩
theorem B5 {n:Nat} (h:n≤sizeLine):Builtin.List.listTooLong n=false:=by
  unfold Builtin.List.listTooLong
  exact decide_eq_false (by omega)
end
section
variable {X:Cx}
def w6:V→List V→Hp→VK→Prop:=fun x vs H Q=>∃ l xs y,x = .ref l∧vs=[y]∧H l=some (.lst xs)∧xs.length < sizeLine∧Q .non (upd H l (.lst (xs++[y])))
theorem j7:MtM X "list.append" w6:=by
  intro pins s σ H x vs v us Q I rx rv h
  obtain ⟨l,xs,y,rfl,rfl,hH,hz,q⟩:=h
  cases rx
  obtain ⟨u,rfl,ru⟩:=rv.one
  obtain ⟨z,its,n,r,hl,e⟩:=I.B9 hH
  refine call_meets F.slot_list_append ⟨_,e,rfl⟩ F.entry_list_append (F.args_list_append_2 _ _) (PySem.list_append l its.toArray n u (by rw [List.size_toArray];omega)) ⟨e,?_⟩
  refine ⟨.non,_,I.Kz (its':=its++[u]) hH e (by simp) (r.append (.cons ru .nil)) ?_,rfl,q⟩
  rw [List.length_append,List.length_singleton]
  omega
def Ea:V→List V→Hp→VK→Prop:=fun x vs H Q=>∃ l b xs zs,x = .ref l∧vs=[.ref b]∧H l=some (.lst xs)∧H b=some (.lst zs)∧xs.length+zs.length≤sizeLine∧Q .non (upd H l (.lst (xs++zs)))
theorem zq:MtM X "list.extend" Ea:=by
  intro pins s σ H x vs v us Q I rx rv h
  obtain ⟨l,b,xs,zs,rfl,rfl,hH,hB,hz,q⟩:=h
  cases rx
  obtain ⟨u,rfl,ru⟩:=rv.one
  cases ru
  obtain ⟨z,its,n,r,hl,e⟩:=I.B9 hH
  obtain ⟨z2,its2,n2,r2,hl2,e2⟩:=I.B9 hB
  have hsz:its.toArray.size+its2.toArray.size≤sizeLine:=by rw [List.size_toArray,List.size_toArray];omega
  have KG:¬ (!its.toArray.isEmpty && Builtin.List.listTooLong (its.toArray.size+its2.toArray.size))=true:=by
    rw [B5 hsz,Bool.and_false]
    exact Bool.false_ne_true
  refine call_meets F.slot_list_extend ⟨_,e,rfl⟩ F.entry_list_extend (F.args_list_extend_2 _ _)
    (AutoSeq1.list_extend_list_list_0 l its.toArray n b its2.toArray n2 KG (by rw [List.size_toArray];omega) (by omega)) ⟨e,e2,?_⟩
  refine ⟨.non,_,I.Kz (its':=its++its2) hH e (by simp) (r.append r2) ?_,rfl,q⟩
  rw [List.length_append]
  omega
def Km:R2:=fun x y H Q=>∃ l b xs zs,x = .ref l∧y = .ref b∧H l=some (.lst xs)∧H b=some (.lst zs)∧xs.length+zs.length≤sizeLine∧∀ p,H p=none→Q (.ref p) (upd H p (.lst (xs++zs)))
theorem Hw:OpR X (binaryOp .Add) Km:=by
  intro pins s σ H x y v u Q I rx ry h
  obtain ⟨l,b,xs,zs,rfl,rfl,hH,hB,hz,q⟩:=h
  cases rx
  cases ry
  obtain ⟨z,its,n,r,hl,e⟩:=I.B9 hH
  obtain ⟨z2,its2,n2,r2,hl2,e2⟩:=I.B9 hB
  refine PySem.P.add_list e e2 ?_ (by rw [List.size_toArray,List.size_toArray];omega)
  have ea:its.toArray++its2.toArray=(its++its2).toArray:=by simp
  rw [ea]
  exact ⟨.ref _,_,I.LN (t':=s.toks) (r.append r2) (by rw [List.length_append];omega),rfl,q _ I.fresh⟩
end
section
variable {κ : Type} [DecidableEq κ]
def GQ (kvs:List (κ×V)) (k : κ):Option V:=(kvs.find? fun kv=>decide (kv.1=k)).map (·.2)
def putK (kvs:List (κ×V)) (k : κ) (v:V):List (κ×V):=
  if (kvs.any fun kv=>decide (kv.1=k))=true then kvs.map (fun kv=>if kv.1=k then (kv.1,v) else kv) else kvs++[(k,v)]
end
def LC (H:Hp) (a:Addr) (y:V) (r:Option V):Prop:=
  (∃ kvs k,Rd H a (.dK kvs)∧y=kV k∧r=GQ kvs k)∨∃ kvs k b,Rd H a (.dT kvs)∧y = .ref b∧H b=some (.tup (k.map kV))∧r=GQ kvs k
def LB (H:Hp) (a:Addr) (y v:V) (H':Hp):Prop:=
  (∃ kvs k,H a=some (.dK kvs)∧y=kV k∧kvs.length < sizeLine∧H'=upd H a (.dK (putK kvs k v))) ∨
  ∃ kvs k b,H a=some (.dT kvs)∧y = .ref b∧H b=some (.tup (k.map kV))∧kvs.length < sizeLine∧H'=upd H a (.dT (putK kvs k v))
theorem LC.k {H:Hp} {a:Addr} {kvs:List (Key×V)} {k:Key} (e:H a=some (.dK kvs)):LC H a (kV k) (GQ kvs k):=.inl ⟨kvs,k,.inl e,rfl,rfl⟩
theorem LB.k {H:Hp} {a:Addr} {kvs:List (Key×V)} {k:Key} {v:V} (e:H a=some (.dK kvs)) (hl:kvs.length < sizeLine):LB H a (kV k) v (upd H a (.dK (putK kvs k v))):=.inl ⟨kvs,k,e,rfl,hl,rfl⟩
structure M1 (X:Cx) (o:Expr) (m:Str) (apos:Pos) (e:Expr) (cpos:Pos):Prop where
  base:attributeBase o m X.env (eval o X.env)=eval o X.env
  few:((backTo cpos (starEach [e] X.env)).all (fun x=>!x.1) && (backToKw cpos (keywordEach [] X.env)).all (fun x=>x.1.isSome)
    && decide (([e]:List Expr).length+([]:List Keyword).length+(if ([]:List Keyword).isEmpty then 0 else 1) < 30))=true
  line:(apos.endLine == cpos.line)=true
  trees:backTo cpos (starEach [e] X.env)=[(false,eval e X.env)]
structure M2 (X:Cx) (o:Expr) (m:Str) (apos:Pos) (e f:Expr) (cpos:Pos):Prop where
  base:attributeBase o m X.env (eval o X.env)=eval o X.env
  few:((backTo cpos (starEach [e,f] X.env)).all (fun x=>!x.1) && (backToKw cpos (keywordEach [] X.env)).all (fun x=>x.1.isSome)
    && decide (([e,f]:List Expr).length+([]:List Keyword).length+(if ([]:List Keyword).isEmpty then 0 else 1) < 30))=true
  line:(apos.endLine == cpos.line)=true
  trees:backTo cpos (starEach [e,f] X.env)=[(false,eval e X.env),(false,eval f X.env)]
end L2
namespace Att
open PySem PySem.W PySem.Calls PyProof.Rows
theorem kU {P:Params} {h:Heap}:∀ (ns:List Int) (vs:List Value),WellAll P h vs (ns.map WData.int)→IntsAre vs ns:=by
  intro ns
  induction ns with
  | nil=>
    intro vs w
    rw [List.map_nil] at w
    cases w
    exact .nil
  | cons n ns ih=>
    intro vs w
    rw [List.map_cons] at w
    cases w with
    | cons a b=>
      cases a
      exact .cons _ _ (ih _ b)
theorem yD {l:OpenLaw} {n:Nat} (hn:l.most=some n) {P:Params} {h:Heap} {args:List WData} {vals:List Value}
    (hpre:l.row.toRowW.claim.pre args=true) (hwl:WellAll P h vals args) :
    ∃ a vs ns,vals=[Value.ref a]∧args=[WData.list (ns.map WData.int)]∧h.get? a=some { cls:=.type "list",data:=.seq vs.toArray }∧IntsAre vs ns∧ns.length≤n:=by
  have hsh:WShape.hasAll [] args [.list .int]=true:=(pre_splitW hpre).1
  have hc:l.pre.holds [] { args:=args }=true:=(pre_splitW hpre).2
  obtain ⟨d,r,rfl,h1,h2⟩:=hasAllW_cons hsh
  obtain rfl:=hasAllW_nil h2
  obtain ⟨xs,rfl,h3⟩:=hasW_list h1
  obtain ⟨ns,rfl⟩:=items_int h3
  have hlen:ns.length≤n:=by
    unfold OpenLaw.pre at hc
    have h4:(WTm.not (.lt (.lit (.int (n:Int))) (.len (.arg 0)))).holds [] { args:=[.list (ns.map .int)] }=true:=by
      have h4:=(holds_andW hc).1
      rw [hn] at h4
      exact h4
    have h5:=condW_of h4 (w_not (w_lt w_lit (w_len_list (w_arg rfl))))
    rw [List.length_map] at h5
    refine Nat.le_of_not_lt fun q=>?_
    have q':(n:Int) < ((ns.length:Nat):Int):=by omega
    first
      | (rw [decide_eq_true q'] at h5;exact absurd h5 (by decide))
      | (simp at h5;omega)
  cases hwl with
  | cons w1 w2=>
    cases w2
    cases w1 with
    | list ho hall=>exact ⟨_,_,ns,rfl,rfl,ho,kU ns _ hall,hlen⟩
theorem yV (l:OpenLaw) (args:List WData):l.row.toRowW.claim.post args (.bool true) args=true:=
  postW_of (r:=l.row.toRowW) (X:=(true == true))
    (show WShape.has [] (.bool true) .bool=true by first | rfl | decide | simp [WShape.has,WShape.arms,WShape.armsAll])
    (show (WTm.eq .res (.lit (.bool true))).value [] { args:=args,res:=some (.bool true),after:=args }=some (.bool (true == true)) from w_eq_bool (w_res rfl) w_lit) rfl
theorem tN {l:OpenLaw} {n:Nat} {q:Program} {loose:List Str} {XP:(Str→Option Value)→Heap→Prop} {YP:World→Heap→Prop} {d:DefRec}
    (hn:l.most=some n) (hdf:d.params.defaults=[])
    (call:∀ (w:World) (s₀ s₁ : Shared) (mg mb:Str→Option Value) (fa:Addr) (o:Obj) (pm cd doc:Value) (a:Addr) (vs:List Value) (ns:List Int),
      Ground q loose [] XP w s₀ mg mb s₁.heap→YP w s₁.heap →
      s₁.heap.get? fa=some o→o.data = .func (docDef d.name d.params d.body d.scope pm cd doc)→s₁.heap.CodeRec cd d.name→mg d.name=some (.ref fa) →
      s₁.heap.get? a=some { cls:=.type "list",data:=.seq vs.toArray }→IntsAre vs ns→ns.length≤n→s₁.gens=#[] →
      codeAny (model l.prog w) callerA (.call (.ref fa) ⟨[.ref a],[]⟩) (fun r s'=>r = .ok (.ret (.bool true))∧OldK s₁.heap s'.heap∧s'.os=s₁.os∧AllBare s'.gens) s₁) :
    WalkO q loose XP YP l.row.toRowW d [] (fun f vs=>PySem.call f vs):=by
  intro w s₀ s₁ mg mb G Y fa o pm cd doc dV kV ho hd hcd hD hmg hg args vals as hpre hlay hrd hwl hlo
  obtain rfl:dV = .none:=Dflts.none hD hdf
  obtain rfl:kV = .none:=Dflts.noKw hD
  obtain ⟨a,vs,ns,rfl,rfl,hobj,hints,hlen⟩:=yD hn hpre hwl
  refine enter_call (codeAny_mono (call w s₀ s₁ mg mb fa o pm cd doc a vs ns G Y ho (fd_plain hd) hcd hmg hobj hints hlen hg) fun r s' hq=>?_)
  obtain ⟨rfl,h2,h3,h4⟩:=hq
  exact ⟨.inl ⟨.bool true,.bool true,[],rfl,fun _=>rfl,.bool true,yV l _,fun _=>⟨List.Pairwise.nil,fun _ hm=>(nomatch hm)⟩⟩,h2,h3,h4⟩
end Att
namespace L2
open PySem PySem.Spec PyProof.Rows
theorem fR:∀ {vs:List Value} {ns:List Int},IntsAre vs ns→Vals (ns.map V.int) vs
  | _,_,.nil=>.nil
  | _,_,.cons n t h=>.cons ⟨t,rfl⟩ (fR h)
def FU (H:Hp):Prop:=∀ b,H b=none∨∃ o xs,H b=some (.frz o (.lst xs))
theorem Cd {P:Program} {w:World} {K:PySem.W.Frag} {mg mb:Str→Option Value} {CX:CXT} {k:Nat} {fa a:Addr} {fd:FuncData} {x:Str} {sp:Sp} {s₁ : Shared} {vs:List Value} {ns:List Int}
    (KX:K.In s₁.heap) (hns:s₁.heap.Ns mainGlobals mg) (hb:s₁.heap.Ns builtinsNs mb) (hbb:∀ x:Str,x ≠ "__name__" → mb x=bootBuiltins x) (hlim:s₁.heap.NoLimit) (hg:s₁.gens=#[])
    (ha:s₁.heap.get? a=some { cls:=.type "list",data:=.seq vs.toArray }) (hi:IntsAre vs ns) (hl:ns.length≤sizeLine) (hr:bX k callerA)
    (F:∀ base:Heap,K.In base→base.Ns mainGlobals mg→fF P w K mg base CX k fa fd [x] sp) (hbind:∀ (s:Shared) (u:Value),BindsTo s fd ⟨[u],[]⟩ [(x,u)])
    (hsp:∀ H:Hp,FU H→SqL K H a (ns.map V.int)→sp [.ref a] H (fun v _=>v = .bl true) fun _ _ _=>False)
    (hCX:∀ H e s',CX [] H s₁ (fun _ _ _=>False) e s'→False) :
    codeAny (model P w) callerA (.call (.ref fa) ⟨[.ref a],[]⟩) (fun r s'=>r = .ok (.ret (.bool true))∧OldK s₁.heap s'.heap∧s'.os=s₁.os∧AllBare s'.gens) s₁:=by
  have rv:=fR hi
  have LO:=hi.length
  -- from an abstract heap in which nothing but the script may be tracked
  have core:∀ H:Hp,FU H→SqL K H a (ns.map V.int)→HOk P w H s₁.heap→(∀ b,H b≠none→b=a)→(H a≠none→K.lookup a=none) →
      codeAny (model P w) callerA (.call (.ref fa) ⟨[.ref a],[]⟩) (fun r s'=>r = .ok (.ret (.bool true))∧OldK s₁.heap s'.heap∧s'.os=s₁.os∧AllBare s'.gens) s₁:=by
    intro H hO hS hok hA hK
    have xT:∀ {b:Addr} {o:Obj},s₁.heap.get? b=some o→H b=none→(p7 s₁.heap H).get? b=some o:=fun e n=>Cj e n
    have noA:∀ {b:Addr} {o:Obj} {es:Array DictEntry} {ep:Nat},s₁.heap.get? b=some o→o.data = .dict es ep→H b=none:=fun {b o es ep} e d=>by
      cases q:H b with
      | none=>rfl
      | some u=>
        have e':b=a:=hA b (by rw [q];simp)
        subst e'
        rw [ha] at e;cases e
        have d':Data.seq vs.toArray _=Data.dict es ep:=d
        cases d'
    have nsK:∀ {b:Addr} {m:Str→Option Value},s₁.heap.Ns b m→(p7 s₁.heap H).Ns b m:=fun {b m} ⟨o,es,ep,e,d,r⟩=>⟨o,es,ep,xT e (noA e d),d,r⟩
    have hKb:K.In (p7 s₁.heap H):=fun b o e=>xT (KX b o e) (by
      cases q:H b with
      | none=>rfl
      | some u=>
        have e':b=a:=hA b (by rw [q];simp)
        subst e'
        rw [hK (by rw [q];simp)] at e;cases e)
    have hM:Mod K mg (p7 s₁.heap H):=⟨hKb,nsK hns,⟨mb,nsK hb,hbb⟩,let ⟨mc,h1,h2⟩:=hlim;⟨mc,nsK h1,h2⟩⟩
    have e0:tS P w K mg (p7 s₁.heap H) callerA [] s₁ H:=⟨rfl,hM,fun b o e=>EH e,Nat.le_of_eq (zE _ _),trivial,fun b hb=>absurd (show b∈([]:List Addr) from hb) (by simp),hok,.of_eq hg⟩
    refine codeAny_mono ((F _ hKb (nsK hns)).run callerA [] s₁ H ⟨[.ref a],[]⟩ [.ref a] [.ref a] _ _ hr e0 (hbind s₁ (.ref a)) (.cons rfl .nil) (hsp H hO hS)) fun r s' h=>?_
    cases r with
    | error e=>exact (hCX H e s' h).elim
    | ok fl=>
      cases fl with
      | next=>exact False.elim h
      | brk=>exact False.elim h
      | cont=>exact False.elim h
      | ret u=>
        obtain ⟨v,H',os,bare,un,hok',r',q⟩:=h
        have q':v = .bl true:=q
        subst q'
        obtain rfl:u=Value.bool true:=r'
        refine ⟨rfl,OldK.of_keep fun b o e=>?_,os,bare⟩
        cases q:H b with
        | none=>exact un.keep b o e q (by intro z;exact absurd (show b∈([]:List Addr) from z) (by simp)) (by simp)
        | some u=>
          rcases hO b with z | ⟨ob,xs,z⟩
          · rw [q] at z;cases z
          · have z2:=un.jh b ob _ z
            obtain ⟨e1,_⟩:=hok b _ z
            obtain ⟨e2,_⟩:=hok' b _ z2
            rw [e] at e1;cases e1
            exact e2
  cases hk:K.lookup a with
  | some o=>
    -- the script is one of the module's own objects
    have e:=KX a o hk
    rw [ha] at e
    cases e
    refine core (fun _=>none) (fun _=>.inl rfl) (.inr ⟨_,vs.toArray,_,hk,rfl,rfl,rfl,by rw [List.size_toArray,LO];exact hl,by simpa using rv⟩) (fun b u z=>by have z':(none:Option HO)=some u:=z;cases z') (fun b z=>absurd rfl z) fun z=>absurd rfl z
  | none=>
    refine core (fun b=>if b=a then some (.frz { cls:=.type "list",data:=.seq vs.toArray } (.lst (ns.map V.int))) else none) (fun b=>?_) (.inl (.inr ⟨{ cls:=.type "list",data:=.seq vs.toArray },if_pos rfl⟩)) (fun b u z=>?_) (fun b z=>?_) fun _=>hk
    · by_cases hb:b=a
      · exact .inr ⟨_,_,if_pos hb⟩
      · exact .inl (if_neg hb)
    · by_cases hb:b=a
      · have z':=(if_pos hb).symm.trans z
        cases z'
        subst hb
        exact ⟨ha,by rw [List.length_map];exact hl,vs,_,rv,ha⟩
      · have z':=(if_neg hb).symm.trans z
        cases z'
    · by_cases hb:b=a
      · exact hb
      · exact absurd (if_neg hb) z
abbrev KOf {K:PySem.W.Frag} {h:Heap} (_:K.In h):PySem.W.Frag:=K
theorem Du {l:PySem.W.OpenLaw} {n k:Nat} {q:Program} {loose:List Str} {XP:(Str→Option Value)→Heap→Prop} {YP:World→Heap→Prop} {d:DefRec} {K:Params→PySem.W.Frag} {CX:World→CXT} {sp:World→Sp} {x:Str}
    (hn:l.most=some n) (hn2:n≤sizeLine) (hdf:d.params.defaults=[]) (hr:bX k callerA)
    (hY:∀ (w:World) (h:Heap),YP w h→(K w.params).In h)
    (F:∀ (w:World) (mg:Str→Option Value) (fa:Addr) (h:Heap),(K w.params).In h→h.Ns mainGlobals mg→mg d.name=some (.ref fa) →
      ∃ fd:FuncData,(∀ (s:Shared) (u:Value),BindsTo s fd ⟨[u],[]⟩ [(x,u)]) ∧
        ∀ base:Heap,(K w.params).In base→base.Ns mainGlobals mg→fF l.prog w (K w.params) mg base (CX w) k fa fd [x] (sp w))
    (hsp:∀ (w:World) (H:Hp) (a:Addr) (ns:List Int),ns.length≤n→FU H→SqL (K w.params) H a (ns.map V.int)→sp w [.ref a] H (fun v _=>v = .bl true) fun _ _ _=>False)
    (hCX:∀ (w:World) (H:Hp) (s:Shared) (e:Value) (s':Shared),CX w [] H s (fun _ _ _=>False) e s'→False) :
    PySem.W.WalkO q loose XP YP l.row.toRowW d [] (fun f vs=>PySem.call f vs):=by
  refine Att.tN hn hdf fun w s₀ s₁ mg mb fa o pm cd doc a vs ns G Y ho hd hcd hmg hobj hints hlen hg=>?_
  have KX:=hY w _ Y
  obtain ⟨fd,hb,hF⟩:=F w mg fa _ KX G.T.g hmg
  exact Cd KX G.T.g G.T.b G.T.builtins G.T.nolimit hg hobj hints (Nat.le_trans hlen hn2) hr hF hb (fun H hO hS=>hsp w H a ns hlen hO hS) fun H e s'=>hCX w H s₁ e s'
def inClass (s:Stmt) (j:Nat):Stmt:=match s with
  | .ClassDef _ _ _ body _ _ _ _ _ _ _=>body.getD j (.Pass ⟨0,0,0,0⟩)
  | _=>.Pass ⟨0,0,0,0⟩
def bC (s:Stmt):Arguments:=match s with
  | .FunctionDef _ a _ _ _ _ _ _ _ _=>a
  | _=>{ posonlyargs:=[],args:=[],vararg:=none,kwonlyargs:=[],kw_defaults:=[],kwarg:=none,defaults:=[] }
def bf (s:Stmt):List Stmt:=match s with
  | .FunctionDef _ _ b _ _ _ _ _ _ _=>b
  | _=>[]
def ak (s:Stmt):Scope:=match s with
  | .FunctionDef _ _ _ _ _ _ sc _ _ _=>sc
  | _=>{ kind:=.function,names:=[],isGenerator:=false,isCoroutine:=false }
abbrev E0:XK:=fun _ _ _=>False
structure Fun (K:PySem.W.Frag) (x qual:Str) (st:Stmt) (f:Addr) (fd:FuncData):Prop where
  ex:∃ (oc:Value) (od:Option Addr) (kV doc pm:Value) (an:Option Addr) (cdv ct:Value) (osl:Array (Option Value)),
    fd=PySem.W.fnOf x qual (bC st) (bf st) (ak st) .none kV doc pm an cdv ct∧K.lookup f=some ⟨oc,od,.func fd,osl⟩∧PySem.W.codeIn K cdv qual=true
  kp:PySem.W.keepIn K (.ref f)=true
section
variable {P:Program} {w:World} {K:PySem.W.Frag} {mg:Str→Option Value} {base:Heap}
theorem Fun.binds {x qual:Str} {st:Stmt} {f:Addr} {fd:FuncData} {ps:List Str} (F:Fun K x qual st f fd)
    (h:∀ (kV doc pm:Value) (an:Option Addr) (cdv ct:Value) (us:List Value),us.length=ps.length→bindArgs (PySem.W.fnOf x qual (bC st) (bf st) (ak st) .none kV doc pm an cdv ct) ⟨us,[]⟩=pure (ps.zip us)):Binds K fd ps []:=by
  obtain ⟨oc,od,kV,doc,pm,an,cdv,ct,osl,rfl,lk,hcd⟩:=F.ex
  exact .all (h kV doc pm an cdv ct)
theorem qb {x qual:Str} {st:Stmt} {f:Addr} {oc:Value} {od an:Option Addr} {osl:Array (Option Value)} {kV doc pm cdv ct:Value} (l:K.lookup f=some ⟨oc,od,.func (PySem.W.fnOf x qual (bC st) (bf st) (ak st) .none kV doc pm an cdv ct),osl⟩)
    (c:PySem.W.codeIn K cdv qual=true) (k:PySem.W.keepIn K (.ref f)=true):Fun K x qual st f (PySem.W.fnOf x qual (bC st) (bf st) (ak st) .none kV doc pm an cdv ct):=⟨⟨oc,od,kV,doc,pm,an,cdv,ct,osl,rfl,l,c⟩,k⟩
end
theorem KD {A:Around} {k:Nat} (hr:bX k A):A.units+1 < cLine:=Nat.lt_of_le_of_lt (Nat.add_le_add_left (by decide : 1≤64) _) hr.units
theorem small1000 {n:Nat} (h:n≤1000):n < sizeLine:=Nat.lt_of_le_of_lt h (by decide)
section
variable {X:Cx}
theorem pv (i:Nat) {x:Str} {pos:Pos} (hN:X.N[i]?=some x:=by rfl) (hv:Vis X.env.scope x:=by first | exact Or.inl rfl | exact Or.inr (Or.inl rfl) | exact Or.inr (Or.inr rfl)) (hd:(x == ("__debug__" : Str))=false:=by decide)
    (hcd:(x == ("__classdict__" : Str))=false:=by decide):PE X (.Name x pos) (GS i):=Hs hN hv hd hcd
end
theorem LQ {A B:Prop} (h:B):if false=true then A else B:=by
  rw [if_neg Bool.false_ne_true]
  exact h
theorem zz {c A B:Prop} [Decidable c] (h1:c→A) (h2:¬ c→B):if c then A else B:=by
  by_cases h:c
  · rw [if_pos h]
    exact h1 h
  · rw [if_neg h]
    exact h2 h
def aF (H H':Hp):Prop:=∀ b o,H b=some o→H' b=some o
theorem aF.refl (H:Hp):aF H H:=fun _ _ h=>h
theorem aF.trans {H H1 H2:Hp} (a:aF H H1) (b:aF H1 H2):aF H H2:=fun c o h=>b c o (a c o h)
theorem aF.seq {K:PySem.W.Frag} {H H':Hp} {a:Addr} {xs:List V} (e:aF H H') (h:SqL K H a xs):SqL K H' a xs:=by
  rcases h with (h | ⟨o,h⟩) | h
  · exact .inl (.inl (e _ _ h))
  · exact .inl (.inr ⟨o,e _ _ h⟩)
  · exact .inr h
end L2
namespace L3
open PySem PySem.Spec PyProof.Rows L2
abbrev St:=L2.St
def bh (CX:CXT):Prop:=∀ outer H s e s',¬ CX outer H s E0 e s'
theorem bh.pass {CX:CXT} (n:bh CX) {X:Cx}:Passes CX X E0:=fun _ _ H s e s' _ h=>(n _ H s e s' h).elim
structure Cal (P:Program) (w:World) (K:PySem.W.Frag) (mg:Str→Option Value) (base:Heap) (CX:CXT) (x:Str) (k:Nat) (ps:List Str) (sp:Sp):Prop where
  ex:∃ f fd,fF P w K mg base CX k f fd ps sp∧Binds K fd ps []∧PySem.W.keepIn K (.ref f)=true∧mg x=some (.ref f)
structure Dat (K:PySem.W.Frag) (mg:Str→Option Value) (x qual:Str) (st:Stmt) (ps:List Str):Prop where
  ex:∃ f fd,Fun K x qual st f fd∧Binds K fd ps []∧mg x=some (.ref f)
section
variable {P:Program} {w:World} {K:PySem.W.Frag} {mg:Str→Option Value} {base:Heap} {CX:CXT} {x qual:Str} {st:Stmt} {N ps:List Str} {k j:Nat} {sp sp':Sp}
theorem Cal.imp (c:Cal P w K mg base CX x k ps sp) (h:∀ vs H Q E,sp' vs H Q E→sp vs H Q E):Cal P w K mg base CX x k ps sp':=by
  obtain ⟨f,fd,F,r⟩:=c.ex
  exact ⟨f,fd,F.imp h,r⟩
theorem mO {f:Addr} {fd:FuncData} (F:Fun K x qual st f fd) (S:ay N ps (ak st)) (len:∀ vs H Q E,sp vs H Q E→vs.length=ps.length)
    (hbody:∀ (f:Addr) (cdv:Value) (A:Around) (outer:List Env) (s:Shared) (H:Hp) (vs:List V) (Q:VK) (E:XK),bX k (A.deeper (envOfC qual (ak st) s.heap.objs.size f cdv))→sp vs H Q E →
      ∃ t,PSs (aZ CX P w K mg base N qual (ak st) f cdv A outer s H E).nox (bf st) t∧t { nx:=fun _ H'=>Q .non H',rt:=Q } (start N vs) H):fF P w K mg base CX (k+1) f fd ps sp:=by
  obtain ⟨oc,od,kV,doc,pm,an,cdv,ct,osl,rfl,lk,hcd⟩:=F.ex
  refine sR lk hcd S len fun A outer s H vs Q E hr hsp=>?_
  obtain ⟨t,h,q⟩:=hbody f cdv A outer s H vs Q E hr hsp
  exact ⟨t,h.nox,q⟩
theorem Dat.ok (D:Dat K mg x qual st ps) (S:ay N ps (ak st)) (len:∀ vs H Q E,sp vs H Q E→vs.length=ps.length)
    (hbody:∀ (f:Addr) (cdv:Value) (A:Around) (outer:List Env) (s:Shared) (H:Hp) (vs:List V) (Q:VK) (E:XK),bX k (A.deeper (envOfC qual (ak st) s.heap.objs.size f cdv))→sp vs H Q E →
      ∃ t,PSs (aZ CX P w K mg base N qual (ak st) f cdv A outer s H E).nox (bf st) t∧t { nx:=fun _ H'=>Q .non H',rt:=Q } (start N vs) H):Cal P w K mg base CX x (k+1) ps sp:=by
  obtain ⟨f,fd,F,b,m⟩:=D.ex
  exact ⟨f,fd,mO F S len hbody,b,F.kp,m⟩
theorem Dat.okX (D:Dat K mg x qual st ps) (S:ay N ps (ak st)) (len:∀ vs H Q E,sp vs H Q E→vs.length=ps.length)
    (hbody:∀ (f:Addr) (cdv:Value) (A:Around) (outer:List Env) (s:Shared) (H:Hp) (vs:List V) (Q:VK) (E:XK),bX k (A.deeper (envOfC qual (ak st) s.heap.objs.size f cdv))→sp vs H Q E →
      ∃ t,PSs (aZ CX P w K mg base N qual (ak st) f cdv A outer s H E) (bf st) t∧t { nx:=fun _ H'=>Q .non H',rt:=Q } (start N vs) H):Cal P w K mg base CX x (k+1) ps sp:=by
  obtain ⟨f,fd,F,b,m⟩:=D.ex
  have kp:=F.kp
  obtain ⟨oc,od,kV,doc,pm,an,cdv,ct,osl,rfl,lk,hcd⟩:=F.ex
  refine ⟨f,_,sR lk hcd S len fun A outer s H vs Q E hr hsp=>?_,b,kp,m⟩
  exact hbody f cdv A outer s H vs Q E hr hsp
theorem dat_mk {h:Heap} (X:K.In h) (G:h.Ns mainGlobals mg) {f:Addr} {oc:Value} {od an:Option Addr} {osl:Array (Option Value)} {kV doc pm cdv ct:Value} (a:PySem.W.nsIn K mainGlobals x=some (some (.ref f)))
    (l:K.lookup f=some ⟨oc,od,.func (PySem.W.fnOf x qual (bC st) (bf st) (ak st) .none kV doc pm an cdv ct),osl⟩) (c:PySem.W.codeIn K cdv qual=true) (kp:PySem.W.keepIn K (.ref f)=true)
    (b:∀ (kV doc pm:Value) (an:Option Addr) (cdv ct:Value) (us:List Value),us.length=ps.length→bindArgs (PySem.W.fnOf x qual (bC st) (bf st) (ak st) .none kV doc pm an cdv ct) ⟨us,[]⟩=pure (ps.zip us)):Dat K mg x qual st ps:=by
  have F:=qb (st:=st) l c kp
  exact ⟨f,_,F,F.binds b,PySem.W.mg_of X G a⟩
end
section
variable {X:Cx} {CX:CXT} {k:Nat} {ps:List Str} {sp:Sp} {E:XK} {x:Str} {p pos:Pos} {e:Expr} {es:List Expr} {t:TA}
theorem aI (C:Cal X.prog X.w X.K X.mg X.base CX x k ps sp) (hr:bX k X.A) (hx:Passes CX X E) (ha:PA X (e::es) t) (hg:Gl X x:=by rfl)
    (hdb:(x == ("__debug__" : Str))=false:=by decide) (he:starEach (e::es) X.env=(false,eval e X.env)::starEach es X.env:=by rfl) (hpl:(backTo pos (starEach es X.env)).any (·.1)=false:=by rfl) :
    PE X (.Call (.Name x p) (e::es) [] pos) (Ay sp [] E t):=by
  obtain ⟨f,fd,F,b,kp,m⟩:=C.ex
  exact Eg F hr hg m kp b .nil hx ha hdb he hpl
end
def cG (cells:List (Str×Addr)):List (Str×NameKind)→List (Str×Addr)→List (Str×Addr)
  | [],acc=>acc
  | (n,k)::r,acc=>if k == .free then (match cells.lookup n with | some a=>cG cells r ((n,a)::acc) | none=>cG cells r acc) else cG cells r acc
theorem jN {env:Env}:∀ (l:List (Str×NameKind)) (acc:List (Str×Addr)),(∀ y∈l,y.2 = .free→∃ c,env.cells.lookup y.1=some c) →
    (forIn l acc (fun (y:Str×NameKind) cs=>do
      if y.2 == .free then let c ← cellOf env y.1;pure (ForInStep.yield ((y.1,c)::cs)) else pure (ForInStep.yield cs)):Sem (List (Str×Addr)))=pure (cG env.cells l acc)
  | [],acc,_=>rfl
  | (n,k)::r,acc,h=>by
    have ih:=fun acc=>jN (env:=env) r acc fun y hy=>h y (List.mem_cons_of_mem _ hy)
    rw [List.forIn_cons]
    cases hk:k == NameKind.free with
    | true=>
      have ek:k = .free:=by simpa using hk
      obtain ⟨c,hc⟩:=h (n,k) List.mem_cons_self ek
      have e1:cellOf env n=pure c:=by unfold cellOf;rw [hc]
      simp only [hk,if_true,e1,pure_bind]
      rw [ih]
      simp only [cG,hk,if_true,hc]
    | false=>
      simp only [hk,Bool.false_eq_true,if_false,pure_bind]
      rw [ih]
      simp only [cG,hk,Bool.false_eq_true,if_false]
theorem zM {scope:Scope} {env:Env} (h:∀ y∈scope.names,y.2 = .free→∃ c,env.cells.lookup y.1=some c):closureFor scope env=pure (cG env.cells scope.names []):=by
  unfold closureFor
  have e:=jN (env:=env) scope.names [] h
  have:(forIn scope.names ([]:List (Str×Addr)) (fun (y:Str×NameKind) cs=>do
      if y.2 == .free then let c ← cellOf env y.1;pure (ForInStep.yield ((y.1,c)::cs)) else pure (ForInStep.yield cs)):Sem (List (Str×Addr))) >>= (fun cs=>pure cs)=pure (cG env.cells scope.names []):=by rw [e];rfl
  exact this
theorem fz {cells:List (Str×Addr)}:∀ (l:List (Str×NameKind)) (acc:List (Str×Addr)) {x:Str} {c:Addr},(cG cells l acc).lookup x=some c→acc.lookup x=some c∨(cells.lookup x=some c∧(x,NameKind.free)∈l)
  | [],acc,x,c,h=>.inl h
  | (n,k)::r,acc,x,c,h=>by
    unfold cG at h
    cases hk:k == NameKind.free with
    | true=>
      have ek:k = .free:=by simpa using hk
      subst ek
      rw [if_pos hk] at h
      cases hc:cells.lookup n with
      | none=>
        rw [hc] at h
        rcases fz r acc h with z | z
        · exact .inl z
        · exact .inr ⟨z.1,List.mem_cons_of_mem _ z.2⟩
      | some a=>
        rw [hc] at h
        rcases fz r _ h with z | z
        · rw [List.lookup_cons] at z
          cases hx:x == n with
          | true=>
            rw [hx] at z
            have:x=n:=by simpa using hx
            subst this
            cases z
            exact .inr ⟨hc,List.mem_cons_self⟩
          | false=>rw [hx] at z;exact .inl z
        · exact .inr ⟨z.1,List.mem_cons_of_mem _ z.2⟩
    | false=>
      rw [if_neg (by rw [hk];exact Bool.false_ne_true)] at h
      rcases fz r acc h with z | z
      · exact .inl z
      · exact .inr ⟨z.1,List.mem_cons_of_mem _ z.2⟩
theorem gD {cells:List (Str×Addr)}:∀ (l:List (Str×NameKind)) (acc:List (Str×Addr)) {x:Str},(∃ c,acc.lookup x=some c)→∃ c,(cG cells l acc).lookup x=some c
  | [],_,_,h=>h
  | (n,k)::r,acc,x,h=>by
    unfold cG
    split
    · split
      · refine gD r _ ?_
        rw [List.lookup_cons]
        split
        · exact ⟨_,rfl⟩
        · exact h
      · exact gD r acc h
    · exact gD r acc h
theorem dB {cells:List (Str×Addr)}:∀ (l:List (Str×NameKind)) (acc:List (Str×Addr)) {x:Str},(x,NameKind.free)∈l→(∃ c,cells.lookup x=some c)→∃ c,(cG cells l acc).lookup x=some c
  | [],_,_,h,_=>by simp at h
  | (n,k)::r,acc,x,h,hc=>by
    unfold cG
    rcases List.mem_cons.mp h with e | h
    · cases e
      obtain ⟨c,hc⟩:=hc
      rw [if_pos (by decide),hc]
      exact gD r _ ⟨c,by rw [List.lookup_cons];simp⟩
    · split
      · split
        · exact dB r _ h hc
        · exact dB r _ h hc
      · exact dB r _ h hc
def qE (N own:List Str) (cap:List Nat):List Str:=own++cap.map fun j=>N.getD j Str.empty
def vP (own:Nat) (cap:List Nat) (σ : St):St:=List.replicate own none++cap.map fun j=>(σ[j]?).join
structure Blk (X:Cx) (scope:Scope) (own:List Str) (cap:List Nat):Prop where
  kind:scope.kind = .function
  nocell:∀ y∈scope.names,y.2≠.cell
  names:∀ y∈scope.names,y.2 = .local→scope.names.lookup y.1=some .local
  free:∀ y∈scope.names,y.2 = .free→X.env.kindOf y.1=some .cell
  nd:(qE X.N own cap).Nodup
  caps:∀ j∈cap,∃ x,X.N[j]?=some x∧(x,NameKind.free)∈scope.names∧scope.names.lookup x=some .free
def blk (X:Cx) (scope:Scope) (own:List Str) (cap:List Nat) (C:Addr) (s:Shared) (H:Hp) (fp:List Addr):Cx:=
  { prog:=X.prog,w:=X.w,K:=X.K,mg:=X.mg,base:=X.base,A:=X.A,N:=qE X.N own cap,s₀:=s,H₀:=H,env:=compEnvC scope (cG X.env.cells scope.names []) C X.env,outer:=X.stack,stack:=X.stack,
    ex:=fp,fn:=fun _=>false,calm:=true,pn:=[],xe:=fun _ _=>False }
theorem cQ {env:Env}:∀ {names:List (Str×NameKind)} {x:Str},env.scope.kind = .function→env.kindOf x=some .cell→names.lookup x=some .free →
    (names.map fun (n,k)=>if (k == NameKind.free && env.scope.kind == .function && env.kindOf n == some .cell) then (n,NameKind.cell) else (n,k)).lookup x=some .cell
  | [],_,_,_,h=>by simp at h
  | (n,k)::r,x,hf,hc,h=>by
    have ih:=@cQ env r x hf hc
    show List.lookup x ((if (k == NameKind.free && env.scope.kind == .function && env.kindOf n == some .cell)=true then (n,NameKind.cell) else (n,k))::_)=_
    cases hx:x == n with
    | true=>
      have e:x=n:=by simpa using hx
      subst e
      simp only [List.lookup_cons,hx] at h
      cases h
      rw [if_pos (by simp [hf,hc])]
      simp [List.lookup_cons]
    | false=>
      simp only [List.lookup_cons,hx] at h
      split
      · simp only [List.lookup_cons,hx];exact ih h
      · simp only [List.lookup_cons,hx];exact ih h
theorem jA {env:Env}:∀ {names:List (Str×NameKind)} {x:Str},(∀ y∈names,y.2≠.cell) →
    ((names.map fun (n,k)=>if (k == NameKind.free && env.scope.kind == .function && env.kindOf n == some .cell) then (n,NameKind.cell) else (n,k)).lookup x=some .cell ∨
     (names.map fun (n,k)=>if (k == NameKind.free && env.scope.kind == .function && env.kindOf n == some .cell) then (n,NameKind.cell) else (n,k)).lookup x=some .free)→(x,NameKind.free)∈names
  | [],_,_,h=>by simp at h
  | (n,k)::r,x,hn,h=>by
    have ih:=@jA env r x fun y hy=>hn y (List.mem_cons_of_mem _ hy)
    have hk:k≠.cell:=hn (n,k) List.mem_cons_self
    rw [List.map_cons] at h
    cases hx:x == n with
    | true=>
      have e:x=n:=by simpa using hx
      subst e
      by_cases hf:k = .free
      · subst hf;exact List.mem_cons_self
      · exfalso
        have hb:(k == NameKind.free)=false:=by simpa using hf
        simp only [hb,Bool.false_and,Bool.false_eq_true,if_false,List.lookup_cons,beq_self_eq_true,Option.some.injEq] at h
        rcases h with h | h
        · exact hk h
        · exact hf h
    | false=>
      refine List.mem_cons_of_mem _ (ih ?_)
      by_cases hc:(k == NameKind.free && env.scope.kind == .function && env.kindOf n == some .cell)=true
      · simp only [hc,if_true,List.lookup_cons,hx] at h;exact h
      · simp only [Bool.not_eq_true] at hc
        simp only [hc,Bool.false_eq_true,if_false,List.lookup_cons,hx] at h;exact h
section
variable {X:Cx} {pins:List (Addr×Obj)} {σ : St} {H:Hp} {s:Shared} {scope:Scope} {own:List Str} {cap:List Nat} {fp:List Addr}
theorem Blk.cells (B:Blk X scope own cap) (ok:X.Ok):∀ y∈scope.names,y.2 = .free→∃ c,X.env.cells.lookup y.1=some c:=fun y hy hf=>ok.has y.1 (.inl (B.free y hy hf))
theorem Inv.enter {C:Addr} {h4:Heap} {m:Str→Option Value} {t':Nat} (I:Inv X pins σ H s) (hc:X.calm=true) (B:Blk X scope own cap) (f2:∀ b∈fp,iO X pins H b) (flt:∀ b∈fp,b < s.heap.objs.size)
    (k:∀ b o,s.heap.get? b=some o→h4.get? b=some o) (hC:s.heap.objs.size≤C) (hn:h4.Ns C m) (pl:List (Addr×Obj)) (hpl:∀ p∈pl,h4.get? p.1=some p.2∧s.heap.objs.size≤p.1∧p.1≠C∧∀ v,p.2.data≠.cell v) :
    Inv (blk X scope own cap C s H fp) pl (vP own.length cap σ) H { s with heap:=h4,toks:=t' }:=by
  have cls:∀ x c,(cG X.env.cells scope.names []).lookup x=some c→X.env.cells.lookup x=some c∧(x,NameKind.free)∈scope.names:=fun x c e=>(fz _ _ e).elim (fun z=>by simp at z) fun z=>z
  refine ⟨⟨I.ok.mod,B.kind,I.ok.glob,I.ok.blt,hC,fun x y c e1 e2=>I.ok.inj x y c (cls x c e1).1 (cls y c e2).1,fun x hx=>?_,fun x c hf _=>(Bool.false_ne_true hf).elim,fun _=>I.ok.hd hc,I.ok.frames,.inl rfl,
    fun b hb=>⟨Nat.ne_of_lt (Nat.lt_of_lt_of_le (flt b hb) hC),fun x c e=>(f2 b hb).2.2.2.2.1 x c (cls x c e).1⟩,I.bs,Nat.le_trans I.ok.bsz I.sz,fun b o e hb=>?_,fun b hb hfs=>?_,I.stack,I.o5⟩,
    rfl,I.bare,Un.kept k,⟨m,hn,fun i x v e1 e2 e3=>?_⟩,fun x c e=>?_,I.hok.fresh hC,fun x c e=>I.freeC x c (cls x c e).1,fun p hp=>?_,I.hok.kept k,?_⟩
  · have hx':((relabel scope X.env).names.lookup x=some .cell∨(relabel scope X.env).names.lookup x=some .free):=hx
    have hf:=jA B.nocell hx'
    exact dB _ _ hf (B.cells I.ok _ hf rfl)
  · rcases (f2 b hb).2.2.2.1 with z | z
    · exact I.ok.noex b o e z
    · exact absurd (Nat.lt_of_lt_of_le (Heap.lt_size e) (Nat.le_trans I.ok.bsz z)) (Nat.lt_irrefl _)
  · rcases List.mem_cons.mp (I.o4 b hfs) with z | z
    · exact (f2 b hb).2.1 z
    · exact (f2 b hb).2.2.1 z
  · -- the names
    have e2':(List.replicate own.length (none:Option V)++cap.map fun j=>(σ[j]?).join)[i]?=some (some v):=e2
    have e1':(own++cap.map fun j=>X.N.getD j Str.empty)[i]?=some x:=e1
    by_cases hi:i < own.length
    · rw [List.getElem?_append_left (by simpa using hi),List.getElem?_replicate,if_pos hi] at e2'
      cases e2'
    · rw [List.getElem?_append_right (by simpa using hi),List.getElem?_map] at e2'
      rw [List.getElem?_append_right (by simpa using hi),List.getElem?_map] at e1'
      rw [List.length_replicate] at e2'
      cases hj:cap[i - own.length]? with
      | none=>rw [hj] at e2';cases e2'
      | some j=>
        rw [hj] at e1' e2'
        have Jo:X.N.getD j Str.empty=x:=Option.some.inj e1'
        have qi:(σ[j]?).join=some v:=Option.some.inj e2'
        obtain ⟨y,hy,hm,hl⟩:=B.caps j (List.mem_of_getElem? hj)
        have exy:x=y:=by rw [← Jo,List.getD_eq_getElem?_getD,hy];rfl
        subst exy
        have hσ : σ[j]?=some (some v):=by
          cases q : σ[j]? with
          | none=>rw [q] at qi;cases qi
          | some z=>rw [q] at qi;rw [show z=some v from qi]
        have kc:=B.free _ hm rfl
        obtain ⟨m0,hn0,hl0⟩:=I.loc
        obtain ⟨u,r,lk⟩:=hl0 j x v hy hσ (.inr (.inl kc))
        refine ⟨u,r,.inr ⟨.inl (cQ I.ok.kind kc hl),?_⟩⟩
        rcases lk with ⟨k1,_⟩ | ⟨_,c,hc1,o,ho,hd⟩
        · rw [kc] at k1;cases k1
        · obtain ⟨c',hc'⟩:=dB (cells:=X.env.cells) scope.names [] hm ⟨c,hc1⟩
          have:=(cls x c' hc').1
          rw [hc1] at this;cases this
          exact ⟨c,hc',o,k c o ho,hd⟩
  · obtain ⟨v,o,ho,hd⟩:=I.cell x c (cls x c e).1
    exact ⟨v,o,k c o ho,hd⟩
  · have hp':p∈pl:=hp
    obtain ⟨h1,h2,h3,h5⟩:=hpl p hp'
    refine ⟨h1,I.hok.fresh h2,h3,fun hfs=>?_,h5⟩
    rcases List.mem_cons.mp (I.o4 p.1 hfs) with z | z
    · exact absurd (Nat.lt_of_lt_of_le I.lt h2) (by rw [z];exact Nat.lt_irrefl _)
    · exact I.Kx h2 z
  · show (List.replicate own.length (none:Option V)++cap.map fun j=>(σ[j]?).join).length=(own++cap.map fun j=>X.N.getD j Str.empty).length
    simp
theorem Inv.leave {C D:Addr} {s':Shared} {h':Heap} {H':Hp} {σ':St} {ys:List V} {its:List Value} {n:Nat} (I:Inv X pins σ H s) (f2:∀ b∈fp,iO X pins H b) (hC:s.heap.objs.size≤C) (hD:s.heap.objs.size≤D) (hDC:D≠C)
    (J:Inv (blk X scope own cap C s H fp) [(D,{ cls:=.type "list",data:=.seq its.toArray n })] σ' H' s') (hs:Heap.SameBut C s'.heap h') (r:Vals ys its) (hz:ys.length≤sizeLine) :
    Inv X pins σ (upd H' D (.lst ys)) { s' with heap:=h' }:=by
  obtain ⟨eD,nD,_,_,_⟩:=J.pin (D,{ cls:=.type "list",data:=.seq its.toArray n }) (List.mem_append_right _ (List.mem_singleton.mpr rfl))
  have HD:H D=none:=I.hok.fresh hD
  have nC:H' C=none:=J.free
  have neC:∀ b o,s.heap.get? b=some o→b≠C:=fun b o e=>Nat.ne_of_lt (Nat.lt_of_lt_of_le (Heap.lt_size e) hC)
  have neD:∀ b o,s.heap.get? b=some o→b≠D:=fun b o e=>Nat.ne_of_lt (Nat.lt_of_lt_of_le (Heap.lt_size e) hD)
  have J0:Un (frs X.stack) fp H H' s.heap s'.heap:=J.base
  have u:Un (frs X.stack) fp H (upd H' D (.lst ys)) s.heap h':=by
    refine ⟨fun b o e n hb hx=>?_,fun b o e n hb hx=>?_,fun b o e n hx=>?_,fun b o e hx=>?_,fun b xs e=>?_,fun b o xs e=>?_,fun b ps e=>?_⟩
    · exact (hs.2 b (neC b o e)).trans (J0.keep b o e n hb hx)
    · obtain ⟨sl,q⟩:=J0.slot b o e n hb hx
      exact ⟨sl,(hs.2 b (neC b o e)).trans q⟩
    · rw [az (neD b o e)];exact J0.free b o e n hx
    · obtain ⟨o',q⟩:=J0.there b o e hx
      exact ⟨o',(hs.2 b (neC b o e)).trans q⟩
    · rw [az (aJ e HD)];exact J0.tups b xs e
    · rw [az (aJ e HD)];exact J0.jh b o xs e
    · rw [az (aJ e HD)];exact J0.ju b ps e
  have hok:HOk X.prog X.w (upd H' D (.lst ys)) h':=fun b o e=>by
    by_cases hb:b=D
    · subst hb
      rw [aB] at e;cases e
      exact ⟨hz,its,n,r,(hs.2 b hDC).trans eD⟩
    · rw [az hb] at e
      refine (J.hok b o e).stay (fun c v hc q=>(hs.2 c ?_).trans q) (fun c q=>?_) fun c xs q=>?_
      · rcases hc with rfl | hc
        · exact aJ e nC
        · exact aJ hc nC
      · rw [az (aJ q nD)];exact q
      · rw [az (aJ q nD)];exact q
  obtain ⟨hh,g,d,t,os⟩:=s'
  have eos:os=s.os:=J.os
  subst eos
  exact Inv.call (s:=s) (h':=h') (g':=g) (d':=d) (t':=t) (ch:=fp) I u hok J.bare fun b hb=>⟨(f2 b hb).2.2.2.1,(f2 b hb).2.1,fun x c e=>(f2 b hb).2.2.2.2.1 x c e,(f2 b hb).2.2.2.2.2⟩
end
section
variable {X:Cx} {pins:List (Addr×Obj)} {σ : St} {H:Hp} {s:Shared} {scope:Scope} {own:List Str} {cap:List Nat} {fp:List Addr}
theorem Inv.again {C:Addr} {pl:List (Addr×Obj)} {σ2:St} {H3:Hp} {s3:Shared} (I:Inv X pins σ H s) (B:Blk X scope own cap) (f2:∀ b∈fp,iO X pins H b) (J:Inv (blk X scope own cap C s H fp) pl σ2 H3 s3) :
    Inv (blk X scope own cap C s H fp) pl (vP own.length cap σ) H3 s3:=by
  obtain ⟨m,hn,_⟩:=J.loc
  refine ⟨J.ok,J.os,J.bare,J.base,⟨m,hn,fun i x v e1 e2 e3=>?_⟩,J.cell,J.free,J.freeC,J.pin,J.hok,?_⟩
  · have e2':(List.replicate own.length (none:Option V)++cap.map fun j=>(σ[j]?).join)[i]?=some (some v):=e2
    have e1':(own++cap.map fun j=>X.N.getD j Str.empty)[i]?=some x:=e1
    by_cases hi:i < own.length
    · rw [List.getElem?_append_left (by simpa using hi),List.getElem?_replicate,if_pos hi] at e2'
      cases e2'
    · rw [List.getElem?_append_right (by simpa using hi),List.getElem?_map] at e2'
      rw [List.getElem?_append_right (by simpa using hi),List.getElem?_map] at e1'
      rw [List.length_replicate] at e2'
      cases hj:cap[i - own.length]? with
      | none=>rw [hj] at e2';cases e2'
      | some j=>
        rw [hj] at e1' e2'
        have Jo:X.N.getD j Str.empty=x:=Option.some.inj e1'
        have qi:(σ[j]?).join=some v:=Option.some.inj e2'
        obtain ⟨y,hy,hm,hl⟩:=B.caps j (List.mem_of_getElem? hj)
        have exy:x=y:=by rw [← Jo,List.getD_eq_getElem?_getD,hy];rfl
        subst exy
        have hσ : σ[j]?=some (some v):=by
          cases q : σ[j]? with
          | none=>rw [q] at qi;cases qi
          | some z=>rw [q] at qi;rw [show z=some v from qi]
        have kc:=B.free _ hm rfl
        obtain ⟨m0,hn0,hl0⟩:=I.loc
        obtain ⟨u,r,lk⟩:=hl0 j x v hy hσ (.inr (.inl kc))
        refine ⟨u,r,.inr ⟨.inl (cQ I.ok.kind kc hl),?_⟩⟩
        rcases lk with ⟨k1,_⟩ | ⟨_,c,hc1,o,ho,hd⟩
        · rw [kc] at k1;cases k1
        · obtain ⟨c',hc'⟩:=dB (cells:=X.env.cells) scope.names [] hm ⟨c,hc1⟩
          have:=((fz _ _ hc').elim (fun z=>by simp at z) fun z=>z.1:X.env.cells.lookup x=some c')
          rw [hc1] at this;cases this
          have J0:Un (frs X.stack) fp H H3 s.heap s3.heap:=J.base
          obtain ⟨sl,q⟩:=J0.any ho (I.freeC x c hc1) fun z=>(f2 c z).2.2.2.2.1 x c hc1 rfl
          exact ⟨c,hc',_,q,hd⟩
  · show (List.replicate own.length (none:Option V)++cap.map fun j=>(σ[j]?).join).length=(own++cap.map fun j=>X.N.getD j Str.empty).length
    simp
end
theorem tu {prog:Program} {w:World} {A:Around} {R:Result→Shared→Prop} {s:Shared} {elt target iter:Expr} {ifs:List Expr} {scope:Scope} {pos:Pos} {it acc:Value} {env:Env} (I:Nat→Shared→Prop)
    (turn:∀ n s,I n s→wpAny (model prog w) A (pyNext it) (fun r s₁=>match r with
      | none=>R (.ok .next) s₁
      | some v=>wpAny (model prog w) A (letOwnedTupleGo target it v) (fun _ s₁'=>wpAny (model prog w) A (assign target env v) (fun _ s₂=>
          wpAny (model prog w) A (forIn ifs true fun c r=>if r=true then do let ok ← isTrue c env (eval c env);pure (ForInStep.yield ok) else pure (ForInStep.yield r)) (fun ok s₃=>
            if ok=true then wpAny (model prog w) A (eval elt env) (fun x s₄=>
              wpAny (model prog w) A (call (.builtin "list.append") [acc,x]) (fun _ s₅=>∃ m,m < n∧I m s₅) (fun _ _=>False) s₄) (fun _ _=>False) s₃
            else ∃ m,m < n∧I m s₃) (fun _ _=>False) s₂) (fun _ _=>False) s₁') (fun _ _=>False) s₁) (fun _ _=>False) s)
    (n:Nat) (h:I n s) :
    codeAny (model prog w) A (.compLoop (.ListComp elt [⟨target,iter,ifs,0⟩] scope pos) 0 it acc env) R s:=by
  refine codeAny_loop rfl I (fun n s hI=>?_) n h
  show wpAny _ A ((compTurn (.ListComp elt [⟨target,iter,ifs,0⟩] scope pos) 0 it acc env).onRaise (fun x=>do noteFrame x env;theTreesLotGoes x)) _ _ s
  refine wpAny_noted ?_
  rw [compTurn_list]
  refine wpAny_bind (wpAny_standAt (wpAny_bind (wpAny_mono (turn n s hI) (fun r s₁ h₁=>?_) fun _ _ z=>z.elim)))
  cases r with
  | none=>exact wpAny_pure h₁
  | some v=>
    refine wpAny_bind (wpAny_mono h₁ (fun _ s₁' h₁'=>?_) fun _ _ z=>z.elim)
    refine wpAny_bind (wpAny_mono h₁' (fun _ s₂ h₂=>wpAny_bind (wpAny_mono h₂ (fun ok s₃ h₃=>?_) fun _ _ z=>z.elim)) fun _ _ z=>z.elim)
    cases ok with
    | false=>exact wpAny_pure ⟨rfl,h₃⟩
    | true=>
      exact wpAny_bind (wpAny_bind (wpAny_mono h₃ (fun x s₄ h₄=>wpAny_bind (wpAny_mono h₄ (fun _ s₅ h₅=>wpAny_pure (wpAny_pure ⟨rfl,h₅⟩)) fun _ _ z=>z.elim)) fun _ _ z=>z.elim))
def FT (X:Cx) (ifs:List Expr) (tc:TT):Prop:=
  ∀ (pins:List (Addr×Obj)) (s:Shared) (σ : St) (H:Hp) (Q:Bool→Hp→Prop),Inv X pins σ H s→tc σ H Q →
    wpAny (model X.prog X.w) X.A (forIn ifs true fun c r=>if r=true then do let ok ← isTrue c X.env (eval c X.env);pure (ForInStep.yield ok) else pure (ForInStep.yield r)) (TP X pins σ Q) X.xe s
def J2:TT:=fun _ H Q=>Q true H
theorem iu {X:Cx}:FT X [] J2:=fun _ _ _ H _ I h=>wpAny_tests_nil ⟨H,I,h⟩
theorem Bw {X:Cx} {c:Expr} {tc:TT} (h:PT X c tc):FT X [c] tc:=fun pins s σ H Q I hw=>wpAny_tests_one (h pins s σ H Q I hw)
def oS (J:It) (W:Nat→Nat→List V→Hp→Prop) (D:List V→Hp→Prop) (σb:St) (g:TG) (tc:TT) (te:TE):Prop:=
  ∀ i m ys H,W i m ys H→ys.length≤sizeLine ∧
    ((J.stop i H∧D ys H)∨(J.go i H∧∃ N:List V→Hp→Prop,(∀ ys' H',N ys' H'→∃ m',m' < m∧W (i+1) m' ys' H')∧∀ x H',J.yld i H x H'→g x σb H' fun σ2 H2=>tc σ2 H2 fun b H3=>
      if b=true then te σ2 H3 fun y H4=>N (ys++[y]) H4 else N ys H3))
def Gb (wi:TI) (own:Nat) (cap:List Nat) (g:TG) (tc:TT) (te:TE):TE:=fun σ H Q=>wi σ H fun J H1=>∃ W:Nat→Nat→List V→Hp→Prop,(∃ m,W 0 m [] H1) ∧
  oS J W (fun ys H=>∀ p,H p=none→Q (.ref p) (upd H p (.lst ys))) (vP own cap σ) g tc te
section
variable {X:Cx} {scope:Scope} {own:List Str} {cap:List Nat} {tg elt iter:Expr} {ifs:List Expr} {pos:Pos} {wi:TI} {g:TG} {tc:TT} {te:TE}
theorem vF (B:Blk X scope own cap) (hc:X.calm=true) (hg:∀ C s H fp,PG (blk X scope own cap C s H fp) tg g) (ht:∀ C s H fp,FT (blk X scope own cap C s H fp) ifs tc) (he:∀ C s H fp,PE (blk X scope own cap C s H fp) elt te)
    {pins:List (Addr×Obj)} {s2:Shared} {σ : St} {H2:Hp} {it:Addr} {fp:List Addr} {tn:Nat→Heap→Prop} {J:It} {W:Nat→Nat→List V→Hp→Prop} {D:List V→Hp→Prop} {m0:Nat} {E:Value→Shared→Prop} {RR:Value→Addr→Result→Shared→Prop}
    (I2:Inv X pins σ H2 s2) (T:Turn X.prog X.w X.K tg J fp it tn) (st2:tn 0 s2.heap) (f2:∀ b∈fp,iO X pins H2 b) (w0:W 0 m0 [] H2) (turn:oS J W D (vP own.length cap σ) g tc te)
    (done:∀ (C L:Addr) (s':Shared) (H':Hp) (σ':St) (ys:List V) (its:List Value) (n:Nat),s2.heap.objs.size≤C→s2.heap.objs.size≤L→L≠C→Inv (blk X scope own cap C s2 H2 fp) [(L,{ cls:=.type "list",data:=.seq its.toArray n })] σ' H' s'→Vals ys its→ys.length≤sizeLine→D ys H' →
      RR (.ref L) C (.ok .next) s') :
    wpAny (model X.prog X.w) X.A (newList []) (fun acc s₃=>wpAny (model X.prog X.w) X.A (newFunctionEnv scope X.env.globals (cG X.env.cells scope.names []) [] X.env.qual none .none (some X.env)) (fun cenv s₄=>
      codeAny (model X.prog X.w) X.A (.compStart (.ListComp elt [⟨tg,iter,ifs,0⟩] scope pos) 0 (.ref it) acc { cenv with scope:=relabel scope X.env }) (RR acc cenv.locals) s₄) E s₃) E s2:=by
  refine wpAny_newObj_type (wpAny_newFunctionEnv B.nocell (by intro y hy;simp at hy) (fun h₁ hns₁ hsb₁=>?_) B.kind)
  dsimp only at hns₁ hsb₁ ⊢
  have flt:∀ b∈fp,b < s2.heap.objs.size:=fun b hb=>by
    obtain ⟨o,e,_⟩:=T.obj _ _ st2 b hb
    exact Heap.lt_size e
  generalize hH2:s2.heap.push { cls:=.type "list",dict:=none,data:=.seq ([]:List Value).toArray }=G2 at hns₁ hsb₁ ⊢
  have hCs:G2.objs.size=s2.heap.objs.size+1:=by rw [← hH2,Heap.size_push]
  have hC:s2.heap.objs.size≤G2.objs.size:=by rw [hCs];exact Nat.le_succ _
  have hDC:s2.heap.objs.size≠G2.objs.size:=by rw [hCs];exact Nat.ne_of_lt (Nat.lt_succ_self _)
  have old:∀ b o,s2.heap.get? b=some o→h₁.get? b=some o:=fun b o e=>
    hsb₁.extBut b o (Nat.ne_of_lt (Nat.lt_of_lt_of_le (Heap.lt_size e) hC)) (Heap.get?_push_of_some _ (hH2▸Heap.get?_push_of_some _ e))
  have hacc:h₁.get? s2.heap.objs.size=some { cls:=.type "list",data:=.seq ([]:List Value).toArray 0 }:=hsb₁.extBut _ _ hDC (Heap.get?_push_of_some _ (hH2▸Heap.get?_push_size _ rfl))
  have loop:∀ s₃ : Shared,s₃={ s2 with heap:=h₁,toks:=s2.toks+([]:List (Str×Value)).length } →
      codeAny (model X.prog X.w) X.A (.compLoop (.ListComp elt [⟨tg,iter,ifs,0⟩] scope pos) 0 (.ref it) (.ref s2.heap.objs.size) (compEnvC scope (cG X.env.cells scope.names []) G2.objs.size X.env))
        (RR (.ref s2.heap.objs.size) G2.objs.size) s₃:=by
    rintro s₃ rfl
    refine tu (fun n s'=>∃ i ys its nn H',Inv (blk X scope own cap G2.objs.size s2 H2 fp) [(s2.heap.objs.size,{ cls:=.type "list",data:=.seq (its:List Value).toArray nn })] (vP own.length cap σ) H' s'∧tn i s'.heap∧(∀ b∈fp,H' b=none)∧Vals ys its∧W i n ys H')
      ?_ m0 ⟨0,[],[],0,H2,L3.Inv.enter I2 hc B f2 flt old hC hns₁ _ (fun p hp=>?_),T.keep _ _ _ st2 (fun b _ o e=>old b o e),fun b hb=>(f2 b hb).1,.nil,w0⟩
    · rintro n s3 ⟨i,ys,its,nn,H3,J3,st3,fr3,rv,w3⟩
      have fpb:∀ {pl:List (Addr×Obj)} {H':Hp},(∀ b∈fp,H' b=none)→(∀ p∈pl,∀ b∈fp,p.1≠b)→∀ b∈fp,iO (blk X scope own cap G2.objs.size s2 H2 fp) pl H' b:=fun {pl H'} hn hp b hb=>
        ⟨hn b hb,Nat.ne_of_lt (Nat.lt_of_lt_of_le (flt b hb) hC),fun z=>J3.ok.exfs b hb z,.inl hb,fun x c e=>(J3.ok.exf b hb).2 x c e,fun p hp'=>by
          rcases List.mem_append.mp hp' with z | z
          · exact absurd (show p∈([]:List (Addr×Obj)) from z) (by simp)
          · exact hp p z b hb⟩
      have nD:∀ (o:Obj),∀ p∈[(s2.heap.objs.size,o)],∀ b∈fp,p.1≠b:=fun o p hp b hb=>by
        have e:p=(s2.heap.objs.size,o):=by simpa using hp
        subst e
        exact (Nat.ne_of_lt (flt b hb)).symm
      obtain ⟨hz,tr⟩:=turn i n ys H3 w3
      rcases tr with ⟨stop,qD⟩ | ⟨go,N,hN,step⟩
      · refine thn (T.done (blk X scope own cap G2.objs.size s2 H2 fp) rfl rfl rfl rfl i _ s3 _ H3 (fun _ _=>False) J3 (fpb fr3 (nD _)) st3 stop) fun r s4 ⟨hr,J4⟩=>?_
        subst hr
        exact done _ _ s4 H3 _ ys its nn hC (Nat.le_refl _) hDC J4 rv hz qD
      · refine thn (T.item (blk X scope own cap G2.objs.size s2 H2 fp) rfl rfl rfl rfl i _ s3 _ H3 (fun _ _=>False) J3 (fpb fr3 (nD _)) st3 go) fun r s4 ⟨u,hr,h4⟩=>?_
        subst hr
        refine thn h4 fun _ s5 ⟨x,H5,J5,r5,y5,st5,fr5⟩=>?_
        have J5':=J5.pinned (fpb fr5 (nD _)) (T.obj _ _ st5)
        refine thn (hg _ _ _ _ _ s5 _ H5 x u _ J5' r5 (step x H5 y5)) fun _ s6 ⟨σ6,H6,J6,q6⟩=>?_
        -- a turn's end,the list at L as it stands
        have again:∀ {pl:List (Addr×Obj)} {its':List Value} {nn':Nat} {ys':List V} {s8:Shared} {H8:Hp} {σ8:St} {m':Nat},Inv (blk X scope own cap G2.objs.size s2 H2 fp) ([(s2.heap.objs.size,{ cls:=.type "list",data:=.seq its'.toArray nn' })]++ir fp s5.heap) σ8 H8 s8→Vals ys' its'→m' < n→W (i+1) m' ys' H8 →
            ∃ m,m < n∧∃ i ys its nn H',Inv (blk X scope own cap G2.objs.size s2 H2 fp) [(s2.heap.objs.size,{ cls:=.type "list",data:=.seq (its:List Value).toArray nn })] (vP own.length cap σ) H' s8∧tn i s8.heap∧(∀ b∈fp,H' b=none)∧Vals ys its∧W i m ys H':=by
          intro pl its' nn' ys' s8 H8 σ8 m' J8 rv' hm w8
          have Kq:∀ b∈fp,∀ o,s5.heap.get? b=some o→s8.heap.get? b=some o∧H8 b=none:=fun b hb o e=>by
            have q:=J8.pin (b,o) (List.mem_append_right _ (List.mem_append_right _ (je hb e)))
            exact ⟨q.1,q.2.1⟩
          refine ⟨m',hm,i+1,ys',its',nn',H8,Inv.again I2 B f2 J8.jt,T.keep _ _ _ st5 fun b hb o e=>(Kq b hb o e).1,fun b hb=>?_,rv',w8⟩
          obtain ⟨o,e,_⟩:=T.obj _ _ st5 b hb
          exact (Kq b hb o e).2
        refine thn (ht _ _ _ _ _ s6 _ H6 _ J6 q6) fun ok s7 ⟨H7,J7,q7⟩=>?_
        cases ok with
        | false=>
          rw [if_neg Bool.false_ne_true]
          rw [if_neg Bool.false_ne_true] at q7
          obtain ⟨m',hm,w7⟩:=hN _ _ q7
          exact again (pl:=[]) J7 rv hm w7
        | true=>
          rw [if_pos rfl]
          rw [if_pos rfl] at q7
          refine thn (he _ _ _ _ _ s7 _ H7 _ J7 q7) fun v s8 ⟨y,H8,J8,ry,q8⟩=>?_
          obtain ⟨m',hm,w8⟩:=hN _ _ q8
          have pL:=J8.pin (s2.heap.objs.size,{ cls:=.type "list",data:=.seq its.toArray nn }) (List.mem_append_right _ (List.mem_append_left _ (List.mem_singleton.mpr rfl)))
          refine wpAny_list_append_plain (l:=s2.heap.objs.size) (items:=its.toArray) ⟨nn,pL.1⟩ (fun h' hp' hsb=>?_) (by rw [List.size_toArray,← rv.length];exact hz)
          obtain ⟨nn',hL'⟩:=hp'
          have J9:Inv (blk X scope own cap G2.objs.size s2 H2 fp) (ir fp s5.heap) σ6 H8 s8:=J8.lG fun p hp=>J8.pin p (List.mem_append_right _ (List.mem_append_right _ hp))
          have LL:∀ p∈(blk X scope own cap G2.objs.size s2 H2 fp).pn++ir fp s5.heap,p.1≠s2.heap.objs.size:=fun p hp=>by
            rcases List.mem_append.mp hp with z | z
            · exact absurd (show p∈([]:List (Addr×Obj)) from z) (by simp)
            · exact Nat.ne_of_lt (flt _ (oj z).1)
          have J10:Inv (blk X scope own cap G2.objs.size s2 H2 fp) (ir fp s5.heap) σ6 H8 { s8 with heap:=h' }:=J9.turned (t':=s8.toks) (it:=s2.heap.objs.size) (fun b o hb e=>(hsb.2 b hb).trans e) pL.2.1 pL.2.2.1 (.inr (Nat.le_refl _))
            (fun x c e z=>by
              obtain ⟨v',o',ho',hd'⟩:=J9.cell x c e
              rw [z,pL.1] at ho';cases ho';cases hd') LL
          refine again (pl:=[]) (its':=its++[v]) (nn':=nn') (J10.lG fun p hp=>?_) (rv.append (.cons ry .nil)) hm w8
          rcases List.mem_append.mp hp with z | z
          · have e:p=(s2.heap.objs.size,{ cls:=.type "list",data:=.seq (its++[v]).toArray nn' }):=by simpa using z
            subst e
            refine ⟨?_,pL.2.1,pL.2.2.1,pL.2.2.2.1,fun v'=>by intro q;cases q⟩
            rw [hL']
            simp
          · exact J10.pin p (List.mem_append_right _ z)
    · have e:p=(s2.heap.objs.size,{ cls:=.type "list",data:=.seq ([]:List Value).toArray 0 }):=by simpa using hp
      subst e
      exact ⟨hacc,Nat.le_refl _,hDC,fun v'=>by intro q;cases q⟩
  exact codeAny_compStart_list (loop _ rfl) (T.self _ 0 _ _ _ (T.keep _ _ _ st2 fun b _ o e=>old b o e) (loop _ rfl))
theorem iV (hc:X.calm=true) (hi:PI X tg iter wi) (B:Blk X scope own cap) (hg:∀ C s H fp,PG (blk X scope own cap C s H fp) tg g) (ht:∀ C s H fp,FT (blk X scope own cap C s H fp) ifs tc) (he:∀ C s H fp,PE (blk X scope own cap C s H fp) elt te)
    (hs:∀ x,foldedSetIterable iter X.env x=pure x:=by intro _;rfl):PE X (.ListComp elt [⟨tg,iter,ifs,0⟩] scope pos) (Gb wi own.length cap g tc te):=by
  intro pins s σ H Q I h
  rw [eval_ListComp]
  refine wpAny_comprehension_free (use:=none) rfl hs (zM (B.cells I.ok)) B.kind B.names (thn (hi pins s σ H _ I h) fun v s1 h1=>thn h1 fun itv s2 h2=>?_)
  obtain ⟨it,fp,tn,J,H2,e,I2,T,st2,f2,W,⟨m0,w0⟩,turn⟩:=h2
  subst e
  refine vF (RR:=fun acc C=>compPost (model X.prog X.w) X.A X.xe none (EP X pins σ Q) acc C) B hc hg ht he I2 T st2 f2 w0 turn ?_
  intro C L s' H' σ' ys its n hC hL hLC J' rv hz hD
  obtain ⟨m,hn,_⟩:=J'.loc
  have nL:=(J'.pin _ (List.mem_append_right _ (List.mem_singleton.mpr rfl))).2.1
  exact ⟨m,hn,fun h' hs'=>⟨.ref L,_,Inv.leave I2 f2 hC hL hLC J' hs' rv hz,rfl,hD L nL⟩⟩
end
theorem zL {K:PySem.W.Frag} {a:Addr} {xs:List V} {g:TG} {tc:TT} {te:TE} {D:List V→Hp→Prop} {σb:St} {H:Hp} (Pv:Nat→List V→Hp→Prop) (h0:Pv 0 [] H) (hl:∀ i ys H,i≤xs.length→Pv i ys H→SqL K H a xs∧ys.length≤sizeLine)
    (hs:∀ i x ys H,xs[i]?=some x→Pv i ys H→g x σb H fun σ2 H2=>tc σ2 H2 fun b H3=>if b=true then te σ2 H3 fun y H4=>Pv (i+1) (ys++[y]) H4 else Pv (i+1) ys H3) (hd:∀ ys H,Pv xs.length ys H→D ys H) :
    ∃ W:Nat→Nat→List V→Hp→Prop,(∃ m,W 0 m [] H)∧oS (Itl K a) W D σb g tc te:=by
  refine ⟨fun i m ys H=>m=xs.length - i∧i≤xs.length∧Pv i ys H,⟨xs.length,by simp,Nat.zero_le _,h0⟩,?_⟩
  rintro i m ys H ⟨rfl,hi,p⟩
  obtain ⟨q,hz⟩:=hl i ys H hi p
  refine ⟨hz,?_⟩
  by_cases hlt:i < xs.length
  · refine .inr ⟨⟨xs,xs[i],q,by simp [hlt]⟩,Pv (i+1),fun ys' H' p'=>⟨xs.length - (i+1),by omega,rfl,hlt,p'⟩,fun x H' y=>?_⟩
    obtain ⟨e,y⟩:=y
    subst e
    exact hs i x ys _ (y xs q) p
  · have e:i=xs.length:=by omega
    subst e
    exact .inl ⟨⟨xs,q,Nat.le_refl _⟩,hd ys H p⟩
theorem CK {K:PySem.W.Frag} {a:Addr} {xs:List V} {g:TG} {tc:TT} {te:TE} {D:List V→Hp→Prop} {σb:St} {H:Hp} (Pv:Nat→List V→Hp→Prop) (h0:Pv 0 [] H) (hl:∀ i ys H,i≤xs.length→Pv i ys H→SqT K H a xs∧ys.length≤sizeLine)
    (hs:∀ i x ys H,xs[i]?=some x→Pv i ys H→g x σb H fun σ2 H2=>tc σ2 H2 fun b H3=>if b=true then te σ2 H3 fun y H4=>Pv (i+1) (ys++[y]) H4 else Pv (i+1) ys H3) (hd:∀ ys H,Pv xs.length ys H→D ys H) :
    ∃ W:Nat→Nat→List V→Hp→Prop,(∃ m,W 0 m [] H)∧oS (Itt K a) W D σb g tc te:=by
  refine ⟨fun i m ys H=>m=xs.length - i∧i≤xs.length∧Pv i ys H,⟨xs.length,by simp,Nat.zero_le _,h0⟩,?_⟩
  rintro i m ys H ⟨rfl,hi,p⟩
  obtain ⟨q,hz⟩:=hl i ys H hi p
  refine ⟨hz,?_⟩
  by_cases hlt:i < xs.length
  · refine .inr ⟨⟨xs,xs[i],q,by simp [hlt]⟩,Pv (i+1),fun ys' H' p'=>⟨xs.length - (i+1),by omega,rfl,hlt,p'⟩,fun x H' y=>?_⟩
    obtain ⟨e,y⟩:=y
    subst e
    exact hs i x ys _ (y xs q) p
  · have e:i=xs.length:=by omega
    subst e
    exact .inl ⟨⟨xs,q,Nat.le_refl _⟩,hd ys H p⟩
theorem vE {lo:Int} {n:Nat} {g:TG} {tc:TT} {te:TE} {D:List V→Hp→Prop} {σb:St} {H:Hp} (Pv:Nat→List V→Hp→Prop) (h0:Pv 0 [] H) (hl:∀ i ys H,i≤n→Pv i ys H→ys.length≤sizeLine)
    (hs:∀ i ys H,i < n→Pv i ys H→g (.int (lo+i)) σb H fun σ2 H2=>tc σ2 H2 fun b H3=>if b=true then te σ2 H3 fun y H4=>Pv (i+1) (ys++[y]) H4 else Pv (i+1) ys H3) (hd:∀ ys H,Pv n ys H→D ys H) :
    ∃ W:Nat→Nat→List V→Hp→Prop,(∃ m,W 0 m [] H)∧oS (Itr lo n) W D σb g tc te:=by
  refine ⟨fun i m ys H=>m=n - i∧i≤n∧Pv i ys H,⟨n,by simp,Nat.zero_le _,h0⟩,?_⟩
  rintro i m ys H ⟨rfl,hi,p⟩
  refine ⟨hl i ys H hi p,?_⟩
  by_cases hlt:i < n
  · refine .inr ⟨hlt,Pv (i+1),fun ys' H' p'=>⟨n - (i+1),by omega,rfl,hlt,p'⟩,fun x H' y=>?_⟩
    obtain ⟨e,y⟩:=y
    subst e y
    exact hs i ys _ hlt p
  · have e:i=n:=by omega
    subst e
    exact .inl ⟨Nat.le_refl _,hd ys H p⟩
structure GlV (mg:Str→Option Value) (x:Str) (v:V):Prop where
  ex:∃ u,mg x=some u∧RelV v u
theorem BB {X:Cx} {x:Str} {v:V} {pos:Pos} (h:GlV X.mg x v) (hg:Gl X x:=by rfl) (hd:(x == ("__debug__" : Str))=false:=by decide):PE X (.Name x pos) (tC v):=by
  obtain ⟨u,m,r⟩:=h.ex
  exact Ef hg m r hd
theorem kB:bootBuiltins "len" = some (.builtin "len"):=by decide +kernel
theorem fQ:bootBuiltins "isinstance" = some (.builtin "isinstance"):=by decide +kernel
theorem dX:bootBuiltins "max" = some (.builtin "max"):=by decide +kernel
theorem qC:bootBuiltins "min" = some (.builtin "min"):=by decide +kernel
theorem Jz:bootBuiltins "all" = some (.builtin "all"):=by decide +kernel
theorem Jy:bootBuiltins "any" = some (.builtin "any"):=by decide +kernel
theorem oH:bootBuiltins "sorted" = some (.builtin "sorted"):=by decide +kernel
theorem C0:bootBuiltins "str" = some (.type "str"):=by decide +kernel
theorem lP:bootBuiltins "list" = some (.type "list"):=by decide +kernel
theorem dj:bootBuiltins "tuple" = some (.type "tuple"):=by decide +kernel
theorem C1:bootBuiltins "set" = some (.type "set"):=by decide +kernel
theorem C2:bootBuiltins "int" = some (.type "int"):=by decide +kernel
theorem xS:bootBuiltins "bool" = some (.type "bool"):=by decide +kernel
structure Bt (mg:Str→Option Value):Prop where
  len:mg "len" = none
  range:mg "range" = none
  isinstance:mg "isinstance" = none
  max:mg "max" = none
  min:mg "min" = none
  all:mg "all" = none
  any:mg "any" = none
  sorted:mg "sorted" = none
  sum:mg "sum" = none
  int_:mg "int" = none
  bool_:mg "bool" = none
  str_:mg "str" = none
  list_:mg "list" = none
  tuple_:mg "tuple" = none
  dict_:mg "dict" = none
  set_:mg "set" = none
  zip_:mg "zip" = none
  ValueError_:mg "ValueError" = none
section
variable {X:Cx}
def LF (_ j:Int):Prop:=0 < j∧j < 2 ^ 250
def LD (i j:Int):Prop:=(-(2 ^ 250) < i∧i < 2 ^ 250)∧(-(2 ^ 250) < j∧j < 2 ^ 250)
theorem log2_lt {n k:Nat} (h:n < 2 ^ k) (hk : 0 < k):n.log2 < k:=by
  by_cases h0:n=0
  · subst h0;simpa using hk
  · exact (Nat.log2_lt h0).mpr h
theorem dJ:OpR X (binaryOp .FloorDiv) (rI LF fun i j=>.int (i / j)):=opI fun i j t u A s Q hc q=>by
  have e:i.fdiv j=i / j:=Int.fdiv_eq_ediv_of_nonneg _ (Int.le_of_lt hc.1)
  refine floordiv_int (by have:=hc.1;omega) (by rw [e];exact q) (.inl (PyProof.noPylong_of_log2 ?_))
  refine Nat.lt_of_lt_of_le (log2_lt (k:=250) ?_ (by decide)) (by decide)
  have h1:=hc.1
  have h2:=hc.2
  have e2:((2:Int) ^ 250)=((2 ^ 250:Nat):Int):=by norm_cast
  rw [e2] at h2
  omega
theorem fJ:OpR X (binaryOp .Mult) (rI LD fun i j=>.int (i * j)):=opI fun i j t u A s Q hc q=>by
  have bits:∀ {k:Int},-(2 ^ 250) < k→k < 2 ^ 250→Builtin.Int.intBits k≤2 ^ 20:=fun {k} h1 h2=>by
    have e2:((2:Int) ^ 250)=((2 ^ 250:Nat):Int):=by norm_cast
    rw [e2] at h1 h2
    have h3:k.natAbs < 2 ^ 250:=by omega
    have h4:=log2_lt h3 (by decide)
    unfold Builtin.Int.intBits
    split
    · exact Nat.zero_le _
    · exact Nat.le_trans (Nat.succ_le_succ (Nat.le_of_lt h4)) (by decide)
  exact mul_int q (IntMulOk.of_bits (bits hc.1.1 hc.1.2) (bits hc.2.1 hc.2.2))
theorem wJ:∀ {ys:List Str} {us:List Value},Vals (ys.map V.str) us→StrsAre us ys
  | [],_,.nil=>.nil
  | y::ys,_,.cons r t=>by
    obtain ⟨tk,rfl⟩:=r
    exact .cons y tk (wJ t)
def D9 (K:PySem.W.Frag):List V→Hp→VK→Prop:=fun xs H Q=>∃ x c t b,xs=[x,c]∧iZ K H x t∧((∃ T,c = .ty T∧PySem.W.kitOne K t (.type T)=some b)∨∃ C,c = .ref C∧PySem.W.kitOne K t (.ref C)=some b)∧Q (.bl b) H
theorem tE:cK X (.builtin "isinstance") (D9 X.K):=by
  intro pins s σ H xs us Q I r h
  obtain ⟨x,c,t,b,rfl,ty,e,q⟩:=h
  obtain ⟨u,w',rfl,rx,rc⟩:=vals2 r
  rcases e with ⟨T,rfl,e⟩ | ⟨C,rfl,e⟩
  · cases (show w'=Value.type T from rc)
    exact oq I rx ty e fun tk=>⟨.bl b,H,I.tok _,rfl,q⟩
  · cases (show w'=Value.ref C from rc)
    exact oq I rx ty e fun tk=>⟨.bl b,H,I.tok _,rfl,q⟩
theorem pR {e:Expr} {te:TE} {c:Str} {T:String} {p p' pos:Pos} (hm:X.mg "isinstance" = none) (hc:X.mg c=none) (hv:bootBuiltins c=some (.type T)) (he:PE X e te) (hg:Gl X "isinstance" := by rfl) (hg':Gl X c:=by rfl) (hn:c ≠ "__name__" := by decide) (hd:(c == ("__debug__" : Str))=false:=by decide)
    (hs:starEach [e,.Name c p'] X.env=(false,eval e X.env)::starEach [.Name c p'] X.env:=by rfl) (hs2:starEach [.Name c p'] X.env=(false,eval (.Name c p') X.env)::starEach [] X.env:=by rfl) (hpl:(backTo pos (starEach [.Name c p'] X.env)).any (·.1)=false:=by rfl) :
    PE X (.Call (.Name "isinstance" p) [e,.Name c p'] [] pos) (tCB (D9 X.K) (kK te (kK (tC (.ty T)) qW))):=
  bq tE hg hm fQ (aa he (aa (lI hg' hc hv rfl hn hd) af hs2) hs) (by decide) (by decide) hs hpl
end
def GK (names:List (Str×NameKind)) (N:List Str) (scope:Scope) (own:List Str) (cap:List Nat):Bool:=
  scope.names.all (fun y=>y.2 != .cell && (y.2 != .local || scope.names.lookup y.1 == some .local) && (y.2 != .free || names.lookup y.1 == some .cell)) &&
  decide (qE N own cap).Nodup &&
  cap.all (fun j=>match N[j]? with | some x=>scope.names.any (fun y=>y.1 == x && y.2 == .free) && scope.names.lookup x == some .free | none=>false)
theorem kC {X:Cx} {scope:Scope} {own:List Str} {cap:List Nat} (names:List (Str×NameKind)) (N:List Str) (hn:X.env.scope.names=names) (hN:X.N=N) (hk:scope.kind = .function) (h:GK names N scope own cap=true):Blk X scope own cap:=by
  unfold GK at h
  simp only [Bool.and_eq_true,List.all_eq_true,decide_eq_true_eq] at h
  obtain ⟨⟨h1,h2⟩,h3⟩:=h
  refine ⟨hk,fun y hy e=>?_,fun y hy e=>?_,fun y hy e=>?_,by rw [hN];exact h2,fun j hj=>?_⟩
  · have:=(h1 y hy).1.1
    rw [e] at this;exact absurd this (by decide)
  · have:=(h1 y hy).1.2
    rw [e] at this;simpa using this
  · have:=(h1 y hy).2
    rw [e] at this
    show X.env.scope.names.lookup y.1=some .cell
    rw [hn]
    simpa using this
  · have:=h3 j hj
    rw [hN]
    split at this
    · rename_i x e
      simp only [Bool.and_eq_true,List.any_eq_true,beq_iff_eq] at this
      obtain ⟨⟨y,hy,e1,e2⟩,e3⟩:=this
      obtain ⟨y1,y2⟩:=y
      dsimp only at e1 e2
      subst e1 e2
      exact ⟨_,e,hy,e3⟩
    · cases this
structure Mak (P:Program) (w:World) (K:PySem.W.Frag) (mg:Str→Option Value) (base:Heap) (CX:CXT) (x:Str) (C:Addr) (k:Nat) (ps:List Str) (sp:Sp):Prop where
  ex:∃ f fd,Mk K C f∧fF P w K mg base CX k f fd ps sp∧Binds K fd ps []∧mg x=some (.ref C)
structure nQ (K:PySem.W.Frag) (mg:Str→Option Value) (x qual:Str) (C:Addr) (st:Stmt) (ps:List Str):Prop where
  ex:∃ f fd,Fun K "__init__" qual st f fd∧Binds K fd ps []∧mg x=some (.ref C)∧Mk K C f∧Cls K C
structure cC (K:PySem.W.Frag) (C:Addr) (x qual:Str) (st:Stmt) (ps:List Str):Prop where
  ex:∃ f fd,Fun K x qual st f fd∧Binds K fd ps []∧Meth K C x f∧Cls K C
section
variable {P:Program} {w:World} {K:PySem.W.Frag} {mg:Str→Option Value} {base:Heap} {CX:CXT} {x qual:Str} {C:Addr} {st:Stmt} {N ps:List Str} {k j:Nat} {sp sp':Sp}
theorem nQ.ok (D:nQ K mg x qual C st ps) (S:ay N ps (ak st)) (len:∀ vs H Q E,sp vs H Q E→vs.length=ps.length)
    (hbody:∀ (f:Addr) (cdv:Value) (A:Around) (outer:List Env) (s:Shared) (H:Hp) (vs:List V) (Q:VK) (E:XK),bX k (A.deeper (envOfC qual (ak st) s.heap.objs.size f cdv))→sp vs H Q E →
      ∃ t,PSs (aZ CX P w K mg base N qual (ak st) f cdv A outer s H E).nox (bf st) t∧t { nx:=fun _ H'=>Q .non H',rt:=Q } (start N vs) H):Mak P w K mg base CX x C (k+1) ps sp:=by
  obtain ⟨f,fd,F,b,m,M,_⟩:=D.ex
  exact ⟨f,fd,M,mO F S len hbody,b,m⟩
theorem nQ.cls (D:nQ K mg x qual C st ps):Cls K C:=D.ex.elim fun _ h=>h.elim fun _ h=>h.2.2.2.2
theorem xP {h:Heap} (X:K.In h) (G:h.Ns mainGlobals mg) {f:Addr} {oc:Value} {od an:Option Addr} {osl:Array (Option Value)} {kV doc pm cdv ct:Value} (aC:PySem.W.nsIn K mainGlobals x=some (some (.ref C)))
    (a:PySem.W.findIn K (.ref C) "__init__" = some (some (.ref f))) (i:PySem.W.isFn K (.ref f)=true)
    (l:K.lookup f=some ⟨oc,od,.func (PySem.W.fnOf "__init__" qual (bC st) (bf st) (ak st) .none kV doc pm an cdv ct),osl⟩) (c:PySem.W.codeIn K cdv qual=true) (kp:PySem.W.keepIn K (.ref f)=true)
    (pg:PySem.W.plainGet K C Str.empty=true) (hd:PySem.W.hasDictIn K C=true) (po:PySem.W.plainOver K C=true) (sa:PySem.W.findIn K (.ref C) "__setattr__" = some (some (.builtin "object.__setattr__"))) (mk:PySem.W.makesIn K C=true) (kc:PySem.W.keepIn K (.ref C)=true)
    (b:∀ (kV doc pm:Value) (an:Option Addr) (cdv ct:Value) (us:List Value),us.length=ps.length→bindArgs (PySem.W.fnOf "__init__" qual (bC st) (bf st) (ak st) .none kV doc pm an cdv ct) ⟨us,[]⟩=pure (ps.zip us)):nQ K mg x qual C st ps:=by
  have F:=qb (st:=st) l c kp
  exact ⟨f,_,F,F.binds b,PySem.W.mg_of X G aC,⟨mk,a,i,kc⟩,⟨pg,hd,po,sa⟩⟩
end
section
variable {X:Cx} {CX:CXT} {k:Nat} {ps:List Str} {sp:Sp} {E:XK} {x:Str} {C:Addr} {p pos:Pos} {e:Expr} {es:List Expr} {t:TA}
theorem By (M:Mak X.prog X.w X.K X.mg X.base CX x C k ps sp) (hr:bX (k+1) X.A) (hx:Passes CX X E) (ha:PA X (e::es) t) (hg:Gl X x:=by rfl)
    (hdb:(x == ("__debug__" : Str))=false:=by decide) (he:starEach (e::es) X.env=(false,eval e X.env)::starEach es X.env:=by rfl) (hpl:(backTo pos (starEach es X.env)).any (·.1)=false:=by rfl) :
    PE X (.Call (.Name x p) (e::es) [] pos) (qY C sp [] E t):=by
  obtain ⟨f,fd,m,F,b,g⟩:=M.ex
  exact xj m F hr hg g b .nil hx ha hdb he hpl
end
end L3
namespace L4
open PySem PySem.Spec PyProof.Rows L2 L3
def cS (H H':Hp):Prop:=∀ q xs,H q=some (.tup xs)→H' q=some (.tup xs)
theorem cS.refl (H:Hp):cS H H:=fun _ _ h=>h
theorem cS.trans {H H1 H2:Hp} (a:cS H H1) (b:cS H1 H2):cS H H2:=fun q xs h=>b q xs (a q xs h)
theorem gc {H H':Hp} (s:aF H H'):cS H H':=fun q _ h=>s q _ h
theorem uv {H:Hp} {p:Addr} {o u:HO} (h:H p=some u) (n:∀ xs,u≠.tup xs):cS H (upd H p o):=fun q xs e=>by
  have:q≠p:=fun z=>by subst z;rw [h] at e;exact n xs (Option.some.inj e)
  rw [az this];exact e
structure Ob where
  p:Hp→HO→Prop
  mono:∀ {H H':Hp} {o:HO},cS H H'→p H o→p H' o
def Eo (o:HO):Ob:=⟨fun _ u=>u=o,fun _ h=>h⟩
structure Pr where
  p:Hp→Prop
  mono:∀ {H H':Hp},cS H H'→p H→p H'
def aH (r:Addr) (xs:List V):Pr:=⟨fun H=>H r=some (.tup xs),fun t h=>t _ _ h⟩
structure Led (P:Addr→Prop) (H0 H:Hp) (l:List (Addr×Ob)) (fs:List Pr):Prop where
  at_:∀ x∈l,∃ o,H x.1=some o∧x.2.p H o
  nd:(l.map (·.1)).Nodup
  own:∀ x∈l,P x.1∨H0 x.1=none
  fr:∀ q o,H0 q=some o→¬ P q→H q=some o
  st:∀ f∈fs,f.p H
inductive Put (p:Addr) (a b:Ob):List (Addr×Ob)→List (Addr×Ob)→Prop
  | head {l}:Put p a b ((p,a)::l) ((p,b)::l)
  | tail {x l l'}:Put p a b l l'→Put p a b (x::l) (x::l')
section
variable {P:Addr→Prop} {H0 H H':Hp} {l l':List (Addr×Ob)} {fs:List Pr} {p:Addr} {a b:Ob} {o:HO}
theorem Put.mem (h:Put p a b l l'):(p,a)∈l:=by
  induction h with
  | head=>exact List.mem_cons_self
  | tail _ ih=>exact List.mem_cons_of_mem _ ih
theorem Put.keys (h:Put p a b l l'):l'.map (·.1)=l.map (·.1):=by
  induction h with
  | head=>rfl
  | tail _ ih=>rw [List.map_cons,List.map_cons,ih]
theorem Put.or (h:Put p a b l l'):∀ x∈l',x=(p,b)∨x∈l:=by
  induction h with
  | head=>
    intro x hx
    rcases List.mem_cons.mp hx with e | e
    · exact .inl e
    · exact .inr (List.mem_cons_of_mem _ e)
  | tail _ ih=>
    intro x hx
    rcases List.mem_cons.mp hx with e | e
    · exact .inr (by rw [e];exact List.mem_cons_self)
    · exact (ih x e).imp_right (List.mem_cons_of_mem _)
theorem B6:∀ {l:List (Addr×Ob)},(l.map (·.1)).Nodup→∀ {x y},x∈l→y∈l→x.1=y.1→x=y
  | [],_,_,_,hx,_,_=>by simp at hx
  | z::l,hn,x,y,hx,hy,e=>by
    rw [List.map_cons,List.nodup_cons] at hn
    rcases List.mem_cons.mp hx with e1 | h1
    · rcases List.mem_cons.mp hy with e2 | h2
      · rw [e1,e2]
      · exact absurd (show z.1∈l.map (·.1) from List.mem_map.mpr ⟨y,h2,by rw [← e1];exact e.symm⟩) hn.1
    · rcases List.mem_cons.mp hy with e2 | h2
      · exact absurd (show z.1∈l.map (·.1) from List.mem_map.mpr ⟨x,h1,by rw [← e2];exact e⟩) hn.1
      · exact B6 hn.2 h1 h2 e
theorem Put.or' (h:Put p a b l l') (nd:(l.map (·.1)).Nodup):∀ x∈l',x=(p,b)∨(x∈l∧x.1≠p):=by
  intro x hx
  have nd':(l'.map (·.1)).Nodup:=by rw [h.keys];exact nd
  have hb:(p,b)∈l':=by
    clear nd nd' hx
    induction h with
    | head=>exact List.mem_cons_self
    | tail _ ih=>exact List.mem_cons_of_mem _ ih
  by_cases e:x.1=p
  · exact .inl (B6 nd' hx hb e)
  · rcases h.or x hx with z | z
    · exact .inl z
    · exact .inr ⟨z,e⟩
theorem Led.get (L:Led P H0 H l fs) (m:Put p a a l l'):∃ o,H p=some o∧a.p H o:=L.at_ _ m.mem
theorem Led.eo (L:Led P H0 H l fs) (m:Put p (Eo o) (Eo o) l l'):H p=some o:=by
  obtain ⟨u,e,h⟩:=L.get m
  have:u=o:=h
  rw [← this];exact e
theorem Led.tup (L:Led P H0 H l fs) {r:Addr} {xs:List V} (m:aH r xs∈fs):H r=some (.tup xs):=L.st _ m
theorem Led.fact (L:Led P H0 H l fs) {f:Pr} (m:f∈fs):f.p H:=L.st _ m
theorem Led.more (L:Led P H0 H l fs) (f:Pr) (h:f.p H):Led P H0 H l (f::fs):=
  ⟨L.at_,L.nd,L.own,L.fr,fun g hg=>(List.mem_cons.mp hg).elim (fun e=>e▸h) (L.st g)⟩
theorem Led.less (L:Led P H0 H l fs) (gs:List Pr) (h:∀ f∈gs,f∈fs):Led P H0 H l gs:=⟨L.at_,L.nd,L.own,L.fr,fun g hg=>L.st g (h g hg)⟩
theorem Led.start (H:Hp) (P:Addr→Prop):Led P H H [] []:=⟨fun _ h=>by simp at h,List.nodup_nil,fun _ h=>by simp at h,fun _ _ h _=>h,fun _ h=>by simp at h⟩
theorem Led.same (L:Led (fun _=>False) H0 H l fs):aF H0 H:=fun q o h=>L.fr q o h id
theorem Led.keep (L:Led P H0 H l fs) (s:aF H H'):Led P H0 H' l fs:=
  ⟨fun x hx=>let ⟨o,e,h⟩:=L.at_ x hx;⟨o,s _ _ e,x.2.mono (gc s) h⟩,L.nd,L.own,fun q o h n=>s _ _ (L.fr q o h n),fun f hf=>f.mono (gc s) (L.st f hf)⟩
theorem Led.fresh (L:Led P H0 H l fs) (h:H p=none):(∀ x∈l,x.1≠p)∧(P p∨H0 p=none):=by
  refine ⟨fun x hx e=>?_,?_⟩
  · obtain ⟨o,q,_⟩:=L.at_ x hx
    rw [e,h] at q;cases q
  · by_cases hp:P p
    · exact .inl hp
    · cases q:H0 p with
      | none=>exact .inr rfl
      | some o=>rw [L.fr p o q hp] at h;cases h
theorem ck (h:H p=none):aF H (upd H p o):=fun b u q=>by rw [az (aJ q h)];exact q
theorem Led.EI (L:Led P H0 H l fs) {xs:List V} (h:H p=none):Led P H0 (upd H p (.tup xs)) l (aH p xs::fs):=(L.keep (ck h)).more _ aB
theorem Led.EJ (L:Led P H0 H l fs) (h:H p=none) (ho:a.p (upd H p o) o):Led P H0 (upd H p o) ((p,a)::l) fs:=by
  have K:=L.keep (ck (o:=o) h)
  obtain ⟨f1,f2⟩:=L.fresh h
  refine ⟨fun x hx=>?_,?_,fun x hx=>?_,K.fr,K.st⟩
  · rcases List.mem_cons.mp hx with rfl | hx
    · exact ⟨o,aB,ho⟩
    · exact K.at_ x hx
  · rw [List.map_cons,List.nodup_cons]
    refine ⟨fun z=>?_,L.nd⟩
    obtain ⟨x,hx,e⟩:=List.mem_map.mp z
    exact f1 x hx e
  · rcases List.mem_cons.mp hx with rfl | hx
    · exact f2
    · exact L.own x hx
structure Chg (p:Addr) (H H':Hp):Prop where
  oth:∀ q o,H q=some o→q≠p→H' q=some o
  ts:cS H H'
theorem Chg.upd {u:HO} (h:H p=some u) (n:∀ xs,u≠.tup xs):Chg p H (upd H p o):=⟨fun q o e z=>by rw [az z];exact e,uv h n⟩
theorem Chg.trans {H1:Hp} (x:Chg p H H1) (y:Chg p H1 H'):Chg p H H':=⟨fun q o e n=>y.oth q o (x.oth q o e n) n,x.ts.trans y.ts⟩
theorem Led.set (L:Led P H0 H l fs) (m:Put p a b l l') (c:Chg p H H') (ho:∃ o,H' p=some o∧b.p H' o):Led P H0 H' l' fs:=by
  have own:=L.own _ m.mem
  refine ⟨fun x hx=>?_,by rw [m.keys];exact L.nd,fun x hx=>?_,fun q o h n=>?_,fun f hf=>f.mono c.ts (L.st f hf)⟩
  · rcases m.or' L.nd x hx with rfl | ⟨hx,n⟩
    · exact ho
    · obtain ⟨u,e,h⟩:=L.at_ x hx
      exact ⟨u,c.oth _ _ e n,x.2.mono c.ts h⟩
  · rcases m.or x hx with rfl | hx
    · exact own
    · exact L.own x hx
  · have:q≠p:=fun z=>by
      subst z
      rcases own with h1 | h1
      · exact n h1
      · rw [h] at h1;cases h1
    exact c.oth _ _ (L.fr q o h n) this
theorem Chg.refl (p:Addr) (H:Hp):Chg p H H:=⟨fun _ _ h _=>h,cS.refl H⟩
theorem Led.weak (L:Led P H0 H l fs) (m:Put p a b l l') (h:∀ o,H p=some o→a.p H o→b.p H o):Led P H0 H l' fs:=by
  obtain ⟨o,e,q⟩:=L.at_ _ m.mem
  exact L.set m (Chg.refl p H) ⟨o,e,h o e q⟩
theorem Led.add (L:Led P H0 H l fs) (s:aF H H') (n:H p=none) (ho:∃ o,H' p=some o∧a.p H' o):Led P H0 H' ((p,a)::l) fs:=by
  have K:=L.keep s
  obtain ⟨f1,f2⟩:=L.fresh n
  refine ⟨fun x hx=>?_,?_,fun x hx=>?_,K.fr,K.st⟩
  · rcases List.mem_cons.mp hx with rfl | hx
    · exact ho
    · exact K.at_ x hx
  · rw [List.map_cons,List.nodup_cons]
    refine ⟨fun z=>?_,L.nd⟩
    obtain ⟨x,hx,e⟩:=List.mem_map.mp z
    exact f1 x hx e
  · rcases List.mem_cons.mp hx with rfl | hx
    · exact f2
    · exact L.own x hx
theorem Led.setAdd {r:Addr} {c:Ob} (L:Led P H0 H l fs) (m:Put p a b l l') (ch:Chg p H H') (ho:∃ o,H' p=some o∧b.p H' o) (n:H r=none) (hr:∃ o,H' r=some o∧c.p H' o):Led P H0 H' ((r,c)::l') fs:=by
  have K:=L.set m ch ho
  obtain ⟨f1,f2⟩:=L.fresh n
  refine ⟨fun x hx=>?_,?_,fun x hx=>?_,K.fr,K.st⟩
  · rcases List.mem_cons.mp hx with rfl | hx
    · exact hr
    · exact K.at_ x hx
  · rw [List.map_cons,List.nodup_cons]
    refine ⟨fun z=>?_,K.nd⟩
    rw [m.keys] at z
    obtain ⟨x,hx,e⟩:=List.mem_map.mp z
    exact f1 x hx e
  · rcases List.mem_cons.mp hx with rfl | hx
    · exact f2
    · exact K.own x hx
end
abbrev St:=L2.St
abbrev RL:=List V→Hp→VK→Prop
def Kl:RL:=fun xs H Q=>∃ i j,xs=[.int i,.int j]∧Q (.int (if j > i then j else i)) H
def D7:RL:=fun xs H Q=>∃ i j,xs=[.int i,.int j]∧Q (.int (if j < i then j else i)) H
def Hh (K:PySem.W.Frag):RL:=fun xs H Q=>∃ p ys,xs=[.ref p]∧(SqL K H p ys∨SqT K H p ys)∧Q (.int ys.length) H
def wZ (K:PySem.W.Frag):RL:=fun xs H Q=>∃ p ys,xs=[.ref p]∧(SqL K H p ys∨SqT K H p ys)∧∀ l,H l=none→Q (.ref l) (upd H l (.lst ys))
def Bo (K:PySem.W.Frag):RL:=fun xs H Q=>∃ p ys,xs=[.ref p]∧((SqL K H p ys∧∀ l,H l=none→Q (.ref l) (upd H l (.tup ys)))∨(SqT K H p ys∧Q (.ref p) H))
section
variable {X:Cx}
theorem oF (hc:X.calm=true):cK X (.builtin "max") Kl:=zO hc
theorem xQ (hc:X.calm=true):cK X (.builtin "min") D7:=zN hc
theorem tH:cK X (.builtin "len") (Hh X.K):=ql
theorem mT:cK X (.type "list") (wZ X.K):=qk
theorem jO:cK X (.type "tuple") (Bo X.K):=nK
end
def Lu (xs:List V) (H:Hp) (Q:VK):Prop:=xs.length≤sizeLine∧∀ p,H p=none→Q (.ref p) (upd H p (.tup xs))
def Lv (xs:List V) (H:Hp) (Q:VK):Prop:=xs.length≤sizeLine∧∀ p,H p=none→Q (.ref p) (upd H p (.lst xs))
def IsB (x:V) (H:Hp) (Q:Bool→Hp→Prop):Prop:=∃ k,x = .bl k∧Q k H
def Fld (K:PySem.W.Frag) (f:Str) (x:V) (H:Hp) (Q:VK):Prop:=∃ a C dx fs v,x = .ref a∧H a=some (.ins C dx fs)∧Cls K C∧aY K C f∧fs.lookup f=some v∧Q v H
section
variable {K:PySem.W.Frag} {σ : St} {H:Hp} {Q:VK} {D:Ends} {t u:TS} {ta tb te:TE} {tt tt':TT} {tl:TA} {v x y:V} {i:Nat} {B:Bool→Hp→Prop}
-- statements
theorem g_seq (h:t { D with nx:=u D } σ H):GV t u D σ H:=h
theorem IJ (h:D.nx σ H):F7 D σ H:=h
theorem Lg {g:TG} (h:te σ H fun x H1=>g x σ H1 D.nx):GX te g D σ H:=h
theorem Jc (h:te σ H fun _ H1=>D.nx σ H1):Ga te D σ H:=h
theorem KR (h:te σ H D.rt):JT te D σ H:=h
theorem Mf (h:tt σ H fun b H1=>if b=true then t D σ H1 else u D σ H1):JX tt t u D σ H:=h
-- expressions
theorem KO (e : σ[i]?=some (some v)) (h:Q v H):GS i σ H Q:=⟨v,e,h⟩
theorem g_c (h:Q v H):tC v σ H Q:=h
theorem Me {r:R2} (h:ta σ H fun x H1=>tb σ H1 fun y H2=>r x y H2 Q):tOp r ta tb σ H Q:=h
theorem K9 (h:tt σ H fun c H1=>if c=true then ta σ H1 Q else tb σ H1 Q):tIf tt ta tb σ H Q:=h
theorem Ji (h:ta σ H fun x H1=>IsB x H1 fun c H1=>if c=true then tb σ H1 Q else Q (.bl false) H1):Gd ta tb σ H Q:=h
theorem IG (h:ta σ H fun x H1=>IsB x H1 fun c H1=>Q (.bl (!c)) H1):F5 ta σ H Q:=h
theorem K6 (h:ta σ H fun x H1=>Q (.bl (decide (x = .non))) H1):JW ta σ H Q:=h
theorem II (h:ta σ H fun x H1=>Q (.bl (!decide (x = .non))) H1):F6 ta σ H Q:=h
theorem KP (h:tl σ H fun xs H1=>Lu xs H1 Q):Dw tl σ H Q:=h
theorem K4 (h:tl σ H fun xs H1=>Lv xs H1 Q):JV tl σ H Q:=h
theorem KW {W:List V→Hp→Prop} (h:W [] H):qW σ H W:=h
theorem Jd {W:List V→Hp→Prop} (h:te σ H fun x H1=>tl σ H1 fun xs H2=>W (x::xs) H2):kK te tl σ H W:=h
theorem Mg {r:List V→Hp→VK→Prop} (h:tl σ H fun vs H1=>r vs H1 Q):tCB r tl σ H Q:=h
theorem Jg {sp:Sp} {E:XK} (h:tl σ H fun vs H1=>sp vs H1 Q E):Ay sp [] E tl σ H Q:=by
  have e:(fun (vs:List V) H1=>sp (vs++[]) H1 Q E)=fun vs H1=>sp vs H1 Q E:=by funext vs H1;rw [List.append_nil]
  show tl σ H (fun vs H1=>sp (vs++[]) H1 Q E)
  rw [e];exact h
def Made (C:Addr) (sp:Sp) (E:XK) (vs:List V) (H:Hp) (Q:VK):Prop:=∀ x dx,H x=none→H dx=none→dx≠x→sp (.ref x::vs) (upd (upd H dx (.own x)) x (.ins C dx [])) (fun v H2=>v = .non∧Q (.ref x) H2) E
theorem IW {C:Addr} {sp:Sp} {E:XK} (h:tl σ H fun vs H1=>Made C sp E vs H1 Q):qY C sp [] E tl σ H Q:=by
  have e:(fun (vs:List V) H1=>∀ x dx,H1 x=none→H1 dx=none→dx≠x→sp (.ref x::(vs++[])) (upd (upd H1 dx (.own x)) x (.ins C dx [])) (fun v H2=>v = .non∧Q (.ref x) H2) E)=fun vs H1=>Made C sp E vs H1 Q:=by
    funext vs H1;rw [List.append_nil];rfl
  show tl σ H (fun vs H1=>∀ x dx,H1 x=none→H1 dx=none→dx≠x→sp (.ref x::(vs++[])) (upd (upd H1 dx (.own x)) x (.ins C dx [])) (fun v H2=>v = .non∧Q (.ref x) H2) E)
  rw [e];exact h
def Mr (K:PySem.W.Frag) (f:Str) (y x:V) (H:Hp) (R:Hp→Prop):Prop:=∃ a C dx fs,x = .ref a∧H a=some (.ins C dx fs)∧Cls K C∧aY K C f∧fs.length < 1000∧R (upd H a (.ins C dx (br f y fs)))
theorem IC {f:Str} (h:tb σ H fun y H1=>ta σ H1 fun x H2=>Mr K f y x H2 fun H3=>D.nx σ H3):Kf K ta tb f D σ H:=h
theorem Ld {f:Str} (h:ta σ H fun x H1=>Fld K f x H1 Q):JZ K ta f σ H Q:=h
theorem Mh {T:String} {r:V→List V→Hp→VK→Prop} (h:ta σ H fun x H1=>tyV K T x H1∧tl σ H1 fun xs H2=>r x xs H2 Q):tBM K T r ta tl σ H Q:=h
theorem Mb {r:V→Option Int→Option Int→Hp→VK→Prop} {a b:TO} (h:te σ H fun x H1=>a σ H1 fun l H2=>b σ H2 fun u H3=>r x l u H3 Q):tSl r te a b σ H Q:=h
theorem Cr {W:Option Int→Hp→Prop} (h:W none H):wH σ H W:=h
def Prt (x:V) (H:Hp) (W:Option Int→Hp→Prop):Prop:=∃ i,x = .int i∧W (some i) H
theorem IF {W:Option Int→Hp→Prop} (h:te σ H fun x H1=>Prt x H1 W):F4 te σ H W:=h
-- tests
theorem g_b (h:te σ H fun x H1=>IsB x H1 B):tB te σ H B:=h
theorem IA (h:te σ H fun x H1=>IsB x H1 B):F3 te σ H B:=h
theorem Lh (h:tt σ H fun c H1=>if c=true then tt' σ H1 B else B false H1):J1 tt tt' σ H B:=h
theorem Mc (h:tt σ H fun c H1=>if c=true then B true H1 else tt' σ H1 B):tOr tt tt' σ H B:=h
theorem KU (h:tt σ H fun c H1=>B (!c) H1):JU tt σ H B:=h
theorem K7 {k:Bool} (h:B k H):IsB (.bl k) H B:=⟨k,rfl,h⟩
-- values
theorem KS {g:Int→Int→V} {i j:Int} (h:Q (g i j) H):rI0 g (.int i) (.int j) H Q:=⟨i,j,rfl,rfl,h⟩
theorem Cq {C:Int→Int→Prop} {g:Int→Int→V} {i j:Int} (c:C i j) (h:Q (g i j) H):rI C g (.int i) (.int j) H Q:=⟨i,j,rfl,rfl,c,h⟩
theorem Lf {i j:Int} (h:Q (.bl (decide (i=j))) H):rEq (.int i) (.int j) H Q:=⟨rfl,by
  have e:decide (V.int i=V.int j)=decide (i=j):=by
    by_cases z:i=j
    · subst z;simp
    · rw [decide_eq_false z,decide_eq_false fun w=>z (V.int.inj w)]
  rw [e];exact h⟩
theorem Le {i j:Str} (h:Q (.bl (decide (i=j))) H):rEq (.str i) (.str j) H Q:=⟨rfl,by
  have e:decide (V.str i=V.str j)=decide (i=j):=by
    by_cases z:i=j
    · subst z;simp
    · rw [decide_eq_false z,decide_eq_false fun w=>z (V.str.inj w)]
  rw [e];exact h⟩
theorem KZ {i j:Int} (h:Q (.bl (!decide (i=j))) H):rNe (.int i) (.int j) H Q:=⟨rfl,by
  have e:decide (V.int i=V.int j)=decide (i=j):=by
    by_cases z:i=j
    · subst z;simp
    · rw [decide_eq_false z,decide_eq_false fun w=>z (V.int.inj w)]
  rw [e];exact h⟩
theorem KY {i j:Str} (h:Q (.bl (!decide (i=j))) H):rNe (.str i) (.str j) H Q:=⟨rfl,by
  have e:decide (V.str i=V.str j)=decide (i=j):=by
    by_cases z:i=j
    · subst z;simp
    · rw [decide_eq_false z,decide_eq_false fun w=>z (V.str.inj w)]
  rw [e];exact h⟩
-- branches
theorem GB {A B:Prop} (h:A):if true=true then A else B:=by rw [if_pos rfl];exact h
theorem GC {A B:Prop} (h:B):if false=true then A else B:=by rw [if_neg Bool.false_ne_true];exact h
theorem bD {p A B:Prop} [Decidable p] (h1:p→A) (h2:¬ p→B):if decide p=true then A else B:=by
  by_cases h:p
  · rw [if_pos (decide_eq_true h)];exact h1 h
  · rw [if_neg (by rw [decide_eq_false h];exact Bool.false_ne_true)];exact h2 h
theorem mK {p A B:Prop} [Decidable p] (h:p) (a:A):if decide p=true then A else B:=by rw [if_pos (decide_eq_true h)];exact a
theorem aV {p A B:Prop} [Decidable p] (h:¬ p) (b:B):if decide p=true then A else B:=by rw [if_neg (by rw [decide_eq_false h];exact Bool.false_ne_true)];exact b
theorem K8 {p A B:Prop} [Decidable p] (h1:p→B) (h2:¬ p→A):if (!decide p)=true then A else B:=by
  by_cases h:p
  · rw [if_neg (by rw [decide_eq_true h];exact Bool.false_ne_true)];exact h1 h
  · rw [if_pos (by rw [decide_eq_false h];rfl)];exact h2 h
theorem kg {p A B:Prop} [Decidable p] (h:¬ p) (a:A):if (!decide p)=true then A else B:=by rw [if_pos (by rw [decide_eq_false h];rfl)];exact a
theorem mJ {p A B:Prop} [Decidable p] (h:p) (b:B):if (!decide p)=true then A else B:=by rw [if_neg (by rw [decide_eq_true h];exact Bool.false_ne_true)];exact b
theorem Fg {A B:Prop} (h:B):if (!true)=true then A else B:=GC h
theorem Fi {A B:Prop} (h:A):if (!false)=true then A else B:=GB h
-- sizes of things,text
theorem Fc {W:Option Int→Hp→Prop} {j:Int} (h:W (some j) H):Prt (.int j) H W:=⟨j,rfl,h⟩
end
theorem lk_hit {f:Str} {v:V} {r:List (Str×V)}:List.lookup f ((f,v)::r)=some v:=by simp
theorem lk_miss {f g:Str} {v:V} {r:List (Str×V)} (h:(f == g)=false):List.lookup f ((g,v)::r)=List.lookup f r:=by simp only [List.lookup_cons,h]
section
variable {K:PySem.W.Frag} {P:Addr→Prop} {H0 H H':Hp} {l l':List (Addr×Ob)} {fs:List Pr} {p:Addr} {a b:Ob} {o:HO} {Q:VK} {xs:List V} {v:V} {i:Int}
-- what the ledger knows
theorem IK (L:Led P H0 H l fs) (hz:xs.length≤sizeLine) (h:∀ p H',H p=none→Led P H0 H' l (aH p xs::fs)→aF H H'→Q (.ref p) H'):Lu xs H Q:=
  ⟨hz,fun p hp=>h p _ hp (L.EI hp) (ck hp)⟩
theorem IL (L:Led P H0 H l fs) (hz:xs.length≤sizeLine) (h:∀ p H',H p=none→Led P H0 H' ((p,Eo (.lst xs))::l) fs→aF H H'→Q (.ref p) H'):Lv xs H Q:=
  ⟨hz,fun p hp=>h p _ hp (L.EJ hp rfl) (ck hp)⟩
theorem K5 (L:Led P H0 H l fs) (m:aH p xs∈fs) (e:atI xs i=some v) (h:Q v H):D8 K (.ref p) (.int i) H Q:=⟨p,xs,i,v,rfl,rfl,SqT.of (L.tup m),e,h⟩
theorem j9 (hs:SqL K H p xs) (e:atI xs i=some v) (h:Q v H):Hi K (.ref p) (.int i) H Q:=⟨p,xs,i,v,rfl,rfl,hs,e,h⟩
theorem Cu (L:Led P H0 H l fs) (m:Put p (Eo (.lst xs)) (Eo (.lst (xs++[v]))) l l') (hz:xs.length < sizeLine) (h:∀ H',Led P H0 H' l' fs→Chg p H H'→Q .non H'):w6 (.ref p) [v] H Q:=by
  obtain ⟨o,ho,hp⟩:=L.at_ _ m.mem
  have hp':o = .lst xs:=hp
  subst hp'
  have c:Chg p H (upd H p (.lst (xs++[v]))):=Chg.upd ho fun _ z=>by cases z
  exact ⟨p,xs,v,rfl,rfl,ho,hz,h _ (L.set m c ⟨_,aB,rfl⟩) c⟩
theorem Gx {R:Prop} (hs:SqL K H p xs) (h:R):tyV K "list" (.ref p) H∧R:=⟨.inl ⟨rfl,_,hs⟩,h⟩
theorem I8 {n:Nat} {t:TGs} {σ : St} {R:St→Hp→Prop} (L:Led P H0 H l fs) (m:aH p xs∈fs) (e:xs.length=n) (h:t xs σ H R):Li K n t (.ref p) σ H R:=⟨p,xs,rfl,SqT.of (L.tup m),e,h⟩
theorem Fj {t:TG} {u:TGs} {σ : St} {R:St→Hp→Prop} (h:t v σ H fun σ' H'=>u xs σ' H' R):GD t u (v::xs) σ H R:=⟨v,xs,rfl,h⟩
theorem I9 {σ : St} {R:St→Hp→Prop} (h:R σ H):Lj [] σ H R:=⟨rfl,h⟩
end
def F1 (J:It) (g:TG) (tb:TS) (D:Ends) (σ : St) (H:Hp):Prop:=∃ W:Nat→Nat→St→Hp→Prop,(∃ m,W 0 m σ H)∧∀ i m σ H,W i m σ H →
  (J.stop i H∧D.nx σ H)∨(J.go i H∧∃ N:St→Hp→Prop,(∀ σ' H',N σ' H'→∃ m',m' < m∧W (i+1) m' σ' H')∧∀ x H',J.yld i H x H'→g x σ H' fun σ2 H2=>tb { D with nx:=N,ct:=N,bk:=D.nx } σ2 H2)
def Lq (vs:List V) (H:Hp) (R:It→Hp→Prop):Prop:=∃ j:Int,vs=[.int j]∧-(2 ^ 62)≤j∧j < 2 ^ 62∧R (Itr 0 j.toNat) H
def Lp (vs:List V) (H:Hp) (R:It→Hp→Prop):Prop:=∃ i j:Int,vs=[.int i,.int j]∧(-(2 ^ 62)≤i∧i < 2 ^ 62∧-(2 ^ 62)≤j∧j < 2 ^ 62)∧R (Itr i (j - i).toNat) H
def WkL (K:PySem.W.Frag) (x:V) (H:Hp) (R:It→Hp→Prop):Prop:=∃ a,x = .ref a∧(∃ xs,SqL K H a xs)∧R (Itl K a) H
def WkT (K:PySem.W.Frag) (x:V) (H:Hp) (R:It→Hp→Prop):Prop:=∃ a,x = .ref a∧(∃ xs,SqT K H a xs)∧R (Itt K a) H
def x9 (J:It) (Q:VK) (σb:St) (g:TG) (tc:TT) (te:TE) (H:Hp):Prop:=∃ W:Nat→Nat→List V→Hp→Prop,(∃ m,W 0 m [] H)∧oS J W (fun ys H=>∀ p,H p=none→Q (.ref p) (upd H p (.lst ys))) σb g tc te
section
variable {K:PySem.W.Frag} {σ : St} {H:Hp} {Q:VK} {D:Ends} {wi:TI} {g:TG} {tb:TS} {ta:TE} {tl:TA} {R:It→Hp→Prop} {tc:TT} {te:TE}
theorem Lc (h:wi σ H fun J H1=>F1 J g tb D σ H1):JY wi g tb D σ H:=h
theorem IE (h:tl σ H fun vs H1=>Lq vs H1 R):Gu tl σ H R:=h
theorem ID (h:tl σ H fun vs H1=>Lp vs H1 R):Gs tl σ H R:=h
theorem KN (h:ta σ H fun x H1=>WkL K x H1 R):Gv K ta σ H R:=h
theorem KL (h:ta σ H fun x H1=>WkT K x H1 R):KC K ta σ H R:=h
theorem E9 {j:Int} (b : -(2 ^ 62)≤j∧j < 2 ^ 62) (h:R (Itr 0 j.toNat) H):Lq [.int j] H R:=⟨j,rfl,b.1,b.2,h⟩
theorem E8 {i j:Int} (b:(-(2 ^ 62)≤i∧i < 2 ^ 62)∧-(2 ^ 62)≤j∧j < 2 ^ 62) (h:R (Itr i (j - i).toNat) H):Lp [.int i,.int j] H R:=⟨i,j,rfl,⟨b.1.1,b.1.2,b.2.1,b.2.2⟩,h⟩
theorem gA {a:Addr} {xs:List V} (s:SqL K H a xs) (h:R (Itl K a) H):WkL K (.ref a) H R:=⟨a,rfl,⟨xs,s⟩,h⟩
theorem Iz {a:Addr} {xs:List V} (s:SqT K H a xs) (h:R (Itt K a) H):WkT K (.ref a) H R:=⟨a,rfl,⟨xs,s⟩,h⟩
theorem Ct {lo:Int} {n:Nat} (Pv:Nat→St→Hp→Prop) (h0:Pv 0 σ H) (hs:∀ i σ H,i < n→Pv i σ H→g (.int (lo+i)) σ H fun σ2 H2=>tb { D with nx:=Pv (i+1),ct:=Pv (i+1),bk:=D.nx } σ2 H2)
    (hd:∀ σ H,Pv n σ H→D.nx σ H):F1 (Itr lo n) g tb D σ H:=zJ Pv h0 hs hd
theorem mL {a:Addr} (xs:List V) (Pv:Nat→St→Hp→Prop) (h0:Pv 0 σ H) (hl:∀ i σ H,i≤xs.length→Pv i σ H→SqL K H a xs) (hs:∀ i x σ H,xs[i]?=some x→Pv i σ H→g x σ H fun σ2 H2=>tb { D with nx:=Pv (i+1),ct:=Pv (i+1),bk:=D.nx } σ2 H2)
    (hd:∀ σ H,Pv xs.length σ H→D.nx σ H):F1 (Itl K a) g tb D σ H:=Cv (xs:=xs) Pv h0 hl hs hd
theorem Je {own:Nat} {cap:List Nat} (h:wi σ H fun J H1=>x9 J Q (vP own cap σ) g tc te H1):Gb wi own cap g tc te σ H Q:=h
theorem lN {a:Addr} (xs:List V) {σb:St} (Pv:Nat→List V→Hp→Prop) (h0:Pv 0 [] H) (hl:∀ i ys H,i≤xs.length→Pv i ys H→SqL K H a xs∧ys.length≤sizeLine)
    (hs:∀ i x ys H,xs[i]?=some x→Pv i ys H→g x σb H fun σ2 H2=>tc σ2 H2 fun b H3=>if b=true then te σ2 H3 fun y H4=>Pv (i+1) (ys++[y]) H4 else Pv (i+1) ys H3) (hd:∀ ys H,Pv xs.length ys H→∀ p,H p=none→Q (.ref p) (upd H p (.lst ys))) :
    x9 (Itl K a) Q σb g tc te H:=zL (xs:=xs) Pv h0 hl hs hd
theorem Fl {a:Addr} (xs:List V) {σb:St} (Pv:Nat→List V→Hp→Prop) (h0:Pv 0 [] H) (hl:∀ i ys H,i≤xs.length→Pv i ys H→SqT K H a xs∧ys.length≤sizeLine)
    (hs:∀ i x ys H,xs[i]?=some x→Pv i ys H→g x σb H fun σ2 H2=>tc σ2 H2 fun b H3=>if b=true then te σ2 H3 fun y H4=>Pv (i+1) (ys++[y]) H4 else Pv (i+1) ys H3) (hd:∀ ys H,Pv xs.length ys H→∀ p,H p=none→Q (.ref p) (upd H p (.lst ys))) :
    x9 (Itt K a) Q σb g tc te H:=CK (xs:=xs) Pv h0 hl hs hd
theorem Fo {lo:Int} {n:Nat} {σb:St} (Pv:Nat→List V→Hp→Prop) (h0:Pv 0 [] H) (hl:∀ i ys H,i≤n→Pv i ys H→ys.length≤sizeLine)
    (hs:∀ i ys H,i < n→Pv i ys H→g (.int (lo+i)) σb H fun σ2 H2=>tc σ2 H2 fun b H3=>if b=true then te σ2 H3 fun y H4=>Pv (i+1) (ys++[y]) H4 else Pv (i+1) ys H3) (hd:∀ ys H,Pv n ys H→∀ p,H p=none→Q (.ref p) (upd H p (.lst ys))) :
    x9 (Itr lo n) Q σb g tc te H:=vE Pv h0 hl hs hd
theorem IB {B:Bool→Hp→Prop} (h:B true H):J2 σ H B:=h
-- builtins
theorem K3 {a b:Int} (h:Q (.int (max a b)) H):Kl [V.int a,V.int b] H Q:=⟨a,b,rfl,by
  have e:(if b > a then b else a)=max a b:=by omega
  rw [e];exact h⟩
theorem K2 {a b:Int} (h:Q (.int (min a b)) H):D7 [V.int a,V.int b] H Q:=⟨a,b,rfl,by
  have e:(if b < a then b else a)=min a b:=by omega
  rw [e];exact h⟩
theorem lM {a:Addr} {ys:List V} (s:SqL K H a ys) (h:Q (.int ys.length) H):Hh K [V.ref a] H Q:=⟨a,ys,rfl,.inl s,h⟩
theorem xG {a:Addr} {ys:List V} (s:SqT K H a ys) (h:Q (.int ys.length) H):Hh K [V.ref a] H Q:=⟨a,ys,rfl,.inr s,h⟩
theorem Led.seq {P:Addr→Prop} {H0:Hp} {l:List (Addr×Ob)} {fs:List Pr} {a:Addr} {xs:List V} (L:Led P H0 H l fs) (s:SqL K H0 a xs) (n:¬ P a):SqL K H a xs:=by
  rcases s with (s | ⟨o,s⟩) | s
  · exact .inl (.inl (L.fr _ _ s n))
  · exact .inl (.inr ⟨o,L.fr _ _ s n⟩)
  · exact .inr s
end
inductive Dt where
  | non | bl (b:Bool) | int (i:Int) | str (x:Str) | tup (ds:List Dt) | lst (ds:List Dt)
mutual
def eqD:Dt→Dt→Bool
  | .non,.non=>true
  | .bl a,.bl b=>a == b
  | .bl a,.int b=>(if a then 1 else 0) == b
  | .int a,.bl b=>a == (if b then 1 else 0)
  | .int a,.int b=>a == b
  | .str a,.str b=>a == b
  | .tup a,.tup b=>kY a b
  | .lst a,.lst b=>kY a b
  | _,_=>false
def kY:List Dt→List Dt→Bool
  | [],[]=>true
  | x::xs,y::ys=>eqD x y && kY xs ys
  | _,_=>false
end
mutual
def dep:Dt→Nat
  | .tup ds=>deps ds+1
  | .lst ds=>deps ds+1
  | _=>0
def deps:List Dt→Nat
  | []=>0
  | d::ds=>max (dep d) (deps ds)
end
theorem gC:∀ {ds:List Dt} {d:Dt},d∈ds→dep d≤deps ds
  | [],_,h=>by simp at h
  | x::ds,d,h=>by
    rw [deps]
    rcases List.mem_cons.mp h with rfl | h
    · exact Nat.le_max_left _ _
    · exact Nat.le_trans (gC h) (Nat.le_max_right _ _)
mutual
theorem iG:∀ d:Dt,eqD d d=true
  | .non=>by rw [eqD]
  | .bl b=>by rw [eqD];exact beq_self_eq_true b
  | .int i=>by rw [eqD];exact beq_self_eq_true i
  | .str x=>by rw [eqD];exact beq_self_eq_true x
  | .tup ds=>by rw [eqD];exact kh ds
  | .lst ds=>by rw [eqD];exact kh ds
theorem kh:∀ ds:List Dt,kY ds ds=true
  | []=>by rw [kY]
  | d::ds=>by rw [kY,iG d,kh ds];rfl
end
theorem dM:∀ (ds es:List Dt),((List.range (min ds.length es.length)).all (fun j=>eqD (ds.getD j .non) (es.getD j .non)) && ds.length == es.length)=kY ds es
  | [],[]=>by rw [kY];rfl
  | [],_::_=>by simp [kY]
  | _::_,[]=>by simp [kY]
  | d::ds,e::es=>by
    have ih:=dM ds es
    rw [kY,← ih]
    have h1:min (d::ds).length (e::es).length=min ds.length es.length+1:=by simp only [List.length_cons];omega
    rw [h1,List.range_succ_eq_map,List.all_cons,List.all_map]
    have h2:((d::ds).length == (e::es).length)=(ds.length == es.length):=by
      rw [Bool.eq_iff_iff];simp
    rw [h2,Bool.and_assoc]
    rfl
theorem ki:∀ {ds es:List Dt},ds.length≠es.length→kY ds es=false:=fun {ds es} h=>by
  rw [← dM,show (ds.length == es.length)=false from by simpa using h,Bool.and_false]
mutual
inductive At (K:PySem.W.Frag) (H:Hp):V→Dt→Prop
  | non:At K H .non .non
  | bl (b:Bool):At K H (.bl b) (.bl b)
  | int (i:Int):At K H (.int i) (.int i)
  | str (x:Str):At K H (.str x) (.str x)
  | tup {a:Addr} {xs:List V} {ds:List Dt} (h:SqT K H a xs) (r:Ats K H xs ds):At K H (.ref a) (.tup ds)
  | lst {a:Addr} {xs:List V} {ds:List Dt} (h:SqL K H a xs) (r:Ats K H xs ds):At K H (.ref a) (.lst ds)
inductive Ats (K:PySem.W.Frag) (H:Hp):List V→List Dt→Prop
  | nil:Ats K H [] []
  | cons {x:V} {d:Dt} {xs:List V} {ds:List Dt} (h:At K H x d) (r:Ats K H xs ds):Ats K H (x::xs) (d::ds)
end
theorem Ats.len {K:PySem.W.Frag} {H:Hp}:∀ {xs:List V} {ds:List Dt},Ats K H xs ds→xs.length=ds.length
  | _,_,.nil=>rfl
  | _,_,.cons _ r=>by rw [List.length_cons,List.length_cons,r.len]
theorem Ats.get {K:PySem.W.Frag} {H:Hp}:∀ {xs:List V} {ds:List Dt} {j:Nat} {x:V},Ats K H xs ds→xs[j]?=some x→∃ d,ds[j]?=some d∧At K H x d
  | _,_,_,_,.nil,e=>by simp at e
  | _,_,0,_,.cons h _,e=>by simp at e;subst e;exact ⟨_,rfl,h⟩
  | _,_,j+1,x,.cons _ r,e=>by
    obtain ⟨d,h1,h2⟩:=Ats.get (j:=j) (x:=x) r (by simpa using e)
    exact ⟨d,by simpa using h1,h2⟩
section
variable {X:Cx} {pins:List (Addr×Obj)} {σ : St} {H:Hp} {s:Shared}
mutual
theorem At.inj (I:Inv X pins σ H s) {x:V}:∀ {d e:Dt},At X.K H x d→At X.K H x e→d=e
  | _,_,.non,h=>by cases h;rfl
  | _,_,.bl _,h=>by cases h;rfl
  | _,_,.int _,h=>by cases h;rfl
  | _,_,.str _,h=>by cases h;rfl
  | _,_,.tup h r,g=>by
    cases g with
    | tup h' r'=>
      have e:=I.iR h h'
      subst e
      rw [Ats.inj I r r']
    | lst h' r'=>
      obtain ⟨_,_,⟨o,e,c,_⟩,_⟩:=I.tuple h
      obtain ⟨_,_,⟨o',n',e',c',_⟩,_⟩:=I.list h'
      rw [e] at e';cases e'
      rw [c] at c';injection c' with z;exact absurd z (by decide)
  | _,_,.lst h r,g=>by
    cases g with
    | lst h' r'=>
      have e:=I.jE h h'
      subst e
      rw [Ats.inj I r r']
    | tup h' r'=>
      obtain ⟨_,_,⟨o,e,c,_⟩,_⟩:=I.tuple h'
      obtain ⟨_,_,⟨o',n',e',c',_⟩,_⟩:=I.list h
      rw [e] at e';cases e'
      rw [c] at c';injection c' with z;exact absurd z (by decide)
theorem Ats.inj (I:Inv X pins σ H s) {xs:List V}:∀ {ds es:List Dt},Ats X.K H xs ds→Ats X.K H xs es→ds=es
  | _,_,.nil,h=>by cases h;rfl
  | _,_,.cons h r,g=>by
    cases g with
    | cons h' r'=>rw [At.inj I h h',Ats.inj I r r']
end
end
theorem LG {A:Around} {s:Shared} {y x:V} {u v:Value} (ry:RelV y u) (rx:RelV x v) (fy:cj y=true) (fx:cj x=true):SeqAt.RcAt A s u v (eqV y x):=by
  cases y with
  | non=>
    cases ry
    cases x with
    | non=>cases rx;exact SeqAt.RcAt.none_none
    | bl b=>cases rx;exact SeqAt.RcAt.none_bool b
    | int b=>obtain ⟨t,rfl⟩:=rx;exact SeqAt.RcAt.none_int b t
    | str b=>obtain ⟨t,rfl⟩:=rx;exact SeqAt.RcAt.none_str b t
    | _=>exact absurd (show false=true from fx) Bool.false_ne_true
  | bl a=>
    cases ry
    cases x with
    | non=>cases rx;exact SeqAt.RcAt.bool_none a
    | bl b=>cases rx;exact SeqAt.RcAt.bool_bool a b
    | int b=>obtain ⟨t,rfl⟩:=rx;exact SeqAt.RcAt.bool_int a b t
    | str b=>obtain ⟨t,rfl⟩:=rx;exact SeqAt.RcAt.bool_str a b t
    | _=>exact absurd (show false=true from fx) Bool.false_ne_true
  | int a=>
    obtain ⟨t',rfl⟩:=ry
    cases x with
    | non=>cases rx;exact SeqAt.RcAt.int_none a t'
    | bl b=>cases rx;exact SeqAt.RcAt.int_bool a t' b
    | int b=>obtain ⟨t,rfl⟩:=rx;exact SeqAt.RcAt.int_int a t' b t
    | str b=>obtain ⟨t,rfl⟩:=rx;exact SeqAt.RcAt.int_str a t' b t
    | _=>exact absurd (show false=true from fx) Bool.false_ne_true
  | str a=>
    obtain ⟨t',rfl⟩:=ry
    cases x with
    | non=>cases rx;exact SeqAt.RcAt.str_none a t'
    | bl b=>cases rx;exact SeqAt.RcAt.str_bool a t' b
    | int b=>obtain ⟨t,rfl⟩:=rx;exact SeqAt.RcAt.str_int a t' b t
    | str b=>obtain ⟨t,rfl⟩:=rx;exact SeqAt.RcAt.str_str a t' b t
    | _=>exact absurd (show false=true from fx) Bool.false_ne_true
  | _=>exact absurd (show false=true from fy) Bool.false_ne_true
theorem Hf {A:Around} {s:Shared} {y x:V} {u v:Value} (ry:RelV y u) (rx:RelV x v) (fy:cj y=true) (fx:cj x=true):SeqAt.RcNeAt A s u v (!eqV y x):=by
  cases y with
  | non=>
    cases ry
    cases x with
    | non=>cases rx;exact SeqAt.RcNeAt.none_none
    | bl b=>cases rx;exact SeqAt.RcNeAt.none_bool b
    | int b=>obtain ⟨t,rfl⟩:=rx;exact SeqAt.RcNeAt.none_int b t
    | str b=>obtain ⟨t,rfl⟩:=rx;exact SeqAt.RcNeAt.none_str b t
    | _=>exact absurd (show false=true from fx) Bool.false_ne_true
  | bl a=>
    cases ry
    cases x with
    | non=>cases rx;exact SeqAt.RcNeAt.bool_none a
    | bl b=>cases rx;exact SeqAt.RcNeAt.bool_bool a b
    | int b=>obtain ⟨t,rfl⟩:=rx;exact SeqAt.RcNeAt.bool_int a b t
    | str b=>obtain ⟨t,rfl⟩:=rx;exact SeqAt.RcNeAt.bool_str a b t
    | _=>exact absurd (show false=true from fx) Bool.false_ne_true
  | int a=>
    obtain ⟨t',rfl⟩:=ry
    cases x with
    | non=>cases rx;exact SeqAt.RcNeAt.int_none a t'
    | bl b=>cases rx;exact SeqAt.RcNeAt.int_bool a t' b
    | int b=>obtain ⟨t,rfl⟩:=rx;exact SeqAt.RcNeAt.int_int a t' b t
    | str b=>obtain ⟨t,rfl⟩:=rx;exact SeqAt.RcNeAt.int_str a t' b t
    | _=>exact absurd (show false=true from fx) Bool.false_ne_true
  | str a=>
    obtain ⟨t',rfl⟩:=ry
    cases x with
    | non=>cases rx;exact SeqAt.RcNeAt.str_none a t'
    | bl b=>cases rx;exact SeqAt.RcNeAt.str_bool a t' b
    | int b=>obtain ⟨t,rfl⟩:=rx;exact SeqAt.RcNeAt.str_int a t' b t
    | str b=>obtain ⟨t,rfl⟩:=rx;exact SeqAt.RcNeAt.str_str a t' b t
    | _=>exact absurd (show false=true from fx) Bool.false_ne_true
  | _=>exact absurd (show false=true from fy) Bool.false_ne_true
theorem i7 {A:Around} {s:Shared} {x:V} {u:Value} {a:Addr} {its:Array Value} (rx:RelV x u) (fx:cj x=true) (h:s.heap.IsTuple a its) (hu:A.units < cLine):SeqAt.EqAt A s u (.ref a) false:=by
  cases x with
  | non=>cases rx;exact SeqAt.EqAt.none_tuple h hu
  | bl b=>cases rx;exact SeqAt.EqAt.bool_tuple b h hu
  | int b=>obtain ⟨t,rfl⟩:=rx;exact SeqAt.EqAt.int_tuple b t h hu
  | str b=>obtain ⟨t,rfl⟩:=rx;exact SeqAt.EqAt.str_tuple b t h hu
  | _=>exact absurd (show false=true from fx) Bool.false_ne_true
theorem nI {A:Around} {s:Shared} {x:V} {u:Value} {a:Addr} {its:Array Value} (rx:RelV x u) (fx:cj x=true) (h:s.heap.IsTuple a its) (hu:A.units < cLine):SeqAt.EqAt A s (.ref a) u false:=by
  cases x with
  | non=>cases rx;exact SeqAt.EqAt.tuple_none h hu
  | bl b=>cases rx;exact SeqAt.EqAt.tuple_bool b h hu
  | int b=>obtain ⟨t,rfl⟩:=rx;exact SeqAt.EqAt.tuple_int b t h hu
  | str b=>obtain ⟨t,rfl⟩:=rx;exact SeqAt.EqAt.tuple_str b t h hu
  | _=>exact absurd (show false=true from fx) Bool.false_ne_true
theorem jL {A:Around} {s:Shared} {x:V} {u:Value} {a:Addr} {its:Array Value} (rx:RelV x u) (fx:cj x=true) (h:s.heap.IsList a its) (hu:A.units < cLine):SeqAt.EqAt A s u (.ref a) false:=by
  cases x with
  | non=>cases rx;exact SeqAt.EqAt.none_list h hu
  | bl b=>cases rx;exact SeqAt.EqAt.bool_list b h hu
  | int b=>obtain ⟨t,rfl⟩:=rx;exact SeqAt.EqAt.int_list b t h hu
  | str b=>obtain ⟨t,rfl⟩:=rx;exact SeqAt.EqAt.str_list b t h hu
  | _=>exact absurd (show false=true from fx) Bool.false_ne_true
theorem qg {A:Around} {s:Shared} {x:V} {u:Value} {a:Addr} {its:Array Value} (rx:RelV x u) (fx:cj x=true) (h:s.heap.IsList a its) (hu:A.units < cLine):SeqAt.EqAt A s (.ref a) u false:=by
  cases x with
  | non=>cases rx;exact SeqAt.EqAt.list_none h hu
  | bl b=>cases rx;exact SeqAt.EqAt.list_bool b h hu
  | int b=>obtain ⟨t,rfl⟩:=rx;exact SeqAt.EqAt.list_int b t h hu
  | str b=>obtain ⟨t,rfl⟩:=rx;exact SeqAt.EqAt.list_str b t h hu
  | _=>exact absurd (show false=true from fx) Bool.false_ne_true
theorem nE {A:Around} {s:Shared} {x:V} {u:Value} {a:Addr} {its:Array Value} (rx:RelV x u) (fx:cj x=true) (h:s.heap.IsTuple a its) (hu:A.units < cLine):SeqAt.RcAt A s u (.ref a) false:=by
  cases x with
  | non=>cases rx;exact SeqAt.RcAt.none_tuple h hu
  | bl b=>cases rx;exact SeqAt.RcAt.bool_tuple b h hu
  | int b=>obtain ⟨t,rfl⟩:=rx;exact SeqAt.RcAt.int_tuple b t h hu
  | str b=>obtain ⟨t,rfl⟩:=rx;exact SeqAt.RcAt.str_tuple b t h hu
  | _=>exact absurd (show false=true from fx) Bool.false_ne_true
theorem nB {A:Around} {s:Shared} {x:V} {u:Value} {a:Addr} {its:Array Value} (rx:RelV x u) (fx:cj x=true) (h:s.heap.IsTuple a its) (hu:A.units < cLine):SeqAt.RcAt A s (.ref a) u false:=by
  cases x with
  | non=>cases rx;exact SeqAt.RcAt.tuple_none h hu
  | bl b=>cases rx;exact SeqAt.RcAt.tuple_bool b h hu
  | int b=>obtain ⟨t,rfl⟩:=rx;exact SeqAt.RcAt.tuple_int b t h hu
  | str b=>obtain ⟨t,rfl⟩:=rx;exact SeqAt.RcAt.tuple_str b t h hu
  | _=>exact absurd (show false=true from fx) Bool.false_ne_true
theorem pN {A:Around} {s:Shared} {x:V} {u:Value} {a:Addr} {its:Array Value} (rx:RelV x u) (fx:cj x=true) (h:s.heap.IsList a its) (hu:A.units < cLine):SeqAt.RcAt A s u (.ref a) false:=by
  cases x with
  | non=>cases rx;exact SeqAt.RcAt.none_list h hu
  | bl b=>cases rx;exact SeqAt.RcAt.bool_list b h hu
  | int b=>obtain ⟨t,rfl⟩:=rx;exact SeqAt.RcAt.int_list b t h hu
  | str b=>obtain ⟨t,rfl⟩:=rx;exact SeqAt.RcAt.str_list b t h hu
  | _=>exact absurd (show false=true from fx) Bool.false_ne_true
theorem pM {A:Around} {s:Shared} {x:V} {u:Value} {a:Addr} {its:Array Value} (rx:RelV x u) (fx:cj x=true) (h:s.heap.IsList a its) (hu:A.units < cLine):SeqAt.RcAt A s (.ref a) u false:=by
  cases x with
  | non=>cases rx;exact SeqAt.RcAt.list_none h hu
  | bl b=>cases rx;exact SeqAt.RcAt.list_bool b h hu
  | int b=>obtain ⟨t,rfl⟩:=rx;exact SeqAt.RcAt.list_int b t h hu
  | str b=>obtain ⟨t,rfl⟩:=rx;exact SeqAt.RcAt.list_str b t h hu
  | _=>exact absurd (show false=true from fx) Bool.false_ne_true
theorem nA {A:Around} {s:Shared} {x:V} {u:Value} {a:Addr} {its:Array Value} (rx:RelV x u) (fx:cj x=true) (h:s.heap.IsTuple a its) (hu:A.units < cLine):SeqAt.RcNeAt A s u (.ref a) true:=by
  cases x with
  | non=>cases rx;exact SeqAt.RcNeAt.none_tuple h hu
  | bl b=>cases rx;exact SeqAt.RcNeAt.bool_tuple b h hu
  | int b=>obtain ⟨t,rfl⟩:=rx;exact SeqAt.RcNeAt.int_tuple b t h hu
  | str b=>obtain ⟨t,rfl⟩:=rx;exact SeqAt.RcNeAt.str_tuple b t h hu
  | _=>exact absurd (show false=true from fx) Bool.false_ne_true
theorem nv {A:Around} {s:Shared} {x:V} {u:Value} {a:Addr} {its:Array Value} (rx:RelV x u) (fx:cj x=true) (h:s.heap.IsTuple a its) (hu:A.units < cLine):SeqAt.RcNeAt A s (.ref a) u true:=by
  cases x with
  | non=>cases rx;exact SeqAt.RcNeAt.tuple_none h hu
  | bl b=>cases rx;exact SeqAt.RcNeAt.tuple_bool b h hu
  | int b=>obtain ⟨t,rfl⟩:=rx;exact SeqAt.RcNeAt.tuple_int b t h hu
  | str b=>obtain ⟨t,rfl⟩:=rx;exact SeqAt.RcNeAt.tuple_str b t h hu
  | _=>exact absurd (show false=true from fx) Bool.false_ne_true
theorem pK {A:Around} {s:Shared} {x:V} {u:Value} {a:Addr} {its:Array Value} (rx:RelV x u) (fx:cj x=true) (h:s.heap.IsList a its) (hu:A.units < cLine):SeqAt.RcNeAt A s u (.ref a) true:=by
  cases x with
  | non=>cases rx;exact SeqAt.RcNeAt.none_list h hu
  | bl b=>cases rx;exact SeqAt.RcNeAt.bool_list b h hu
  | int b=>obtain ⟨t,rfl⟩:=rx;exact SeqAt.RcNeAt.int_list b t h hu
  | str b=>obtain ⟨t,rfl⟩:=rx;exact SeqAt.RcNeAt.str_list b t h hu
  | _=>exact absurd (show false=true from fx) Bool.false_ne_true
theorem pJ {A:Around} {s:Shared} {x:V} {u:Value} {a:Addr} {its:Array Value} (rx:RelV x u) (fx:cj x=true) (h:s.heap.IsList a its) (hu:A.units < cLine):SeqAt.RcNeAt A s (.ref a) u true:=by
  cases x with
  | non=>cases rx;exact SeqAt.RcNeAt.list_none h hu
  | bl b=>cases rx;exact SeqAt.RcNeAt.list_bool b h hu
  | int b=>obtain ⟨t,rfl⟩:=rx;exact SeqAt.RcNeAt.list_int b t h hu
  | str b=>obtain ⟨t,rfl⟩:=rx;exact SeqAt.RcNeAt.list_str b t h hu
  | _=>exact absurd (show false=true from fx) Bool.false_ne_true
inductive Top (K:PySem.W.Frag) (H:Hp) (x:V) (d:Dt):Prop
  | flat (f:cj x=true) (h:∀ y e,At K H y e→cj y=true→eqV x y=eqD d e) (h1:∀ es,eqD d (.tup es)=false∧eqD (.tup es) d=false∧eqD d (.lst es)=false∧eqD (.lst es) d=false)
  | tup (a:Addr) (xs:List V) (ds:List Dt) (e1:x = .ref a) (e2:d = .tup ds) (h:SqT K H a xs) (r:Ats K H xs ds)
  | lst (a:Addr) (xs:List V) (ds:List Dt) (e1:x = .ref a) (e2:d = .lst ds) (h:SqL K H a xs) (r:Ats K H xs ds)
theorem At.top {K:PySem.W.Frag} {H:Hp} {x:V} {d:Dt} (h:At K H x d):Top K H x d:=by
  cases h with
  | tup h r=>exact .tup _ _ _ rfl rfl h r
  | lst h r=>exact .lst _ _ _ rfl rfl h r
  | _=>exact .flat rfl (fun y e g f=>by cases g <;> first | (exact absurd f Bool.false_ne_true) | (simp only [eqV,eqD])) (fun es=>by simp [eqD])
theorem fY {X:Cx} {H:Hp} {xs ys:List V} {ds es:List Dt} {us vs:List Value} {C:Value→Value→Bool→Prop} (h:∀ x y d e u v,d∈ds→At X.K H x d→At X.K H y e→RelV x u→RelV y v→C u v (eqD d e))
    (r:Ats X.K H xs ds) (r':Ats X.K H ys es) (rv:Vals xs us) (rv':Vals ys vs):∀ j (h1:j < us.toArray.size) (h2:j < vs.toArray.size),C us.toArray[j] vs.toArray[j] (eqD (ds.getD j .non) (es.getD j .non)):=fun j h1 h2=>by
  have l1:j < xs.length:=by rw [rv.length];simpa using h1
  have l2:j < ys.length:=by rw [rv'.length];simpa using h2
  obtain ⟨u,e1,q1⟩:=rv.get (List.getElem?_eq_getElem l1)
  obtain ⟨v,e2,q2⟩:=rv'.get (List.getElem?_eq_getElem l2)
  obtain ⟨d,e3,q3⟩:=r.get (List.getElem?_eq_getElem l1)
  obtain ⟨e,e4,q4⟩:=r'.get (List.getElem?_eq_getElem l2)
  have a1:us.toArray[j]=u:=by
    have:=List.getElem?_eq_some_iff.mp e1
    obtain ⟨_,z⟩:=this
    simpa using z
  have a2:vs.toArray[j]=v:=by
    obtain ⟨_,z⟩:=List.getElem?_eq_some_iff.mp e2
    simpa using z
  rw [a1,a2,List.getD_eq_getElem?_getD,List.getD_eq_getElem?_getD,e3,e4]
  exact h _ _ _ _ _ _ (List.mem_of_getElem? e3) q3 q4 q1 q2
theorem xH {X:Cx} {pins:List (Addr×Obj)} {σ : St} {H:Hp} {s:Shared} (I:Inv X pins σ H s):∀ (n:Nat) {x y:V} {d e:Dt} {u v:Value},dep d≤n→At X.K H x d→At X.K H y e→RelV x u→RelV y v→∀ A:Around,A.units+n < cLine→SeqAt.EqAt A s u v (eqD d e):=by
  intro n
  induction n with
  | zero=>
    intro x y d e u v hd hx hy rx ry A hA
    rcases hx.top with ⟨f,h,h1⟩ | ⟨a,xs,ds,rfl,rfl,h,r⟩ | ⟨a,xs,ds,rfl,rfl,h,r⟩
    · rcases hy.top with ⟨f',h',h1'⟩ | ⟨b,ys,es,rfl,rfl,h',r'⟩ | ⟨b,ys,es,rfl,rfl,h',r'⟩
      · rw [← h y e hy f'];exact vC rx ry f f'
      · obtain ⟨its,rv,ht,_⟩:=I.tuple h'
        cases ry;rw [(h1 es).1];exact i7 rx f ht (by omega)
      · obtain ⟨its,rv,ht,_⟩:=I.list h'
        cases ry;rw [(h1 es).2.2.1];exact jL rx f ht.isList (by omega)
    · simp [dep] at hd
    · simp [dep] at hd
  | succ n ih=>
    intro x y d e u v hd hx hy rx ry A hA
    have hu:A.units < cLine:=by omega
    rcases hx.top with ⟨f,h,h1⟩ | ⟨a,xs,ds,rfl,rfl,h,r⟩ | ⟨a,xs,ds,rfl,rfl,h,r⟩
    · rcases hy.top with ⟨f',h',h1'⟩ | ⟨b,ys,es,rfl,rfl,h',r'⟩ | ⟨b,ys,es,rfl,rfl,h',r'⟩
      · rw [← h y e hy f'];exact vC rx ry f f'
      · obtain ⟨its,rv,ht,_⟩:=I.tuple h'
        cases ry;rw [(h1 es).1];exact i7 rx f ht hu
      · obtain ⟨its,rv,ht,_⟩:=I.list h'
        cases ry;rw [(h1 es).2.2.1];exact jL rx f ht.isList hu
    · obtain ⟨its,rv,ht,_⟩:=I.tuple h
      cases rx
      rw [dep] at hd
      rcases hy.top with ⟨f',h',h1'⟩ | ⟨b,ys,es,rfl,rfl,h',r'⟩ | ⟨b,ys,es,rfl,rfl,h',r'⟩
      · rw [(h1' ds).2.1];exact nI ry f' ht hu
      · cases ry
        obtain ⟨its',rv',ht',_⟩:=I.tuple h'
        by_cases hab:a=b
        · subst hab
          have e:=I.iR h h'
          subst e
          rw [Ats.inj I r r',iG]
          exact SeqAt.EqAt.same _
        · have q:=SeqAt.RcAt.tuples (A:=A) (e:=fun j=>eqD (ds.getD j .non) (es.getD j .non)) ht ht' hu (fY (C:=fun u v k=>SeqAt.EqAt A.in1 s u v k) (fun x y d e u v hm hx hy rx ry=>ih (Nat.le_trans (gC hm) (by omega)) hx hy rx ry A.in1 (by show A.units+1+n < _;omega)) r r' rv rv')
          have l1:its.toArray.size=ds.length:=by rw [List.size_toArray,← rv.length,r.len]
          have l2:its'.toArray.size=es.length:=by rw [List.size_toArray,← rv'.length,r'.len]
          rw [l1,l2,dM] at q
          rw [eqD]
          exact SeqAt.EqAt.of_refs hab q
      · cases ry
        obtain ⟨its',rv',ht',_⟩:=I.list h'
        rw [show eqD (.tup ds) (.lst es)=false by simp [eqD]]
        exact SeqAt.EqAt.tuple_list ht ht'.isList hu
    · obtain ⟨its,rv,ht,_⟩:=I.list h
      cases rx
      rw [dep] at hd
      rcases hy.top with ⟨f',h',h1'⟩ | ⟨b,ys,es,rfl,rfl,h',r'⟩ | ⟨b,ys,es,rfl,rfl,h',r'⟩
      · rw [(h1' ds).2.2.2];exact qg ry f' ht.isList hu
      · cases ry
        obtain ⟨its',rv',ht',_⟩:=I.tuple h'
        rw [show eqD (.lst ds) (.tup es)=false by simp [eqD]]
        exact SeqAt.EqAt.list_tuple ht.isList ht' hu
      · cases ry
        obtain ⟨its',rv',ht',_⟩:=I.list h'
        by_cases hab:a=b
        · subst hab
          have e:=I.jE h h'
          subst e
          rw [Ats.inj I r r',iG]
          exact SeqAt.EqAt.same _
        · refine SeqAt.EqAt.of_refs hab ?_
          have l1:its.toArray.size=ds.length:=by rw [List.size_toArray,← rv.length,r.len]
          have l2:its'.toArray.size=es.length:=by rw [List.size_toArray,← rv'.length,r'.len]
          rw [eqD]
          by_cases hl:ds.length=es.length
          · have q:=SeqAt.RcAt.lists (A:=A) (e:=fun j=>eqD (ds.getD j .non) (es.getD j .non)) ht.isList ht'.isList (by rw [l1,l2,hl]) hu (fY (C:=fun u v k=>SeqAt.EqAt A.in1 s u v k) (fun x y d e u v hm hx hy rx ry=>ih (Nat.le_trans (gC hm) (by omega)) hx hy rx ry A.in1 (by show A.units+1+n < _;omega)) r r' rv rv')
            have z:=dM ds es
            rw [hl,Nat.min_self,beq_self_eq_true,Bool.and_true] at z
            rw [l1,hl,z] at q
            exact q
          · rw [ki hl]
            exact SeqAt.RcAt.lists_lengths ht.isList ht'.isList (by rw [l1,l2];simpa using hl) hu
theorem Kg {X:Cx} {pins:List (Addr×Obj)} {σ : St} {H:Hp} {s:Shared} (I:Inv X pins σ H s) {n:Nat} {x y:V} {d e:Dt} {u v:Value} (hd:dep d≤n) (hx:At X.K H x d) (hy:At X.K H y e) (rx:RelV x u) (ry:RelV y v) (A:Around) (hA:A.units+1+n < cLine):SeqAt.RcAt A s u v (eqD d e):=by
  have hu:A.units < cLine:=by omega
  rcases hx.top with ⟨f,h,h1⟩ | ⟨a,xs,ds,rfl,rfl,h,r⟩ | ⟨a,xs,ds,rfl,rfl,h,r⟩
  · rcases hy.top with ⟨f',h',h1'⟩ | ⟨b,ys,es,rfl,rfl,h',r'⟩ | ⟨b,ys,es,rfl,rfl,h',r'⟩
    · rw [← h y e hy f'];exact LG rx ry f f'
    · obtain ⟨its,rv,ht,_⟩:=I.tuple h'
      cases ry;rw [(h1 es).1];exact nE rx f ht hu
    · obtain ⟨its,rv,ht,_⟩:=I.list h'
      cases ry;rw [(h1 es).2.2.1];exact pN rx f ht.isList hu
  · obtain ⟨its,rv,ht,_⟩:=I.tuple h
    cases rx
    rw [dep] at hd
    rcases hy.top with ⟨f',h',h1'⟩ | ⟨b,ys,es,rfl,rfl,h',r'⟩ | ⟨b,ys,es,rfl,rfl,h',r'⟩
    · rw [(h1' ds).2.1];exact nB ry f' ht hu
    · cases ry
      obtain ⟨its',rv',ht',_⟩:=I.tuple h'
      have q:=SeqAt.RcAt.tuples (A:=A) (e:=fun j=>eqD (ds.getD j .non) (es.getD j .non)) ht ht' hu (fY (C:=fun u v k=>SeqAt.EqAt A.in1 s u v k) (fun x y d e u v hm hx hy rx ry=>xH I n (Nat.le_trans (gC hm) (by omega)) hx hy rx ry A.in1 (by show A.units+1+n < _;omega)) r r' rv rv')
      have l1:its.toArray.size=ds.length:=by rw [List.size_toArray,← rv.length,r.len]
      have l2:its'.toArray.size=es.length:=by rw [List.size_toArray,← rv'.length,r'.len]
      rw [l1,l2,dM] at q
      rw [eqD]
      exact q
    · cases ry
      obtain ⟨its',rv',ht',_⟩:=I.list h'
      rw [show eqD (.tup ds) (.lst es)=false by simp [eqD]]
      exact SeqAt.RcAt.tuple_list ht ht'.isList hu
  · obtain ⟨its,rv,ht,_⟩:=I.list h
    cases rx
    rw [dep] at hd
    rcases hy.top with ⟨f',h',h1'⟩ | ⟨b,ys,es,rfl,rfl,h',r'⟩ | ⟨b,ys,es,rfl,rfl,h',r'⟩
    · rw [(h1' ds).2.2.2];exact pM ry f' ht.isList hu
    · cases ry
      obtain ⟨its',rv',ht',_⟩:=I.tuple h'
      rw [show eqD (.lst ds) (.tup es)=false by simp [eqD]]
      exact SeqAt.RcAt.list_tuple ht.isList ht' hu
    · cases ry
      obtain ⟨its',rv',ht',_⟩:=I.list h'
      have l1:its.toArray.size=ds.length:=by rw [List.size_toArray,← rv.length,r.len]
      have l2:its'.toArray.size=es.length:=by rw [List.size_toArray,← rv'.length,r'.len]
      rw [eqD]
      by_cases hl:ds.length=es.length
      · have q:=SeqAt.RcAt.lists (A:=A) (e:=fun j=>eqD (ds.getD j .non) (es.getD j .non)) ht.isList ht'.isList (by rw [l1,l2,hl]) hu (fY (C:=fun u v k=>SeqAt.EqAt A.in1 s u v k) (fun x y d e u v hm hx hy rx ry=>xH I n (Nat.le_trans (gC hm) (by omega)) hx hy rx ry A.in1 (by show A.units+1+n < _;omega)) r r' rv rv')
        have z:=dM ds es
        rw [hl,Nat.min_self,beq_self_eq_true,Bool.and_true] at z
        rw [l1,hl,z] at q
        exact q
      · rw [ki hl]
        exact SeqAt.RcAt.lists_lengths ht.isList ht'.isList (by rw [l1,l2];simpa using hl) hu
theorem D6 {X:Cx} {pins:List (Addr×Obj)} {σ : St} {H:Hp} {s:Shared} (I:Inv X pins σ H s) {n:Nat} {x y:V} {d e:Dt} {u v:Value} (hd:dep d≤n) (hx:At X.K H x d) (hy:At X.K H y e) (rx:RelV x u) (ry:RelV y v) (A:Around) (hA:A.units+1+n < cLine):SeqAt.RcNeAt A s u v (!eqD d e):=by
  have hu:A.units < cLine:=by omega
  rcases hx.top with ⟨f,h,h1⟩ | ⟨a,xs,ds,rfl,rfl,h,r⟩ | ⟨a,xs,ds,rfl,rfl,h,r⟩
  · rcases hy.top with ⟨f',h',h1'⟩ | ⟨b,ys,es,rfl,rfl,h',r'⟩ | ⟨b,ys,es,rfl,rfl,h',r'⟩
    · rw [← h y e hy f'];exact Hf rx ry f f'
    · obtain ⟨its,rv,ht,_⟩:=I.tuple h'
      cases ry;rw [(h1 es).1];exact nA rx f ht hu
    · obtain ⟨its,rv,ht,_⟩:=I.list h'
      cases ry;rw [(h1 es).2.2.1];exact pK rx f ht.isList hu
  · obtain ⟨its,rv,ht,_⟩:=I.tuple h
    cases rx
    rw [dep] at hd
    rcases hy.top with ⟨f',h',h1'⟩ | ⟨b,ys,es,rfl,rfl,h',r'⟩ | ⟨b,ys,es,rfl,rfl,h',r'⟩
    · rw [(h1' ds).2.1];exact nv ry f' ht hu
    · cases ry
      obtain ⟨its',rv',ht',_⟩:=I.tuple h'
      have q:=SeqAt.RcNeAt.tuples (A:=A) (e:=fun j=>eqD (ds.getD j .non) (es.getD j .non)) ht ht' hu (fY (C:=fun u v k=>SeqAt.EqAt A.in1 s u v k) (fun x y d e u v hm hx hy rx ry=>xH I n (Nat.le_trans (gC hm) (by omega)) hx hy rx ry A.in1 (by show A.units+1+n < _;omega)) r r' rv rv')
      have l1:its.toArray.size=ds.length:=by rw [List.size_toArray,← rv.length,r.len]
      have l2:its'.toArray.size=es.length:=by rw [List.size_toArray,← rv'.length,r'.len]
      rw [l1,l2,dM] at q
      rw [eqD]
      exact q
    · cases ry
      obtain ⟨its',rv',ht',_⟩:=I.list h'
      rw [show eqD (.tup ds) (.lst es)=false by simp [eqD]]
      exact SeqAt.RcNeAt.tuple_list ht ht'.isList hu
  · obtain ⟨its,rv,ht,_⟩:=I.list h
    cases rx
    rw [dep] at hd
    rcases hy.top with ⟨f',h',h1'⟩ | ⟨b,ys,es,rfl,rfl,h',r'⟩ | ⟨b,ys,es,rfl,rfl,h',r'⟩
    · rw [(h1' ds).2.2.2];exact pJ ry f' ht.isList hu
    · cases ry
      obtain ⟨its',rv',ht',_⟩:=I.tuple h'
      rw [show eqD (.lst ds) (.tup es)=false by simp [eqD]]
      exact SeqAt.RcNeAt.list_tuple ht.isList ht' hu
    · cases ry
      obtain ⟨its',rv',ht',_⟩:=I.list h'
      have l1:its.toArray.size=ds.length:=by rw [List.size_toArray,← rv.length,r.len]
      have l2:its'.toArray.size=es.length:=by rw [List.size_toArray,← rv'.length,r'.len]
      rw [eqD]
      by_cases hl:ds.length=es.length
      · have q:=SeqAt.RcNeAt.lists (A:=A) (e:=fun j=>eqD (ds.getD j .non) (es.getD j .non)) ht.isList ht'.isList (by rw [l1,l2,hl]) hu (fY (C:=fun u v k=>SeqAt.EqAt A.in1 s u v k) (fun x y d e u v hm hx hy rx ry=>xH I n (Nat.le_trans (gC hm) (by omega)) hx hy rx ry A.in1 (by show A.units+1+n < _;omega)) r r' rv rv')
        have z:=dM ds es
        rw [hl,Nat.min_self,beq_self_eq_true,Bool.and_true] at z
        rw [l1,hl,z] at q
        exact q
      · rw [ki hl]
        exact SeqAt.RcNeAt.lists_lengths ht.isList ht'.isList (by rw [l1,l2];simpa using hl) hu
def Hj (K:PySem.W.Frag):R2:=fun x y H Q=>∃ d e,At K H x d∧At K H y e∧dep d≤100∧Q (.bl (eqD d e)) H
def Hg (K:PySem.W.Frag):R2:=fun x y H Q=>∃ d e,At K H x d∧At K H y e∧dep d≤100∧Q (.bl (!eqD d e)) H
theorem BF {X:Cx} (hr:bX 0 X.A):OpR X (compareOp .Eq) (Hj X.K):=by
  intro pins s σ H x y v u Q I rx ry h
  obtain ⟨d,e,hx,hy,hd,q⟩:=h
  exact Kg I hd hx hy rx ry X.A (by have:=hr.un;omega) _ _ _ _ ⟨.bl _,H,I,rfl,q⟩
theorem BE {X:Cx} (hr:bX 0 X.A):OpR X (compareOp .NotEq) (Hg X.K):=by
  intro pins s σ H x y v u Q I rx ry h
  obtain ⟨d,e,hx,hy,hd,q⟩:=h
  exact D6 I hd hx hy rx ry X.A (by have:=hr.un;omega) _ _ _ _ ⟨.bl _,H,I,rfl,q⟩
theorem Jb {K:PySem.W.Frag} {x y:V} {H:Hp} {Q:VK} {d:Dt} (hx:At K H x d) (hy:At K H y d) (hd:dep d≤100) (h:Q (.bl true) H):Hj K x y H Q:=⟨d,d,hx,hy,hd,by rw [iG];exact h⟩
theorem IM {K:PySem.W.Frag} {x y:V} {H:Hp} {Q:VK} {d:Dt} (hx:At K H x d) (hy:At K H y d) (hd:dep d≤100) (h:Q (.bl false) H):Hg K x y H Q:=⟨d,d,hx,hy,hd,by rw [iG];exact h⟩
theorem oE {K:PySem.W.Frag} {x y:V} {H:Hp} {Q:VK} {d e:Dt} (hx:At K H x d) (hy:At K H y e) (hd:dep d≤100) (h:Q (.bl (eqD d e)) H):Hj K x y H Q:=⟨d,e,hx,hy,hd,h⟩
theorem K0 {K:PySem.W.Frag} {x y:V} {H:Hp} {Q:VK} {d e:Dt} (hx:At K H x d) (hy:At K H y e) (hd:dep d≤100) (h:Q (.bl (!eqD d e)) H):Hg K x y H Q:=⟨d,e,hx,hy,hd,h⟩
theorem ints_of:∀ {ns:List Int} {us:List Value},Vals (ns.map V.int) us→IntsAre us ns
  | [],_,.nil=>.nil
  | n::ns,_,.cons r t=>by
    obtain ⟨tk,rfl⟩:=r
    exact .cons n tk (ints_of t)
theorem fR:∀ {ns:List Int} {us:List Value},IntsAre us ns→Vals (ns.map V.int) us
  | _,_,.nil=>.nil
  | _,_,.cons n t r=>.cons ⟨t,rfl⟩ (fR r)
theorem nR:∀ {ns:List Str} {us:List Value},StrsAre us ns→Vals (ns.map V.str) us
  | _,_,.nil=>.nil
  | _,_,.cons n t r=>.cons ⟨t,rfl⟩ (nR r)
def Bp (K:PySem.W.Frag):RL:=fun xs H Q=>∃ (p:Addr) (ns:List Str),xs=[.ref p]∧SqL K H p (ns.map V.str)∧ns.length < 64∧∀ (l:Addr) (ms:List Str),H l=none→ms.Perm ns→sortedS ms=true→Q (.ref l) (upd H l (.lst (ms.map V.str)))
section
variable {X:Cx}
theorem FE:cK X (.builtin "sorted") (Bp X.K):=by
  intro pins s σ H xs us Q I r h
  obtain ⟨p,ns,rfl,hq,h64,q⟩:=h
  obtain ⟨u,rfl,rx⟩:=vals1 r
  cases rx
  obtain ⟨its,rv,pl,hz⟩:=I.list hq
  have hl:its.length=ns.length:=by rw [← rv.length,List.length_map]
  refine sorted_strs pl.isList (wJ rv) (by omega) fun out ms a1 a2 a3=>?_
  obtain ⟨e,he⟩:=sortedAll_at s.heap its out
  have ro:=nR a1
  have hz2:(ms.map V.str).length≤sizeLine:=by rw [List.length_map,a2.length_eq];exact Nat.le_of_lt (small1000 (by omega))
  refine ⟨.ref (s.heap.objs.size+1),_,I.laid (a:=s.heap.objs.size+1) (o:=.lst (ms.map V.str)) (t':=s.toks) (fun b o hb=>sortedAll_old hb) (Nat.le_succ _) ⟨hz2,out.toList,e,ro,?_⟩,rfl,q _ ms (I.hok.fresh (Nat.le_succ _)) a2 a3⟩
  rw [he]
end
def ZIt (k:Bool) (h:Heap) (i a:Addr) (n:Nat):Prop:=match k with | true=>h.IsListIter i a n | false=>h.IsTupleIter i a n
def ZSr (k:Bool) (h:Heap) (a:Addr) (xs:Array Value):Prop:=match k with | true=>h.IsList a xs | false=>h.IsTuple a xs
theorem ZIt.keep {k:Bool} {h h':Heap} {i a:Addr} {n:Nat} (x:ZIt k h i a n) (e:∀ o,h.get? i=some o→h'.get? i=some o):ZIt k h' i a n:=by
  cases k <;> (obtain ⟨o,ho,r⟩:=x;exact ⟨o,e o ho,r⟩)
theorem ZSr.keep {k:Bool} {h h':Heap} {a:Addr} {xs:Array Value} (x:ZSr k h a xs) (e:∀ o,h.get? a=some o→h'.get? a=some o):ZSr k h' a xs:=by
  cases k <;> (obtain ⟨o,ho,r⟩:=x;exact ⟨o,e o ho,r⟩)
theorem ZIt.ob {k:Bool} {h:Heap} {i a:Addr} {n:Nat} (x:ZIt k h i a n):∃ o vs,h.get? i=some o∧o.data = .fields vs∧(o.cls = .type "list_iterator" ∨ o.cls = .type "tuple_iterator"):=by
  cases k
  · obtain ⟨o,ho,c,d⟩:=x;exact ⟨o,_,ho,d,.inr c⟩
  · obtain ⟨o,ho,c,d⟩:=x;exact ⟨o,_,ho,d,.inl c⟩
section
variable {prog:Program} {w:World} {A:Around} {E:Value→Shared→Prop} {s:Shared}
theorem HR {i a:Addr} {n:Nat} {xs:Array Value} {x:Value} {Q:Value→Shared→Prop} (hi:s.heap.IsTupleIter i a n) (ha:s.heap.IsTuple a xs) (e:xs[n]?=some x)
    (q:∀ h',h'.IsTupleIter i a (n+1)→Heap.SameBut i s.heap h'→Q x { s with heap:=h' }):wpAny (model prog w) A (Builtin.SmallTypes.nextOf (.ref i)) Q E s:=by
  obtain ⟨o,ho,c,d⟩:=id hi
  obtain ⟨oa,hoa,_,m,da⟩:=ha
  unfold Builtin.SmallTypes.nextOf
  refine wpAny_bind (wpAny_callSpecial?_slot (name:=Str.ofString "__next__") hi.typeIs F.slot_tuple_iterator_next (wpAny_call_entry F.slot_tuple_iterator_next hi.typeIs F.entry_tuple_iterator_next ?_ (F.args_tuple_iterator_next_1 _)))
  show wpAny _ _ (field (.ref i) 0 >>= _) _ _ s
  refine wpAny_bind (wpAny_field ho d (x:=.ref a) rfl ?_)
  show wpAny _ _ (if (Value.ref a == Value.none)=true then _ else _) _ _ s
  rw [if_neg (show ¬ ((Value.ref a == Value.none)=true) from Bool.false_ne_true)]
  show wpAny _ _ (field (.ref i) 1 >>= _) _ _ s
  refine wpAny_bind (wpAny_field ho d (x:=.int n 0) rfl ?_)
  show wpAny _ _ (seqItems? (.ref a) >>= _) _ _ s
  refine wpAny_bind (wpAny_seqItems hoa da ?_)
  simp only [Int.toNat_natCast,e]
  refine wpAny_bind (wpAny_setField ho d (by simp) (wpAny_pure ⟨x,rfl,wpAny_pure (q _ ⟨_,Heap.get?_update_self _ ho (Obj.isFreed_of_fields (Obj.data_mapFields d _)),(Obj.cls_mapFields ..).trans c,by rw [Obj.data_mapFields d];simp [rawInt]⟩ (Heap.SameBut.update ..))⟩))
theorem vc {i a:Addr} {n:Nat} {xs:Array Value} {Q:Value→Shared→Prop} (hh:A.handled=none) (hi:s.heap.IsTupleIter i a n) (ha:s.heap.IsTuple a xs) (e:xs[n]?=none)
    (q:∀ h' x,Heap.ExtBut i s.heap h'→(∃ o,h'.get? x=some o∧o.cls = .type "StopIteration")→E (.ref x) { s with heap:=h' }):wpAny (model prog w) A (Builtin.SmallTypes.nextOf (.ref i)) Q E s:=by
  obtain ⟨o,ho,c,d⟩:=id hi
  obtain ⟨oa,hoa,_,m,da⟩:=ha
  unfold Builtin.SmallTypes.nextOf
  refine wpAny_bind (wpAny_callSpecial?_slot (name:=Str.ofString "__next__") hi.typeIs F.slot_tuple_iterator_next (wpAny_call_entry F.slot_tuple_iterator_next hi.typeIs F.entry_tuple_iterator_next ?_ (F.args_tuple_iterator_next_1 _)))
  show wpAny _ _ (field (.ref i) 0 >>= _) _ _ s
  refine wpAny_bind (wpAny_field ho d (x:=.ref a) rfl ?_)
  show wpAny _ _ (if (Value.ref a == Value.none)=true then _ else _) _ _ s
  rw [if_neg (show ¬ ((Value.ref a == Value.none)=true) from Bool.false_ne_true)]
  show wpAny _ _ (field (.ref i) 1 >>= _) _ _ s
  refine wpAny_bind (wpAny_field ho d (x:=.int n 0) rfl ?_)
  show wpAny _ _ (seqItems? (.ref a) >>= _) _ _ s
  refine wpAny_bind (wpAny_seqItems hoa da ?_)
  simp only [Int.toNat_natCast,e]
  refine wpAny_bind (wpAny_rule (wpAny_bind (wpAny_setField ho d (by simp) ?_)))
  show wpAny _ _ (newExc (.type "StopIteration") [] >>= _) _ _ _
  refine wpAny_bind ?_;simp only [newExc,newTuple]
  refine wpAny_bind (wpAny_newObj_type ?_ (by size_fits));refine wpAny_bind (m:=firstArgMember _ _) (wpAny_of_eq (a:=Value.none) (by first | rfl | (simp only [firstArgMember];rfl)) ?_)
  refine wpAny_newObj_type ?_ (by size_fits);simp only [raiseNew];refine wpAny_bind (wpAny_handled ?_)
  first | rw [show A.in1.handled=none from hh] | rw [hh]
  refine wpAny_bind (wpAny_pure (wpAny_throw (q _ _ (((Heap.SameBut.update ..).extBut.push _).push _) ⟨_,Heap.get?_push_size _ rfl,rfl⟩)))
theorem pW {k:Bool} {i a:Addr} {n:Nat} {xs:Array Value} {x:Value} {Q:Value→Shared→Prop} (hi:ZIt k s.heap i a n) (ha:ZSr k s.heap a xs) (e:xs[n]?=some x)
    (q:∀ h',ZIt k h' i a (n+1)→Heap.SameBut i s.heap h'→Q x { s with heap:=h' }):wpAny (model prog w) A (Builtin.SmallTypes.nextOf (.ref i)) Q E s:=by
  cases k with
  | true=>exact wpAny_nextOf_list_item hi ha e q
  | false=>exact HR hi ha e q
theorem B4 {k:Bool} {i a:Addr} {n:Nat} {xs:Array Value} {Q:Value→Shared→Prop} (hh:A.handled=none) (hi:ZIt k s.heap i a n) (ha:ZSr k s.heap a xs) (e:xs[n]?=none)
    (q:∀ h' x,Heap.ExtBut i s.heap h'→(∃ o,h'.get? x=some o∧o.cls = .type "StopIteration")→E (.ref x) { s with heap:=h' }):wpAny (model prog w) A (Builtin.SmallTypes.nextOf (.ref i)) Q E s:=by
  cases k with
  | true=>exact wpAny_nextOf_list_end hh hi ha e q
  | false=>exact vc hh hi ha e q
structure ZAp (z T O i j:Addr):Prop where
  nd:[z,T,O,i,j].Nodup
theorem ZAp.ne {z T O i j:Addr} (D:ZAp z T O i j):T≠z∧O≠z∧i≠z∧j≠z∧T≠O∧T≠i∧T≠j∧O≠i∧O≠j∧i≠j:=by
  have:=D.nd
  simp only [List.nodup_cons,List.mem_cons,List.not_mem_nil,or_false,not_or,List.nodup_nil,and_true,not_false_eq_true] at this
  obtain ⟨⟨a1,a2,a3,a4⟩,⟨b1,b2,b3⟩,⟨c1,c2⟩,d1⟩:=this
  exact ⟨Ne.symm a1,Ne.symm a2,Ne.symm a3,Ne.symm a4,b1,b2,b3,c1,c2,d1⟩
structure ZAt (k1 k2:Bool) (h:Heap) (z T O i j a b:Addr) (f:Value) (n:Nat):Prop where
  z:IsZip h z T O f
  t:IsPair h T (.ref i) (.ref j)
  o:∃ x y,IsPair h O x y
  i:ZIt k1 h i a n
  j:ZIt k2 h j b n
theorem An {k1 k2:Bool} {z T O i j a b:Addr} {n:Nat} {xs ys:Array Value} {x y:Value} {Q:Option Value→Shared→Prop} (D:ZAp z T O i j) (Z:ZAt k1 k2 s.heap z T O i j a b .none n)
    (ha:∀ h',(∀ o,s.heap.get? a=some o→h'.get? a=some o)→ZSr k1 h' a xs) (na:a∉[z,O,i,j]) (hb:∀ h',(∀ o,s.heap.get? b=some o→h'.get? b=some o)→ZSr k2 h' b ys) (nb:b∉[z,O,i,j]) (hx:xs[n]?=some x) (hy:ys[n]?=some y)
    (q:∀ h',ZAt k1 k2 h' z T O i j a b (rawInt s.heap.objs.size) (n+1)→IsPair h' s.heap.objs.size x y→(∀ c o,c∉[z,O,i,j]→s.heap.get? c=some o→h'.get? c=some o)→Q (some (.ref s.heap.objs.size)) { s with heap:=h' }) :
    wpAny (model prog w) A (pyNext (.ref z)) Q E s:=by
  obtain ⟨hz,hT,⟨u,v,hO⟩,hi,hj⟩:=Z
  obtain ⟨d1,d2,d3,d4,d5,d6,d7,d8,d9,d10⟩:=D.ne
  simp only [List.mem_cons,List.not_mem_nil,or_false,not_or] at na nb
  have ty:s.TypeIs (.ref z) "zip" := ⟨_,hz,rfl⟩
  unfold pyNext
  refine wpAny_bind (wpAny_attempt (wpAny_callSpecial?_slot (name:=Str.ofString "__next__") ty F.slot_zip_next (wpAny_call_entry F.slot_zip_next ty F.entry_zip_next ?_ (F.args_zip_next_1 _))))
  show wpAny _ _ (field (.ref z) 2 >>= _) _ _ _
  refine wpAny_bind (wpAny_field hz rfl (x:=.bool false) rfl ?_);show wpAny _ _ (field (.ref z) 3 >>= _) _ _ _
  refine wpAny_bind (wpAny_field hz rfl (x:=.ref T) rfl (wpAny_bind (wpAny_seqItems hT rfl ?_)))
  show wpAny _ _ (Builtin.SmallTypes.ownedTupleIsFree (.ref z) >>= _) _ _ _
  refine wpAny_bind ?_;unfold Builtin.SmallTypes.ownedTupleIsFree
  refine wpAny_bind (wpAny_field hz rfl (x:=.none) rfl (wpAny_pure ?_));simp only [if_true]
  refine wpAny_bind (wpAny_rule (wpAny_bind (wpAny_field hz rfl (x:=.ref O) rfl (wpAny_bind (wpAny_setField_rec hz (by simp) fun g1 z1 e1=>?_)))))
  replace z1:IsZip g1 z T O .ellipsis:=z1
  refine wpAny_bind ?_;simp only [List.zipIdx_cons,List.zipIdx_nil,List.forIn_cons,List.forIn_nil]
  refine wpAny_bind (wpAny_bind (wpAny_onRaise ?_));show wpAny _ _ (Builtin.SmallTypes.nextOf (.ref i) >>= _) _ _ _
  refine wpAny_bind (pW (hi.keep fun o h=>e1.extBut _ _ d3 h) (ha _ fun o h=>e1.extBut _ _ na.1 h) hx fun g2 i2 e2=>wpAny_pure ?_)
  have O2:IsPair g2 O u v:=e2.extBut _ _ d8 (e1.extBut _ _ d2 hO)
  refine wpAny_bind (wpAny_seqItems O2 rfl (wpAny_bind (wpAny_updateSeq_pair O2 fun g3 O3 e3=>?_)))
  replace O3:IsPair g3 O x v:=O3
  refine wpAny_bind (wpAny_letGo (wpAny_pure ?_));refine wpAny_bind (wpAny_bind (wpAny_onRaise ?_))
  show wpAny _ _ (Builtin.SmallTypes.nextOf (.ref j) >>= _) _ _ _
  refine wpAny_bind (pW (hj.keep fun o h=>e3.extBut _ _ (Ne.symm d9) (e2.extBut _ _ (Ne.symm d10) (e1.extBut _ _ d4 h))) (hb _ fun o h=>e3.extBut _ _ nb.2.1 (e2.extBut _ _ nb.2.2.1 (e1.extBut _ _ nb.1 h))) hy fun g4 j4 e4=>wpAny_pure ?_)
  have O4:IsPair g4 O x v:=e4.extBut _ _ d9 O3
  refine wpAny_bind (wpAny_seqItems O4 rfl (wpAny_bind (wpAny_updateSeq_pair O4 fun g5 O5 e5=>?_)))
  replace O5:IsPair g5 O x y:=O5
  refine wpAny_bind (wpAny_letGo (wpAny_pure (wpAny_pure ?_)));refine wpAny_bind (wpAny_seqItems O5 rfl (wpAny_bind (wpAny_newTuple ?_)))
  have sz:g5.objs.size=s.heap.objs.size:=by rw [e5.1,e4.1,e3.1,e2.1,e1.1]
  have z5:IsZip g5 z T O .ellipsis:=e5.extBut _ _ (Ne.symm d2) (e4.extBut _ _ (Ne.symm d4) (e3.extBut _ _ (Ne.symm d2) (e2.extBut _ _ (Ne.symm d3) z1)))
  have k5:∀ c o,c∉[z,O,i,j]→s.heap.get? c=some o→g5.get? c=some o:=fun c o hc h=>by
    simp only [List.mem_cons,List.not_mem_nil,or_false,not_or] at hc
    exact e5.extBut _ _ hc.2.1 (e4.extBut _ _ hc.2.2.2 (e3.extBut _ _ hc.2.1 (e2.extBut _ _ hc.2.2.1 (e1.extBut _ _ hc.1 h))))
  show wpAny _ _ (Builtin.SmallTypes.ownedTupleHandOut (.ref z) (.ref g5.objs.size) >>= _) _ _ _
  refine wpAny_bind ?_;unfold Builtin.SmallTypes.ownedTupleHandOut
  have z6:IsZip (g5.push { cls:=.type "tuple",data:=.seq #[x,y] }) z T O .ellipsis:=Heap.get?_push_of_some _ z5
  refine wpAny_bind (wpAny_setField_rec z6 (by simp) fun g7 z7 e7=>?_)
  replace z7:IsZip g7 z T O (rawInt g5.objs.size):=z7
  refine wpAny_setField_rec z7 (by simp) fun g8 z8 e8=>?_
  replace z8:IsZip g8 z T O (rawInt g5.objs.size):=z8
  have up:∀ c o,c≠z→g5.get? c=some o→g8.get? c=some o:=fun c o hc h=>e8.extBut _ _ hc (e7.extBut _ _ hc (Heap.get?_push_of_some _ h))
  have zlt:g5.objs.size≠z:=Nat.ne_of_gt (Heap.lt_size z5)
  have p8:IsPair g8 g5.objs.size x y:=e8.extBut _ _ zlt (e7.extBut _ _ zlt (Heap.get?_push_size _ rfl))
  rw [sz] at z8 p8
  refine wpAny_pure ⟨_,rfl,wpAny_pure ?_⟩
  show Q (some (.ref g5.objs.size)) _
  rw [sz]
  refine q g8 ⟨z8,up _ _ d1 (k5 _ _ (by simp [d1,d5,d6,d7]) hT),⟨x,y,up _ _ d2 O5⟩,i2.keep fun o h=>up _ _ d3 (e5.extBut _ _ (Ne.symm d8) (e4.extBut _ _ d10 (e3.extBut _ _ (Ne.symm d8) h))),j4.keep fun o h=>up _ _ d4 (e5.extBut _ _ (Ne.symm d9) h)⟩ p8 fun c o hc h=>up c o (fun e=>hc (by simp [e])) (k5 c o hc h)
theorem Dq {k1 k2:Bool} {z T O i j a b:Addr} {n:Nat} {xs ys:Array Value} {Q:Option Value→Shared→Prop} (hh:A.handled=none) (D:ZAp z T O i j) (Z:ZAt k1 k2 s.heap z T O i j a b .none n)
    (ha:∀ h',(∀ o,s.heap.get? a=some o→h'.get? a=some o)→ZSr k1 h' a xs) (na:a∉[z,O,i,j]) (hb:∀ h',(∀ o,s.heap.get? b=some o→h'.get? b=some o)→ZSr k2 h' b ys) (nb:b∉[z,O,i,j]) (he:xs[n]?=none∨ys[n]?=none)
    (q:∀ h',(∀ c o,c∉[z,O,i,j]→s.heap.get? c=some o→h'.get? c=some o)→Q none { s with heap:=h' }):wpAny (model prog w) A (pyNext (.ref z)) Q E s:=by
  obtain ⟨hz,hT,⟨u,v,hO⟩,hi,hj⟩:=Z
  obtain ⟨d1,d2,d3,d4,d5,d6,d7,d8,d9,d10⟩:=D.ne
  simp only [List.mem_cons,List.not_mem_nil,or_false,not_or] at na nb
  have ty:s.TypeIs (.ref z) "zip" := ⟨_,hz,rfl⟩
  have fin:∀ (h':Heap) (e:Addr),(∀ c o,c∉[z,O,i,j]→s.heap.get? c=some o→h'.get? c=some o)→(∃ o,h'.get? e=some o∧o.cls = .type "StopIteration") →
      wpAny (model prog w) A (do if ← isInstance (.ref e) (.type "StopIteration") then pure none else throw (.ref e)) Q E { s with heap:=h' }:=fun h' e k ⟨o,ho,hc⟩=>
    wpAny_bind (wpAny_isInstance (T:="StopIteration") (b:=true) ⟨o,ho,hc⟩ isSubtype_stop (wpAny_pure (q h' k)))
  unfold pyNext
  refine wpAny_bind (wpAny_attempt (wpAny_callSpecial?_slot (name:=Str.ofString "__next__") ty F.slot_zip_next (wpAny_call_entry F.slot_zip_next ty F.entry_zip_next ?_ (F.args_zip_next_1 _))))
  show wpAny _ _ (field (.ref z) 2 >>= _) _ _ _
  refine wpAny_bind (wpAny_field hz rfl (x:=.bool false) rfl ?_);show wpAny _ _ (field (.ref z) 3 >>= _) _ _ _
  refine wpAny_bind (wpAny_field hz rfl (x:=.ref T) rfl (wpAny_bind (wpAny_seqItems hT rfl ?_)))
  show wpAny _ _ (Builtin.SmallTypes.ownedTupleIsFree (.ref z) >>= _) _ _ _
  refine wpAny_bind ?_;unfold Builtin.SmallTypes.ownedTupleIsFree
  refine wpAny_bind (wpAny_field hz rfl (x:=.none) rfl (wpAny_pure ?_));simp only [if_true]
  refine wpAny_bind (wpAny_rule (wpAny_bind (wpAny_field hz rfl (x:=.ref O) rfl (wpAny_bind (wpAny_setField_rec hz (by simp) fun g1 z1 e1=>?_)))))
  replace z1:IsZip g1 z T O .ellipsis:=z1
  refine wpAny_bind ?_;simp only [List.zipIdx_cons,List.zipIdx_nil,List.forIn_cons,List.forIn_nil]
  refine wpAny_bind (wpAny_bind (wpAny_onRaise ?_));show wpAny _ _ (Builtin.SmallTypes.nextOf (.ref i) >>= _) _ _ _
  cases hx:xs[n]? with
  | none=>
    refine wpAny_bind (B4 hh (hi.keep fun o h=>e1.extBut _ _ d3 h) (ha _ fun o h=>e1.extBut _ _ na.1 h) hx fun g2 e e2 he2=>?_)
    obtain ⟨oe,hoe,hce⟩:=he2
    have z2:IsZip g2 z T O .ellipsis:=e2 _ _ (Ne.symm d3) z1
    have ez:e≠z:=fun r=>by subst r;rw [z2] at hoe;cases hoe;simp at hce
    refine wpAny_setField_rec z2 (by simp) fun g3 _ e3=>fin g3 e (fun c o hc h=>?_) ⟨oe,e3.extBut _ _ ez hoe,hce⟩
    simp only [List.mem_cons,List.not_mem_nil,or_false,not_or] at hc
    exact e3.extBut _ _ hc.1 (e2 _ _ hc.2.2.1 (e1.extBut _ _ hc.1 h))
  | some x=>
    have hy:ys[n]?=none:=he.resolve_left (by rw [hx];exact fun r=>nomatch r)
    refine wpAny_bind (pW (hi.keep fun o h=>e1.extBut _ _ d3 h) (ha _ fun o h=>e1.extBut _ _ na.1 h) hx fun g2 i2 e2=>wpAny_pure ?_)
    have O2:IsPair g2 O u v:=e2.extBut _ _ d8 (e1.extBut _ _ d2 hO)
    refine wpAny_bind (wpAny_seqItems O2 rfl (wpAny_bind (wpAny_updateSeq_pair O2 fun g3 O3 e3=>?_)))
    refine wpAny_bind (wpAny_letGo (wpAny_pure ?_));refine wpAny_bind (wpAny_bind (wpAny_onRaise ?_))
    show wpAny _ _ (Builtin.SmallTypes.nextOf (.ref j) >>= _) _ _ _
    refine wpAny_bind (B4 hh (hj.keep fun o h=>e3.extBut _ _ (Ne.symm d9) (e2.extBut _ _ (Ne.symm d10) (e1.extBut _ _ d4 h))) (hb _ fun o h=>e3.extBut _ _ nb.2.1 (e2.extBut _ _ nb.2.2.1 (e1.extBut _ _ nb.1 h))) hy fun g4 e e4 he4=>?_)
    obtain ⟨oe,hoe,hce⟩:=he4
    have z4:IsZip g4 z T O .ellipsis:=e4 _ _ (Ne.symm d4) (e3.extBut _ _ (Ne.symm d2) (e2.extBut _ _ (Ne.symm d3) z1))
    have ez:e≠z:=fun r=>by subst r;rw [z4] at hoe;cases hoe;simp at hce
    refine wpAny_setField_rec z4 (by simp) fun g5 _ e5=>fin g5 e (fun c o hc h=>?_) ⟨oe,e5.extBut _ _ ez hoe,hce⟩
    simp only [List.mem_cons,List.not_mem_nil,or_false,not_or] at hc
    exact e5.extBut _ _ hc.1 (e4 _ _ hc.2.2.2 (e3.extBut _ _ hc.2.1 (e2.extBut _ _ hc.2.2.1 (e1.extBut _ _ hc.1 h))))
def gO (k:Bool):String:=match k with | true => "list_iterator" | false => "tuple_iterator"
theorem Cf {k:Bool} {a:Addr} {xs:Array Value} {Q:Value→Shared→Prop} (ha:ZSr k s.heap a xs) (q:Q (.ref s.heap.objs.size) { s with heap:=s.heap.push { cls:=.type (gO k),data:=.fields #[.ref a,.int 0 0] } }) :
    wpAny (model prog w) A (pyIter (.ref a)) Q E s:=by
  cases k with
  | true=>exact wpAny_pyIter_list ha q
  | false=>exact wpAny_pyIter_tuple ha q
theorem wB {k:Bool} {h:Heap} {i a:Addr} (e:h.get? i=some { cls:=.type (gO k),data:=.fields #[.ref a,.int 0 0] }):ZIt k h i a 0:=by
  cases k <;> exact ⟨_,e,rfl,rfl⟩
def zHp (k1 k2:Bool) (h:Heap) (a b:Addr):Heap:=
  ((((h.push { cls:=.type (gO k1),data:=.fields #[.ref a,.int 0 0] }).push { cls:=.type (gO k2),data:=.fields #[.ref b,.int 0 0] }).push { cls:=.type "tuple",data:=.seq #[.ref h.objs.size,.ref (h.objs.size+1)] }).push
    { cls:=.type "tuple",data:=.seq #[.none,.none] }).push { cls:=.type "zip",data:=.fields #[.none,.bool false,.bool false,.ref (h.objs.size+2),.ref (h.objs.size+3)] }
theorem Dp (k1 k2:Bool) (a b:Addr) (xs ys:Array Value):Meets (Builtin.«zip.__new__» ⟨[.type "zip",.ref a,.ref b],[]⟩) (fun _ R s=>ZSr k1 s.heap a xs∧ZSr k2 s.heap b ys∧R (.ok (.ret (.ref (s.heap.objs.size+4)))) { s with heap:=zHp k1 k2 s.heap a b }):=
  .of_wp fun prog w A R s h=>by
    obtain ⟨hp,g,d,tk,os⟩:=s;obtain ⟨h1,h2,h⟩:=h
    have hsub:=sub_zip
    have s1:ZSr k1 (Shared.heap ⟨hp,g,d,tk,os⟩) a xs:=h1
    have s2:ZSr k2 (Shared.heap ⟨hp.push { cls:=.type (gO k1),data:=.fields #[.ref a,.int 0 0] },g,d,tk,os⟩) b ys:=h2.keep fun o e=>Heap.get?_push_of_some _ e
    wp_walk using Cf s1,Cf s2
    refine ⟨_,rfl,?_⟩
    unfold zHp at h
    simp only [Heap.size_push]
    exact h
end
section
variable {X:Cx} {pins:List (Addr×Obj)} {σ : St} {H:Hp} {s:Shared} {h':Heap} {ch:List Addr}
theorem F2 {t':Nat} (I:Inv X pins σ H s) (hf:∀ b∈ch,iO X pins H b) (k:∀ b o,b∉ch→s.heap.get? b=some o→h'.get? b=some o):Inv X pins σ H { s with heap:=h',toks:=t' }:=by
  have nit:∀ b u,H b=some u→b∉ch:=fun b u e z=>by rw [(hf b z).1] at e;cases e
  refine I.step (g':=s.gens) (d':=s.drawn) (ch:=ch) (fun b hb=>⟨(hf b hb).2.2.2.1,(hf b hb).2.1,(hf b hb).2.2.2.2.1,(hf b hb).2.2.2.2.2⟩) (fun b o _ _ hc e _=>k b o hc e) (fun b o _ _ hc e _=>⟨o.slots,k b o hc e⟩) (fun _ _ _ _ n=>n)
    (fun b o hc e=>⟨o,k b o hc e⟩) (fun _ _ e=>e) (fun _ _ _ e=>e) (fun b ps e=>⟨#[],by rw [e];simp⟩) (fun m hm=>?_) (fun b u e=>?_) I.bare
  · obtain ⟨o,es,ep,ho,r⟩:=hm
    exact ⟨o,es,ep,k _ o (fun z=>(hf _ z).2.1 rfl) ho,r⟩
  · exact (I.hok b u e).stay (fun c v hc q=>k c v (hc.elim (fun z=>z▸nit b u e) fun z=>nit c _ z) q) (fun _ q=>q) fun _ _ q=>q
theorem turnT {t':Nat} {T:Addr} {xs:List V} (I:Inv X pins σ H s) (hf:∀ b∈ch,iO X pins H b) (k:∀ b o,b∉ch→s.heap.get? b=some o→h'.get? b=some o) (hT:s.heap.objs.size≤T) (new:bU X.prog X.w (upd H T (.tup xs)) h' T (.tup xs)) :
    Inv X pins σ (upd H T (.tup xs)) { s with heap:=h',toks:=t' }:=by
  have nT:=I.hok.fresh hT
  have neT:∀ b o,s.heap.get? b=some o→b≠T:=fun b o e=>Nat.ne_of_lt (Nat.lt_of_lt_of_le (Heap.lt_size e) hT)
  have nit:∀ b u,H b=some u→b∉ch:=fun b u e z=>by rw [(hf b z).1] at e;cases e
  refine I.step (g':=s.gens) (d':=s.drawn) (ch:=ch) (fun b hb=>⟨(hf b hb).2.2.2.1,(hf b hb).2.1,(hf b hb).2.2.2.2.1,(hf b hb).2.2.2.2.2⟩) (fun b o _ _ hc e _=>k b o hc e) (fun b o _ _ hc e _=>⟨o.slots,k b o hc e⟩) (fun b o _ e n=>by rw [az (neT b o e)];exact n)
    (fun b o hc e=>⟨o,k b o hc e⟩) (fun b ys e=>by rw [az (aJ e nT)];exact e) (fun b o u e=>by rw [az (aJ e nT)];exact e) (fun b ps e=>⟨#[],by rw [az (aJ e nT),e];simp⟩) (fun m hm=>?_) (fun b u e=>?_) I.bare
  · obtain ⟨o,es,ep,ho,r⟩:=hm
    exact ⟨o,es,ep,k _ o (fun z=>(hf _ z).2.1 rfl) ho,r⟩
  · by_cases hb:b=T
    · subst hb;rw [aB] at e;cases e;exact new
    · rw [az hb] at e
      exact (I.hok b u e).stay (fun c v hc q=>k c v (hc.elim (fun z=>z▸nit b u e) fun z=>nit c _ z) q) (fun c q=>by rw [az (aJ q nT)];exact q) fun c ys q=>by rw [az (aJ q nT)];exact q
def SqK (k:Bool) (K:PySem.W.Frag) (H:Hp) (a:Addr) (xs:List V):Prop:=match k with | true=>SqL K H a xs | false=>SqT K H a xs
theorem SqK.get {k:Bool} {a:Addr} {xs:List V} (I:Inv X pins σ H s) (q:SqK k X.K H a xs):∃ its:List Value,Vals xs its∧ZSr k s.heap a its.toArray:=by
  cases k with
  | true=>obtain ⟨its,r,p,_⟩:=I.list q;exact ⟨its,r,p.isList⟩
  | false=>obtain ⟨its,r,p,_⟩:=I.tuple q;exact ⟨its,r,p⟩
theorem SqK.inj {k:Bool} {a:Addr} {xs ys:List V} (I:Inv X pins σ H s) (q:SqK k X.K H a xs) (q':SqK k X.K H a ys):xs=ys:=by
  cases k with
  | true=>exact I.jE q q'
  | false=>exact I.iR q q'
theorem GG {a b:Addr} {o:Obj} (I:Inv X pins σ H s) (hk:X.K.lookup a=some o) (f:iO X pins H b):a≠b:=fun e=>by
  subst e
  have hb:=I.ok.mod.kin a o hk
  rcases f.2.2.2.1 with z | z
  · exact I.ok.noex a o hb z
  · exact absurd (Nat.lt_of_lt_of_le (Heap.lt_size hb) (Nat.le_trans I.ok.bsz z)) (Nat.lt_irrefl _)
theorem SqK.ne {k:Bool} {a b:Addr} {xs:List V} (I:Inv X pins σ H s) (q:SqK k X.K H a xs) (f:iO X pins H b):a≠b:=by
  have nn:∀ {u:HO},H a=some u→a≠b:=fun h z=>by rw [z,f.1] at h;cases h
  cases k with
  | true=>
    rcases q with (h | ⟨o,h⟩) | ⟨o,_,_,hk,_⟩
    · exact nn h
    · exact nn h
    · exact GG I hk f
  | false=>
    rcases q with (h | ⟨o,h⟩) | ⟨o,_,_,hk,_⟩
    · exact nn h
    · exact nn h
    · exact GG I hk f
end
def Itz (K:PySem.W.Frag) (k1:Bool) (a:Addr) (k2:Bool) (b:Addr):It:=
  ⟨fun i H=>∃ xs ys x y,SqK k1 K H a xs∧SqK k2 K H b ys∧xs[i]?=some x∧ys[i]?=some y,
   fun i H v H'=>∃ T,H T=none∧v = .ref T∧∀ xs ys x y,SqK k1 K H a xs→SqK k2 K H b ys→xs[i]?=some x→ys[i]?=some y→H'=upd H T (.tup [x,y]),
   fun i H=>∃ xs ys,SqK k1 K H a xs∧SqK k2 K H b ys∧(xs.length≤i∨ys.length≤i)⟩
theorem Au {P:Program} {w:World} {K:PySem.W.Frag} {es:List Expr} {x1:Nat} {tp:Pos} (k1 k2:Bool) {z T O i j a b:Addr} (D:ZAp z T O i j):Turn P w K (.Tuple es x1 tp) (Itz K k1 a k2 b) [z,T,O,i,j] z (fun n h=>ZAt k1 k2 h z T O i j a b .none n) where
  mem:=by simp
  obj:=fun n h Z c hc=>by
    obtain ⟨o1,v1,g1,e1,_⟩:=Z.i.ob
    obtain ⟨o2,v2,g2,e2,_⟩:=Z.j.ob
    obtain ⟨x,y,g3⟩:=Z.o
    simp only [List.mem_cons,List.not_mem_nil,or_false] at hc
    rcases hc with rfl | rfl | rfl | rfl | rfl
    · exact ⟨_,Z.z,fun v r=>by cases r⟩
    · exact ⟨_,Z.t,fun v r=>by cases r⟩
    · exact ⟨_,g3,fun v r=>by cases r⟩
    · exact ⟨_,g1,fun v r=>by rw [e1] at r;cases r⟩
    · exact ⟨_,g2,fun v r=>by rw [e2] at r;cases r⟩
  keep:=fun n h h' Z kk=>⟨kk z (by simp) _ Z.z,kk T (by simp) _ Z.t,Z.o.elim fun x r=>r.elim fun y r=>⟨x,y,kk O (by simp) _ r⟩,Z.i.keep fun o e=>kk i (by simp) o e,Z.j.keep fun o e=>kk j (by simp) o e⟩
  item:=by
    intro X hP hw hK hc n pins s σ H E I hf Z hg
    subst hP hw hK
    obtain ⟨xs,ys,x,y,q1,q2,e1,e2⟩:=hg
    obtain ⟨its,rv,sr⟩:=q1.get I
    obtain ⟨jts,rw',sr'⟩:=q2.get I
    obtain ⟨u,hu,ru⟩:=rv.get e1
    obtain ⟨v,hv,rv2⟩:=rw'.get e2
    have f4:∀ c∈[z,O,i,j],iO X pins H c:=fun c hc=>hf c (by simp only [List.mem_cons,List.not_mem_nil,or_false] at hc ⊢;rcases hc with h | h | h | h <;> simp [h])
    refine An D Z (fun h' kk=>sr.keep kk) (fun hc=>q1.ne I (f4 a hc) rfl) (fun h' kk=>sr'.keep kk) (fun hc=>q2.ne I (f4 b hc) rfl) (by simpa using hu) (by simpa using hv) fun h' Z' p' kk=>?_
    have sz:s.heap.objs.size≤s.heap.objs.size:=Nat.le_refl _
    have I1:Inv X pins σ (upd H s.heap.objs.size (.tup [x,y])) { s with heap:=h' }:=turnT (t':=s.toks) I f4 kk sz ⟨by show 2≤sizeLine;decide,[u,v],.cons ru (.cons rv2 .nil),⟨_,p',rfl,_,rfl⟩⟩
    refine ⟨_,rfl,wpAny_letOwnedTupleGo_zip (s:={ s with heap:=h' }) Z'.z fun h2 z2 e3=>?_⟩
    have nz:∀ c∈[z,T,O,i,j],(upd H s.heap.objs.size (.tup [x,y])) c=none:=fun c hc=>by
      obtain ⟨o,ho,_⟩:∃ o,s.heap.get? c=some o∧True:=by
        obtain ⟨o1,v1,g1,_⟩:=Z.i.ob
        obtain ⟨o2,v2,g2,_⟩:=Z.j.ob
        obtain ⟨p1,p2,g3⟩:=Z.o
        have hc':=hc
        simp only [List.mem_cons,List.not_mem_nil,or_false] at hc'
        rcases hc' with rfl | rfl | rfl | rfl | rfl
        · exact ⟨_,Z.z,trivial⟩
        · exact ⟨_,Z.t,trivial⟩
        · exact ⟨_,g3,trivial⟩
        · exact ⟨_,g1,trivial⟩
        · exact ⟨_,g2,trivial⟩
      rw [az (Nat.ne_of_lt (Heap.lt_size ho))]
      exact (hf c hc).1
    obtain ⟨d1,d2,d3,d4,_⟩:=D.ne
    have I2:Inv X pins σ (upd H s.heap.objs.size (.tup [x,y])) { s with heap:=h2 }:=F2 (s:={ s with heap:=h' }) (t':=s.toks) (ch:=[z]) I1 (fun c hc=>by
      obtain rfl:=List.mem_singleton.mp hc
      exact ⟨nz _ (by simp),(hf _ (by simp)).2⟩) fun c o hc e=>e3.extBut _ _ (fun r=>hc (by simp [r])) e
    refine ⟨.ref s.heap.objs.size,_,I2,rfl,⟨_,I.hok.fresh sz,rfl,fun xs' ys' x' y' r1 r2 r3 r4=>?_⟩,⟨z2,e3.extBut _ _ d1 Z'.t,Z'.o.elim fun p1 r=>r.elim fun p2 r=>⟨p1,p2,e3.extBut _ _ d2 r⟩,Z'.i.keep fun o e=>e3.extBut _ _ d3 e,Z'.j.keep fun o e=>e3.extBut _ _ d4 e⟩,nz⟩
    rw [r1.inj I q1] at r3
    rw [r2.inj I q2] at r4
    rw [e1] at r3;rw [e2] at r4;cases r3;cases r4
    rfl
  done:=by
    intro X hP hw hK hc n pins s σ H E I hf Z hg
    subst hP hw hK
    obtain ⟨xs,ys,q1,q2,he⟩:=hg
    obtain ⟨its,rv,sr⟩:=q1.get I
    obtain ⟨jts,rw',sr'⟩:=q2.get I
    have l1:=rv.length
    have l2:=rw'.length
    have f4:∀ c∈[z,O,i,j],iO X pins H c:=fun c hc=>hf c (by simp only [List.mem_cons,List.not_mem_nil,or_false] at hc ⊢;rcases hc with h | h | h | h <;> simp [h])
    refine Dq (I.ok.hd hc) D Z (fun h' kk=>sr.keep kk) (fun hc=>q1.ne I (f4 a hc) rfl) (fun h' kk=>sr'.keep kk) (fun hc=>q2.ne I (f4 b hc) rfl) ?_ fun h' kk=>⟨rfl,F2 (t':=s.toks) I f4 kk⟩
    rcases he with h | h
    · exact .inl (by simp;omega)
    · exact .inr (by simp;omega)
  self:=fun _ _ _ _ _ Z h=>wpAny_pyIter_zip Z.z h
def KA (K:PySem.W.Frag) (k1 k2:Bool) (ta:TA):TI:=fun σ H R=>ta σ H fun vs H1=>∃ a b xs ys,vs=[.ref a,.ref b]∧SqK k1 K H1 a xs∧SqK k2 K H1 b ys∧R (Itz K k1 a k2 b) H1
theorem Ao {X:Cx} {pins:List (Addr×Obj)} {σ : St} {H:Hp} {s:Shared} {k1 k2:Bool} {a b:Addr} {xs ys:List V} {R:It→Hp→Prop} {E:Value→Shared→Prop} {es:List Expr} {x1:Nat} {tp:Pos} (I:Inv X pins σ H s) (q1:SqK k1 X.K H a xs) (q2:SqK k2 X.K H b ys) (q:R (Itz X.K k1 a k2 b) H) :
    wpAny (model X.prog X.w) X.A (call (.type "zip") [.ref a,.ref b]) (fun v s1=>wpAny (model X.prog X.w) X.A (pyIter v) (PIE X pins σ (.Tuple es x1 tp) R) E s1) E s:=by
  obtain ⟨its,rv,sr⟩:=q1.get I
  obtain ⟨jts,rw',sr'⟩:=q2.get I
  have n1:(s.heap.push { cls:=.type (gO k1),data:=.fields #[.ref a,.int 0 0] }).objs.size=s.heap.objs.size+1:=Heap.size_push ..
  have n2:=(Heap.size_push (s.heap.push { cls:=.type (gO k1),data:=.fields #[.ref a,.int 0 0] }) { cls:=.type (gO k2),data:=.fields #[.ref b,.int 0 0] }).trans (congrArg (· + 1) n1)
  have up5:∀ c o,s.heap.get? c=some o→(zHp k1 k2 s.heap a b).get? c=some o:=fun c o e=>by
    unfold zHp
    exact Heap.get?_push_of_some _ (Heap.get?_push_of_some _ (Heap.get?_push_of_some _ (Heap.get?_push_of_some _ (Heap.get?_push_of_some _ e))))
  have Z:ZAt k1 k2 (zHp k1 k2 s.heap a b) (s.heap.objs.size+4) (s.heap.objs.size+2) (s.heap.objs.size+3) s.heap.objs.size (s.heap.objs.size+1) a b .none 0:=by
    unfold zHp
    refine ⟨?_,?_,⟨.none,.none,?_⟩,wB ?_,wB ?_⟩
    · exact Heap.get?_push_at (by simp only [Heap.size_push]) rfl
    · exact Heap.get?_push_of_some _ (Heap.get?_push_of_some _ (Heap.get?_push_at (by simp only [Heap.size_push]) rfl))
    · exact Heap.get?_push_of_some _ (Heap.get?_push_at (by simp only [Heap.size_push]) rfl)
    · exact Heap.get?_push_of_some _ (Heap.get?_push_of_some _ (Heap.get?_push_of_some _ (Heap.get?_push_of_some _ (Heap.get?_push_at rfl rfl))))
    · exact Heap.get?_push_of_some _ (Heap.get?_push_of_some _ (Heap.get?_push_of_some _ (Heap.get?_push_at (by simp only [Heap.size_push]) rfl)))
  have D:ZAp (s.heap.objs.size+4) (s.heap.objs.size+2) (s.heap.objs.size+3) s.heap.objs.size (s.heap.objs.size+1):=⟨by simp⟩
  refine callType_new F.called_zip (by decide) (F.typeCall_zip_2 _ _) (F.newCall_zip_2 _ _) (fun obj=>F.args_object_init_3 obj _ _) F.entry_zip_new (Dp k1 k2 a b its.toArray jts.toArray) ⟨sr,sr',?_⟩
  have I1:Inv X pins σ H { s with heap:=zHp k1 k2 s.heap a b }:=I.kept (t':=s.toks) up5
  refine ⟨⟨_,Z.z,rfl⟩,wpAny_pyIter_zip (s:={ s with heap:=zHp k1 k2 s.heap a b }) Z.z ⟨_,_,_,_,H,rfl,I1,Au k1 k2 D,Z,fun c hc=>?_,q⟩⟩
  have ge:s.heap.objs.size≤c:=by
    simp only [List.mem_cons,List.not_mem_nil,or_false] at hc
    rcases hc with rfl | rfl | rfl | rfl | rfl <;> first | exact Nat.le_add_right _ _ | exact Nat.le_refl _
  exact I.Ft ge (I.hok.fresh ge)
theorem boot_zip:bootBuiltins "zip" = some (.type "zip"):=by decide +kernel
theorem Ho {X:Cx} {es:List Expr} {x1:Nat} {tp p pos:Pos} {e1 e2:Expr} {ta:TA} (k1 k2:Bool) (hg:Gl X "zip") (hm:X.mg "zip" = none) (ha:PA X [e1,e2] ta) (hs:starEach [e1,e2] X.env=[(false,eval e1 X.env),(false,eval e2 X.env)]:=by rfl) (hs2:starEach [e2] X.env=[(false,eval e2 X.env)]:=by rfl) :
    PI X (.Tuple es x1 tp) (.Call (.Name "zip" p) [e1,e2] [] pos) (KA X.K k1 k2 ta):=by
  intro pins s σ H R I h
  refine Call_ (fq I hg hm boot_zip (PyProof.Rows.callWith_type1 (thn (ha pos pins s σ H _ I h) fun us s1 ⟨vs,H1,I1,r1,q1⟩=>?_) (by rw [hs,hs2]) (by rw [hs2];rfl)))
  obtain ⟨a,b,xs,ys,rfl,w1,w2,q⟩:=q1
  obtain ⟨u,v,rfl,ru,rv⟩:=vals2 r1
  cases ru;cases rv
  exact Ao I1 w1 w2 q
def Zp (K:PySem.W.Frag) (k1 k2:Bool) (vs:List V) (H:Hp) (R:It→Hp→Prop):Prop:=∃ a b xs ys,vs=[.ref a,.ref b]∧SqK k1 K H a xs∧SqK k2 K H b ys∧R (Itz K k1 a k2 b) H
theorem KJ {K:PySem.W.Frag} {k1 k2:Bool} {tl:TA} {σ : St} {H:Hp} {R:It→Hp→Prop} (h:tl σ H fun vs H1=>Zp K k1 k2 vs H1 R):KA K k1 k2 tl σ H R:=h
theorem Iw {K:PySem.W.Frag} {k1 k2:Bool} {H:Hp} {R:It→Hp→Prop} {a b:Addr} {xs ys:List V} (h1:SqK k1 K H a xs) (h2:SqK k2 K H b ys) (h:R (Itz K k1 a k2 b) H):Zp K k1 k2 [.ref a,.ref b] H R:=⟨a,b,xs,ys,rfl,h1,h2,h⟩
theorem Ja {K:PySem.W.Frag} {σ : St} {H:Hp} {D:Ends} {g:TG} {tb:TS} {k1 k2:Bool} {a b:Addr} (xs ys:List V) (Pv:Nat→St→Hp→Prop) (h0:Pv 0 σ H) (hl:∀ i σ H,i≤xs.length→i≤ys.length→Pv i σ H→SqK k1 K H a xs∧SqK k2 K H b ys)
    (hs:∀ i x y T σ H,xs[i]?=some x→ys[i]?=some y→Pv i σ H→H T=none→g (.ref T) σ (upd H T (.tup [x,y])) fun σ2 H2=>tb { D with nx:=Pv (i+1),ct:=Pv (i+1),bk:=D.nx } σ2 H2)
    (hd:∀ σ H,Pv (min xs.length ys.length) σ H→D.nx σ H):F1 (Itz K k1 a k2 b) g tb D σ H:=by
  refine ⟨fun i m σ H=>m=min xs.length ys.length - i∧i≤min xs.length ys.length∧Pv i σ H,⟨_,rfl,Nat.zero_le _,h0⟩,?_⟩
  rintro i m σ H ⟨rfl,hi,p⟩
  obtain ⟨q1,q2⟩:=hl i σ H (by omega) (by omega) p
  by_cases hlt:i < min xs.length ys.length
  · have l1:i < xs.length:=by omega
    have l2:i < ys.length:=by omega
    refine .inr ⟨⟨xs,ys,xs[i],ys[i],q1,q2,by simp [l1],by simp [l2]⟩,Pv (i+1),fun σ' H' p'=>⟨min xs.length ys.length - (i+1),by omega,rfl,hlt,p'⟩,fun v H' yl=>?_⟩
    obtain ⟨T,nT,rfl,yl⟩:=yl
    rw [yl xs ys xs[i] ys[i] q1 q2 (by simp [l1]) (by simp [l2])]
    exact hs i xs[i] ys[i] T σ H (by simp [l1]) (by simp [l2]) p nT
  · have e:i=min xs.length ys.length:=by omega
    subst e
    exact .inl ⟨⟨xs,ys,q1,q2,by omega⟩,hd σ H p⟩
end L4
namespace HT2
open PySem PyProof.Rows HT
theorem Bm (A:Around) (s:Shared) (a:Int) (t:Tok) (c:Int) (u:Tok) (prog:Program) (w:World) (E:Value→Shared→Prop) (Q:Value→Shared→Prop) (h:Q (.bool (decide (c < a))) s) :
    wpAny (model prog w) A (richCompare .Gt (.int a t) (.int c u)) Q E s:=
  (PyProof.Rows.gt_int h:wpAny (model prog w) A (compareOp .Gt (.int a t) (.int c u)) Q E s)
section
open PySem.SeqAt
open PySem.AutoSeq1 (wpAny_loadPart')
open PySem.MeetsSeq PySem.MeetsSeq2 PySem.MeetsSeq3
theorem nk (l b:Addr) (xs ys:Array Value) (n m:Nat) (dd ee:Option Addr) (sl tl:Array (Option Value)) (ns ms:List Int) (hi:IntsAre xs.toList ns) (hj:IntsAre ys.toList ms) :
    Meets (Builtin.«tuple.__gt__» ⟨[.ref l,.ref b],[]⟩)
      (fun _ R s=>s.heap.get? l=some { cls:=.type "tuple",dict:=dd,data:=.seq xs n,slots:=sl }∧s.heap.get? b=some { cls:=.type "tuple",dict:=ee,data:=.seq ys m,slots:=tl } ∧
        R (.ok (.ret (.bool (lexLt ms ns)))) s):=
  .of_wp fun prog w A R s h=>by
    obtain ⟨hp,g,d,tk,os⟩:=s;obtain ⟨hl,hb,h⟩:=h
    have f2:=AutoSeq1.sub_tuple_tuple
    have z1:xs.size=ns.length:=by rw [← hi.length];simp
    have z2:ys.size=ms.length:=by rw [← hj.length];simp
    wp_walk using wpAny_loadPart' hl,wpAny_loadPart' hb,wpAny_forIn_list _ (fun rest b s'=>b.1=none∧s'=⟨hp,g,d,tk,os⟩∧∃ (vs ws:List Value) (as bs:List Int),rest=vs.zip ws ∧
      IntsAre vs as∧IntsAre ws bs∧as.length+ys.size=bs.length+xs.size∧R (.ok (.ret (.bool (lexLt bs as)))) ⟨hp,g,d,tk,os⟩) _
    case turn=>
      rintro ⟨y,x⟩ rest b s' ⟨hb',rfl,vs,ws,as,bs,hz,hvi,hwi,hlen,hR⟩
      cases hvi with
      | nil=>rw [List.zip_nil_left] at hz;cases hz
      | cons a t hvi'=>
        cases hwi with
        | nil=>rw [List.zip_nil_right] at hz;cases hz
        | cons c u hwi'=>
          rw [List.zip_cons_cons] at hz
          injection hz with hyx hrest
          injection hyx with hy hx
          subst hy hx
          rw [jf] at hR
          simp only [List.length_cons] at hlen
          obtain ⟨e,he,hiff⟩:=CG A.in1 ⟨hp,g,d,tk,os⟩ a t c u
          refine wpAny_bind (he prog w _ _ ?_)
          cases e with
          | true=>
            rw [if_pos (hiff.mp rfl).symm] at hR
            wp_walk
            exact ⟨rfl,rfl,_,_,_,_,hrest,hvi',hwi',by omega,hR⟩
          | false=>
            rw [if_neg (fun q=>absurd (hiff.mpr q.symm) Bool.false_ne_true)] at hR
            have hri:=Bm A.in1 ⟨hp,g,d,tk,os⟩ a t c u prog w
            wp_walk using hri
            exact ⟨_,rfl,by simpa using hR⟩
    case fin=>
      rintro ⟨b1,b2⟩ s' ⟨hb',rfl,vs,ws,as,bs,hz,hvi,hwi,hlen,hR⟩
      simp only at hb'
      subst hb'
      have hv:lexLt bs as=decide (ys.size < xs.size):=by
        cases hvi with
        | nil=>
          cases hwi with
          | nil=>
            simp only [List.length_nil] at hlen
            rw [nG]
            exact (decide_eq_false (by omega)).symm
          | cons c u hw=>
            simp only [List.length_nil,List.length_cons] at hlen
            rw [mz]
            exact (decide_eq_false (by omega)).symm
        | cons a t hv=>
          cases hwi with
          | nil=>
            simp only [List.length_nil,List.length_cons] at hlen
            rw [mw]
            exact (decide_eq_true (by omega)).symm
          | cons c u hw=>
            rw [List.zip_cons_cons] at hz
            cases hz
      rw [hv] at hR
      wp_walk
      exact ⟨_,rfl,by simpa [Builtin.Tuple.tupleCompareSizes] using hR⟩
    case h=>
      exact ⟨rfl,rfl,xs.toList,ys.toList,ns,ms,rfl,hi,hj,by omega,h⟩
end
section
variable {prog:Program} {w:World} {A:Around} {E:Value→Shared→Prop} {s:Shared}
theorem gy {l b:Addr} {xs ys:Array Value} {ns ms:List Int} {Q:Value→Shared→Prop} (hl:IsTup s.heap l xs) (hb:IsTup s.heap b ys) (hi:IntsAre xs.toList ns) (hj:IntsAre ys.toList ms)
    (hu:A.units < cLine) (h:Q (.bool (lexLt ms ns)) s):wpAny (model prog w) A (richCompare .Gt (.ref l) (.ref b)) Q E s:=by
  obtain ⟨⟨cls,dd,data,sl⟩,ho,hc,n,hd⟩:=id hl
  obtain ⟨⟨cls2,ee,data2,tl⟩,ho2,hc2,m,hd2⟩:=id hb
  simp only at hc hd hc2 hd2
  subst hc hd hc2 hd2
  exact richCompare_meets_room (op:=.Gt) ⟨_,ho,rfl⟩ ⟨_,ho2,rfl⟩ PySem.F.slot_tuple_gt PySem.F.entry_tuple_gt (PySem.F.args_tuple_gt_2 _ _) (nk l b xs ys n m dd ee sl tl ns ms hi hj)
    ⟨ho,ho2,show Value.bool (lexLt ms ns)≠Value.notImplemented∧Q (.bool (lexLt ms ns)) s from ⟨(fun x=>nomatch x),h⟩⟩ hu
end
end HT2
namespace L4
open PySem PySem.Spec PyProof.Rows L2 L3
def Kp (h0 h:Heap):Prop:=∀ b o,h0.get? b=some o→h.get? b=some o
def De (prog:Program) (w:World) (A:Around) (op:CmpOp) (P:Nat→Value→Prop) (bt:Nat→Nat→Bool) (h0:Heap):Prop:=
  ∀ i j vi vj (s:Shared) (Q E:Value→Shared→Prop),P i vi→P j vj→Kp h0 s.heap→Q (.bool (bt i j)) s→wpAny (model prog w) A (richCompare op vi vj) Q E s
section
variable {prog:Program} {w:World} {A:Around} {R:Result→Shared→Prop} {I S:Addr} {fp wr:List Addr} {n:Nat} {P:Nat→Value→Prop} {St:Nat→Heap→Prop} {bt:Nat→Nat→Bool} {h0:Heap} {kw:List (Str×Value)}
theorem HV (W:Walks prog w A.in1 I fp wr n P St) (hc:De prog w A.in1 .Gt P bt h0) (nS:S∉fp) (nw:∀ b∈wr,h0.get? b=none) (n0:h0.get? S=none) :
    ∀ (k j:Nat) (s:Shared) (vb:Value) (c:Nat),n - (j+1)=k→j+1≤n→St (j+1) s.heap→P (argBest bt j) vb→Kp h0 s.heap →
    s.heap.get? S=some { cls:=.type "list",dict:=none,data:=.seq #[vb,vb] c,slots:=#[] } →
    (∀ v h' tk,P (argBest bt (n - 1)) v→Kp h0 h'→R (.ok (.ret v)) { s with heap:=h',toks:=tk })→codeAny (model prog w) A (.builtin "max.loop" ⟨[.ref I,.none,.ref S],kw⟩) R s:=by
  have nSw:S∉wr:=fun h=>nS (W.sub _ h)
  have nm:(toString "max" ++ toString ".loop" : String) = "max.loop" := by decide
  intro k
  induction k with
  | zero=>
    intro j s vb c hk hj st hP kp hS hR
    have en:j+1=n:=by omega
    refine codeAny_builtin PySem.F.entry_max_loop ?_
    rw [Around.under_plainId PySem.F.plain_max_loop _]
    show wpAny _ A.in1 (seqItems? (.ref S) >>= _) _ _ s;refine wpAny_bind (wpAny_seqItems hS rfl ?_)
    show wpAny _ A.in1 (tryCatch (pyNext (.ref I)) _ >>= _) _ _ s;refine wpAny_bind (wpAny_tryCatch (W.done s _ _ (en▸st) fun h1 tk k1=>?_))
    have hS1:=k1 S _ nSw hS
    show wpAny _ A.in1 (updateSeq S (fun _=>#[]) >>= _) _ _ _;refine wpAny_bind ?_
    refine wpAny_updateSeq hS1 rfl (wpAny_bind (wpAny_letGo (wpAny_pure ?_)))
    refine hR vb _ tk (by rw [← en];exact hP) fun b o e=>(Heap.get?_update_other _ _ (fun z:S=b=>by rw [← z,n0] at e;cases e)).trans (k1 b o (fun z=>by rw [nw b z] at e;cases e) (kp b o e))
  | succ k ih=>
    intro j s vb c hk hj st hP kp hS hR
    have lt:j+1 < n:=by omega
    refine codeAny_builtin PySem.F.entry_max_loop ?_
    rw [Around.under_plainId PySem.F.plain_max_loop _]
    show wpAny _ A.in1 (seqItems? (.ref S) >>= _) _ _ s;refine wpAny_bind (wpAny_seqItems hS rfl ?_)
    show wpAny _ A.in1 (tryCatch (pyNext (.ref I)) _ >>= _) _ _ s;refine wpAny_bind (wpAny_tryCatch (W.item (j+1) s _ _ lt st fun v h1 tk p1 st1 k1=>?_))
    have hS1:=k1 S _ nSw hS
    have kp1:Kp h0 h1:=fun b o e=>k1 b o (fun z=>by rw [nw b z] at e;cases e) (kp b o e)
    show wpAny _ A.in1 (tryCatch (holding [v,v] (richCompare .Gt v vb >>= _)) _ >>= _) _ _ _
    refine wpAny_bind (wpAny_tryCatch (wpAny_holding (wpAny_bind (hc (j+1) (argBest bt j) v vb _ _ _ p1 hP kp1 ?_))))
    refine wpAny_bind (wpAny_holding (wpAny_truthy_bool ?_));refine wpAny_bind (wpAny_letGo (wpAny_pure ?_))
    cases hb:bt (j+1) (argBest bt j) with
    | true=>
      simp only [if_true];refine wpAny_bind ?_
      refine wpAny_updateSeq hS1 rfl (wpAny_bind (wpAny_letGo ?_));rw [nm]
      refine wpAny_pure ⟨plainId_quiet PySem.F.plain_max_loop _,ih (j+1) _ v _ (by omega) lt (W.frame _ _ _ st1 fun b hf o e=>?_) (by simp only [argBest,hb,if_true];exact p1) (fun b o e=>?_) (Heap.get?_update_self _ hS1 rfl) fun v2 h2 tk2 p2 k2=>hR v2 h2 tk2 p2 k2⟩
      · exact (Heap.get?_update_other _ _ (fun h:S=b=>nS (by rw [h];exact hf))).trans e
      · exact (Heap.get?_update_other _ _ (fun z:S=b=>by rw [← z,n0] at e;cases e)).trans (kp1 b o e)
    | false=>
      simp only [Bool.false_eq_true,if_false];refine wpAny_bind (wpAny_letGo ?_);rw [nm]
      exact wpAny_pure ⟨plainId_quiet PySem.F.plain_max_loop _,ih (j+1) _ vb c (by omega) lt st1 (by simp only [argBest,hb,Bool.false_eq_true,if_false];exact hP) kp1 hS1 fun v2 h2 tk2 p2 k2=>hR v2 h2 tk2 p2 k2⟩
theorem pX (W:Walks prog w A.in1 I fp wr n P St) (hc:De prog w A.in1 .Gt P bt h0) (nS:S∉fp) (nw:∀ b∈wr,h0.get? b=none) (n0:h0.get? S=none) (hn : 0 < n) {s:Shared} {c:Nat} (st:St 0 s.heap) (kp:Kp h0 s.heap)
    (hS:s.heap.get? S=some { cls:=.type "list",dict:=none,data:=.seq #[] c,slots:=#[] })
    (hR:∀ v h' tk,P (argBest bt (n - 1)) v→Kp h0 h'→R (.ok (.ret v)) { s with heap:=h',toks:=tk }):codeAny (model prog w) A (.builtin "max.loop" ⟨[.ref I,.none,.ref S],kw⟩) R s:=by
  have nSw:S∉wr:=fun h=>nS (W.sub _ h)
  have nm:(toString "max" ++ toString ".loop" : String) = "max.loop" := by decide
  refine codeAny_builtin PySem.F.entry_max_loop ?_
  rw [Around.under_plainId PySem.F.plain_max_loop _]
  show wpAny _ A.in1 (seqItems? (.ref S) >>= _) _ _ s;refine wpAny_bind (wpAny_seqItems hS rfl ?_)
  show wpAny _ A.in1 (tryCatch (pyNext (.ref I)) _ >>= _) _ _ s;refine wpAny_bind (wpAny_tryCatch (W.item 0 s _ _ hn st fun v h1 tk p1 st1 k1=>?_))
  have hS1:=k1 S _ nSw hS
  have kp1:Kp h0 h1:=fun b o e=>k1 b o (fun z=>by rw [nw b z] at e;cases e) (kp b o e)
  show wpAny _ A.in1 (updateSeq S (fun _=>#[v,v]) >>= _) _ _ _;refine wpAny_bind ?_
  refine wpAny_updateSeq hS1 rfl ?_;rw [nm]
  refine wpAny_pure ⟨plainId_quiet PySem.F.plain_max_loop _,HV W hc nS nw n0 _ 0 _ v _ rfl hn (W.frame _ _ _ st1 fun b hf o e=>?_) p1 (fun b o e=>?_) (Heap.get?_update_self _ hS1 rfl) fun v2 h2 tk2 p2 k2=>hR v2 h2 tk2 p2 k2⟩
  · exact (Heap.get?_update_other _ _ (fun h:S=b=>nS (by rw [h];exact hf))).trans e
  · exact (Heap.get?_update_other _ _ (fun z:S=b=>by rw [← z,n0] at e;cases e)).trans (kp1 b o e)
end
section
variable {prog:Program} {w:World} {A:Around} {E:Value→Shared→Prop} {s:Shared}
theorem args_max3 (a b c:Value):argsOk "max" ⟨[a,b,c],[]⟩:=by unfold argsOk;kernel_rfl
theorem l9 {vs:List Value} {bt:Nat→Nat→Bool} {Q:Value→Shared→Prop} (hh:A.handled=none) (hv : 0 < vs.length) (hc:De prog w A.in1 .Gt (fun i v=>vs.toArray[i]?=some v) bt s.heap)
    (hQ:∀ v h' tk,vs.toArray[argBest bt (vs.length - 1)]?=some v→Kp s.heap h'→Q v { s with heap:=h',toks:=tk }) :
    wpAny (model prog w) A.in1 (do let it ← pyIter (.ref s.heap.objs.size);again (.builtin "max.loop" ⟨[it,.none,← newList []],[]⟩)) (fun fin s'=>match fin with
      | .done f=>(match (Except.ok f:Result) with | .ok (.ret v)=>Q v s' | .ok _=>False | .error e=>E e s')
      | .again c'=>c'.quiet=true∧codeAny (model prog w) A c' (fun r s'=>match r with | .ok (.ret v)=>Q v s' | .ok _=>False | .error e=>E e s') s') E { s with heap:=s.heap.push { cls:=.type "tuple",data:=.seq vs.toArray } }:=by
  have ht:(s.heap.push { cls:=.type "tuple",data:=.seq vs.toArray }).IsTuple s.heap.objs.size vs.toArray:=⟨_,Heap.get?_push_size _ rfl,rfl,0,rfl⟩
  have z1:(s.heap.push { cls:=.type "tuple",data:=.seq vs.toArray }).objs.size=s.heap.objs.size+1:=Heap.size_push ..
  refine wpAny_bind (wpAny_pyIter_tuple ht ?_)
  refine wpAny_bind (wpAny_newObj_type ?_)
  have gone:∀ b,s.heap.objs.size≤b→s.heap.get? b=none:=fun b hb=>by
    cases q:s.heap.get? b with
    | none=>rfl
    | some o=>exact absurd (Heap.lt_size q) (Nat.not_lt.mpr hb)
  have W:=Walks.tuple (prog:=prog) (w:=w) (A:=A.in1) hh (s.heap.push { cls:=.type "tuple",data:=.seq vs.toArray }).objs.size s.heap.objs.size (by rw [z1];exact Nat.ne_of_lt (Nat.lt_succ_self _)) vs.toArray
  have z2:((s.heap.push { cls:=.type "tuple",data:=.seq vs.toArray }).push { cls:=.type "tuple_iterator",data:=.fields #[.ref s.heap.objs.size,.int 0 0] }).objs.size=s.heap.objs.size+2:=by rw [Heap.size_push,z1]
  refine wpAny_pure ⟨plainId_quiet PySem.F.plain_max_loop _,pX W hc (h0:=s.heap) ?_ ?_ (gone _ (by rw [z2];omega)) (by simpa using hv) (W.frame 0 _ _ ⟨⟨_,Heap.get?_push_size _ rfl,rfl,rfl⟩,ht.push _⟩ fun b _ o e=>Heap.get?_push_of_some _ e)
    (fun b o e=>Heap.get?_push_of_some _ (Heap.get?_push_of_some _ (Heap.get?_push_of_some _ e))) (Heap.get?_push_size _ rfl) fun v h' tk p k=>?_⟩
  · intro hm
    rw [z2,z1] at hm
    simp at hm
  · intro b hb
    simp at hb
    rw [hb]
    exact gone _ (by first | omega | (rw [z1];omega))
  · exact hQ v h' tk (by simpa using p) k
theorem vH {a b:Value} {bt:Nat→Nat→Bool} {Q:Value→Shared→Prop} (hh:A.handled=none) (hc:De prog w A.in1 .Gt (fun i v=>#[a,b][i]?=some v) bt s.heap)
    (hQ:∀ v h' tk,#[a,b][argBest bt 1]?=some v→Kp s.heap h'→Q v { s with heap:=h',toks:=tk }):wpAny (model prog w) A (call (.builtin "max") [a,b]) Q E s:=by
  have nm:(toString "max" ++ toString ".loop" : String) = "max.loop" := by decide
  refine call_function_tree PySem.F.kind_max PySem.F.plain_max PySem.F.entry_max (PySem.F.args_max2 _ _) ?_
  show wpAny _ A.in1 (Builtin.Builtins.bindParams "max" ["key", "default"] 0 ⟨[],[]⟩ >>= _) _ _ s
  refine wpAny_bind (wpAny_of_eq (show Builtin.Builtins.bindParams "max" ["key", "default"] 0 ⟨[],[]⟩=pure [none,none] from rfl) ?_)
  show wpAny _ A.in1 (newTuple [a,b] >>= _) _ _ s
  refine wpAny_bind (wpAny_newObj_type ?_)
  have go:=l9 (prog:=prog) (w:=w) (E:=E) (Q:=Q) (s:=s) (vs:=[a,b]) hh (Nat.zero_lt_succ _) hc hQ
  rw [← nm] at go
  exact go
theorem vG {a b c:Value} {bt:Nat→Nat→Bool} {Q:Value→Shared→Prop} (hh:A.handled=none) (hc:De prog w A.in1 .Gt (fun i v=>#[a,b,c][i]?=some v) bt s.heap)
    (hQ:∀ v h' tk,#[a,b,c][argBest bt 2]?=some v→Kp s.heap h'→Q v { s with heap:=h',toks:=tk }):wpAny (model prog w) A (call (.builtin "max") [a,b,c]) Q E s:=by
  have nm:(toString "max" ++ toString ".loop" : String) = "max.loop" := by decide
  refine call_function_tree PySem.F.kind_max PySem.F.plain_max PySem.F.entry_max (args_max3 _ _ _) ?_
  show wpAny _ A.in1 (Builtin.Builtins.bindParams "max" ["key", "default"] 0 ⟨[],[]⟩ >>= _) _ _ s
  refine wpAny_bind (wpAny_of_eq (show Builtin.Builtins.bindParams "max" ["key", "default"] 0 ⟨[],[]⟩=pure [none,none] from rfl) ?_)
  show wpAny _ A.in1 (newTuple [a,b,c] >>= _) _ _ s
  refine wpAny_bind (wpAny_newObj_type ?_)
  have go:=l9 (prog:=prog) (w:=w) (E:=E) (Q:=Q) (s:=s) (vs:=[a,b,c]) hh (Nat.zero_lt_succ _) hc hQ
  rw [← nm] at go
  exact go
end
def Gj (K:PySem.W.Frag):RL:=fun xs H Q=>∃ a b ns ms,xs=[.ref a,.ref b]∧SqT K H a (ns.map V.int)∧SqT K H b (ms.map V.int)∧Q (.ref (if HT.lexLt ns ms=true then b else a)) H
def Gk:RL:=fun xs H Q=>∃ i j k,xs=[.int i,.int j,.int k]∧Q (.int (max (max i j) k)) H
def Gn:RL:=fun xs H Q=>∃ k:Bool,xs=[.bl k]∧Q (.int (if k then 1 else 0)) H
section
variable {X:Cx}
theorem Jv:cK X (.type "int") Gn:=by
  intro pins s σ H xs us Q I r h
  obtain ⟨k,rfl,q⟩:=h
  exact zS pins s σ H _ us Q I r (.inr ⟨k,rfl,q⟩)
theorem vK (hc:X.calm=true):cK X (.builtin "max") Gk:=by
  intro pins s σ H xs us Q I r h
  obtain ⟨i,j,k,rfl,q⟩:=h
  obtain ⟨a,b,c,rfl,ra,rb,rc⟩:∃ a b c,us=[a,b,c]∧RelV (.int i) a∧RelV (.int j) b∧RelV (.int k) c:=by
    cases r with
    | cons ra r=>cases r with
      | cons rb r=>cases r with
        | cons rc r=>cases r with
          | nil=>exact ⟨_,_,_,rfl,ra,rb,rc⟩
  obtain ⟨t1,rfl⟩:=ra
  obtain ⟨t2,rfl⟩:=rb
  obtain ⟨t3,rfl⟩:=rc
  refine vG (bt:=fun x y=>decide ([i,j,k].getD x 0 > [i,j,k].getD y 0)) (I.ok.hd hc) (fun x y vx vy s' Q' E' px py _ q'=>?_) (fun v h' tk pv kp=>?_)
  · exact CmpOf.ints_gt (P:=fun i' v=>#[Value.int i t1,.int j t2,.int k t3][i']?=some v) (fun x=>[i,j,k].getD x 0) (fun x v e=>by
      match x,e with
      | 0,e=>simp at e;exact ⟨t1,e.symm⟩
      | 1,e=>simp at e;exact ⟨t2,e.symm⟩
      | 2,e=>simp at e;exact ⟨t3,e.symm⟩
      | x+3,e=>simp at e) x y vx vy s' Q' E' px py q'
  · have e:∃ t,v=Value.int (max (max i j) k) t:=by
      have b1:argBest (fun x y=>decide ([i,j,k].getD x 0 > [i,j,k].getD y 0)) 1=if j > i then 1 else 0:=by
        show (if decide (j > i)=true then 1 else 0)=_
        simp
      have b2:argBest (fun x y=>decide ([i,j,k].getD x 0 > [i,j,k].getD y 0)) 2=if decide (k > [i,j,k].getD (if j > i then 1 else 0) 0)=true then 2 else (if j > i then 1 else 0):=by
        rw [argBest,b1];rfl
      rw [b2] at pv
      by_cases h1:j > i
      · simp only [if_pos h1] at pv
        by_cases h2:k > j
        · rw [if_pos (show decide (k > [i,j,k].getD 1 0)=true from decide_eq_true h2)] at pv
          cases pv;exact ⟨t3,by rw [show max (max i j) k=k by omega] <;> rfl⟩
        · rw [if_neg (show ¬ decide (k > [i,j,k].getD 1 0)=true from by simpa using h2)] at pv
          cases pv;exact ⟨t2,by rw [show max (max i j) k=j by omega] <;> rfl⟩
      · simp only [if_neg h1] at pv
        by_cases h2:k > i
        · rw [if_pos (show decide (k > [i,j,k].getD 0 0)=true from decide_eq_true h2)] at pv
          cases pv;exact ⟨t3,by rw [show max (max i j) k=k by omega] <;> rfl⟩
        · rw [if_neg (show ¬ decide (k > [i,j,k].getD 0 0)=true from by simpa using h2)] at pv
          cases pv;exact ⟨t1,by rw [show max (max i j) k=i by omega] <;> rfl⟩
    obtain ⟨t,rfl⟩:=e
    exact ⟨.int _,H,I.kept (t':=tk) kp,⟨t,rfl⟩,q⟩
theorem Jt (hc:X.calm=true) (hu:X.A.units+1 < cLine):cK X (.builtin "max") (Gj X.K):=by
  intro pins s σ H xs us Q I r h
  obtain ⟨a,b,ns,ms,rfl,ha,hb,q⟩:=h
  obtain ⟨u,v,rfl,ru,rv⟩:∃ u v,us=[u,v]∧RelV (.ref a) u∧RelV (.ref b) v:=by
    cases r with
    | cons ra r=>cases r with
      | cons rb r=>cases r with
        | nil=>exact ⟨_,_,rfl,ra,rb⟩
  cases ru;cases rv
  obtain ⟨its,r1,p1,_⟩:=I.tuple ha
  obtain ⟨its2,r2,p2,_⟩:=I.tuple hb
  have i1:IntsAre its.toArray.toList ns:=intsAre_of r1
  have i2:IntsAre its2.toArray.toList ms:=intsAre_of r2
  refine vH (bt:=fun x y=>if x=0 then (if y=0 then HT.lexLt ns ns else HT.lexLt ms ns) else (if y=0 then HT.lexLt ns ms else HT.lexLt ms ms)) (I.ok.hd hc) (fun x y vx vy s' Q' E' px py kp q'=>?_) (fun v h' tk pv kp=>?_)
  · have t1:IsTup s'.heap a its.toArray:=by obtain ⟨ob,e,c⟩:=p1;exact ⟨ob,kp _ _ e,c⟩
    have t2:IsTup s'.heap b its2.toArray:=by obtain ⟨ob,e,c⟩:=p2;exact ⟨ob,kp _ _ e,c⟩
    match x,y,px,py with
    | 0,0,px,py=>simp at px py;subst px py;exact HT2.gy t1 t1 i1 i1 hu (by simpa using q')
    | 0,1,px,py=>simp at px py;subst px py;exact HT2.gy t1 t2 i1 i2 hu (by simpa using q')
    | 1,0,px,py=>simp at px py;subst px py;exact HT2.gy t2 t1 i2 i1 hu (by simpa using q')
    | 1,1,px,py=>simp at px py;subst px py;exact HT2.gy t2 t2 i2 i2 hu (by simpa using q')
    | x+2,_,px,_=>simp at px
    | _,y+2,_,py=>simp at py
  · have e:v=Value.ref (if HT.lexLt ns ms=true then b else a):=by
      simp only [argBest] at pv
      cases hl:HT.lexLt ns ms with
      | true=>rw [hl] at pv;simp at pv;rw [if_pos rfl];exact pv.symm
      | false=>rw [hl] at pv;simp at pv;rw [if_neg Bool.false_ne_true];exact pv.symm
    subst e
    exact ⟨.ref _,H,I.kept (t':=tk) kp,rfl,q⟩
end
section
variable {H:Hp} {Q:VK}
theorem IU {a b c:Int} (h:Q (.int (max (max a b) c)) H):Gk [V.int a,V.int b,V.int c] H Q:=⟨a,b,c,rfl,h⟩
theorem K1 {i j:Bool} (h:Q (.bl (!decide (i=j))) H):rNe (.bl i) (.bl j) H Q:=⟨rfl,by
  have e:decide (V.bl i=V.bl j)=decide (i=j):=by
    by_cases z:i=j
    · subst z;simp
    · rw [decide_eq_false z,decide_eq_false fun w=>z (V.bl.inj w)]
  rw [e];exact h⟩
theorem IY {k:Bool} (h:Q (.int (if k then 1 else 0)) H):Gn [.bl k] H Q:=⟨k,rfl,h⟩
theorem Fe {K:PySem.W.Frag} {a b:Addr} {m c m' c':Int} (ha:H a=some (.tup [.int m,.int c])) (hb:H b=some (.tup [.int m',.int c'])) (h:Q (.ref (if HT.lexLt [m,c] [m',c']=true then b else a)) H):Gj K [.ref a,.ref b] H Q:=
  ⟨a,b,[m,c],[m',c'],rfl,SqT.of ha,SqT.of hb,h⟩
end
section
variable {K:PySem.W.Frag} {P:Addr→Prop} {H0 H H':Hp} {l l' l2:List (Addr×Ob)} {fs:List Pr} {p r:Addr} {Q:VK} {xs ys:List V} {lo hi:Option Int}
theorem Gy (L:Led P H0 H l fs) (m:aH p xs∈fs) (hw:¬ (HT.sIx xs.length 0 lo=0∧HT.sIx xs.length xs.length hi=xs.length)) (h:∀ b H',H b=none→Led P H0 H' l (aH b (vD xs lo hi)::fs)→aF H H'→Q (.ref b) H'):Bq K (.ref p) lo hi H Q:=
  ⟨p,xs,rfl,SqT.of (L.tup m),hw,fun b nb=>h b _ nb (L.EI nb) (ck nb)⟩
theorem mH (L:Led P H0 H l fs) (s:SqL K H p xs∨SqT K H p xs) (h:∀ b H',H b=none→Led P H0 H' ((b,Eo (.lst xs))::l) fs→aF H H'→Q (.ref b) H'):wZ K [.ref p] H Q:=
  ⟨p,xs,rfl,s,fun b nb=>h b _ nb (L.EJ nb rfl) (ck nb)⟩
end
end L4
namespace L4
open PySem PySem.Spec PyProof.Rows
def ExcAt (h:Heap) (x:Addr) (C:Value) (dx T:Option Addr) (fl:Value):Prop:=
  ∃ oe vs,h.get? x=some oe∧oe.cls=C∧oe.dict=dx∧oe.data = .fields vs∧vs[1]?=some (T.elim .none .ref)∧∀ t,T=some t→t≠x∧∃ oT ts,h.get? t=some oT∧oT.data = .fields ts∧ts[3]?=some fl
def Jl (l:List Env):List Addr:=l.filterMap (·.frame)
structure But (x:Addr) (T:Option Addr) (fs:List Addr) (h h':Heap):Prop where
  keep:∀ b o,h.get? b=some o→b≠x→some b≠T→b∉fs→h'.get? b=some o
  slot:∀ b o,h.get? b=some o→b≠x→some b≠T→∃ sl,h'.get? b=some { o with slots:=sl }
  there:∀ b o,h.get? b=some o→∃ o',h'.get? b=some o'
theorem But.refl {x:Addr} {T:Option Addr} {fs:List Addr} {h:Heap}:But x T fs h h:=⟨fun _ _ e _ _ _=>e,fun _ o e _ _=>⟨o.slots,e⟩,fun _ o e=>⟨o,e⟩⟩
section
variable {M:Model} {A:Around} {E:Value→Shared→Prop} {s:Shared} {base:Heap} {env:Env} {outer:List Env} {L x t:Addr} {C fl:Value} {dx T:Option Addr} {Q:Unit→Shared→Prop}
theorem gi {fr:Option Addr} (he:ExcAt s.heap x C dx (some t) fl) (h:∀ h',ExcAt h' x C dx (some t) (fr.elim .none fun f=>rawInt f)→But x (some t) [] s.heap h'→Q () { s with heap:=h' }):wpAny M A (setFlight (.ref x) fr) Q E s:=by
  obtain ⟨oe,vs,e1,e2,e3,e4,e5,e6⟩:=he
  obtain ⟨ne,oT,ts,f1,f2,f3⟩:=e6 t rfl
  have hz : 3 < ts.size:=(Array.getElem?_eq_some_iff.mp f3).1
  have oth:∀ b,b≠t→(s.heap.update t (Obj.mapFields (·.setIfInBounds 3 (fr.elim .none fun f=>rawInt f)))).get? b=s.heap.get? b:=fun b hb=>Heap.get?_update_other _ _ (Ne.symm hb)
  have d3:=Obj.data_mapFields f2 (·.setIfInBounds 3 (fr.elim .none fun f=>rawInt f))
  have self:=Heap.get?_update_self (Obj.mapFields (·.setIfInBounds 3 (fr.elim .none fun f=>rawInt f))) f1 (Obj.isFreed_of_fields d3)
  unfold setFlight
  refine wpAny_bind (wpAny_field e1 e4 e5 ?_)
  rw [if_pos (show (((some t).elim Value.none Value.ref) != Value.none)=true from by simp)]
  refine wpAny_setField f1 f2 hz (h _ ⟨oe,vs,(oth x (Ne.symm ne)).trans e1,e2,e3,e4,e5,fun t' ht=>?_⟩ ⟨fun b o q _ n _=>?_,fun b o q _ n=>?_,fun b o q=>?_⟩)
  · cases ht
    exact ⟨ne,_,_,self,d3,by simp [hz]⟩
  · exact (oth b fun z=>n (by rw [z])).trans q
  · exact ⟨o.slots,(oth b fun z=>n (by rw [z])).trans q⟩
  · by_cases z:b=t
    · exact ⟨_,by rw [z];exact self⟩
    · exact ⟨o,(oth b z).trans q⟩
theorem om {head:Value} {hadNext:Bool} {oe:Obj} {vs:Array Value} (hfr:A.frames=some (env::outer)) (hl:s.heap.FunFrames base (env::outer)) (hf:env.frame=some L)
    (e1:s.heap.get? x=some oe) (e4:oe.data = .fields vs) (hz : 1 < vs.size)
    (h:∀ h' t',ExcAt h' x oe.cls oe.dict (some t') (rawInt L)→But x none (Jl (env::outer)) s.heap h'→s.heap.objs.size≤t'→Q () { s with heap:=h' }) :
    wpAny M A (do let a ← frameOf env;let pl ← entryPlaceOf L hadNext;let b ← EntryCells.newEntry head a .none (rawInt L) .none pl;setField (.ref x) 1 b) Q E s:=by
  have nfr:x∉(env::outer).filterMap (·.frame):=fun hm=>by
    obtain ⟨_,o,ho,hn⟩:=hl.mem hm
    rw [e1] at ho;cases ho;exact hn vs e4
  refine wpAny_bind (wpAny_frameOf_fun hfr hl hf fun h1 s1=>?_)
  refine wpAny_bind (wpAny_entryPlaceOf fun pl hpl=>?_)
  unfold EntryCells.newEntry newFields
  refine wpAny_bind (wpAny_newObj_type ?_ (hpl.sizeOk5 _ _ _ _ _))
  have x1:h1.get? x=some oe:=(s1.2.1 x nfr).trans e1
  generalize hnew:({ cls:=.type "traceback",dict:=none,data:=.fields ([head,.ref L,.none,rawInt L,.none]++(if pl.isEmpty then List.replicate 6 Value.none else pl)).toArray }:Obj)=new
  have x2:=Heap.get?_push_of_some (h:=h1) new x1
  have x3:h1.objs.size≠x:=Nat.ne_of_gt (Heap.lt_size x1)
  have d3:=Obj.data_mapFields e4 (·.setIfInBounds 1 (Value.ref h1.objs.size))
  have x4:=Heap.get?_update_self (Obj.mapFields (·.setIfInBounds 1 (Value.ref h1.objs.size))) x2 (Obj.isFreed_of_fields d3)
  have x5:=(Heap.get?_update_other (h1.push new) (Obj.mapFields (·.setIfInBounds 1 (Value.ref h1.objs.size))) (Ne.symm x3)).trans (Heap.get?_push_size h1 (by subst hnew;rfl))
  have up:∀ b o,b≠x→h1.get? b=some o→((h1.push new).update x (Obj.mapFields (·.setIfInBounds 1 (Value.ref h1.objs.size)))).get? b=some o:=fun b o n q=>by
    rw [Heap.get?_update_other _ _ (Ne.symm n)];exact Heap.get?_push_of_some _ q
  refine wpAny_setField x2 e4 hz (h _ h1.objs.size ⟨_,_,x4,Obj.cls_mapFields _ _,?_,d3,by simp [hz],fun t' ht=>?_⟩ ⟨fun b o q n _ nf=>?_,fun b o q n _=>?_,fun b o q=>?_⟩ ?_)
  · cases oe with | mk c d da sl=>cases da <;> rfl
  · cases ht
    refine ⟨x3,new,_,x5,by subst hnew;rfl,?_⟩
    first | (simp;done) | (rcases hpl with rfl | ⟨_,_,_,_,_,_,_,rfl⟩ <;> simp)
  · exact up b o n ((s1.2.1 b nf).trans q)
  · obtain ⟨sl,e⟩:=s1.2.2 b o q
    exact ⟨sl,up b _ n e⟩
  · by_cases z:b=x
    · exact ⟨_,by rw [z];exact x4⟩
    · obtain ⟨sl,e⟩:=s1.2.2 b o q
      exact ⟨_,up b _ z e⟩
  · exact s1.1▸Nat.le_refl _
theorem l7 (hfr:A.frames=some (env::outer)) (hl:s.heap.FunFrames base (env::outer)) (hf:env.frame=some L) (he:ExcAt s.heap x C dx T fl) (hfl:fl = .none∨fl=rawInt L)
    (h:∀ h' t',ExcAt h' x C dx (some t') (rawInt L)→But x T (Jl (env::outer)) s.heap h'→(some t'=T∨s.heap.objs.size≤t')→Q () { s with heap:=h' }):wpAny M A (noteFrame (.ref x) env) Q E s:=by
  obtain ⟨oe,vs,e1,rfl,rfl,e4,e5,e6⟩:=he
  have hz : 1 < vs.size:=(Array.getElem?_eq_some_iff.mp e5).1
  unfold noteFrame
  simp only [hf]
  refine wpAny_bind (wpAny_field e1 e4 e5 ?_)
  cases T with
  | none=>
    rw [if_neg (by decide)]
    exact om hfr hl hf e1 e4 hz fun h' t' a b c=>h h' t' a b (.inr c)
  | some t=>
    obtain ⟨ne,oT,ts,f1,f2,f3⟩:=e6 t rfl
    rw [if_pos (show (((some t).elim Value.none Value.ref) != Value.none)=true from by simp)]
    refine wpAny_bind (wpAny_field f1 f2 f3 ?_)
    by_cases z:fl=rawInt L
    · subst z
      rw [if_pos (by simp)]
      exact wpAny_pure (h _ t ⟨oe,vs,e1,rfl,rfl,e4,e5,fun t' ht=>by cases ht;exact ⟨ne,oT,ts,f1,f2,f3⟩⟩ But.refl (.inl rfl))
    · obtain rfl:fl = .none:=hfl.resolve_right z
      rw [if_neg (show ¬ ((Value.none == rawInt L)=true) from by simp [rawInt])]
      refine wpAny_bind (wpAny_setField f1 f2 (Array.getElem?_eq_some_iff.mp f3).1 ?_)
      have oth:∀ b,b≠t→(s.heap.update t (Obj.mapFields (·.setIfInBounds 3 Value.none))).get? b=s.heap.get? b:=fun b hb=>Heap.get?_update_other _ _ (Ne.symm hb)
      have self:=Heap.get?_update_self (Obj.mapFields (·.setIfInBounds 3 Value.none)) f1 (Obj.isFreed_of_fields (Obj.data_mapFields f2 _))
      refine om (base:=base) (outer:=outer) hfr (hl.of_keeps fun b o q hn=>⟨o,(oth b fun z=>?_).trans q,rfl⟩) hf ((oth x (Ne.symm ne)).trans e1) e4 hz fun h' t' a b c=>h h' t' a ⟨fun b' o q n m nf=>?_,fun b' o q n m=>?_,fun b' o q=>?_⟩ (.inr ?_)
      · subst z;rw [f1] at q;cases q;exact hn ts f2
      · exact b.keep b' o ((oth b' fun z=>m (by rw [z])).trans q) n (by simp) nf
      · exact b.slot b' o ((oth b' fun z=>m (by rw [z])).trans q) n (by simp)
      · by_cases z:b'=t
        · exact b.there b' _ (by rw [z];exact self)
        · exact b.there b' o ((oth b' z).trans q)
      · simpa using c
theorem zy (hfr:A.frames=some (env::outer)) (hl:s.heap.FunFrames base (env::outer)) (hf:env.frame=some L) (he:ExcAt s.heap x C dx T fl) (hfl:fl = .none∨fl=rawInt L)
    (h:∀ h' t',ExcAt h' x C dx (some t') .none→But x T (Jl (env::outer)) s.heap h'→(some t'=T∨s.heap.objs.size≤t')→Q () { s with heap:=h' }):wpAny M A (leaving env (.ref x)) Q E s:=by
  unfold leaving
  refine wpAny_bind (l7 hfr hl hf he hfl fun h1 t1 a b c=>?_)
  refine gi (fr:=none) a fun h2 a2 b2=>h h2 t1 a2 ⟨fun b' o q n m nf=>?_,fun b' o q n m=>?_,fun b' o q=>?_⟩ c
  · refine b2.keep b' o (b.keep b' o q n m nf) n (fun z=>?_) (by simp)
    rcases c with c | c
    · exact m (z.trans c)
    · have lt:=Heap.lt_size q;cases z;exact absurd lt (Nat.not_lt.mpr c)
  · obtain ⟨sl,e⟩:=b.slot b' o q n m
    refine ⟨sl,b2.keep b' _ e n (fun z=>?_) (by simp)⟩
    rcases c with c | c
    · exact m (z.trans c)
    · have lt:=Heap.lt_size q;cases z;exact absurd lt (Nat.not_lt.mpr c)
  · obtain ⟨o1,e⟩:=b.there b' o q
    exact b2.there b' o1 e
end
end L4
namespace L4
open PySem PySem.Spec PyProof.Rows L2 L3
structure gF (X:Cx) (pins:List (Addr×Obj)) (H:Hp) (b:Addr):Prop where
  no:H b=none
  ab:X.s₀.heap.objs.size≤b
  lo:b≠X.env.locals
  ce:∀ x c,X.env.cells.lookup x=some c→c≠b
  pi:∀ p∈X.pn++pins,p.1≠b
def CX1 (P:Program) (w:World):CXT:=fun outer H s E e s'=>∃ x C dx t H',e=Value.ref x∧s'.os=s.os∧AllBare s'.gens∧Un (frs outer) [] H H' s.heap s'.heap∧HOk P w H' s'.heap ∧
  ExcAt s'.heap x C dx (some t) .none∧s.heap.objs.size≤x∧s.heap.objs.size≤t∧H' x=none∧H' t=none∧E C dx H'
theorem vd {P:Program} {w:World}:bh (CX1 P w):=fun _ _ _ _ _ ⟨_,_,_,_,_,_,_,_,_,_,_,_,_,_,_,h⟩=>h
def XS (X:Cx) (Ex:St→XK) (e:Value) (s':Shared):Prop:=∃ pins σ H x C dx T fl,e=Value.ref x∧Inv X pins σ H s'∧ExcAt s'.heap x C dx T fl∧(fl = .none∨fl=rawInt X.env.locals)∧gF X pins H x∧(∀ t,T=some t→gF X pins H t)∧Ex σ C dx H
def PaX (X:Cx) (Ex:St→XK):Prop:=∀ e s',XS X Ex e s'→X.xe e s'
section
variable {X:Cx} {pins:List (Addr×Obj)} {σ : St} {H H':Hp} {s s':Shared} {Ex:St→XK} {e:Value}
theorem gk (I:Inv X pins σ H s) {b:Addr} (hb:s.heap.objs.size≤b) (n:H' b=none):gF X pins H' b:=
  ⟨n,Nat.le_trans I.sz hb,Nat.ne_of_gt (Nat.lt_of_lt_of_le I.lt hb),fun x c e z=>by
    obtain ⟨v,o,ho,_⟩:=I.cell x c e
    exact absurd (Heap.lt_size ho) (by rw [z];exact Nat.not_lt.mpr hb),fun p hp z=>by
    have:=(I.pin p hp).1
    exact absurd (Heap.lt_size this) (by rw [z];exact Nat.not_lt.mpr hb)⟩
theorem jG {x:Addr} {T:Option Addr} {h':Heap} (I:Inv X pins σ H s) (hx:gF X pins H x) (hT:∀ t,T=some t→gF X pins H t) (b:But x T (frs X.stack) s.heap h'):Inv X pins σ H { s with heap:=h' }:=by
  have nx:∀ c,c∉x::T.toList→c≠x∧some c≠T:=fun c hc=>⟨fun z=>hc (by rw [z];exact List.mem_cons_self),fun z=>hc (List.mem_cons_of_mem _ (by rw [← z];simp))⟩
  refine I.GH (s':={ s with heap:=h' }) (ch:=x::T.toList) rfl ⟨fun c o q _ nf nc=>b.keep c o q (nx c nc).1 (nx c nc).2 nf,fun c o q _ _ nc=>b.slot c o q (nx c nc).1 (nx c nc).2,fun _ _ _ n _=>n,fun c o q _=>b.there c o q,fun _ _ q=>q,fun _ _ _ q=>q,fun _ ps q=>⟨#[],by rw [q];simp⟩⟩ (fun a o q=>?_) I.bare (fun c hc=>?_)
  · refine (I.hok a o q).stay (fun c u hc r=>?_) (fun _ r=>r) fun _ _ r=>r
    obtain ⟨v,hv⟩:∃ v,H c=some v:=by
      rcases hc with rfl | hc
      · exact ⟨_,q⟩
      · exact ⟨_,hc⟩
    refine b.keep c u r (fun z=>?_) (fun z=>?_) (fun z=>?_)
    · rw [z,hx.no] at hv;cases hv
    · rw [(hT c z.symm).no] at hv;cases hv
    · rw [I.o5 c z] at hv;cases hv
  · have w:gF X pins H c:=by
      rcases List.mem_cons.mp hc with rfl | hc
      · exact hx
      · exact hT c (by simpa using hc)
    exact ⟨.inr w.ab,w.lo,w.ce,w.pi⟩
theorem Dr (I:Inv X pins σ H s) (h:CX1 X.prog X.w X.stack H s (Ex σ) e s'):XS X Ex e s':=by
  obtain ⟨x,C,dx,t,H',rfl,os,bare,un,hok,ex,x1,t1,nx,nt,q⟩:=h
  exact ⟨pins,σ,H',x,C,dx,some t,.none,rfl,I.GH (ch:=[]) os un hok bare (fun b z=>absurd z (by simp)),ex,.inl rfl,gk I x1 nx,fun t' z=>by cases z;exact gk I t1 nt,q⟩
theorem qR {P:Program} {w:World} {K:PySem.W.Frag} {mg:Str→Option Value} {base:Heap} {N:List Str} {qual:Str} {scope:Scope} {f:Addr} {cd:Value} {A:Around} {outer:List Env} {s0:Shared} {H0:Hp} {E:XK} :
    PaX (aZ (CX1 P w) P w K mg base N qual scope f cd A outer s0 H0 E) (fun _=>E):=fun e s' h=>by
  obtain ⟨pins,σ,H,x,C,dx,T,fl,rfl,I,ex,hfl,ox,oT,q⟩:=h
  refine zy (base:=base) (outer:=outer) I.ok.frames I.stack rfl ex hfl fun h' t' a b c=>?_
  have J:=jG I ox oT b
  have ot:s0.heap.objs.size≤t'∧H t'=none:=by
    rcases c with c | c
    · exact ⟨(oT t' c.symm).ab,(oT t' c.symm).no⟩
    · exact ⟨Nat.le_trans I.sz c,I.hok.fresh c⟩
  exact ⟨x,C,dx,t',H,rfl,J.os,J.bare,J.base,J.hok,a,ox.ab,ot.1,ox.no,ot.2,q⟩
end
def Ax (sp:Sp) (Ex:St→XK) (t:TA):TE:=fun σ H Q=>t σ H fun vs H1=>sp vs H1 Q (Ex σ)
section
variable {X:Cx} {k:Nat} {f C:Addr} {fd:FuncData} {ps:List Str} {sp:Sp} {Ex:St→XK} {x m:Str} {p pos apos:Pos} {e o:Expr} {es:List Expr} {ta:TE} {t:TA}
theorem pI {pins:List (Addr×Obj)} {σ : St} {H:Hp} {s:Shared} {Q:VK} {us:List Value} {vs:List V} (F:fF X.prog X.w X.K X.mg X.base (CX1 X.prog X.w) k f fd ps sp) (hr:bX k X.A) (hb:Binds X.K fd ps []) (hx:PaX X Ex)
    (I:Inv X pins σ H s) (r:Vals vs us) (h:sp vs H Q (Ex σ)):wpAny (model X.prog X.w) X.A (call (.ref f) us) (EP X pins σ Q) X.xe s:=by
  have hl:us.length=ps.length:=by rw [← r.length];exact F.len _ _ _ _ h
  have hb':=hb s us I.kIn (by rw [List.append_nil];exact hl)
  rw [List.append_nil] at hb'
  refine wpAny_call (codeAny_mono (F.run X.A X.stack s H ⟨us,[]⟩ us vs Q (Ex σ) hr I.Fx hb' r h) fun r s' hq=>?_)
  cases r with
  | error e=>exact hx e s' (Dr I hq)
  | ok fl=>
    cases fl with
    | ret u=>exact I.after hq
    | _=>exact False.elim hq
theorem bR (C:Cal X.prog X.w X.K X.mg X.base (CX1 X.prog X.w) x k ps sp) (hr:bX k X.A) (hx:PaX X Ex) (ha:PA X (e::es) t) (hg:Gl X x:=by rfl)
    (hdb:(x == ("__debug__" : Str))=false:=by decide) (he:starEach (e::es) X.env=(false,eval e X.env)::starEach es X.env:=by rfl) (hpl:(backTo pos (starEach es X.env)).any (·.1)=false:=by rfl) :
    PE X (.Call (.Name x p) (e::es) [] pos) (Ax sp Ex t):=by
  obtain ⟨f,fd,F,b,kp,m⟩:=C.ex
  intro pins s σ H Q I h
  refine wpAny_Call_Name_kw (fK I hg m ?_ hdb)
  refine PySem.W.callWith_K (h₀:=X.base) I.ok.mod.kin kp (thn (ha pos pins s σ H _ I h) fun us s1 ⟨vs,H1,I1,r,q⟩=>⟨I1.kIn,?_⟩) he hpl
  exact pI F hr b hx I1 r q
end
end L4
namespace L4
open PySem PySem.Spec PyProof.Rows L2 L3 PySem.W
section
variable {prog:Program} {w:World} {A:Around} {E:Value→Shared→Prop} {h:Heap} {g:Array GenState} {d:Drawn} {t:Nat} {os:OsState}
variable {nm q:Str} {C N:Addr} {bs bm bmB:List Value} {hdct:Bool} {sn:List Str} {sub:List Value} {ab:Bool} {col:Option Bool} {dd:Option Addr} {k0 k1 k2 k3 k5:Option Value} {B newId initId:String}
abbrev vB (h:Heap) (C:Addr) (rest:List Value):Heap:=(h.push { cls:=.type "tuple",data:=.seq rest.toArray }).push { cls:=.ref C,data:=.fields #[.ref h.objs.size,.none,.none,.none,.bool false,.none] }
theorem cV {rest:List Value}:∀ b o,h.get? b=some o→(vB h C rest).get? b=some o:=fun _ _ e=>Heap.get?_push_of_some _ (Heap.get?_push_of_some _ e)
theorem iE {rest:List Value}:(vB h C rest).get? (h.objs.size+1)=some { cls:=.ref C,data:=.fields #[.ref h.objs.size,.none,.none,.none,.bool false,.none] }:=by heap_get
theorem nH (F:ExcBaseFacts B newId initId bmB) (T:OwnTail h bmB bm) {rest:List Value} {init:Value} {Q:Fin→Shared→Prop}
    (hC:h.get? C=some (excClassObj nm q C N bs bm hdct sn sub ab col dd k0 k1 k2 k3 k5 newId)) (hi:Looks (model prog w) h (typeLookup (.ref C) "__init__") (some init)) (hb:∀ self,Looks (model prog w) h (bindSpecial init self) (init,[self]))
    (hq:wpAny (model prog w) A (call init (.ref (h.objs.size+1)::rest)) (fun r s'=>r = .none∧Q (.done (.ret (.ref (h.objs.size+1)))) s') E ⟨vB h C rest,g,d,t,os⟩) (hrest:rest.length≤sizeLine) :
    wpAny (model prog w) A (Builtin.«type.__call__» ⟨.ref C::rest,[]⟩) Q E ⟨h,g,d,t,os⟩:=by
  repeat (first | with_reducible refine wpAny_loadPart_at hC ?_ | with_reducible refine wpAny_madeBy_exc hC ?_ | wp_step)
  refine codeAny_call_builtin_code (Code.quiet_builtin _ F.quiet) (wpAny_check_new_subT F T hC ?_)
  refine codeAny_exc_new_subT F T hC ?_ hrest
  show wpAny _ _ _ _ _ _
  have hC1:=cV (C:=C) (rest:=rest) _ _ hC
  have hg:=iE (h:=h) (C:=C) (rest:=rest)
  have hcC:(Value.ref C::bm).contains (.ref C)=true:=by simp
  unfold isInstance
  repeat (first | with_reducible refine wpAny_loadPart_at hg ?_ | (with_reducible refine wpAny_isSubtype_exc hC1 ?_;rw [hcC]) | wp_step)
  show wpAny _ _ (typeLookup (.ref C) _) _ _ _
  refine hi _ _ _ _ cV ?_
  refine wpAny_holding (wpAny_bind (hb _ _ _ _ _ cV ?_))
  refine wpAny_bind (wpAny_mono hq (fun r s' hr=>?_) fun _ _ x=>x)
  obtain ⟨rfl,hQ⟩:=hr
  wp_walk
  exact hQ
theorem sV (F:ExcBaseFacts B newId initId bmB) (T:OwnTail h bmB bm) {rest:List Value} {init:Value} {Q:Value→Shared→Prop}
    (hC:h.get? C=some (excClassObj nm q C N bs bm hdct sn sub ab col dd k0 k1 k2 k3 k5 newId)) (hi:Looks (model prog w) h (typeLookup (.ref C) "__init__") (some init)) (hb:∀ self,Looks (model prog w) h (bindSpecial init self) (init,[self]))
    (hq:wpAny (model prog w) (A.under (.builtin "type.__call__" ⟨.ref C::rest,[]⟩)) (call init (.ref (h.objs.size+1)::rest)) (fun r s'=>r = .none∧Q (.ref (h.objs.size+1)) s') E ⟨vB h C rest,g,d,t,os⟩) (hrest:rest.length≤sizeLine) :
    wpAny (model prog w) A (call (.ref C) rest) Q E ⟨h,g,d,t,os⟩:=by
  have f1:=tc_lookup
  have f2:=tc_bind (.ref C)
  have hT:(⟨h,g,d,t,os⟩:Shared).TypeIs (.ref C) "type" := ⟨_,hC,rfl⟩
  refine wpAny_call (codeAny_of_tree ?_)
  show wpAny _ _ (callAny (.ref C) _) _ _ _
  repeat (any_goals (first | assumption | with_reducible refine wpAny_loadPart_at hC ?_ | wp_step))
  refine ⟨rfl,?_⟩
  exact codeAny_call_builtin_at (Code.quiet_builtin _ (by decide +kernel)) entry_typeCall (wpAny_check_type_call_sub hC (nH F T hC hi hb hq hrest))
theorem sU (F:ExcBaseFacts B newId initId bmB) (T:OwnTail h bmB bm) {e a0:Addr} {oe:Obj} {vs:Array Value} {rest:List Value} {Q:Value→Shared→Prop}
    (hC:h.get? C=some (excClassObj nm q C N bs bm hdct sn sub ab col dd k0 k1 k2 k3 k5 newId)) (he:h.get? e=some oe) (hcls:oe.cls = .ref C) (hd:oe.data = .fields vs) (hz : 0 < vs.size) (h0:vs[0]?=some (.ref a0))
    (hq:∀ h',h'=(h.push { cls:=.type "tuple",data:=.seq rest.toArray }).update e (Obj.mapFields (·.setIfInBounds 0 (.ref h.objs.size)))→Q .none ⟨h',g,d,t,os⟩) (hrest:rest.length≤sizeLine) :
    wpAny (model prog w) A (call (.builtin initId) (.ref e::rest)) Q E ⟨h,g,d,t,os⟩:=by
  refine wpAny_call (codeAny_call_builtin F.init.plain F.initEntry (wpAny_check_init_subT F T hC he hcls ?_))
  obtain ⟨oc,od,da,sl⟩:=oe
  dsimp only at hcls hd
  subst hcls hd
  unfold Builtin.«BaseException.__init__»
  repeat (first | with_reducible refine wpAny_loadPart_at he ?_ | wp_step)
  rw [h0]
  refine wpAny_pure ?_
  refine wpAny_bind (wpAny_setField (Heap.get?_push_of_some _ he) rfl hz (wpAny_letGo ?_))
  exact wpAny_pure (hq _ rfl)
end
section
variable {M:Model} {A:Around} {E:Value→Shared→Prop} {env:Env}
variable {nm q:Str} {C N:Addr} {bs bm:List Value} {hdct:Bool} {sn:List Str} {sub:List Value} {ab:Bool} {col:Option Bool} {dd:Option Addr} {k0 k1 k2 k3 k5:Option Value} {newId:String}
theorem lX {s:Shared} {x:Sem Value} {Q:Flow→Shared→Prop} (hbase:bm.contains (.type "BaseException")=true) (hh:A.handled=none)
    (h:wpAny M A x (fun v s₁=>∃ e oe vs,v = .ref e∧s₁.heap.get? C=some (excClassObj nm q C N bs bm hdct sn sub ab col dd k0 k1 k2 k3 k5 newId) ∧
      s₁.heap.get? e=some oe∧oe.cls = .ref C∧oe.data = .fields vs∧vs[1]?=some .none∧E (.ref e) s₁) E s) :
    wpAny M A (raiseStmt env (some x) none) Q E s:=by
  have hcB:(Value.ref C::bm).contains (.type "BaseException")=true:=by rw [List.contains_cons,hbase,Bool.or_true]
  unfold raiseStmt
  refine wpAny_bind (wpAny_mono h (fun v s₁ h₁=>?_) fun _ _ x=>x)
  obtain ⟨e,oe,vs,rfl,hC,he,hcls,hd,h1,hE⟩:=h₁
  obtain ⟨hp,g,d,tk,os⟩:=s₁
  have hnd:∀ cd,oe.data≠.cls cd:=fun cd z=>by rw [hd] at z;cases z
  obtain ⟨oc,od,da,sl⟩:=oe
  dsimp only at hcls hd
  subst hcls hd
  repeat (first | with_reducible refine wpAny_loadPart_at he ?_ | with_reducible refine wpAny_loadPart_at hC ?_ | (with_reducible refine wpAny_isSubtype_exc hC ?_;rw [hcB]) | wp_step)
  rw [h1]
  refine wpAny_pure ?_
  rw [if_neg (by decide)]
  exact wpAny_pure (wpAny_raiseNew_none hh hE)
end
abbrev xcx (X:Cx) (Ex:St→XK):Cx:=X.i9 (XS X Ex)
section
variable {X:Cx} {Ex:St→XK} {st:List Stmt} {t:TS}
theorem gF.c8 {E:Value→Shared→Prop} {pins:List (Addr×Obj)} {H:Hp} {b:Addr} (o:gF (X.i9 E) pins H b):gF X pins H b:=⟨o.no,o.ab,o.lo,o.ce,o.pi⟩
theorem aP:PaX (xcx X Ex) Ex:=fun _ _ ⟨pins,σ,H,x,C,dx,T,fl,a,I,b,c,o,oT,q⟩=>
  ⟨pins,σ,H,x,C,dx,T,fl,a,I.c8,b,c,o.c8,fun t ht=>(oT t ht).c8,q⟩
theorem PSs.x (h:PSs (xcx X Ex) st t) (hx:PaX X Ex):PSs X st t:=fun pins s σ H D I hw=>wpAny_mono (h pins s σ H D (I.i9 _) hw) (fun _ _ q=>q.c8) hx
theorem But.mono {x:Addr} {T:Option Addr} {fs fs':List Addr} {h h':Heap} (b:But x T fs h h') (m:∀ a∈fs,a∈fs'):But x T fs' h h':=⟨fun c o q n k f=>b.keep c o q n k fun z=>f (m c z),b.slot,b.there⟩
end
section
variable {P:Program} {w:World} {K:Frag} {mg:Str→Option Value} {base:Heap} {x qual:Str} {st:Stmt} {N ps:List Str} {k:Nat} {sp:Sp} {C:Addr}
theorem _root_.L3.Dat.okR (D:Dat K mg x qual st ps) (S:ay N ps (ak st)) (len:∀ vs H Q E,sp vs H Q E→vs.length=ps.length)
    (hbody:∀ (f:Addr) (cdv:Value) (A:Around) (outer:List Env) (s:Shared) (H:Hp) (vs:List V) (Q:VK) (E:XK),bX k (A.deeper (envOfC qual (ak st) s.heap.objs.size f cdv))→sp vs H Q E →
      ∃ t,PSs (xcx (aZ (CX1 P w) P w K mg base N qual (ak st) f cdv A outer s H E) (fun _=>E)) (bf st) t∧t { nx:=fun _ H'=>Q .non H',rt:=Q } (start N vs) H):Cal P w K mg base (CX1 P w) x (k+1) ps sp:=
  D.okX S len fun f cdv A outer s H vs Q E hr h=>by
    obtain ⟨t,ht,q⟩:=hbody f cdv A outer s H vs Q E hr h
    exact ⟨t,L4.PSs.x ht qR,q⟩
end
def eu:List Value:=[.type "ValueError",.type "Exception",.type "BaseException",.type "object"]
def dU (K:Frag) (C:Addr) (bmB:List Value) (newId:String):Bool:=match K.lookup C with
  | some ⟨.type "type",_,.cls cd,sl⟩=>(match cd.mro,sl.toList with
    | .ref c::bm,[_,_,_,_,some (.builtin n),_]=>c == C && n == newId && !cd.hasDel && tailIn K bmB bm
    | _,_=>false)
  | _=>false
theorem qf {K:Frag} {h:Heap} {C:Addr} {bmB:List Value} {newId:String} (X:K.In h) (z:dU K C bmB newId=true):∃ nm q N bs bm hdct sn sub ab col dd k0 k1 k2 k3 k5,
    h.get? C=some (excClassObj nm q C N bs bm hdct sn sub ab col dd k0 k1 k2 k3 k5 newId)∧OwnTail h bmB bm:=by
  unfold dU at z
  split at z
  · rename_i dd cd sl ho
    split at z
    · rename_i c bm k0 k1 k2 k3 n k5 hm hs
      simp only [Bool.and_eq_true,beq_iff_eq,Bool.not_eq_true'] at z
      obtain ⟨⟨⟨rfl,rfl⟩,EV⟩,ht⟩:=z
      obtain ⟨nm,bs,mro,ns,qn,hd,sn,sub,ab,col,del⟩:=cd
      dsimp only at hm EV
      subst hm EV
      obtain ⟨l⟩:=sl
      simp only at hs
      subst hs
      exact ⟨nm,qn,ns,bs,bm,hd,sn,sub,ab,col,dd,k0,k1,k2,k3,k5,X _ _ ho,tail_of_in X ht⟩
    · cases z
  · cases z
structure nP (K:Frag) (mg:Str→Option Value) (x:Str) (C:Addr):Prop where
  ok:dU K C eu "ValueError.__new__" = true
  init:findIn K (.ref C) "__init__" = some (some (.builtin "ValueError.__init__"))
  kp:keepIn K (.ref C)=true
  mg:mg x=some (.ref C)
def Aw (C:Addr) (Ex:St→XK) (tl:TA):TS:=fun _ σ H=>tl σ H fun vs H1=>vs.length≤1000∧Ex σ (.ref C) none H1
theorem ia {X:Cx} {Ex:St→XK} {x:Str} {C:Addr} {e:Expr} {es:List Expr} {t:TA} {np cpos pos:Pos} (O:nP X.K X.mg x C) (hc:X.calm=true) (hx:PaX X Ex) (ha:PA X (e::es) t) (hg:Gl X x:=by rfl)
    (hdb:(x == ("__debug__" : Str))=false:=by decide) (he:starEach (e::es) X.env=(false,eval e X.env)::starEach es X.env:=by rfl) (hpl:(backTo cpos (starEach es X.env)).any (·.1)=false:=by rfl) :
    PS X (.Raise (some (.Call (.Name x np) (e::es) [] cpos)) none pos) (Aw C Ex t):=by
  intro pins s σ H D I h
  obtain ⟨nm,q,N,bs,bm,hdct,sn,sub,ab,col,dd,k0,k1,k2,k3,k5,hC,T⟩:=qf I.ok.mod.kin O.ok
  rw [arm_exec_Raise]
  refine wpAny_bind (wpAny_standAt (lX (C:=C) (nm:=nm) (q:=q) (N:=N) (bs:=bs) (bm:=bm) (hdct:=hdct) (sn:=sn) (sub:=sub) (ab:=ab) (col:=col) (dd:=dd) (k0:=k0) (k1:=k1) (k2:=k2) (k3:=k3) (k5:=k5) (newId:="ValueError.__new__") (T.hasType (by decide +kernel)) (I.ok.hd hc) (wpAny_bind ?_)))
  refine wpAny_Call_Name_kw (fK I hg O.mg ?_ hdb)
  refine callWith_K (h₀:=X.base) I.ok.mod.kin O.kp (thn (ha cpos pins s σ H _ I h) fun us s1 ⟨vs,H1,I1,r,hz,qx⟩=>⟨I1.kIn,?_⟩) he hpl
  have hl:us.length≤sizeLine:=by rw [← r.length];exact Nat.le_of_lt (small1000 hz)
  have T1:=T.keeps I1.bk
  have hC1:=I1.bk _ _ hC
  obtain ⟨hp,g,d,tk,os⟩:=s1
  show wpAny (model X.prog X.w) X.A (call (.ref C) us) _ _ _
  refine sV PySem.F.excBase_ValueError T1 hC1 (looks_findIn I1.kIn O.init) (fun self=>Looks.of_pure (PySem.F.excBase_ValueError.init.bind self)) ?_ hl
  refine sU PySem.F.excBase_ValueError (T1.keeps cV) (cV _ _ hC1) iE rfl rfl (Nat.zero_lt_succ _) rfl (fun h3 e3=>⟨rfl,?_⟩) hl
  have kp:∀ b o,hp.get? b=some o→h3.get? b=some o:=fun b o z=>by
    rw [e3,Heap.get?_update_other _ _ (Nat.ne_of_gt (Nat.lt_succ_of_lt (Heap.lt_size z)))]
    exact Heap.get?_push_of_some _ (cV _ _ z)
  have hz3:(vB hp C us).objs.size=hp.objs.size+2:=by rw [Heap.size_push,Heap.size_push]
  have g3:=Heap.get?_update_self (Obj.mapFields (·.setIfInBounds 0 (.ref (vB hp C us).objs.size))) (Heap.get?_push_of_some { cls:=.type "tuple",data:=.seq us.toArray } (iE (h:=hp) (C:=C) (rest:=us))) rfl
  rw [← e3] at g3
  have I3:Inv X pins σ H1 ⟨h3,g,d,tk,os⟩:=I1.kept (t':=tk) kp
  refine wpAny_bind (wpAny_standAt (wpAny_pure ⟨_,_,_,rfl,kp _ _ hC1,g3,rfl,rfl,rfl,hx _ _ ⟨pins,σ,H1,hp.objs.size+1,.ref C,none,none,.none,rfl,I3,⟨_,_,g3,rfl,rfl,rfl,rfl,fun t ht=>by cases ht⟩,.inl rfl,gk I1 (Nat.le_succ _) (I1.hok.fresh (Nat.le_succ _)),(fun t ht=>by cases ht),qx⟩⟩))
def Mv (x:Addr) (C:Value) (dx:Option Addr):Heap→Prop:=fun h=>∃ oe vs,h.get? x=some oe∧oe.cls=C∧oe.dict=dx∧oe.data = .fields vs
abbrev Mw (x:Addr) (C:Value) (dx:Option Addr):HO:=.ext (Mv x C dx)
section
variable {X:Cx} {pins:List (Addr×Obj)} {σ : St} {H:Hp} {s:Shared}
theorem zA {x:Addr} {φ : Heap→Prop} (I:Inv X pins σ H s) (o:gF X pins H x) (p : φ s.heap) (th:∃ ob,s.heap.get? x=some ob) (st:∀ h1 h2:Heap,φ h1→(∀ ob,h1.get? x=some ob→h2.get? x=some ob)→φ h2):Inv X pins σ (upd H x (.ext φ)) s:=by
  have ne:∀ b u,H b=some u→b≠x:=fun b u e z=>by rw [z,o.no] at e;cases e
  refine ⟨I.ok,I.os,I.bare,⟨I.base.keep,I.base.slot,fun b ob e n hx=>?_,I.base.there,fun b xs e=>?_,fun b ob u e=>?_,fun b ps e=>?_⟩,I.loc,I.cell,?_,fun y c e=>?_,fun q hq=>?_,fun b u e=>?_,I.len⟩
  · rw [az (Nat.ne_of_lt (Nat.lt_of_lt_of_le (Heap.lt_size e) o.ab))];exact I.base.free b ob e n hx
  · have:=I.base.tups b xs e;rw [az (ne _ _ this)];exact this
  · have:=I.base.jh b ob u e;rw [az (ne _ _ this)];exact this
  · obtain ⟨m,h⟩:=I.base.ju b ps e
    exact ⟨m,by rw [az (ne _ _ h)];exact h⟩
  · rw [az (Ne.symm o.lo)];exact I.free
  · rw [az (o.ce y c e)];exact I.freeC y c e
  · obtain ⟨a,b,r⟩:=I.pin q hq
    exact ⟨a,by rw [az (o.pi q hq)];exact b,r⟩
  · by_cases z:b=x
    · subst z;rw [aB] at e;cases e;exact ⟨p,th,st⟩
    · rw [az z] at e
      exact (I.hok b u e).stay (fun _ _ _ q=>q) (fun c q=>by rw [az (ne _ _ q)];exact q) fun c xs q=>by rw [az (ne _ _ q)];exact q
end
abbrev Cx.pinned (X:Cx) (pins:List (Addr×Obj)):Cx:={ X with pn:=X.pn++pins }
abbrev Cx.hand (X:Cx) (x:Addr):Cx:={ X with A:=X.A.mark (some (.ref x)),calm:=false,xe:=fun _ _=>False }
section
variable {X:Cx} {pins lY:List (Addr×Obj)} {σ : St} {H:Hp} {s:Shared}
theorem HE (ok:X.Ok):(Cx.pinned X pins).Ok:=⟨ok.mod,ok.kind,ok.glob,ok.blt,ok.above,ok.inj,ok.has,ok.cab,ok.hd,ok.frames,ok.stk,ok.exf,ok.bs,ok.bsz,ok.noex,ok.exfs,ok.jg,ok.frf⟩
theorem BJ (ok:(Cx.pinned X pins).Ok):X.Ok:=⟨ok.mod,ok.kind,ok.glob,ok.blt,ok.above,ok.inj,ok.has,ok.cab,ok.hd,ok.frames,ok.stk,ok.exf,ok.bs,ok.bsz,ok.noex,ok.exfs,ok.jg,ok.frf⟩
theorem EO (I:Inv X pins σ H s):Inv (Cx.pinned X pins) [] σ H s:=⟨HE I.ok,I.os,I.bare,I.base,I.loc,I.cell,I.free,I.freeC,fun p hp=>I.pin p (by simpa using hp),I.hok,I.len⟩
theorem fZ (I:Inv (Cx.pinned X pins) lY σ H s):Inv X pins σ H s:=⟨BJ I.ok,I.os,I.bare,I.base,I.loc,I.cell,I.free,I.freeC,fun p hp=>I.pin p (List.mem_append_left _ hp),I.hok,I.len⟩
theorem j0 {b:Addr} (o:gF (Cx.pinned X pins) lY H b):gF X pins H b:=⟨o.no,o.ab,o.lo,o.ce,fun p hp=>o.pi p (List.mem_append_left _ hp)⟩
theorem sj {x:Addr} (I:Inv X pins σ H s):Inv (Cx.hand X x) pins σ H s:=
  ⟨⟨I.ok.mod,I.ok.kind,I.ok.glob,I.ok.blt,I.ok.above,I.ok.inj,I.ok.has,I.ok.cab,(fun z=>absurd z Bool.false_ne_true),I.ok.frames,I.ok.stk,I.ok.exf,I.ok.bs,I.ok.bsz,I.ok.noex,I.ok.exfs,I.ok.jg,I.ok.frf⟩,I.os,I.bare,I.base,I.loc,I.cell,I.free,I.freeC,I.pin,I.hok,I.len⟩
theorem gu {x:Addr} (ok:X.Ok) (I:Inv (Cx.hand X x) pins σ H s):Inv X pins σ H s:=⟨ok,I.os,I.bare,I.base,I.loc,I.cell,I.free,I.freeC,I.pin,I.hok,I.len⟩
theorem AD {E:Value→Shared→Prop} {D:Ends} {f:Flow} {s':Shared} (h:SP ((Cx.pinned X pins).i9 E) lY D f s'):SP X pins D f s':=by
  have h:=h.c8
  cases f with
  | next=>obtain ⟨σ',H',I,q⟩:=h;exact ⟨σ',H',fZ I,q⟩
  | brk=>obtain ⟨σ',H',I,q⟩:=h;exact ⟨σ',H',fZ I,q⟩
  | cont=>obtain ⟨σ',H',I,q⟩:=h;exact ⟨σ',H',fZ I,q⟩
  | ret u=>obtain ⟨v,σ',H',I,r,q⟩:=h;exact ⟨v,σ',H',fZ I,r,q⟩
theorem vQ {M:Model} {E:Value→Shared→Prop} {Q:Shared→Prop} {x:Addr} {C fl:Value} {dx T:Option Addr} (hs:X.stack=X.env::X.outer) (hf:X.env.frame=some X.env.locals) (I:Inv X pins σ H s) (ex:ExcAt s.heap x C dx T fl) (hfl:fl = .none∨fl=rawInt X.env.locals) (ox:gF X pins H x) (oT:∀ t,T=some t→gF X pins H t)
    (h:∀ s' t,Inv X pins σ H s'→ExcAt s'.heap x C dx (some t) .none→gF X pins H t→Q s') :
    wpAny M X.A (noteFrame (.ref x) X.env) (fun _ s2=>wpAny M X.A (setFlight (.ref x) none) (fun _ s3=>Q s3) E s2) E s:=by
  have hfr:=I.ok.frames
  have hst:=I.stack
  rw [hs] at hfr hst
  refine l7 (base:=X.base) hfr hst hf ex hfl fun h1 t1 a b c=>?_
  have ot:gF X pins H t1:=by
    rcases c with c | c
    · exact oT t1 c.symm
    · exact gk I c (I.hok.fresh c)
  have J:=jG I ox oT (by rw [hs];exact b)
  exact gi (fr:=none) a fun h2 a2 b2=>h _ t1 (jG J ox (fun t ht=>by cases ht;exact ot) (b2.mono fun _ z=>absurd z (by simp))) a2 ot
end
def GU (K:Frag) (CH:Value) (tb:(St→XK)→TS) (th:TS) (Ex:St→XK):TS:=fun D σ H=>
  tb (fun σ' C dx H'=>∃ b,exmOne K C CH=some b∧if b=true then th D σ' H' else Ex σ' C dx H') D σ H
section
variable {X:Cx} {Ex:St→XK} {body suite:List Stmt} {b₀ : Stmt} {cx n:Str} {np hpos pos:Pos} {CH:Addr} {i:Nat} {tb:(St→XK)→TS} {th:TS}
theorem zv {M:Model} {h:Heap} {x:Addr} {C:Value} {dx T:Option Addr} {fl:Value} (ex:ExcAt h x C dx T fl):Looks M h (typeOf (.ref x)) C:=by
  obtain ⟨oe,vs,e1,e2,_⟩:=ex
  rw [← e2]
  exact (Looks.ld e1).andThen .now
theorem Eh {pins:List (Addr×Obj)} {σ : St} {H:Hp} {s:Shared} {x t:Addr} {C fl:Value} {dx:Option Addr} {Q:Flow→Shared→Prop} (hf:X.env.frame=some X.env.locals) (hx:PaX X Ex) (I:Inv X pins σ H s) (ex:ExcAt s.heap x C dx (some t) fl) (ox:gF X pins H x) (ot:gF X pins H t) (q:Ex σ C dx H) :
    wpAny (model X.prog X.w) X.A (handleBy (.ref x) X.env []) Q X.xe s:=by
  refine wpAny_handleBy_nil ?_
  unfold PySem.passOn
  obtain ⟨oe,vs,e1,e2,e3,e4,e5,e6⟩:=id ex
  refine wpAny_bind (wpAny_field e1 e4 e5 ?_)
  rw [if_neg (by simp)]
  refine wpAny_bind (gi (fr:=X.env.frame) ex fun h2 a2 b2=>wpAny_throw (hx _ _ ?_))
  exact ⟨pins,σ,H,x,C,dx,some t,_,rfl,jG I ox (fun t ht=>by cases ht;exact ot) (b2.mono fun _ z=>absurd z (by simp)),a2,.inr (by rw [hf];rfl),ox,fun t ht=>by cases ht;exact ot,q⟩
theorem Hl (hs:X.stack=X.env::X.outer) (hf:X.env.frame=some X.env.locals) (hm:X.mg cx=some (.ref CH)) (hx:PaX X Ex)
    (hb:∀ pins Exb,PSs (xcx (Cx.pinned X pins) Exb) body (tb Exb)) (hh:∀ x,PSs (Cx.hand X x) (b₀ :: suite) th) (hg:Gl X cx:=by rfl) (hdb:(cx == ("__debug__" : Str))=false:=by decide) :
    PS X (.Try body [.ExceptHandler (some (.Name cx np)) none (b₀ :: suite) hpos] [] [] pos) (GU X.K (.ref CH) tb th Ex):=by
  intro pins s σ H D I h
  refine wpAny_Try_except (wpAny_mono (hb pins _ [] s σ H D ((EO I).i9 _) h) (fun f s1 q=>?_) (fun e s1 q=>?_))
  · have q:=AD q
    cases f with
    | next=>obtain ⟨σ',H',I',q⟩:=q;exact aE pins s1 σ' H' D I' q
    | _=>exact q
  · obtain ⟨lY,σ',H',x,C,dx,T,fl,rfl,I',ex,hfl,ox,oT,b,hm2,q⟩:=q
    refine vQ hs hf (fZ I') ex hfl (j0 ox) (fun t ht=>j0 (oT t ht)) fun s2 t I2 ex2 ot=>?_
    have ox:=j0 ox
    refine wpAny_handleBy_cons (codeAny_handlers_test ?_) (by intro z;cases z)
    refine fK (X:=Cx.hand X x) (sj I2) hg hm ?_ hdb
    refine (exm_one I2.kIn (zv ex2) hm2).here ?_
    cases b with
    | false=>exact Eh hf hx I2 ex2 ox ot q
    | true=>
      refine codeAny_handlers_suite ?_
      refine gi (fr:=none) ex2 fun h3 a3 b3=>?_
      have I3:=jG I2 ox (fun t ht=>by cases ht;exact ot) (b3.mono fun _ z=>absurd z (by simp))
      refine wpAny_mono (hh x pins _ _ _ D (sj I3) q) (fun f s6 r=>?_) fun _ _ z=>False.elim z
      cases f with
      | next=>obtain ⟨σ6,H6,I6,q6⟩:=r;exact ⟨_,H6,gu I.ok I6,q6⟩
      | brk=>obtain ⟨σ6,H6,I6,q6⟩:=r;exact ⟨_,H6,gu I.ok I6,q6⟩
      | cont=>obtain ⟨σ6,H6,I6,q6⟩:=r;exact ⟨_,H6,gu I.ok I6,q6⟩
      | ret u=>obtain ⟨v,σ6,H6,I6,r6,q6⟩:=r;exact ⟨v,_,H6,gu I.ok I6,r6,q6⟩
end
structure z3 (K:Frag) (C:Addr):Prop where
  ga:findIn K (.ref C) "__getattribute__" = some (some (.builtin "BaseException.__getattribute__"))
  gh:findIn K (.ref C) "__getattr__" = some none
  bs:mroIn K C (.type "BaseException")=some true
  ob:mroIn K C (.type "object")=some true
  ca:findIn K (.ref C) "__class__" = some (some (.builtin "object.__class__"))
  cg:specialIn K (.builtin "object.__class__") "__get__" = some (some (.builtin "getset_descriptor.__get__"))
  ct:takesIn K (.builtin "object.__class__")=some true
  cd:(clsIn K C).isSome=true
def ExD (H:Hp):Option Addr→Prop
  | none=>True
  | some d=>∃ fs,H d=some (.xd fs)
structure ExA (K:Frag) (H:Hp) (x C:Addr) (dx:Option Addr):Prop where
  at_:H x=some (Mw x (.ref C) dx)
  g:z3 K C
  d:ExD H dx
theorem BD {X:Cx}:PaX X.nox (fun _ _ _ _=>False):=fun _ _ ⟨_,_,_,_,_,_,_,_,_,_,_,_,_,_,q⟩=>q
section
variable {X:Cx} {K:Frag} {Ex:St→XK} {body suite:List Stmt} {b₀ : Stmt} {cx n:Str} {np hpos pos:Pos} {CH:Addr} {i:Nat} {tb:(St→XK)→TS} {th:TS}
theorem w9 (hK:X.K=K) (hs:X.stack=X.env::X.outer) (hf:X.env.frame=some X.env.locals) (hm:X.mg cx=some (.ref CH)) (hx:PaX X Ex)
    (hb:∀ pins Exb,PSs (xcx (Cx.pinned X pins) Exb) body (tb Exb)) (hh:∀ x,PSs (Cx.hand X x) (b₀ :: suite) th) (hg:Gl X cx:=by rfl) (hdb:(cx == ("__debug__" : Str))=false:=by decide) :
    PS X (.Try body [.ExceptHandler (some (.Name cx np)) none (b₀ :: suite) hpos] [] [] pos) (GU K (.ref CH) tb th Ex):=by
  subst hK
  exact Hl hs hf hm hx hb hh hg hdb
end
section
variable {K:Frag} {σ : St} {H:Hp} {Q:VK} {D:Ends} {tl:TA} {ta:TE} {sp:Sp} {Ex:St→XK} {C:Addr}
theorem Fp (h:tl σ H fun vs H1=>sp vs H1 Q (Ex σ)):Ax sp Ex tl σ H Q:=h
def Raises (C:Addr) (Ex:XK) (vs:List V) (H:Hp):Prop:=vs.length≤1000∧Ex (.ref C) none H
theorem Fb (h:tl σ H fun vs H1=>Raises C (Ex σ) vs H1):Aw C Ex tl D σ H:=h
theorem Cp {E:XK} {v:V} (h:E (.ref C) none H):Raises C E [v] H:=⟨(by show 1≤1000;decide),h⟩
def F9 (K:Frag) (CH:Value) (th:TS) (Ex:St→XK) (D:Ends):St→XK:=fun σ' C dx H'=>∃ b,exmOne K C CH=some b∧if b=true then th D σ' H' else Ex σ' C dx H'
theorem KQ {CH:Value} {tb:(St→XK)→TS} {th:TS} (h:tb (F9 K CH th Ex D) D σ H):GU K CH tb th Ex D σ H:=h
theorem iC {CH C:Value} {th:TS} {dx:Option Addr} (e:exmOne K C CH=some true) (h:th D σ H):F9 K CH th Ex D σ C dx H:=⟨true,e,by rw [if_pos rfl];exact h⟩
end
open Builtin Builtin.ObjectAttr
inductive cT:List Value→Prop
  | base:cT eu
  | own {c:Addr} {r:List Value}:cT r→cT (.ref c::r)
theorem rM (self:Value) {l:List Value} (h:cT l):refuseLoop self "__setattr__" l=pure ():=by
  induction h with
  | base=>exact PySem.F.store_ValueError.passes self
  | own _ ih=>rw [refuseLoop_ref];exact ih
section
variable {prog:Program} {w:World} {A:Around} {E:Value→Shared→Prop} {s:Shared} {K:Frag} {x C:Addr} {ox:Obj} {od:Option Obj} {name:Str} {v:Value} {cd:ClassData}
theorem jK {R:Result→Shared→Prop} {tk:Tok} {r:Option Value} (X:K.In s.heap) (I:InstAt s.heap x ox C od) (G:z3 K C) (hc:clsIn K C=some cd) (ho:cT cd.mro) (ht:takerIn K C name=some r)
    (h:∀ b,wpAny (model prog w) A.in1 (match r with | some a=>setByDescriptor a (.ref x) v | none=>storeInOwnDict (.ref x) (.ref C) (.str name tk) name v b)
      (fun fin s'=>match fin with | .done f=>R (.ok f) s' | .again c'=>c'.quiet=true∧codeAny (model prog w) A c' R s') (fun e s'=>R (.error e) s') s) :
    codeAny (model prog w) A (.call (.builtin "object.__setattr__") ⟨[.ref x,.str name tk,v],[]⟩) R s:=by
  have SF:=PySem.F.store_object
  have sub:Looks (model prog w) s.heap (isInstance (.ref x) (.type "object")) true:=I.type.andThen (looks_mroIn X G.ob)
  refine codeAny_call_builtin SF.slot.plain SF.entry (@check_slot (model prog w) _ _ s "object.__setattr__" "object" "__setattr__" (.ref x) [.str name tk,v] [] _ SF.kind SF.split sub (SF.args (.ref x) (.str name tk) v) ?_)
  obtain ⟨attr,ha,hr⟩:=Option.bind_eq_some_iff.mp ht
  have hm:Looks (model prog w) s.heap (mroOf (.ref C)) cd.mro:=(looks_clsIn X hc).andThen .now
  have L3:Looks (model prog w) s.heap (storeTaker? attr) r:=by
    cases attr with
    | none=>cases hr;exact .now
    | some a=>
      obtain ⟨b,hb,rfl⟩:=Option.map_eq_some_iff.mp hr
      refine (looks_takesIn X hb).andThen ?_
      cases b <;> exact .now
  rw [osa_eq,refuse_eq]
  refine wpAny_bind (wpAny_bind (I.type.here (wpAny_bind (hm.here ?_))))
  rw [rM _ ho]
  refine wpAny_pure (wpAny_bind (I.type.here (wpAny_bind ((looks_findIn X ha).here (wpAny_bind (L3.here ?_))))))
  exact h _
theorem CB {Q:Unit→Shared→Prop} {vs:Array Value} (X:K.In s.heap) (I:InstAt s.heap x ox C none) (G:z3 K C) (hs:findIn K (.ref C) "__setattr__" = some (some (.builtin "object.__setattr__")))
    (hc:clsIn K C=some cd) (ho:cT cd.mro) (hh:cd.hasDict=true) (ht:takerIn K C name=some none) (hdn:ox.dict=none) (hda:ox.data = .fields vs)
    (h:∀ h' t,h'.get? x=some { ox with dict:=some s.heap.objs.size }→h'.Ns1 s.heap.objs.size (fun y=>if y=name then some v else none)→(∀ b o,b≠x→s.heap.get? b=some o→h'.get? b=some o)→Q () { s with heap:=h',toks:=t }) :
    wpAny (model prog w) A (setAttr (.ref x) name v) Q E s:=by
  refine set_plain X I hs (jK (s:={ s with toks:=s.toks+1 }) (r:=none) X I G hc ho ht fun b=>?_)
  have hx:=I.at_
  have hcl:=I.cls
  obtain ⟨oc,odi,oda,osl⟩:=ox
  dsimp only at hcl hdn hda hx
  subst hcl hdn hda
  refine wpAny_bind (wpAny_pure (wpAny_bind (wpAny_bind (wpAny_loadPart hx (wpAny_bind (PySem.W.Looks.here (s:={ s with toks:=s.toks+1 }) (PySem.W.looks_clsIn X hc) ?_))))))
  rw [hh,if_neg (by decide)]
  have hxs:x≠s.heap.objs.size:=Nat.ne_of_lt (Heap.lt_size hx)
  have hx1:(s.heap.push { cls:=.type "dict",data:=.dict #[] }).get? x=some ⟨.ref C,none,.fields vs,osl⟩:=Heap.get?_push_of_some _ hx
  show wpAny (model prog w) A.in1 (alloc { cls:=Value.type "dict",data:=Data.dict #[] } >>= fun d=>update x (fun o=>{ cls:=o.cls,dict:=some d,data:=o.data,slots:=o.slots }) >>= fun _=>dictMade (.ref C) x d) _ _ _
  refine wpAny_bind (wpAny_alloc' ?_)
  refine wpAny_bind (wpAny_update' hx1 ?_)
  refine wpAny_pure ?_
  have hgd:((s.heap.push { cls:=.type "dict",data:=.dict #[] }).update x fun o=>{ cls:=o.cls,dict:=some s.heap.objs.size,data:=o.data,slots:=o.slots }).get? s.heap.objs.size
      = some { cls:=.type "dict",data:=.dict #[] }:=(Heap.get?_update_ne _ _ _ _ hxs.symm).trans (Heap.get?_push_at rfl rfl)
  have hnd:((s.heap.push { cls:=.type "dict",data:=.dict #[] }).update x fun o=>{ cls:=o.cls,dict:=some s.heap.objs.size,data:=o.data,slots:=o.slots }).Ns s.heap.objs.size (fun _=>none):=
    ⟨_,#[],_,hgd,rfl,fun e he=>absurd he (by simp),fun _=>rfl⟩
  show wpAny _ _ (storeInDict s.heap.objs.size (.str name _) name v) _ _ _
  unfold storeInDict newKeyGuard
  refine wpAny_bind (wpAny_pure (wpAny_bind (wpAny_nsSet1 (Heap.Ns1.of_empty hnd) fun h' hn' sb=>?_)))
  obtain ⟨oD,esD,epD,hoD,hdD,hcD⟩:=hn'.count (PySem.Within.cons name v PySem.Within.nil)
  refine wpAny_bind (wpAny_lookBehind hoD (by rw [hdD];exact pastItsLine_dict (Nat.le_trans hcD (by rw [List.length_cons,List.length_nil,sizeLine_eq];omega))) ?_)
  refine wpAny_pure (h h' _ ?_ hn' fun b o nb hb=>?_)
  · exact (sb.2 x hxs).trans (Heap.get?_update_self _ hx1 rfl)
  · exact (sb.2 b (Nat.ne_of_lt (Heap.lt_size hb))).trans ((Heap.get?_update_ne _ _ _ _ nb).trans (Heap.get?_push_of_some _ hb))
theorem Cz {Q:Unit→Shared→Prop} {dx:Addr} {mA:Str→Option Value} {ns:List Str} {oD:Obj} (X:K.In s.heap) (I:InstAt s.heap x ox C (some oD)) (G:z3 K C) (hs:findIn K (.ref C) "__setattr__" = some (some (.builtin "object.__setattr__")))
    (hc:clsIn K C=some cd) (ho:cT cd.mro) (hh:cd.hasDict=true) (ht:takerIn K C name=some none) (hdn:ox.dict=some dx) (hN:s.heap.Ns1 dx mA) (hw:PySem.Within mA ns) (hsz:ns.length≤sizeLine)
    (h:∀ h' t,h'.Ns1 dx (fun y=>if y=name then some v else mA y)→Heap.SameBut dx s.heap h'→Q () { s with heap:=h',toks:=t }) :
    wpAny (model prog w) A (setAttr (.ref x) name v) Q E s:=by
  refine set_plain X I hs (jK (s:={ s with toks:=s.toks+1 }) (r:=none) X I G hc ho ht fun b=>?_)
  have hx:=I.at_
  have hcl:=I.cls
  obtain ⟨oc,odi,oda,osl⟩:=ox
  dsimp only at hcl hdn hx
  subst hcl hdn
  refine wpAny_bind (wpAny_pure (wpAny_bind (wpAny_bind (wpAny_loadPart hx (wpAny_bind (PySem.W.Looks.here (s:={ s with toks:=s.toks+1 }) (PySem.W.looks_clsIn X hc) ?_))))))
  rw [hh]
  refine wpAny_pure (a:=some dx) (wpAny_bind (wpAny_pure (wpAny_bind ?_)))
  refine wpAny_nsSet1 (s:={ s with toks:=s.toks+1 }) hN fun h' hn2 hs2=>?_
  obtain ⟨oD,esD,epD,hoD,hdD,hcD⟩:=hn2.count (PySem.Within.cons name v hw)
  refine wpAny_bind (wpAny_lookBehind hoD (by rw [hdD];exact pastItsLine_dict (Nat.le_trans hcD (by rw [List.length_cons];omega))) ?_)
  exact wpAny_pure (h _ _ hn2 hs2)
end
def ExN (x:Addr) (C:Value) (dx:Option Addr):Heap→Prop:=fun h=>∃ oe a0,h.get? x=some oe∧oe.cls=C∧oe.dict=dx∧oe.data = .fields #[.ref a0,.none,.none,.none,.bool false,.none]
abbrev gM (x:Addr) (C:Value) (dx:Option Addr):HO:=.ext (ExN x C dx)
def XdP (d:Addr) (fs:List (Str×V)):Heap→Prop:=fun h=>∃ mA,h.Ns1 d mA∧(∀ f,kD (fs.lookup f) (mA f))∧PySem.Within mA (fs.map (·.1))
abbrev XdO (d:Addr) (fs:List (Str×V)):HO:=.ext (XdP d fs)
def ers (H:Hp) (x:Addr):Hp:=fun b=>if b=x then none else H b
theorem mR {H:Hp} {x:Addr}:ers H x x=none:=if_pos rfl
theorem iF {H:Hp} {x b:Addr} (h:b≠x):ers H x b=H b:=if_neg h
theorem ExN.stay {x:Addr} {C:Value} {dx:Option Addr}:∀ h1 h2:Heap,ExN x C dx h1→(∀ ob,h1.get? x=some ob→h2.get? x=some ob)→ExN x C dx h2:=fun _ _ ⟨oe,a,e,b⟩ k=>⟨oe,a,k _ e,b⟩
theorem XdP.stay {d:Addr} {fs:List (Str×V)}:∀ h1 h2:Heap,XdP d fs h1→(∀ ob,h1.get? d=some ob→h2.get? d=some ob)→XdP d fs h2:=fun _ _ ⟨mA,N,r⟩ k=>⟨mA,N.at k,r⟩
section
variable {X:Cx} {pins:List (Addr×Obj)} {σ : St} {H:Hp} {s:Shared} {x C:Addr} {dx:Option Addr}
theorem zC {φ : Heap→Prop} (I:Inv X pins σ H s) (e:H x=some (.ext φ)):Inv X pins σ (ers H x) s:=by
  have nn:∀ b,H b=none→ers H x b=none:=fun b n=>by unfold ers;split <;> first | rfl | exact n
  have ne:∀ b u,H b=some u→(∀ ψ,u≠.ext ψ)→b≠x:=fun b u q n z=>by rw [z,e] at q;cases q;exact n _ rfl
  refine ⟨I.ok,I.os,I.bare,⟨I.base.keep,I.base.slot,fun b ob q n hx=>nn _ (I.base.free b ob q n hx),I.base.there,fun b xs q=>?_,fun b ob u q=>?_,fun b ps q=>?_⟩,I.loc,I.cell,nn _ I.free,fun y c q=>nn _ (I.freeC y c q),fun q hq=>?_,fun b u q=>?_,I.len⟩
  · have:=I.base.tups b xs q;rw [iF (ne _ _ this fun _ z=>by cases z)];exact this
  · have:=I.base.jh b ob u q;rw [iF (ne _ _ this fun _ z=>by cases z)];exact this
  · obtain ⟨m,h⟩:=I.base.ju b ps q
    exact ⟨m,by rw [iF (ne _ _ h fun _ z=>by cases z)];exact h⟩
  · obtain ⟨a,b,r⟩:=I.pin q hq
    exact ⟨a,nn _ b,r⟩
  · by_cases z:b=x
    · rw [z,mR] at q;cases q
    · rw [iF z] at q
      exact (I.hok b u q).stay (fun _ _ _ r=>r) (fun c r=>by rw [iF (ne _ _ r fun _ z=>by cases z)];exact r) fun c xs r=>by rw [iF (ne _ _ r fun _ z=>by cases z)];exact r
end
structure x8 (K:Frag) (mg:Str→Option Value) (R:Str) (CR:Addr):Prop where
  gm:mg R=some (.ref CR)
  sg:specialIn K (.ref CR) "__getattribute__" = some (some (.builtin "type.__getattribute__"))
  rd:readsIn K CR (.type "type")=true
  fc:findCls K (.ref CR) (.type "type") "__init__" = some (.val (.builtin "ValueError.__init__"))
def uO (K:Frag):RL:=fun vs H Q=>∃ (x C:Addr) (dx:Option Addr) (rest:List V),vs = .ref x::rest∧H x=some (gM x (.ref C) dx)∧dU K C eu "ValueError.__new__" = true∧rest.length≤1000∧Q .non H
def Az (K:Frag) (t:TA):TE:=fun σ H Q=>t σ H fun vs H1=>uO K vs H1 Q
theorem Dv {H:Hp} {x:Addr} {o:HO} (h:H x=some o):upd H x o=H:=by
  funext b
  by_cases z:b=x
  · subst z;rw [aB,h]
  · rw [az z]
section
variable {X:Cx}
theorem rP {R:Str} {CR:Addr} {np apos pos:Pos} {e:Expr} {es:List Expr} {t:TA} {pl:Sem Bool} (B:x8 X.K X.mg R CR) (ha:PA X (e::es) t) (hg:Gl X R:=by rfl) (hdb:(R == ("__debug__" : Str))=false:=by decide)
    (hst:starEach (e::es) X.env=(false,eval e X.env)::starEach es X.env:=by rfl) (hpl:(backTo pos (starEach es X.env)).any (·.1)=false:=by rfl)
    (ht:eval (.Call (.Attribute (.Name R np) "__init__" apos) (e::es) [] pos) X.env=(do
      let ov ← eval (.Name R np) X.env
      standAt apos.atName
      let (f,first) ← holding [ov] (getMethod ov "__init__" pl)
      callWith pos f first (backTo pos (starEach (e::es) X.env)) (backToKw pos (keywordEach [] X.env))):=by rfl) :
    PE X (.Call (.Attribute (.Name R np) "__init__" apos) (e::es) [] pos) (Az X.K t):=by
  intro pins s σ H Q I h
  refine PySem.W.methodCall_KW (pl:=pl) (fK I hg B.gm ?_ hdb) ht
  refine method_cls I.kIn B.sg (cls_value I.kIn B.rd B.fc rfl ?_)
  have I0:=I.tok (s.toks+1)
  refine PyProof.Rows.callWith_method1 (first:=[]) (thn (ha pos pins _ σ H _ I0 h) fun us s1 ⟨vs,H1,I1,r,x,C,dx,rest,ev,hx,hC,hz,q⟩=>?_) hst hpl
  subst ev
  cases r with
  | @cons _ u _ us' r0 r1=>
    obtain rfl:u=Value.ref x:=r0
    obtain ⟨⟨oe,a0,e1,e2,e3,e4⟩,_⟩:=(show bU X.prog X.w H1 s1.heap x (gM x (.ref C) dx) from I1.hok x _ hx)
    obtain ⟨nm,q',N,bs,bm,hdct,sn,sub,ab,col,dd,k0,k1,k2,k3,k5,hCC,T⟩:=qf I1.kIn hC
    have hl:us'.length≤sizeLine:=by rw [← r1.length];exact Nat.le_of_lt (small1000 hz)
    obtain ⟨hp,g,d,tk,os⟩:=s1
    show wpAny (model X.prog X.w) X.A (call (.builtin "ValueError.__init__") (.ref x::us')) _ _ _
    refine sU PySem.F.excBase_ValueError T hCC e1 e2 e4 (Nat.zero_lt_succ _) rfl (fun h3 eh=>?_) hl
    obtain ⟨oc,odd,da,sl⟩:=oe
    dsimp only at e2 e3 e4
    subst e2 e3 e4
    have g3:=Heap.get?_update_self (Obj.mapFields (·.setIfInBounds 0 (.ref hp.objs.size))) (Heap.get?_push_of_some { cls:=.type "tuple",data:=.seq us'.toArray } e1) rfl
    rw [← eh] at g3
    have J:=I1.write (x:=x) (e:=x) (o:=gM x (.ref C) odd) (h':=h3) (t':=tk) (by rw [hx];exact True.intro) (.inl rfl) (fun b u nb hb=>by rw [eh,Heap.get?_update_other _ _ (Ne.symm nb)];exact Heap.get?_push_of_some _ hb) ⟨_,g3⟩ ⟨⟨_,_,g3,rfl,rfl,rfl⟩,⟨_,g3⟩,ExN.stay⟩
    rw [Dv hx] at J
    exact ⟨.non,H1,J,rfl,q⟩
end
structure vX (K:Frag) (C:Addr) (f:Str):Prop where
  g:z3 K C
  sa:findIn K (.ref C) "__setattr__" = some (some (.builtin "object.__setattr__"))
  cd:∃ cd,clsIn K C=some cd∧cT cd.mro∧cd.hasDict=true
  tk:takerIn K C f=some none
def FP (K:Frag) (f:Str) (x y:V) (H:Hp) (R:Hp→Prop):Prop:=∃ a C dx,x = .ref a∧H a=some (gM a (.ref C) dx)∧vX K C f ∧
  (dx=none→∀ d,H d=none→R (upd (upd H a (gM a (.ref C) (some d))) d (XdO d [(f,y)])))∧∀ d,dx=some d→∃ fs,H d=some (XdO d fs)∧fs.length < 1000∧R (upd H d (XdO d (br f y fs)))
def Gh (K:Frag) (ta tv:TE) (f:Str):TS:=fun D σ H=>tv σ H fun y H1=>ta σ H1 fun x H2=>FP K f x y H2 fun H3=>D.nx σ H3
section
variable {X:Cx} {pins:List (Addr×Obj)} {σ : St} {H:Hp} {s:Shared}
theorem DH {A:Around} {E:Value→Shared→Prop} {f:Str} {a:Addr} {x y:V} {u:Value} {R:Hp→Prop} {Q:Unit→Shared→Prop} (I:Inv X pins σ H s) (ex:x = .ref a) (ry:RelV y u) (h:FP X.K f x y H R)
    (hq:∀ H' s',Inv X pins σ H' s'→R H'→Q () s'):wpAny (model X.prog X.w) A (setAttr (.ref a) f u) Q E s:=by
  obtain ⟨a',C,dx,ex',ha,P,h0,h1⟩:=h
  rw [ex] at ex'
  cases ex'
  obtain ⟨⟨oe,a0,e1,e2,e3,e4⟩,_⟩:=(show bU X.prog X.w H s.heap a (gM a (.ref C) dx) from I.hok a _ ha)
  obtain ⟨cd,c1,c2,c3⟩:=P.cd
  have nc:notCls oe=true:=by unfold notCls;rw [e4]
  cases dx with
  | none=>
    have J:InstAt s.heap a oe C none:=⟨e1,e2,nc,by rw [e3];trivial⟩
    refine CB I.kIn J P.g P.sa c1 c2 c3 P.tk e3 e4 fun h' t b1 b2 b3=>?_
    have hd:=I.hok.fresh (Nat.le_refl s.heap.objs.size)
    have na:a≠s.heap.objs.size:=Nat.ne_of_lt (Heap.lt_size e1)
    have I1:=I.write (x:=a) (e:=a) (o:=gM a (.ref C) (some s.heap.objs.size)) (h':=h') (t':=t) (by rw [ha];exact True.intro) (.inl rfl) (fun b u nb hb=>b3 b u nb hb) ⟨_,b1⟩ ⟨⟨_,a0,b1,e2,rfl,e4⟩,⟨_,b1⟩,ExN.stay⟩
    have o1:gF X pins (upd H a (gM a (.ref C) (some s.heap.objs.size))) s.heap.objs.size:=gk I (Nat.le_refl _) (by rw [az na.symm];exact hd)
    have pd:XdP s.heap.objs.size [(f,y)] h':=⟨_,b2,fun g=>by
      show kD (List.lookup g [(f,y)]) (if g=f then some u else none)
      by_cases z:g=f
      · subst z;rw [if_pos rfl,lk_hit];exact ry
      · rw [if_neg z,lk_miss (beq_eq_false_iff_ne.mpr z)];trivial,fun g hg=>by
      by_cases z:g=f
      · rw [z];exact List.mem_cons_self
      · exact absurd (show (if g=f then some u else none)=none by rw [if_neg z]) hg⟩
    have I2:=zA I1 o1 pd (let ⟨o,_,_,e,_⟩:=b2;⟨o,e⟩) XdP.stay
    exact hq _ _ I2 (h0 rfl _ hd)
  | some d=>
    obtain ⟨fs,hd,hz,r⟩:=h1 d rfl
    obtain ⟨⟨mA,N,rel,wi⟩,_⟩:=(show bU X.prog X.w H s.heap d (XdO d fs) from I.hok d _ hd)
    obtain ⟨oD,hoD⟩:∃ o,s.heap.get? d=some o:=let ⟨o,_,_,e,_⟩:=N;⟨o,e⟩
    have J:InstAt s.heap a oe C (some oD):=⟨e1,e2,nc,by rw [e3];exact hoD⟩
    have hz':(fs.map (·.1)).length≤sizeLine:=by rw [List.length_map,sizeLine_eq];omega
    refine Cz I.kIn J P.g P.sa c1 c2 c3 P.tk e3 N wi hz' fun h' t b2 sb=>?_
    refine hq _ _ (I.write (x:=d) (e:=d) (o:=XdO d (br f y fs)) (h':=h') (t':=t) (by rw [hd];exact True.intro) (.inl rfl) (fun b u nb hb=>(sb.2 b nb).trans hb) (let ⟨o,_,_,e,_⟩:=b2;⟨o,e⟩) ⟨⟨_,b2,fun g=>?_,fun g hg=>?_⟩,(let ⟨o,_,_,e,_⟩:=b2;⟨o,e⟩),XdP.stay⟩) r
    · show kD ((br f y fs).lookup g) (if g=f then some u else mA g)
      rw [iA]
      by_cases z:g=f
      · rw [if_pos z,if_pos z];exact ry
      · rw [if_neg z,if_neg z];exact rel g
    · by_cases z:g=f
      · rw [z];exact (fX f y fs).1
      · refine (fX f y fs).2 g (wi g fun n=>hg ?_)
        show (if g=f then some u else mA g)=none
        rw [if_neg z];exact n
theorem xg {o value:Expr} {f:Str} {pos pos':Pos} {ta tv:TE} (ha:PE X o ta) (hv:PE X value tv) (hs:swapsWith value (some (.Attribute o f pos')) pos.line X.env=pure false):PS X (.Assign [.Attribute o f pos'] value pos) (Gh X.K ta tv f):=by
  intro pins s σ H D I h
  refine plainObj_wpAny_Assign_Attribute (thn (hv pins s σ H _ I h) fun u s1 ⟨y,H1,I1,ry,q⟩=>thn (ha pins s1 σ H1 _ I1 q) fun ov s2 ⟨x,H2,I2,rx,q2⟩=>?_) hs
  obtain ⟨a,C,dx,ex,r⟩:=id q2
  subst ex
  obtain rfl:ov=Value.ref a:=rx
  exact DH I2 rfl ry q2 fun H3 s3 I3 q3=>⟨σ,H3,I3,q3⟩
end
structure z0 (P:Program) (w:World) (K:Frag) (mg:Str→Option Value) (base:Heap) (x:Str) (C:Addr) (k:Nat) (ps:List Str) (sp:Sp):Prop where
  ok:dU K C eu "ValueError.__new__" = true
  kp:keepIn K (.ref C)=true
  gm:mg x=some (.ref C)
  fn:∃ f fd,findIn K (.ref C) "__init__" = some (some (.ref f))∧typeIn K (.ref f)=some (.type "function")∧fF P w K mg base (CX1 P w) k f fd ps sp∧Binds K fd ps []
def Rz (C x:Addr) (Ex:XK) (r:V) (H:Hp):Prop:=r = .non∧∃ dx,H x=some (gM x (.ref C) dx)∧(dx=none→Ex (.ref C) none (ers H x))∧∀ d,dx=some d→∃ fs,H d=some (XdO d fs)∧d≠x∧Ex (.ref C) (some d) (upd (ers H x) d (.xd fs))
def wG (C:Addr) (sp:Sp) (Ex:St→XK) (tl:TA):TS:=fun _ σ H=>tl σ H fun vs H1=>vs.length≤1000∧∀ x,H1 x=none→sp (.ref x::vs) (upd H1 x (gM x (.ref C) none)) (Rz C x (Ex σ)) fun _ _ _=>False
theorem n9 {X:Cx} {Ex:St→XK} {x:Str} {C:Addr} {k:Nat} {ps:List Str} {sp:Sp} {e:Expr} {es:List Expr} {t:TA} {np cpos pos:Pos} (O:z0 X.prog X.w X.K X.mg X.base x C k ps sp) (hr:bX (k+1) X.A) (hc:X.calm=true) (hx:PaX X Ex) (ha:PA X (e::es) t) (hg:Gl X x:=by rfl)
    (hdb:(x == ("__debug__" : Str))=false:=by decide) (he:starEach (e::es) X.env=(false,eval e X.env)::starEach es X.env:=by rfl) (hpl:(backTo cpos (starEach es X.env)).any (·.1)=false:=by rfl) :
    PS X (.Raise (some (.Call (.Name x np) (e::es) [] cpos)) none pos) (wG C sp Ex t):=by
  intro pins s σ H D I h
  obtain ⟨f,fd,fi,ft,F,fb⟩:=O.fn
  obtain ⟨nm,q,N,bs,bm,hdct,sn,sub,ab,col,dd,k0,k1,k2,k3,k5,hC,T⟩:=qf I.ok.mod.kin O.ok
  rw [arm_exec_Raise]
  refine wpAny_bind (wpAny_standAt (lX (C:=C) (nm:=nm) (q:=q) (N:=N) (bs:=bs) (bm:=bm) (hdct:=hdct) (sn:=sn) (sub:=sub) (ab:=ab) (col:=col) (dd:=dd) (k0:=k0) (k1:=k1) (k2:=k2) (k3:=k3) (k5:=k5) (newId:="ValueError.__new__") (T.hasType (by decide +kernel)) (I.ok.hd hc) (wpAny_bind ?_)))
  refine wpAny_Call_Name_kw (fK I hg O.gm ?_ hdb)
  refine callWith_K (h₀:=X.base) I.ok.mod.kin O.kp (thn (ha cpos pins s σ H _ I h) fun us s1 ⟨vs,H1,I1,r,hz,qx⟩=>⟨I1.kIn,?_⟩) he hpl
  have hl:us.length≤sizeLine:=by rw [← r.length];exact Nat.le_of_lt (small1000 hz)
  have T1:=T.keeps I1.bk
  have hC1:=I1.bk _ _ hC
  have nx:=I1.hok.fresh (Nat.le_succ s1.heap.objs.size)
  have hq:=qx _ nx
  have I2:=I1.laid (a:=s1.heap.objs.size+1) (o:=gM (s1.heap.objs.size+1) (.ref C) none) (h':=vB s1.heap C us) (t':=s1.toks) cV (Nat.le_succ _) ⟨⟨_,_,iE,rfl,rfl,rfl⟩,⟨_,iE⟩,ExN.stay⟩
  have r2:Vals (V.ref (s1.heap.objs.size+1)::vs) (Value.ref (s1.heap.objs.size+1)::us):=.cons rfl r
  have hl2:(Value.ref (s1.heap.objs.size+1)::us).length=ps.length:=by rw [← r2.length];exact F.len _ _ _ _ hq
  have hb':=fb _ (Value.ref (s1.heap.objs.size+1)::us) I2.kIn (by rw [List.append_nil];exact hl2)
  rw [List.append_nil] at hb'
  obtain ⟨hp,g,d,tk,os⟩:=s1
  show wpAny (model X.prog X.w) X.A (call (.ref C) us) _ _ _
  refine sV PySem.F.excBase_ValueError T1 hC1 (looks_findIn I1.kIn fi) (fun self=>bind_fn I1.kIn self ft) ?_ hl
  refine wpAny_call (codeAny_mono (F.run _ X.stack _ _ ⟨Value.ref (hp.objs.size+1)::us,[]⟩ (Value.ref (hp.objs.size+1)::us) _ _ (fun _ _ _=>False) (hr.make C us []) (I2.Fx.make C us []) hb' r2 hq) fun r s' hq'=>?_)
  cases r with
  | error e=>exact (vd _ _ _ _ _ hq').elim
  | ok fl=>
    cases fl with
    | ret u=>
      obtain ⟨v,H3,I3,rv,ev,dx,hx3,q0,q1⟩:=I2.after hq'
      subst ev
      refine ⟨rv,?_⟩
      obtain ⟨⟨oe,a0,e1,e2,e3,e4⟩,_⟩:=(show bU X.prog X.w H3 s'.heap (hp.objs.size+1) (gM (hp.objs.size+1) (.ref C) dx) from I3.hok _ _ hx3)
      have ea:ExcAt s'.heap (hp.objs.size+1) (.ref C) dx none .none:=⟨oe,_,e1,e2,e3,e4,rfl,fun t ht=>by cases ht⟩
      have I4:=zC I3 hx3
      have hCs:=I3.bk _ _ hC
      refine wpAny_bind (wpAny_standAt (wpAny_pure ⟨_,oe,_,rfl,hCs,e1,e2,e4,rfl,hx _ _ ?_⟩))
      cases dx with
      | none=>exact ⟨pins,σ,_,hp.objs.size+1,.ref C,none,none,.none,rfl,I4,ea,.inl rfl,gk I1 (Nat.le_succ _) mR,(fun t ht=>by cases ht),q0 rfl⟩
      | some d=>
        obtain ⟨fs,hd,nd,qd⟩:=q1 d rfl
        obtain ⟨⟨mA,N',rel,_⟩,od,_⟩:=(show bU X.prog X.w H3 s'.heap d (XdO d fs) from I3.hok _ _ hd)
        have hd4:ers H3 (hp.objs.size+1) d=some (XdO d fs):=by rw [iF nd];exact hd
        have I5:=I4.write (x:=d) (e:=d) (o:=.xd fs) (h':=s'.heap) (t':=s'.toks) (by rw [hd4];exact True.intro) (.inl rfl) (fun b u _ hb=>hb) od ⟨mA,N',rel⟩
        exact ⟨pins,σ,_,hp.objs.size+1,.ref C,some d,none,.none,rfl,I5,ea,.inl rfl,gk I1 (Nat.le_succ _) (by rw [az (Ne.symm nd)];exact mR),(fun t ht=>by cases ht),qd⟩
    | _=>exact False.elim hq'
structure xY (k:Nat) (A:Around):Prop where
  dp:A.depth+3 * k+5 < recursionLimit
  un:A.units+16 * k+200 < cLine
theorem xY.mark {k:Nat} {A:Around} (r:xY k A) (h:Option Value):xY k (A.mark h):=⟨r.dp,r.un⟩
structure Lz (P:Program) (w:World) (K:Frag) (mg:Str→Option Value) (base:Heap) (CX:CXT) (k:Nat) (f:Addr) (fd:FuncData) (ps:List Str) (sp:Sp):Prop where
  len:∀ vs H Q E,sp vs H Q E→vs.length=ps.length
  run:∀ (A:Around) (outer:List Env) (s:Shared) (H:Hp) (args:Args) (us:List Value) (vs:List V) (Q:VK) (E:XK),xY k A→tS P w K mg base A outer s H→BindsTo s fd args (ps.zip us)→Vals vs us→sp vs H Q E →
    codeAny (model P w) A (.call (.ref f) args) (CR CX outer P w H s Q E) s
structure MC (P:Program) (w:World) (K:Frag) (mg:Str→Option Value) (base:Heap) (CX:CXT) (x:Str) (k:Nat) (ps:List Str) (sp:Sp):Prop where
  ex:∃ f fd,Lz P w K mg base CX k f fd ps sp∧Binds K fd ps []∧PySem.W.keepIn K (.ref f)=true∧mg x=some (.ref f)
theorem DB {α : Type} {o:Option α} {x : α} (e:o=some x):o.isSome=true:=by rw [e];rfl
theorem iW {K:Frag} {C:Addr} {bmB:List Value} {newId:String} (q:excIn K C bmB newId=true):dU K C bmB newId=true:=by
  unfold excIn at q
  unfold dU
  split at q
  · rename_i dd cd sl ho
    split at q
    · rename_i C' bm k0 k1 k2 k3 n k5 hm hs
      simp only [Bool.and_eq_true] at q
      simp only [ho,hm,hs,Bool.and_eq_true]
      exact q.1.1
    · cases q
  · cases q
theorem CC {K:Frag} {C CR:Addr} {newId:String} {dd:Option Addr} {cd:ClassData} {k0 k1 k2 k3 k5:Option Value} (l:K.lookup C=some ⟨.type "type",dd,.cls cd,#[k0,k1,k2,k3,some (.builtin newId),k5]⟩) (hm:cd.mro = .ref C::.ref CR::eu) (EV:cd.hasDel=false) (q:excIn K CR eu newId=true):dU K C eu newId=true:=by
  have hv:tailIn K eu eu=true:=by
    show tailIn K eu (.type "ValueError" :: [.type "Exception",.type "BaseException",.type "object"])=true
    unfold tailIn
    rw [show ((Value.type "ValueError" :: [Value.type "Exception",.type "BaseException",.type "object"]) == eu)=true from beq_self_eq_true eu,Bool.true_or]
  have ht:tailIn K eu (.ref CR::eu)=true:=by
    unfold excIn at q
    unfold tailIn
    refine Bool.or_eq_true_iff.mpr (.inr ?_)
    split at q
    · rename_i ho
      split at q
      · simp only [Bool.and_eq_true] at q
        simp only [ho,Bool.and_eq_true]
        exact ⟨⟨q.1.2,q.2⟩,hv⟩
      · cases q
    · cases q
  unfold dU
  simp only [l,hm]
  simp [EV,ht]
theorem cT.two {C CR:Addr}:cT (.ref C::.ref CR::eu):=.own (.own .base)
structure tT (K:Frag) (mg:Str→Option Value) (x qual:Str) (C:Addr) (st:Stmt) (ps:List Str):Prop where
  ok:dU K C eu "ValueError.__new__" = true
  kp:keepIn K (.ref C)=true
  gm:mg x=some (.ref C)
  ex:∃ f fd,Fun K "__init__" qual st f fd∧Binds K fd ps []∧findIn K (.ref C) "__init__" = some (some (.ref f))∧typeIn K (.ref f)=some (.type "function")
section
variable {P:Program} {w:World} {K:Frag} {mg:Str→Option Value} {base:Heap} {x qual:Str} {C:Addr} {st:Stmt} {N ps:List Str} {k:Nat} {sp:Sp}
theorem Fy {h:Heap} (X:K.In h) (G:h.Ns mainGlobals mg) {f:Addr} {oc:Value} {od an:Option Addr} {osl:Array (Option Value)} {kV doc pm cdv ct:Value} (aC:nsIn K mainGlobals x=some (some (.ref C))) (o:dU K C eu "ValueError.__new__" = true)
    (a:findIn K (.ref C) "__init__" = some (some (.ref f))) (i:typeIn K (.ref f)=some (.type "function"))
    (l:K.lookup f=some ⟨oc,od,.func (fnOf "__init__" qual (bC st) (bf st) (ak st) .none kV doc pm an cdv ct),osl⟩) (c:codeIn K cdv qual=true) (kp:keepIn K (.ref f)=true) (kc:keepIn K (.ref C)=true)
    (b:∀ (kV doc pm:Value) (an:Option Addr) (cdv ct:Value) (us:List Value),us.length=ps.length→bindArgs (fnOf "__init__" qual (bC st) (bf st) (ak st) .none kV doc pm an cdv ct) ⟨us,[]⟩=pure (ps.zip us)):tT K mg x qual C st ps:=by
  have F:=qb (st:=st) l c kp
  exact ⟨o,kc,mg_of X G aC,f,_,F,F.binds b,a,i⟩
theorem tT.ok' (D:tT K mg x qual C st ps) (S:ay N ps (ak st)) (len:∀ vs H Q E,sp vs H Q E→vs.length=ps.length)
    (hbody:∀ (f:Addr) (cdv:Value) (A:Around) (outer:List Env) (s:Shared) (H:Hp) (vs:List V) (Q:VK) (E:XK),bX k (A.deeper (envOfC qual (ak st) s.heap.objs.size f cdv))→sp vs H Q E →
      ∃ t,PSs (aZ (CX1 P w) P w K mg base N qual (ak st) f cdv A outer s H E).nox (bf st) t∧t { nx:=fun _ H'=>Q .non H',rt:=Q } (start N vs) H):z0 P w K mg base x C (k+1) ps sp:=by
  obtain ⟨f,fd,F,b,a,i⟩:=D.ex
  exact ⟨D.ok,D.kp,D.gm,f,fd,a,i,mO F S len hbody,b⟩
end
section
variable {K:Frag} {σ : St} {H:Hp} {Q:VK} {D:Ends} {tl:TA} {ta tv:TE} {sp:Sp} {Ex:St→XK} {C:Addr}
theorem Fq (h:tl σ H fun vs H1=>uO K vs H1 Q):Az K tl σ H Q:=h
theorem sQ {x:Addr} {dx:Option Addr} {v:V} (e:H x=some (gM x (.ref C) dx)) (k:dU K C eu "ValueError.__new__" = true) (h:Q .non H):uO K [.ref x,v] H Q:=⟨x,C,dx,[v],rfl,e,k,(by show 1≤1000;decide),h⟩
theorem E7 {f:Str} (h:tv σ H fun y H1=>ta σ H1 fun x H2=>FP K f x y H2 fun H3=>D.nx σ H3):Gh K ta tv f D σ H:=h
theorem Cn {f:Str} {a:Addr} {y:V} {R:Hp→Prop} (e:H a=some (gM a (.ref C) none)) (P:vX K C f) (h:∀ d,H d=none→R (upd (upd H a (gM a (.ref C) (some d))) d (XdO d [(f,y)]))):FP K f (.ref a) y H R:=⟨a,C,none,rfl,e,P,fun _=>h,fun d z=>by cases z⟩
def xZ (C:Addr) (sp:Sp) (Ex:XK) (vs:List V) (H:Hp):Prop:=vs.length≤1000∧∀ x,H x=none→sp (.ref x::vs) (upd H x (gM x (.ref C) none)) (Rz C x Ex) fun _ _ _=>False
theorem Co (h:tl σ H fun vs H1=>xZ C sp (Ex σ) vs H1):wG C sp Ex tl D σ H:=h
def jx (C:Addr) (f:Str):Sp:=fun vs H Q _=>∃ x v,vs=[.ref x,v]∧H x=some (gM x (.ref C) none)∧∀ d,H d=none→Q .non (upd (upd H x (gM x (.ref C) (some d))) d (XdO d [(f,v)]))
theorem oB {E:XK} {v:V} {f:Str} (h:∀ d H',aF H H'→H' d=some (.xd [(f,v)])→E (.ref C) (some d) H'):xZ C (jx C f) E [v] H:=by
  refine ⟨(by show 1≤1000;decide),fun x nx=>⟨x,v,rfl,aB,fun d nd=>⟨rfl,some d,?_,(fun z=>by cases z),fun d' z=>?_⟩⟩⟩
  · have ne:x≠d:=fun z=>by rw [z,aB] at nd;cases nd
    rw [az ne,aB]
  · cases z
    have ne:d≠x:=fun z=>by rw [z,aB] at nd;cases nd
    have nd':H d=none:=by rw [az ne] at nd;exact nd
    refine ⟨_,aB,ne,h d _ (fun b o e=>?_) aB⟩
    rw [az (aJ e nd'),iF (aJ e nx),az (aJ e nd'),az (aJ e nx),az (aJ e nx)]
    exact e
end
section
theorem Aq {l:PySem.W.OpenLaw} {n k:Nat} {q:Program} {loose:List Str} {XP:(Str→Option Value)→Heap→Prop} {YP:World→Heap→Prop} {d:DefRec} {K:Params→PySem.W.Frag} {CX:Program→World→CXT} {sp:PySem.W.Frag→Sp} {x:Str}
    (hn:l.most=some n) (hn2:n≤sizeLine) (hdf:d.params.defaults=[]) (hr:bX k callerA)
    (hY:∀ (w:World) (h:Heap),YP w h→(K w.params).In h)
    (F:∀ (w:World) (mg:Str→Option Value) (fa:Addr) (h:Heap),(K w.params).In h→h.Ns mainGlobals mg→mg d.name=some (.ref fa) →
      ∃ fd:FuncData,(∀ (s:Shared) (u:Value),BindsTo s fd ⟨[u],[]⟩ [(x,u)]) ∧
        ∀ base:Heap,(K w.params).In base→base.Ns mainGlobals mg→fF l.prog w (K w.params) mg base (CX l.prog w) k fa fd [x] (sp (K w.params)))
    (hsp:∀ (K:PySem.W.Frag) (H:Hp) (a:Addr) (ns:List Int),ns.length≤n→FU H→SqL K H a (ns.map V.int)→sp K [.ref a] H (fun v _=>v = .bl true) fun _ _ _=>False)
    (hCX:∀ (P:Program) (w:World) (H:Hp) (s:Shared) (e:Value) (s':Shared),CX P w [] H s (fun _ _ _=>False) e s'→False) :
    PySem.W.WalkO q loose XP YP l.row.toRowW d [] (fun f vs=>PySem.call f vs):=
  Du (K:=K) (CX:=fun w=>CX l.prog w) (sp:=fun w=>sp (K w.params)) hn hn2 hdf hr hY F (fun w H a ns h1 h2 h3=>hsp (K w.params) H a ns h1 h2 h3) fun w H s e s'=>hCX l.prog w H s e s'
end
end L4
namespace L4
open PySem PySem.Spec PyProof.Rows L2 L3
theorem GL {bs:List Bool} {us:List Value} (rv:Vals (bs.map V.bl) us) {i:Nat} {v:Value} (e:us[i]?=some v):∃ b,bs[i]?=some b∧v = .bool b:=by
  have hi:i < bs.length:=by
    have h1:=(List.getElem?_eq_some_iff.mp e).1
    have h2:=rv.length
    rw [List.length_map] at h2
    omega
  obtain ⟨u,hu,ru⟩:=rv.get (i:=i) (x:=V.bl bs[i]) (by rw [List.getElem?_map,List.getElem?_eq_getElem hi];rfl)
  rw [e] at hu
  cases hu
  cases ru
  exact ⟨_,List.getElem?_eq_getElem hi,rfl⟩
theorem uN (bs:List Bool):((List.range bs.length).all fun i=>(bs[i]?).getD true)=bs.all id:=by
  rw [Bool.eq_iff_iff,List.all_eq_true,List.all_eq_true]
  constructor
  · intro h b hb
    obtain ⟨i,hi,e⟩:=List.getElem_of_mem hb
    have:=h i (List.mem_range.mpr hi)
    rw [List.getElem?_eq_getElem hi,Option.getD_some,e] at this
    exact this
  · intro h i hi
    have hi':=List.mem_range.mp hi
    rw [List.getElem?_eq_getElem hi',Option.getD_some]
    exact h _ (List.getElem_mem hi')
theorem uM (bs:List Bool):((List.range bs.length).any fun i=>(bs[i]?).getD false)=bs.any id:=by
  rw [Bool.eq_iff_iff,List.any_eq_true,List.any_eq_true]
  constructor
  · rintro ⟨i,hi,e⟩
    have hi':=List.mem_range.mp hi
    rw [List.getElem?_eq_getElem hi',Option.getD_some] at e
    exact ⟨_,List.getElem_mem hi',e⟩
  · rintro ⟨b,hb,e⟩
    obtain ⟨i,hi,rfl⟩:=List.getElem_of_mem hb
    exact ⟨i,List.mem_range.mpr hi,by rw [List.getElem?_eq_getElem hi,Option.getD_some];exact e⟩
theorem xw {s:Shared} {h':Heap} {o:Obj} (hk:∀ b x,b∉[s.heap.objs.size]→(s.heap.push o).get? b=some x→h'.get? b=some x):∀ b x,s.heap.get? b=some x→h'.get? b=some x:=
  fun b x e=>hk b x (fun hm=>by rw [List.mem_singleton.mp hm] at e;exact Nat.lt_irrefl _ (Heap.lt_size e)) (Heap.get?_push_of_some _ e)
def Ko (K:PySem.W.Frag):RL:=fun xs H Q=>∃ (p:Addr) (bs:List Bool),xs=[.ref p]∧SqL K H p (bs.map V.bl)∧Q (.bl (bs.all id)) H
def Kn (K:PySem.W.Frag):RL:=fun xs H Q=>∃ (p:Addr) (bs:List Bool),xs=[.ref p]∧SqL K H p (bs.map V.bl)∧Q (.bl (bs.any id)) H
def Bv (K:PySem.W.Frag):R2:=fun x y H Q=>∃ a b xs ys,x = .ref a∧y = .ref b∧SqT K H a xs∧SqT K H b ys∧xs.length+ys.length≤sizeLine ∧
  (xs=[]→Q (.ref b) H)∧(xs≠[]→ys=[]→Q (.ref a) H)∧(xs≠[]→ys≠[]→∀ p,H p=none→Q (.ref p) (upd H p (.tup (xs++ys))))
section
variable {X:Cx}
theorem CQ (hc:X.calm=true):cK X (.builtin "all") (Ko X.K):=by
  intro pins s σ H xs us Q I r h
  obtain ⟨p,bs,rfl,hq,q⟩:=h
  obtain ⟨u,rfl,rx⟩:=vals1 r
  cases rx
  obtain ⟨its,rv,pl,hz⟩:=I.list hq
  have hl:=pl.isList
  have hlt:p < s.heap.objs.size:=by obtain ⟨_,e,_⟩:=hl;exact Heap.lt_size e
  have hlen:its.length=bs.length:=by rw [← rv.length,List.length_map]
  refine call_all_walk (wpAny_pyIter_list hl ?_)
  refine ⟨s.heap.objs.size,[s.heap.objs.size,p],[s.heap.objs.size],its.toArray.size,_,_,fun i=>(bs[i]?).getD true,rfl,Walks.list (A:=X.A.in1) (I.ok.hd hc) _ p (Nat.ne_of_lt hlt) its.toArray,
    ⟨⟨_,Heap.get?_push_size _ rfl,rfl,rfl⟩,hl.push _⟩,fun i v s' Q' E' hP hQ=>?_,fun h' tk hk=>?_⟩
  · obtain ⟨b,e,rfl⟩:=GL rv (i:=i) (v:=v) (by simpa using hP)
    simp only [e,Option.getD_some] at hQ
    exact wpAny_truthy_bool hQ
  · have e:((List.range its.toArray.size).all fun i=>(bs[i]?).getD true)=bs.all id:=by
      rw [List.size_toArray,hlen];exact uN bs
    rw [e]
    exact ⟨.bl _,H,I.kept (xw hk),rfl,q⟩
theorem CP (hc:X.calm=true):cK X (.builtin "any") (Kn X.K):=by
  intro pins s σ H xs us Q I r h
  obtain ⟨p,bs,rfl,hq,q⟩:=h
  obtain ⟨u,rfl,rx⟩:=vals1 r
  cases rx
  obtain ⟨its,rv,pl,hz⟩:=I.list hq
  have hl:=pl.isList
  have hlt:p < s.heap.objs.size:=by obtain ⟨_,e,_⟩:=hl;exact Heap.lt_size e
  have hlen:its.length=bs.length:=by rw [← rv.length,List.length_map]
  refine call_any_walk (wpAny_pyIter_list hl ?_)
  refine ⟨s.heap.objs.size,[s.heap.objs.size,p],[s.heap.objs.size],its.toArray.size,_,_,fun i=>(bs[i]?).getD false,rfl,Walks.list (A:=X.A.in1) (I.ok.hd hc) _ p (Nat.ne_of_lt hlt) its.toArray,
    ⟨⟨_,Heap.get?_push_size _ rfl,rfl,rfl⟩,hl.push _⟩,fun i v s' Q' E' hP hQ=>?_,fun h' tk hk=>?_⟩
  · obtain ⟨b,e,rfl⟩:=GL rv (i:=i) (v:=v) (by simpa using hP)
    simp only [e,Option.getD_some] at hQ
    exact wpAny_truthy_bool hQ
  · have e:((List.range its.toArray.size).any fun i=>(bs[i]?).getD false)=bs.any id:=by
      rw [List.size_toArray,hlen];exact uM bs
    rw [e]
    exact ⟨.bl _,H,I.kept (xw hk),rfl,q⟩
theorem gp:OpR X (binaryOp .Add) (Bv X.K):=by
  intro pins s σ H x y v u Q I rx ry h
  obtain ⟨a,b,xs,ys,rfl,rfl,ha,hb,hz,q0,q1,q2⟩:=h
  cases rx
  cases ry
  obtain ⟨its,r1,p1,_⟩:=I.tuple ha
  obtain ⟨its2,r2,p2,_⟩:=I.tuple hb
  obtain ⟨⟨cls,dd,data,sl⟩,ho,hc,n,hd⟩:=id p1
  obtain ⟨⟨cls2,dd2,data2,sl2⟩,ho2,hc2,n2,hd2⟩:=id p2
  simp only at hc hd hc2 hd2
  subst hc hd hc2 hd2
  have e:its.toArray++its2.toArray=(its++its2).toArray:=by simp
  have hsz:its.length+its2.length≤sizeLine:=by rw [← r1.length,← r2.length];exact hz
  by_cases hv:its=[]
  · exact concat_meets ⟨_,ho,rfl⟩ ⟨_,ho2,rfl⟩ noFill_tuple_add seq_tuple_add PySem.F.slot_tuple_add PySem.F.entry_tuple_add (PySem.F.args_tuple_add_2 _ _)
      (tuple_addW0 a b its.toArray its2.toArray n n2 dd dd2 sl sl2 (by simp [hv])) ⟨ho,ho2,⟨.ref b,H,I,rfl,q0 (r1.lJ.mp hv)⟩⟩
  · have hx:xs≠[]:=fun z=>hv (r1.lJ.mpr z)
    by_cases hw:its2=[]
    · exact concat_meets ⟨_,ho,rfl⟩ ⟨_,ho2,rfl⟩ noFill_tuple_add seq_tuple_add PySem.F.slot_tuple_add PySem.F.entry_tuple_add (PySem.F.args_tuple_add_2 _ _)
        (tuple_addW1 a b its.toArray its2.toArray n n2 dd dd2 sl sl2 (by simpa using hv) (by simp [hw])) ⟨ho,ho2,⟨.ref a,H,I,rfl,q1 hx (r2.lJ.mp hw)⟩⟩
    · have hy:ys≠[]:=fun z=>hw (r2.lJ.mpr z)
      refine concat_meets ⟨_,ho,rfl⟩ ⟨_,ho2,rfl⟩ noFill_tuple_add seq_tuple_add PySem.F.slot_tuple_add PySem.F.entry_tuple_add (PySem.F.args_tuple_add_2 _ _)
        (tuple_addW2 a b its.toArray its2.toArray n n2 dd dd2 sl sl2 (by simpa using hv) (by simpa using hw) (by rw [List.size_toArray,List.size_toArray];exact hsz)) ⟨ho,ho2,?_⟩
      rw [e]
      refine ⟨.ref s.heap.objs.size,_,I.laid (t':=s.toks) (o:=.tup (xs++ys)) (fun b ob q=>Heap.get?_push_of_some _ q) (Nat.le_refl _) ?_,rfl,q2 hx hy _ (I.hok.fresh (Nat.le_refl _))⟩
      exact ⟨by rw [List.length_append];exact hz,_,r1.append r2,IsTup.new _ _⟩
theorem cH {K:PySem.W.Frag} (h:X.K=K):IxR X (D8 K):=h▸ao
end
section
variable {K:PySem.W.Frag} {H:Hp} {Q:VK} {p:Addr} {P:Addr→Prop} {H0:Hp} {l:List (Addr×Ob)} {fs:List Pr} {a b:Addr} {xs ys:List V}
theorem Jj {bs:List Bool} (s:SqL K H p (bs.map V.bl)) (h:Q (.bl (bs.all id)) H):Ko K [.ref p] H Q:=⟨p,bs,rfl,s,h⟩
theorem Jh {bs:List Bool} (s:SqL K H p (bs.map V.bl)) (h:Q (.bl (bs.any id)) H):Kn K [.ref p] H Q:=⟨p,bs,rfl,s,h⟩
theorem vv (L:Led P H0 H l fs) (m1:aH a xs∈fs) (m2:aH b ys∈fs) (hz:xs.length+ys.length≤sizeLine) (h:∀ t H',Led P H0 H' l (aH t (xs++ys)::fs)→aF H H'→Q (.ref t) H'):Bv K (.ref a) (.ref b) H Q:=by
  refine ⟨a,b,xs,ys,rfl,rfl,SqT.of (L.tup m1),SqT.of (L.tup m2),hz,fun z=>?_,fun _ z=>?_,fun _ _ t nt=>?_⟩
  · subst z
    exact h b H (L.more (aH b ([]++ys)) (L.tup m2)) (aF.refl _)
  · subst z
    exact h a H (L.more (aH a (xs++[])) (by rw [List.append_nil];exact L.tup m1)) (aF.refl _)
  · exact h t _ (L.EI nt) (ck nt)
end
end L4
namespace L4
open PySem PySem.Spec PyProof.Rows L2 L3 PySem.W
structure bB (P:Program) (w:World) (K:Frag) (mg:Str→Option Value) (base:Heap) (CX:CXT) (C:Addr) (m:Str) (k:Nat) (ps:List Str) (sp:Sp):Prop where
  cl:Cls K C
  ex:∃ f fd,Meth K C m f∧fF P w K mg base CX k f fd ps sp∧Binds K fd ps []
section
variable {P:Program} {w:World} {K:Frag} {mg:Str→Option Value} {base:Heap} {CX:CXT} {x qual:Str} {C:Addr} {st:Stmt} {N ps:List Str} {k j:Nat} {sp sp':Sp}
theorem eT (D:cC K C x qual st ps) (S:ay N ps (ak st)) (len:∀ vs H Q E,sp vs H Q E→vs.length=ps.length)
    (hbody:∀ (f:Addr) (cdv:Value) (A:Around) (outer:List Env) (s:Shared) (H:Hp) (vs:List V) (Q:VK) (E:XK),bX k (A.deeper (envOfC qual (ak st) s.heap.objs.size f cdv))→sp vs H Q E →
      ∃ t,PSs (aZ CX P w K mg base N qual (ak st) f cdv A outer s H E).nox (bf st) t∧t { nx:=fun _ H'=>Q .non H',rt:=Q } (start N vs) H):bB P w K mg base CX C x (k+1) ps sp:=by
  obtain ⟨f,fd,F,b,m,c⟩:=D.ex
  exact ⟨c,f,fd,m,mO F S len hbody,b⟩
theorem di (D:cC K C x qual st ps) (S:ay N ps (ak st)) (len:∀ vs H Q E,sp vs H Q E→vs.length=ps.length)
    (hbody:∀ (f:Addr) (cdv:Value) (A:Around) (outer:List Env) (s:Shared) (H:Hp) (vs:List V) (Q:VK) (E:XK),bX k (A.deeper (envOfC qual (ak st) s.heap.objs.size f cdv))→sp vs H Q E →
      ∃ t,PSs (xcx (aZ (CX1 P w) P w K mg base N qual (ak st) f cdv A outer s H E) (fun _=>E)) (bf st) t∧t { nx:=fun _ H'=>Q .non H',rt:=Q } (start N vs) H):bB P w K mg base (CX1 P w) C x (k+1) ps sp:=by
  obtain ⟨f,fd,F,b,m,c⟩:=D.ex
  obtain ⟨oc,od,kV,doc,pm,an,cdv,ct,osl,rfl,lk,hcd⟩:=F.ex
  refine ⟨c,f,_,m,sR lk hcd S len fun A outer s H vs Q E hr hsp=>?_,b⟩
  obtain ⟨t,ht,q⟩:=hbody f cdv A outer s H vs Q E hr hsp
  exact ⟨t,L4.PSs.x ht qR,q⟩
theorem bY {f:Addr} {oc:Value} {od an:Option Addr} {osl:Array (Option Value)} {kV doc pm cdv ct:Value} (c:Cls K C) (a:findIn K (.ref C) x=some (some (.ref f))) (i:isFn K (.ref f)=true)
    (l:K.lookup f=some ⟨oc,od,.func (fnOf x qual (bC st) (bf st) (ak st) .none kV doc pm an cdv ct),osl⟩) (cd:codeIn K cdv qual=true) (kp:keepIn K (.ref f)=true)
    (b:∀ (kV doc pm:Value) (an:Option Addr) (cdv ct:Value) (us:List Value),us.length=ps.length→bindArgs (fnOf x qual (bC st) (bf st) (ak st) .none kV doc pm an cdv ct) ⟨us,[]⟩=pure (ps.zip us)):cC K C x qual st ps:=by
  have F:=qb (st:=st) l cd kp
  exact ⟨f,_,F,F.binds b,⟨a,i,kp⟩,c⟩
end
section
variable {X:Cx} {CX:CXT} {k:Nat} {C:Addr} {ps:List Str} {sp:Sp} {E:XK} {Ex:St→XK} {m:Str} {pos apos:Pos} {e o:Expr} {es:List Expr} {ta:TE} {t:TA}
theorem iy {pl:Sem Bool} (M:bB X.prog X.w X.K X.mg X.base CX C m k ps sp) (hr:bX k X.A) (hx:Passes CX X E) (he:PE X o ta) (ha:PA X (e::es) t)
    (hst:starEach (e::es) X.env=(false,eval e X.env)::starEach es X.env:=by rfl) (hpl:(backTo pos (starEach es X.env)).any (·.1)=false:=by rfl)
    (ht:eval (.Call (.Attribute o m apos) (e::es) [] pos) X.env=(do
      let ov ← eval o X.env
      standAt apos.atName
      let (f,first) ← holding [ov] (getMethod ov m pl)
      callWith pos f first (backTo pos (starEach (e::es) X.env)) (backToKw pos (keywordEach [] X.env))):=by rfl) :
    PE X (.Call (.Attribute o m apos) (e::es) [] pos) (qX C m sp [] E ta t):=by
  obtain ⟨f,fd,hm,F,b⟩:=M.ex
  exact Eb he M.cl hm F hr b .nil hx ha hst hpl ht
theorem fP {pl:Sem Bool} (M:bB X.prog X.w X.K X.mg X.base CX C m k ps sp) (hr:bX k X.A) (hx:Passes CX X E) (he:PE X o ta)
    (ht:eval (.Call (.Attribute o m apos) [] [] pos) X.env=(do
      let ov ← eval o X.env
      standAt apos.atName
      let (f,first) ← holding [ov] (getMethod ov m pl)
      callWith pos f first (backTo pos (starEach [] X.env)) (backToKw pos (keywordEach [] X.env))):=by rfl) :
    PE X (.Call (.Attribute o m apos) [] [] pos) (qX C m sp [] E ta qW):=by
  obtain ⟨f,fd,hm,F,b⟩:=M.ex
  exact BA he M.cl hm F hr b .nil hx ht
def uw (C:Addr) (m:Str) (sp:Sp) (Ex:St→XK) (ta:TE) (t:TA):TE:=fun σ H Q=>ta σ H fun x H1=>∃ a dx fs,x = .ref a∧H1 a=some (.ins C dx fs)∧fs.lookup m=none∧t σ H1 fun vs H2=>sp (x::vs) H2 Q (Ex σ)
theorem l0 {pl:Sem Bool} (M:bB X.prog X.w X.K X.mg X.base (CX1 X.prog X.w) C m k ps sp) (hr:bX k X.A) (hx:PaX X Ex) (he:PE X o ta) (ha:PA X (e::es) t)
    (hst:starEach (e::es) X.env=(false,eval e X.env)::starEach es X.env:=by rfl) (hpl:(backTo pos (starEach es X.env)).any (·.1)=false:=by rfl)
    (ht:eval (.Call (.Attribute o m apos) (e::es) [] pos) X.env=(do
      let ov ← eval o X.env
      standAt apos.atName
      let (f,first) ← holding [ov] (getMethod ov m pl)
      callWith pos f first (backTo pos (starEach (e::es) X.env)) (backToKw pos (keywordEach [] X.env))):=by rfl) :
    PE X (.Call (.Attribute o m apos) (e::es) [] pos) (uw C m sp Ex ta t):=by
  obtain ⟨f,fd,hm,F,b⟩:=M.ex
  intro pins s σ H Q I h
  refine methodCall_KW (pl:=pl) (thn (he pins s σ H _ I h) fun u s1 ⟨x,H1,I1,rx,a,dx,fs,ex,ea,l,q⟩=>?_) ht
  subst ex
  obtain rfl:u=Value.ref a:=rx
  refine gz I1 ea M.cl hm l ?_
  refine callWith_K (first:=[.ref a]) (h₀:=X.base) I.ok.mod.kin hm.kp (thn (ha pos pins s1 σ H1 _ I1 q) fun us s2 ⟨vs,H2,I2,r,q2⟩=>⟨I2.kIn,?_⟩) hst hpl
  exact pI (us:=.ref a::us) (vs:=.ref a::vs) F hr b hx I2 (.cons rfl r) q2
theorem pQ {pl:Sem Bool} (M:bB X.prog X.w X.K X.mg X.base (CX1 X.prog X.w) C m k ps sp) (hr:bX k X.A) (hx:PaX X Ex) (he:PE X o ta)
    (ht:eval (.Call (.Attribute o m apos) [] [] pos) X.env=(do
      let ov ← eval o X.env
      standAt apos.atName
      let (f,first) ← holding [ov] (getMethod ov m pl)
      callWith pos f first (backTo pos (starEach [] X.env)) (backToKw pos (keywordEach [] X.env))):=by rfl) :
    PE X (.Call (.Attribute o m apos) [] [] pos) (uw C m sp Ex ta qW):=by
  obtain ⟨f,fd,hm,F,b⟩:=M.ex
  intro pins s σ H Q I h
  refine methodCall_KW (pl:=pl) (thn (he pins s σ H _ I h) fun u s1 ⟨x,H1,I1,rx,a,dx,fs,ex,ea,l,q⟩=>?_) ht
  subst ex
  obtain rfl:u=Value.ref a:=rx
  refine gz I1 ea M.cl hm l ?_
  exact callWith_K0 (first:=[.ref a]) I1.kIn hm.kp (pI (us:=[.ref a]) (vs:=[.ref a]) F hr b hx I1 (.cons rfl .nil) q)
def Mth (C:Addr) (m:Str) (sp:Sp) (E:XK) (t:TA) (σ : St) (x:V) (H:Hp) (Q:VK):Prop:=∃ a dx fs,x = .ref a∧H a=some (.ins C dx fs)∧fs.lookup m=none∧t σ H fun vs H2=>sp (x::vs) H2 Q E
theorem IP {σ : St} {H:Hp} {Q:VK} (h:ta σ H fun x H1=>Mth C m sp E t σ x H1 Q):qX C m sp [] E ta t σ H Q:=by
  have e:(fun x H1=>Mth C m sp E t σ x H1 Q)=fun x H1=>∃ a dx fs,x = .ref a∧H1 a=some (.ins C dx fs)∧fs.lookup m=none∧t σ H1 fun vs H2=>sp (x::(vs++[])) H2 Q E:=by
    funext x H1
    unfold Mth
    simp only [List.append_nil]
  rw [e] at h
  exact h
theorem Fd {σ : St} {H:Hp} {Q:VK} (h:ta σ H fun x H1=>Mth C m sp (Ex σ) t σ x H1 Q):uw C m sp Ex ta t σ H Q:=h
theorem bu {σ : St} {H:Hp} {Q:VK} {a dx:Addr} {fs:List (Str×V)} (hx:H a=some (.ins C dx fs)) (hl:fs.lookup m=none) (h:t σ H fun vs H2=>sp (.ref a::vs) H2 Q E):Mth C m sp E t σ (.ref a) H Q:=⟨a,dx,fs,rfl,hx,hl,h⟩
end
end L4
namespace L4
open PySem PySem.Spec PyProof.Rows L2 L3
theorem ES (m:Int) (ms:List Int):inV (.int m) (ms.map V.int)=decide (m∈ms):=by
  unfold inV
  rw [List.any_map,Bool.eq_iff_iff,List.any_eq_true,decide_eq_true_iff]
  constructor
  · rintro ⟨x,hx,e⟩
    have:x=m:=by
      have e:(x == m)=true:=e
      exact eq_of_beq e
    exact this▸hx
  · intro h
    exact ⟨m,h,by show (m == m)=true;exact beq_self_eq_true m⟩
theorem Cw (ms:List Int):(ms.map V.int).all cj=true:=by
  rw [List.all_map,List.all_eq_true]
  intro _ _;rfl
theorem lT:∀ {xs ys:List Int},xs.Perm ys→xs.Pairwise (·≤·)→ys.Pairwise (·≤·)→xs=ys
  | [],ys,p,_,_=>(List.nil_perm.mp p).symm▸rfl
  | x::xs,[],p,_,_=>by cases List.perm_nil.mp p
  | x::xs,y::ys,p,hx,hy=>by
    rw [List.pairwise_cons] at hx hy
    have e:x=y:=by
      have h1:x∈y::ys:=p.subset List.mem_cons_self
      have h2:y∈x::xs:=p.symm.subset List.mem_cons_self
      rcases List.mem_cons.mp h1 with e | h1
      · exact e
      · rcases List.mem_cons.mp h2 with e | h2
        · exact e.symm
        · exact Int.le_antisymm (hx.1 y h2) (hy.1 x h1)
    subst e
    rw [lT (List.perm_cons x |>.mp p) hx.2 hy.2]
section
variable {prog:Program} {w:World} {A:Around} {E:Value→Shared→Prop} {s:Shared} {R:Result→Shared→Prop} {I S:Addr} {fp wr:List Addr} {n:Nat} {P:Nat→Value→Prop} {St:Nat→Heap→Prop}
def JQ (val:Nat→Int) (i:Nat) (old:Array Value):Prop:=(old=#[]∧i=0)∨∃ (m:Int) (t:Tok),old=#[.int m t,.int m t]∧1≤i∧(∃ j,j < i∧val j=m)∧∀ j,j < i→val j≤m
theorem EK (W:Walks prog w A.in1 I fp wr n P St) (val:Nat→Int) (hval:∀ i v,P i v→∃ t,v = .int (val i) t) (hSf:S∉fp) (d:Value) :
    ∀ (r i:Nat) (s:Shared) (old:Array Value) (c:Nat),n - i=r→i≤n→St i s.heap→JQ val i old→s.heap.get? S=some { cls:=.type "list",dict:=none,data:=.seq old c,slots:=#[] } →
    (∀ v h' tk,((n=0∧v=d)∨∃ m t,v = .int m t∧(∃ j,j < n∧val j=m)∧∀ j,j < n→val j≤m)→(∀ b o,b∉wr→b≠S→s.heap.get? b=some o→h'.get? b=some o)→R (.ok (.ret v)) { s with heap:=h',toks:=tk }) →
    codeAny (model prog w) A (.builtin "max.loop" ⟨[.ref I,.none,.ref S],[("default",d)]⟩) R s:=by
  have hSw:S∉wr:=fun h=>hSf (W.sub _ h)
  have hnm:(toString "max" ++ toString ".loop" : String) = "max.loop" := by decide
  have hcmp:=CmpOf.ints_gt (prog:=prog) (w:=w) (A:=A.in1) val hval
  intro r
  induction r with
  | zero=>
    intro i s old c hr hi hst hb hS hR
    have hin:i=n:=by omega
    subst hin
    refine codeAny_builtin F.entry_max_loop ?_
    rw [Around.under_plainId F.plain_max_loop _]
    show wpAny _ A.in1 (seqItems? (.ref S) >>= _) _ _ s
    refine wpAny_bind (wpAny_seqItems hS rfl ?_)
    show wpAny _ A.in1 (tryCatch (pyNext (.ref I)) _ >>= _) _ _ s
    refine wpAny_bind (wpAny_tryCatch (W.done s _ _ hst fun h' tk hk'=>?_))
    have hS':=hk' S _ hSw hS
    rcases hb with ⟨rfl,rfl⟩ | ⟨m,t,rfl,_,hm1,hm2⟩
    · show wpAny _ A.in1 (rule _ >>= _) _ _ _
      refine wpAny_bind (wpAny_rule (wpAny_pure ?_))
      exact hR d _ tk (.inl ⟨rfl,rfl⟩) fun b o hbw _ e=>hk' b o hbw e
    · show wpAny _ A.in1 (updateSeq S (fun _=>#[]) >>= _) _ _ _
      refine wpAny_bind (wpAny_updateSeq hS' rfl (wpAny_bind (wpAny_letGo (wpAny_pure ?_))))
      exact hR _ _ tk (.inr ⟨m,t,rfl,hm1,hm2⟩) fun b o hbw hbS e=>(Heap.get?_update_other _ _ (Ne.symm hbS)).trans (hk' b o hbw e)
  | succ r ih=>
    intro i s old c hr hi hst hb hS hR
    have hlt:i < n:=by omega
    refine codeAny_builtin F.entry_max_loop ?_
    rw [Around.under_plainId F.plain_max_loop _]
    show wpAny _ A.in1 (seqItems? (.ref S) >>= _) _ _ s
    refine wpAny_bind (wpAny_seqItems hS rfl ?_)
    show wpAny _ A.in1 (tryCatch (pyNext (.ref I)) _ >>= _) _ _ s
    refine wpAny_bind (wpAny_tryCatch (W.item i s _ _ hlt hst fun v h' tk hP hst' hk'=>?_))
    have hS':=hk' S _ hSw hS
    obtain ⟨tv,ev⟩:=hval i v hP
    rcases hb with ⟨rfl,rfl⟩ | ⟨m,t,rfl,h1,hm1,hm2⟩
    · show wpAny _ A.in1 (updateSeq S (fun _=>#[v,v]) >>= _) _ _ _
      refine wpAny_bind (wpAny_updateSeq hS' rfl ?_)
      rw [hnm]
      refine wpAny_pure ⟨plainId_quiet F.plain_max_loop _,ih 1 _ _ _ (by omega) hlt (W.frame _ _ _ hst' fun b hbf o e=>(Heap.get?_update_other _ _ (fun h:S=b=>hSf (by rw [h];exact hbf))).trans e) (.inr ⟨val 0,tv,by rw [ev],Nat.le_refl 1,⟨0,Nat.zero_lt_one,rfl⟩,fun j hj=>by rw [show j=0 by omega];exact Int.le_refl _⟩) (Heap.get?_update_self _ hS' rfl) fun v' h2 tk2 hv hk2=>?_⟩
      exact hR v' h2 tk2 hv fun b o hbw hbS e=>hk2 b o hbw hbS ((Heap.get?_update_other _ _ (Ne.symm hbS)).trans (hk' b o hbw e))
    · obtain ⟨jb,hjb,ejb⟩:=hm1
      show wpAny _ A.in1 (tryCatch (holding [v,v] (richCompare .Gt v (.int m t) >>= _)) _ >>= _) _ _ _
      subst ev
      refine wpAny_bind (wpAny_tryCatch (wpAny_holding (wpAny_bind (richCompare_gives (op:=.Gt) (typeIs_int _ _ tv) (typeIs_int _ _ t) F.slot_int_gt F.entry_int_gt (F.args_int_gt_2 _ _) (gives_int_gt _ _ tv t) (fun x=>nomatch x) ?_))))
      refine wpAny_bind (wpAny_holding (wpAny_truthy_bool ?_))
      refine wpAny_bind (wpAny_letGo (wpAny_pure ?_))
      by_cases hgt:val i > m
      · simp only [hgt,decide_true,if_true]
        refine wpAny_bind (wpAny_updateSeq hS' rfl (wpAny_bind (wpAny_letGo ?_)))
        rw [hnm]
        refine wpAny_pure ⟨plainId_quiet F.plain_max_loop _,ih (i+1) _ _ _ (by omega) hlt (W.frame _ _ _ hst' fun b hbf o e=>(Heap.get?_update_other _ _ (fun h:S=b=>hSf (by rw [h];exact hbf))).trans e) (.inr ⟨val i,tv,rfl,by omega,⟨i,Nat.lt_succ_self i,rfl⟩,fun j hj=>?_⟩) (Heap.get?_update_self _ hS' rfl) fun v' h2 tk2 hv hk2=>?_⟩
        · rcases Nat.lt_succ_iff_lt_or_eq.mp hj with z | z
          · have:=hm2 j z;omega
          · rw [z];exact Int.le_refl _
        · exact hR v' h2 tk2 hv fun b o hbw hbS e=>hk2 b o hbw hbS ((Heap.get?_update_other _ _ (Ne.symm hbS)).trans (hk' b o hbw e))
      · simp only [hgt,decide_false,Bool.false_eq_true,if_false]
        refine wpAny_bind (wpAny_letGo ?_)
        rw [hnm]
        refine wpAny_pure ⟨plainId_quiet F.plain_max_loop _,ih (i+1) _ _ c (by omega) hlt hst' (.inr ⟨m,t,rfl,by omega,⟨jb,by omega,ejb⟩,fun j hj=>?_⟩) hS' fun v' h2 tk2 hv hk2=>?_⟩
        · rcases Nat.lt_succ_iff_lt_or_eq.mp hj with z | z
          · exact hm2 j z
          · rw [z];omega
        · exact hR v' h2 tk2 hv fun b o hbw hbS e=>hk2 b o hbw hbS (hk' b o hbw e)
theorem qm {id:String} {b:Builtin} {args:List Value} {kw:List (Str×Value)} {Q:Value→Shared→Prop} (hk:builtinKind id=none) (hp:plainId id=true) (hb:entryFor table id=some b) (ha:argsOk id ⟨args,kw⟩)
    (hc:wpAny (model prog w) A.in1 (b ⟨args,kw⟩) (fun fin s'=>match fin with
      | .done f=>(match (Except.ok f:Result) with | .ok (.ret v)=>Q v s' | .ok _=>False | .error e=>E e s')
      | .again c'=>c'.quiet=true∧codeAny (model prog w) A c' (fun r s'=>match r with | .ok (.ret v)=>Q v s' | .ok _=>False | .error e=>E e s') s') E s) :
    wpAny (model prog w) A (call (.builtin id) args kw) Q E s:=by
  refine wpAny_call (codeAny_call_builtin hp hb ?_)
  simp only [checkBuiltinCall,hk]
  cases hsig:Manifest.signature? id with
  | none=>exact wpAny_pure hc
  | some sig=>
    have ha':Bind.checkArgs id sig ⟨args,kw⟩=pure ():=by simpa only [argsOk,hsig] using ha
    simp only [ha']
    exact wpAny_pure hc
theorem zZ (a d:Value):argsOk "max" ⟨[a],[("default",d)]⟩:=by unfold argsOk;kernel_rfl
theorem sf {l:Addr} {xs:Array (Int×Tok)} {d:Value} {Q:Value→Shared→Prop} (hh:A.handled=none) (hl:s.heap.IsList l (intItems xs))
    (h:∀ v h' tk,((xs.size=0∧v=d)∨∃ m t,v = .int m t∧(∃ j,j < xs.size∧numAt xs j=m)∧∀ j,j < xs.size→numAt xs j≤m)→(∀ b o,s.heap.get? b=some o→h'.get? b=some o)→Q v { s with heap:=h',toks:=tk }) :
    wpAny (model prog w) A (call (.builtin "max") [.ref l] [("default",d)]) Q E s:=by
  have hnm:(toString "max" ++ toString ".loop" : String) = "max.loop" := by decide
  refine qm F.kind_max F.plain_max F.entry_max (zZ _ _) ?_
  show wpAny _ A.in1 (Builtin.Builtins.bindParams "max" ["key", "default"] 0 ⟨[],[("default",d)]⟩ >>= _) _ _ s
  refine wpAny_bind (wpAny_of_eq (show Builtin.Builtins.bindParams "max" ["key", "default"] 0 ⟨[],[("default",d)]⟩=pure [none,some d] from rfl) ?_)
  refine wpAny_bind (wpAny_pure ?_)
  refine wpAny_bind (iter_intList hl fun s₂ e st hfp hlI=>?_)
  subst e
  have hsz:(intItems xs).size=xs.size:=by simp [intItems]
  have W:=Walks.list (prog:=prog) (w:=w) (A:=A.in1) hh s.heap.objs.size l hlI (intItems xs)
  refine wpAny_bind (wpAny_newObj_type ?_)
  rw [hnm]
  refine wpAny_pure ⟨plainId_quiet F.plain_max_loop _,EK W (numAt xs) (fun _ _=>intItems_at) (fun hm=>Nat.lt_irrefl _ (hfp _ hm)) d _ 0 _ #[] _ rfl (Nat.zero_le _) (W.frame _ _ _ st fun b _ o e=>Heap.get?_push_of_some _ e) (.inl ⟨rfl,rfl⟩) (Heap.get?_push_size _ rfl) fun v h' tk hv hk=>?_⟩
  rw [hsz] at hv
  exact h v h' tk hv (old_kept fun b o hbw e=>hk b o hbw (Nat.ne_of_lt (Heap.lt_size e)) (Heap.get?_push_of_some _ e))
end
def Br (K:PySem.W.Frag) (x y:V) (H:Hp) (Q:VK):Prop:=∃ (p:Addr) (ns:List Int) (d:Int),x = .ref p∧y = .int d∧SqL K H p (ns.map V.int)∧(ns=[]→Q (.int d) H)∧∀ M,M∈ns→(∀ a∈ns,a≤M)→Q (.int M) H
def F8 (K:PySem.W.Frag) (te td:TE):TE:=fun σ H Q=>te σ H fun x H1=>td σ H1 fun y H2=>Br K x y H2 Q
section
variable {X:Cx} {p pos kp:Pos} {e d:Expr} {te td:TE}
theorem Ec (hc:X.calm=true) (hg:Gl X "max") (hm:X.mg "max" = none) (he:PE X e te) (hd:PE X d td) (hst:starEach [e] X.env=[(false,eval e X.env)]:=by rfl) :
    PE X (.Call (.Name "max" p) [e] [⟨some "default",d,kp⟩] pos) (F8 X.K te td):=by
  intro pins s σ H Q I h
  refine wpAny_Call_Name_kw (fq I hg hm L3.dX ?_)
  refine callWith_kw ?_ (by rw [hst];rfl) (by rw [hst];rfl)
  rw [hst]
  show wpAny (model X.prog X.w) X.A (spliced ((false,eval e X.env)::[])) _ X.xe s
  refine Calls.spliced_cons (thn (he pins s σ H _ I h) fun u s1 ⟨x,H1,I1,r1,q1⟩=>Calls.spliced_nil ?_)
  refine kws_cons (thn (hd pins s1 σ H1 _ I1 q1) fun v s2 ⟨y,H2,I2,r2,q2⟩=>kws_nil ?_)
  show wpAny (model X.prog X.w) X.A (call (.builtin "max") [u] [("default",v)]) (EP X pins σ Q) X.xe s2
  obtain ⟨p,ns,d,rfl,rfl,hq,q0,q⟩:=q2
  cases r1
  obtain ⟨t,rfl⟩:=r2
  obtain ⟨its,rv,pl,hz⟩:=I2.list hq
  have hi:=ints_of rv
  obtain ⟨xs,e⟩:=hi.allInts.items
  have hl:s2.heap.IsList p (intItems xs):=e▸pl.isList
  have hns:ns=xs.toList.map (·.1):=by
    rw [← nums_intItems,← e]
    exact (show numsOf its.toArray.toList=ns from hi.numsOf).symm
  refine sf (I.ok.hd hc) hl fun v h' tk hv hk=>?_
  rcases hv with ⟨h0,rfl⟩ | ⟨m,t,rfl,⟨j,hj,ej⟩,hm⟩
  · exact ⟨.int d,H2,I2.kept hk,⟨_,rfl⟩,q0 (by rw [hns,List.map_eq_nil_iff];exact List.eq_nil_of_length_eq_zero (by rw [Array.length_toList];exact h0))⟩
  · refine ⟨.int m,H2,I2.kept hk,⟨_,rfl⟩,q m ?_ fun a ha=>?_⟩
    · rw [hns,← ej,numAt_eq];exact getD_mem (by rw [List.length_map,Array.length_toList];exact hj)
    · rw [hns] at ha
      obtain ⟨j,hj,rfl⟩:=mem_getD ha
      rw [List.length_map,Array.length_toList] at hj
      rw [← numAt_eq];exact hm j hj
end
section
variable {K:PySem.W.Frag} {H:Hp} {Q:VK} {p:Addr} {ns:List Int} {d:Int} {te td:TE} {σ : St}
theorem IQ (h:te σ H fun x H1=>td σ H1 fun y H2=>Br K x y H2 Q):F8 K te td σ H Q:=h
theorem IT (s:SqL K H p (ns.map V.int)) (h0:ns=[]→Q (.int d) H) (h:∀ M,M∈ns→(∀ a∈ns,a≤M)→Q (.int M) H):Br K (.ref p) (.int d) H Q:=⟨p,ns,d,rfl,rfl,s,h0,h⟩
theorem cA {xs:List V} {i:Int} {v:V} (hs:SqT K H p xs) (e:atI xs i=some v) (h:Q v H):D8 K (.ref p) (.int i) H Q:=⟨p,xs,i,v,rfl,rfl,hs,e,h⟩
end
section
variable {X:Cx} {pins:List (Addr×Obj)} {σ : St} {H:Hp} {s:Shared} {A:Around} {E:Value→Shared→Prop} {Q:Value→Shared→Prop} {c:Value} {b:Bool}
theorem vn {a:Addr} {xs:List V} (I:Inv X pins σ H s) (h:SqT X.K H a xs) (e:PySem.W.kitOne X.K (.type "tuple") c=some b) (hQ:∀ tk,Q (.bool b) { s with toks:=tk }) :
    wpAny (model X.prog X.w) A (call (.builtin "isinstance") [.ref a,c]) Q E s:=by
  obtain ⟨its,_,⟨o,h1,h2,_⟩,_⟩:=I.tuple h
  exact PySem.W.kia_one PySem.W.kitx_tuple I.kIn ⟨o,h1,h2⟩ e (fun z=>nomatch z) hQ
end
def Bs (K:PySem.W.Frag):RL:=fun vs H Q=>∃ (a:Addr) (xs:List V) (T:String) (b:Bool),vs=[.ref a,.ty T]∧SqT K H a xs∧PySem.W.kitOne K (.type "tuple") (.type T)=some b∧Q (.bl b) H
section
variable {X:Cx}
theorem zP:cK X (.builtin "isinstance") (Bs X.K):=by
  intro pins s σ H xs us Q I r h
  obtain ⟨a,ys,T,b,rfl,hs,e,q⟩:=h
  obtain ⟨u,w',rfl,rx,rc⟩:=vals2 r
  cases rx
  cases (show w'=Value.type T from rc)
  exact vn I hs e fun tk=>⟨.bl b,H,I.tok _,rfl,q⟩
theorem vt {K:PySem.W.Frag} {H:Hp} {Q:VK} {a:Addr} {xs:List V} {T:String} {b:Bool} (hs:SqT K H a xs) (e:PySem.W.kitOne K (.type "tuple") (.type T)=some b) (h:Q (.bl b) H):Bs K [.ref a,.ty T] H Q:=⟨a,xs,T,b,rfl,hs,e,h⟩
end
def bN:List Str→List Str→List Str
  | acc,[]=>acc
  | acc,x::xs=>bN (if x∈acc then acc else acc++[x]) xs
theorem mZ:∀ (xs ys acc:List Str),bN acc (xs++ys)=bN (bN acc xs) ys
  | [],_,_=>rfl
  | x::xs,ys,acc=>mZ xs ys _
theorem kR {xs:List Str} {i:Nat} {x:Str} (h:xs[i]?=some x):bN [] (xs.take (i+1))=if x∈bN [] (xs.take i) then bN [] (xs.take i) else bN [] (xs.take i)++[x]:=by
  rw [List.take_add_one,h,mZ];rfl
theorem mY:∀ (xs acc:List Str),(bN acc xs).length≤acc.length+xs.length
  | [],_=>Nat.le_refl _
  | x::xs,acc=>by
    have:=mY xs (if x∈acc then acc else acc++[x])
    show (bN (if x∈acc then acc else acc++[x]) xs).length≤_
    rw [List.length_cons]
    by_cases c:x∈acc
    · rw [if_pos c] at this ⊢;omega
    · rw [if_neg c] at this ⊢;rw [List.length_append,List.length_singleton] at this;omega
theorem m7:∀ (xs acc:List Str),xs.Nodup→(∀ x∈xs,¬ x∈acc)→(bN acc xs).length=acc.length+xs.length
  | [],_,_,_=>rfl
  | x::xs,acc,h,hn=>by
    rw [List.nodup_cons] at h
    show (bN (if x∈acc then acc else acc++[x]) xs).length=_
    rw [if_neg (hn x List.mem_cons_self),m7 xs (acc++[x]) h.2 fun y hy z=>?_]
    · rw [List.length_append,List.length_singleton,List.length_cons];omega
    · rcases List.mem_append.mp z with z | z
      · exact hn y (List.mem_cons_of_mem _ hy) z
      · rw [List.mem_singleton.mp z] at hy;exact h.1 hy
section
variable {prog:Program} {w:World} {A:Around} {E:Value→Shared→Prop} {s:Shared} {R:Result→Shared→Prop} {I S:Addr} {fp wr:List Addr} {G:Array GenState→Array GenState→Prop} {P:Nat→Value→Prop} {St:Nat→Shared→Prop} {xs:List Str}
theorem nZ {h h':Heap} {f:Str→Bool} {c:Nat} (hS:h.SetOf (strKind prog w) S f c) (k:∀ o,h.get? S=some o→h'.get? S=some o):h'.SetOf (strKind prog w) S f c:=by
  obtain ⟨o,es,ep,t,ho,rest⟩:=hS
  exact ⟨o,es,ep,t,k o ho,rest⟩
theorem DG (W:WalksS prog w A.in1 I fp wr G xs.length P St) (hSf:S∉fp) (hval:∀ i v,P i v→∃ x t,xs[i]?=some x∧v = .str x t) (hb:xs.length+1 < scanBound) :
    ∀ (r i:Nat) (s:Shared),xs.length - i=r→i≤xs.length→St i s→s.heap.SetOf (strKind prog w) S (fun k=>decide (k∈bN [] (xs.take i))) (bN [] (xs.take i)).length →
      (∀ s',Moved (S::wr) G s s'→s'.heap.SetOf (strKind prog w) S (fun k=>decide (k∈bN [] xs)) (bN [] xs).length→R (.ok (.ret .none)) s') →
      codeAny (model prog w) A (.builtin "set.update.loop" ⟨[.ref S,.ref I],[]⟩) R s:=by
  have hSw:S∉wr:=fun h=>hSf (W.sub _ h)
  have up:∀ b∈wr,b∈S::wr:=fun b hb=>List.mem_cons_of_mem _ hb
  intro r
  induction r with
  | zero=>
    intro i s hr hi st hS k
    obtain rfl:i=xs.length:=by omega
    rw [List.take_length] at hS
    refine codeAny_builtin F.entry_set_update_loop ?_
    rw [Around.under_plainId F.plain_set_update_loop _]
    show wpAny _ A.in1 (pyNext (.ref I) >>= _) _ _ s
    refine wpAny_bind (W.done s _ _ st fun s' hm=>?_)
    exact wpAny_pure (k s' (hm.mono up) (nZ hS fun o e=>hm.heap S o hSw e))
  | succ r ih=>
    intro i s hr hi st hS k
    have hlt:i < xs.length:=by omega
    refine codeAny_builtin F.entry_set_update_loop ?_
    rw [Around.under_plainId F.plain_set_update_loop _]
    show wpAny _ A.in1 (pyNext (.ref I) >>= _) _ _ s
    refine wpAny_bind (W.item i s _ _ hlt st fun v s1 hP st1 hm=>?_)
    obtain ⟨x,t,hx,rfl⟩:=hval i v hP
    have hS1:=nZ hS fun o e=>hm.heap S o hSw e
    have hl:=mY (xs.take i) []
    rw [List.length_take] at hl
    show wpAny _ A.in1 (holding [Value.str x t] (setAdd S (.str x t)) >>= _) _ _ s1
    refine wpAny_bind (wpAny_holding ?_)
    unfold setAdd
    refine wpAny_holding (wpAny_bind ((strKind prog w).pyHash (k:=x) (strKind_is _ _ _ _) ?_))
    refine wpAny_setAddHashed_of (knd:=strKind prog w) (s:={ s1 with toks:=s1.toks+1 }) (strKind_is _ _ _ _) rfl hS1 (by simp at hl;omega) fun h2 same hS2=>?_
    have hS3:h2.SetOf (strKind prog w) S (fun k=>decide (k∈bN [] (xs.take (i+1)))) (bN [] (xs.take (i+1))).length:=by
      refine SetOf_congr hS2 (fun k'=>?_) ?_
      · rw [kR hx]
        by_cases c:x∈bN [] (xs.take i)
        · rw [if_pos c]
          by_cases e:k'=x
          · subst e;simp [c]
          · simp [e]
        · rw [if_neg c];simp [List.mem_append]
      · rw [kR hx]
        by_cases c:x∈bN [] (xs.take i)
        · rw [if_pos c,if_pos (decide_eq_true c)]
        · rw [if_neg c,if_neg (by rw [decide_eq_false c];exact Bool.false_ne_true),List.length_append,List.length_singleton]
    refine wpAny_pure ⟨plainId_quiet F.plain_set_update_loop _,ih (i+1) _ (by omega) hlt (W.frame _ s1 _ _ st1 (Nat.le_succ _) fun b hb o e=>?_) hS3 fun s' hm' hS'=>?_⟩
    · rw [same.2 b (fun h:b=S=>hSf (by rw [← h];exact hb))];exact e
    · refine k s' (Moved.trans W.gtrans ((hm.mono up).then_heap (Nat.le_succ _) fun b o hb e=>?_) hm') hS'
      rw [same.2 b (fun h:b=S=>hb (by rw [h];exact List.mem_cons_self))];exact e
set_option maxRecDepth 100000 in
set_option maxHeartbeats 3200000 in
theorem yz {l:Addr} {items:Array Value} {Q:Value→Shared→Prop} (hh:A.handled=none) (hl:s.heap.IsList l items) (hn:items.size=xs.length) (hi:∀ (i:Nat) (v:Value),items[i]?=some v→∃ x t,xs[i]?=some x∧v=Value.str x t) (hb:xs.length+1 < scanBound)
    (h:∀ (h':Heap) (tk:Nat),h'.SetOf (strKind prog w) s.heap.objs.size (fun k=>decide (k∈bN [] xs)) (bN [] xs).length→(∀ b o,s.heap.get? b=some o→h'.get? b=some o)→Q (.ref s.heap.objs.size) { s with heap:=h',toks:=tk }) :
    wpAny (model prog w) A (call (.type "set") [.ref l]) Q E s:=by
  obtain ⟨c,tl,hmro⟩:=F.called_set.mro
  have hmade:=F.called_set.made
  have hsub:=F.called_set.sub
  have h1:=F.called_set.notType
  have h2:=F.called_set.canCreate
  have hct:=F.typeCall_set_1 (.ref l)
  refine wpAny_call (codeAny_of_tree ?_)
  show wpAny _ _ (callAny (.type "set") _) _ _ _
  refine wpAny_pure ⟨Code.quiet_builtin _ (by decide +kernel),codeAny_builtin F.entry_type_call ?_⟩
  rw [Around.under_plain (weight_type_call_type "set" [.ref l] []) rfl]
  repeat (any_goals (first | assumption | wp_step))
  refine codeAny_mono (code_set_new_1 (.ref l) (E:=E) (Q₁:=fun obj s₁=>∃ led:Bool,obj = .ref s.heap.objs.size∧s₁={ s with heap:=s.heap.push { cls:=.type "set",dict:=none,data:=.set #[] 0 (.fresh 0 0 led) } }) fun led=>⟨led,rfl,rfl⟩) fun r s₁ hr=>?_
  rcases r with e | fl
  · exact hr
  cases fl with
  | ret obj=>
    obtain ⟨led,rfl,rfl⟩:=hr
    generalize ho:({ cls:=.type "set",dict:=none,data:=.set #[] 0 (.fresh 0 0 led) }:Obj)=so at *
    have hS:(s.heap.push so).get? s.heap.objs.size=some so:=Heap.get?_push_size _ (by rw [← ho];rfl)
    have hT:Shared.TypeIs { s with heap:=s.heap.push so } (.ref s.heap.objs.size) "set" := ⟨_,hS,by rw [← ho]⟩
    have hli:=F.called_set.init.lookup
    have hbi:=F.called_set.init.bind (.ref s.heap.objs.size)
    repeat (any_goals (first | assumption | wp_step))
    refine codeAny_mono (codeAny_call_builtin (R:=wants (fun r s₂=>r = .none∧∃ h' tk,s₂={ s with heap:=h',toks:=tk }∧h'.SetOf (strKind prog w) s.heap.objs.size (fun k=>decide (k∈bN [] xs)) (bN [] xs).length∧∀ b o,s.heap.get? b=some o→h'.get? b=some o) E) F.called_set.init.plain F.entry_set_init (check_set_init_1 hT ?_)) fun r₂ s₂ hr₂=>?_
    · have hlS:l < s.heap.objs.size:=by obtain ⟨_,e,_⟩:=hl;exact Heap.lt_size e
      subst ho
      have hl1:=hl.push { cls:=.type "set",dict:=none,data:=.set #[] 0 (.fresh 0 0 led) }
      obtain ⟨⟨lc,ld,ldat,lsl⟩,e1,e2,nl,e3⟩:=id hl1
      simp only at e2 e3
      subst e2 e3
      have L0:=F.sub_list_set
      have L5:=F.sub_list_frozenset
      have hne:(Value.type "list" == Value.type "dict")=false:=by decide
      unfold Builtin.«set.__init__» noKeywords Builtin.Frozenset.updateFrom
      generalize hPI:pyIter=PI
      wp_walk
      subst hPI
      refine wpAny_pyIter_list hl1 ?_
      refine wpAny_bind (wpAny_runValue ?_)
      have hsz:(s.heap.push { cls:=.type "set",dict:=none,data:=.set #[] 0 (.fresh 0 0 led) }).objs.size=s.heap.objs.size+1:=Heap.size_push ..
      have W:=(Walks.list (prog:=prog) (w:=w) (A:=A.in1.in1.in1) (by simp [hh]) (s.heap.push { cls:=.type "set",dict:=none,data:=.set #[] 0 (.fresh 0 0 led) }).objs.size l (by rw [hsz];exact Nat.ne_of_lt (Nat.lt_succ_of_lt hlS)) items).toS
      rw [hn] at W
      refine DG (xs:=xs) W (by rw [hsz];simp only [List.mem_cons,List.not_mem_nil,or_false,not_or];exact ⟨Nat.ne_of_lt (Nat.lt_succ_self _),Nat.ne_of_gt hlS⟩) (fun i v hv=>hi i v hv) hb _ 0 _ rfl (Nat.zero_le _) ⟨⟨_,Heap.get?_push_size _ rfl,rfl,rfl⟩,hl1.push _⟩ ?_ fun s' hm hS'=>?_
      · exact SetOf_congr ((setObjOf_fresh (knd:=strKind prog w) led).setOf (Heap.get?_push_of_some _ hS) (by unfold scanBound;decide)) (fun _=>rfl) rfl
      · obtain ⟨h',g',d',tk',os'⟩:=s'
        obtain rfl:g'=s.gens:=hm.gens
        obtain rfl:d'=s.drawn:=hm.drawn
        obtain rfl:os'=s.os:=hm.os
        refine wpAny_pure (wpAny_pure ⟨rfl,h',tk',rfl,hS',fun b o e=>?_⟩)
        have hb1:=Heap.lt_size e
        exact hm.heap b o (by rw [hsz];simp only [List.mem_cons,List.not_mem_nil,or_false,not_or];exact ⟨Nat.ne_of_lt hb1,Nat.ne_of_lt (Nat.lt_succ_of_lt hb1)⟩) (Heap.get?_push_of_some _ (Heap.get?_push_of_some _ e))
    · rcases r₂ with e | fl₂
      · exact hr₂
      cases fl₂ with
      | ret r=>
        obtain ⟨rfl,h',tk,rfl,hS',hk'⟩:=hr₂
        repeat (any_goals (first | assumption | wp_step))
        exact h _ _ hS' hk'
      | _=>exact hr₂.elim
  | _=>exact hr.elim
end
def pP (K:PySem.W.Frag) (x:V) (H:Hp) (Q:VK):Prop:=∃ (a:Addr) (xs:List Str),x = .ref a∧SqL K H a (xs.map V.str)∧xs.length≤1000∧Q (.int (((bN [] xs).length:Nat):Int)) H
def wI (K:PySem.W.Frag) (te:TE):TE:=fun σ H Q=>te σ H fun x H1=>pP K x H1 Q
section
variable {X:Cx} {e:Expr} {te:TE} {p p2 pos pos2:Pos}
theorem yX (hc:X.calm=true) (hg:Gl X "len") (hg2:Gl X "set") (hm:X.mg "len" = none) (hm2:X.mg "set" = none) (he:PE X e te) (hs1:starEach [.Call (.Name "set" p2) [e] [] pos2] X.env=[(false,eval (.Call (.Name "set" p2) [e] [] pos2) X.env)]:=by rfl) (hs2:starEach [e] X.env=[(false,eval e X.env)]:=by rfl) :
    PE X (.Call (.Name "len" p) [.Call (.Name "set" p2) [e] [] pos2] [] pos) (wI X.K te):=by
  intro pins s σ H Q I h
  refine wpAny_Call_Name_kw (fq I hg hm L3.kB ?_)
  refine PyProof.Rows.callWith_builtin1 ?_ (by rw [hs1];rfl) (by rfl)
  rw [hs1]
  show wpAny (model X.prog X.w) X.A (spliced ((false,eval (.Call (.Name "set" p2) [e] [] pos2) X.env)::[])) _ X.xe s
  refine Calls.spliced_cons (wpAny_Call_Name_kw (fq I hg2 hm2 L3.C1 ?_))
  refine PyProof.Rows.callWith_type1 ?_ (by rw [hs2];rfl) (by rfl)
  rw [hs2]
  show wpAny (model X.prog X.w) X.A (spliced ((false,eval e X.env)::[])) _ X.xe s
  refine Calls.spliced_cons (thn (he pins s σ H _ I h) fun u s1 ⟨x,H1,I1,r1,q1⟩=>Calls.spliced_nil ?_)
  obtain ⟨a,xs,rfl,hq,h1000,q⟩:=q1
  cases r1
  obtain ⟨its,rv,pl,hz⟩:=I1.list hq
  have hlen:its.length=xs.length:=by rw [← rv.length,List.length_map]
  have hsb:xs.length+1 < scanBound:=by unfold scanBound;omega
  refine yz (I.ok.hd hc) pl.isList (by rw [List.size_toArray];exact hlen) (fun i v hv=>?_) hsb fun h' tk hS hk=>?_
  · have hv':its[i]?=some v:=by simpa using hv
    have hi:i < xs.length:=by
      have:=(List.getElem?_eq_some_iff.mp hv').1
      omega
    obtain ⟨u,hu,ru⟩:=rv.get (i:=i) (x:=V.str xs[i]) (by rw [List.getElem?_map,List.getElem?_eq_getElem hi];rfl)
    rw [hv'] at hu
    cases hu
    obtain ⟨t,rfl⟩:=ru
    exact ⟨_,t,List.getElem?_eq_getElem hi,rfl⟩
  · have I2:=I1.kept (t':=tk) hk
    refine Calls.spliced_nil ?_
    obtain ⟨o,es,ep,t,ho,hex,hd,_,_,hb,hf,hn⟩:=hS
    have h63:(es.size:Int) < 2 ^ 63:=by unfold scanBound at hb;omega
    exact call_len_set ho hex hd hf h63 ⟨.int es.size,H1,I2.tok _,⟨_,rfl⟩,by rw [hn];exact q⟩
theorem Cs {K:PySem.W.Frag} {σ : St} {H:Hp} {Q:VK} (h:te σ H fun x H1=>pP K x H1 Q):wI K te σ H Q:=h
theorem zH {K:PySem.W.Frag} {H:Hp} {Q:VK} {a:Addr} {xs:List Str} (s:SqL K H a (xs.map V.str)) (hl:xs.length≤1000) (h:Q (.int (((bN [] xs).length:Nat):Int)) H):pP K (.ref a) H Q:=⟨a,xs,rfl,s,hl,h⟩
end
structure oU (K:PySem.W.Frag) (mg:Str→Option Value) (x qual:Str) (C:Addr) (st:Stmt) (ps:List Str):Prop where
  ex:∃ (f:Addr) (oc dV kV doc pm cdv ct:Value) (od an:Option Addr) (osl:Array (Option Value)),K.lookup f=some ⟨oc,od,.func (PySem.W.fnOf "__init__" qual (bC st) (bf st) (ak st) dV kV doc pm an cdv ct),osl⟩∧PySem.W.codeIn K cdv qual=true ∧
    Binds K (PySem.W.fnOf "__init__" qual (bC st) (bf st) (ak st) dV kV doc pm an cdv ct) ps []∧mg x=some (.ref C)∧Mk K C f
  cl:Cls K C
section
variable {P:Program} {w:World} {K:PySem.W.Frag} {mg:Str→Option Value} {base:Heap} {CX:CXT} {x qual:Str} {C:Addr} {st:Stmt} {N ps:List Str} {k:Nat} {sp:Sp}
theorem oU.ok (D:oU K mg x qual C st ps) (S:ay N ps (ak st)) (len:∀ vs H Q E,sp vs H Q E→vs.length=ps.length)
    (hbody:∀ (f:Addr) (cdv:Value) (A:Around) (outer:List Env) (s:Shared) (H:Hp) (vs:List V) (Q:VK) (E:XK),bX k (A.deeper (envOfC qual (ak st) s.heap.objs.size f cdv))→sp vs H Q E →
      ∃ t,PSs (aZ CX P w K mg base N qual (ak st) f cdv A outer s H E).nox (bf st) t∧t { nx:=fun _ H'=>Q .non H',rt:=Q } (start N vs) H):Mak P w K mg base CX x C (k+1) ps sp:=by
  obtain ⟨f,oc,dV,kV,doc,pm,cdv,ct,od,an,osl,lk,hcd,b,m,mk⟩:=D.ex
  refine ⟨f,_,mk,sR lk hcd S len fun A outer s H vs Q E hr hsp=>?_,b,m⟩
  obtain ⟨t,h,q⟩:=hbody f cdv A outer s H vs Q E hr hsp
  exact ⟨t,h.nox,q⟩
theorem CL {h:Heap} (X:K.In h) (G:h.Ns mainGlobals mg) {f T:Addr} {oc tc:Value} {od td an:Option Addr} {osl tsl:Array (Option Value)} {its:Array Value} {tn:Nat} {kV doc pm cdv ct:Value} (aC:PySem.W.nsIn K mainGlobals x=some (some (.ref C)))
    (a:PySem.W.findIn K (.ref C) "__init__" = some (some (.ref f))) (i:PySem.W.isFn K (.ref f)=true)
    (l:K.lookup f=some ⟨oc,od,.func (PySem.W.fnOf "__init__" qual (bC st) (bf st) (ak st) (.ref T) kV doc pm an cdv ct),osl⟩) (tl:K.lookup T=some ⟨tc,td,.seq its tn,tsl⟩) (c:PySem.W.codeIn K cdv qual=true)
    (pg:PySem.W.plainGet K C Str.empty=true) (hd:PySem.W.hasDictIn K C=true) (po:PySem.W.plainOver K C=true) (sa:PySem.W.findIn K (.ref C) "__setattr__" = some (some (.builtin "object.__setattr__"))) (mk:PySem.W.makesIn K C=true) (kc:PySem.W.keepIn K (.ref C)=true)
    (b:∀ (T:Addr) (kV doc pm:Value) (an:Option Addr) (cdv ct:Value) (us:List Value),us.length=ps.length→∃ k:Option (Array Value)→Sem (List (Str×Value)),bindArgs (PySem.W.fnOf "__init__" qual (bC st) (bf st) (ak st) (.ref T) kV doc pm an cdv ct) ⟨us,[]⟩=(seqItems? (.ref T) >>= k)∧k (some its)=pure (ps.zip us)):oU K mg x qual C st ps:=
  ⟨⟨f,oc,.ref T,kV,doc,pm,cdv,ct,od,an,osl,l,c,fun s us hK hl=>by
    rw [List.append_nil] at hl ⊢
    obtain ⟨k,h1,h2⟩:=b T kV doc pm an cdv ct us hl
    exact BindsTo.of_defaults (T:=T) rfl (hK _ _ tl) rfl h1 h2,PySem.W.mg_of X G aC,⟨mk,a,i,kc⟩⟩,⟨pg,hd,po,sa⟩⟩
end
def Bu (K:PySem.W.Frag):RL:=fun vs H Q=>∃ (x:V) (t:Value) (tp:Addr) (Ts:List String) (b:Bool),vs=[x,.ref tp]∧iZ K H x t∧H tp=some (.tup (Ts.map V.ty))∧PySem.W.kitAny K t (Ts.map Value.type)=some b∧Q (.bl b) H
theorem qT:∀ {Ts:List String} {us:List Value},Vals (Ts.map V.ty) us→us=Ts.map Value.type
  | [],_,.nil=>rfl
  | T::Ts,_,.cons r t=>by rw [List.map_cons,qT t];cases (show _=Value.type T from r);rfl
section
variable {X:Cx}
theorem zQ:cK X (.builtin "isinstance") (Bu X.K):=by
  intro pins s σ H xs us Q I r h
  obtain ⟨x,t,tp,Ts,b,rfl,ty,ht,e,q⟩:=h
  obtain ⟨u,w',rfl,rx,rc⟩:=vals2 r
  cases (show w'=Value.ref tp from rc)
  obtain ⟨_,its,rv,⟨⟨oc,od',da,sl⟩,h1,h2,n,h3⟩⟩:=(show bU X.prog X.w H s.heap tp (.tup (Ts.map V.ty)) from I.hok tp _ ht)
  have ei:=qT rv
  subst ei
  dsimp only at h2 h3
  subst h2 h3
  have fin:∀ tk,EP X pins σ Q (.bool b) { s with toks:=tk }:=fun tk=>⟨.bl b,H,I.tok _,rfl,q⟩
  cases ty with
  | non=>cases (show u=Value.none from rx);exact PySem.W.kia_tup PySem.W.kitx_none I.kIn True.intro h1 e (fun z=>nomatch z) fin
  | bl y=>cases (show u=Value.bool y from rx);exact PySem.W.kia_tup PySem.W.kitx_bool I.kIn True.intro h1 e (fun z=>nomatch z) fin
  | int i=>obtain ⟨t,q⟩:=(show ∃ t,u=Value.int i t from rx);cases q;exact PySem.W.kia_tup PySem.W.kitx_int I.kIn True.intro h1 e (fun z=>nomatch z) fin
  | str y=>obtain ⟨t,q⟩:=(show ∃ t,u=Value.str y t from rx);cases q;exact PySem.W.kia_tup PySem.W.kitx_str I.kIn True.intro h1 e (fun z=>nomatch z) fin
  | flt y=>obtain ⟨t,q⟩:=(show ∃ t,u=Value.float y t from rx);cases q;exact PySem.W.kia_tup PySem.W.kitx_float I.kIn True.intro h1 e (fun z=>nomatch z) fin
  | @lst a xs ea=>
    cases (show u=Value.ref a from rx)
    obtain ⟨_,_,n,_,h4⟩:=(show bU X.prog X.w H s.heap a (.lst xs) from I.hok a _ ea)
    exact PySem.W.kia_tup PySem.W.kitx_list I.kIn ⟨_,h4,rfl⟩ h1 e (fun z=>nomatch z) fin
  | @frz a ob xs ea=>
    cases (show u=Value.ref a from rx)
    obtain ⟨_,_,_,n,_,h4⟩:=(show bU X.prog X.w H s.heap a (.frz ob (.lst xs)) from I.hok a _ ea)
    exact PySem.W.kia_tup PySem.W.kitx_list I.kIn ⟨_,h4,rfl⟩ h1 e (fun z=>nomatch z) fin
  | @tup a xs ea=>
    cases (show u=Value.ref a from rx)
    obtain ⟨_,_,_,p⟩:=(show bU X.prog X.w H s.heap a (.tup xs) from I.hok a _ ea)
    obtain ⟨o,h4,h5,_⟩:=p
    exact PySem.W.kia_tup PySem.W.kitx_tuple I.kIn ⟨o,h4,h5⟩ h1 e (fun z=>nomatch z) fin
  | @dK a kvs ea=>
    cases (show u=Value.ref a from rx)
    obtain ⟨_,_,vs,_,p⟩:=(show bU X.prog X.w H s.heap a (.dK kvs) from I.hok a _ ea)
    obtain ⟨o,es,ep,h4,h5,_⟩:=p
    exact PySem.W.kia_tup PySem.W.kitx_dict I.kIn ⟨o,h4,h5.1⟩ h1 e (fun z=>nomatch z) fin
  | @dT a kvs ea=>
    cases (show u=Value.ref a from rx)
    obtain ⟨_,_,xs,_,o,es,ep,h4,h5,_⟩:=(show bU X.prog X.w H s.heap a (.dT kvs) from I.hok a _ ea)
    exact PySem.W.kia_tup PySem.W.kitx_dict I.kIn ⟨o,h4,h5.1⟩ h1 e (fun z=>nomatch z) fin
  | @ins a C dx fs ea cl ha hn htk hm=>
    cases (show u=Value.ref a from rx)
    obtain ⟨mA,O,_⟩:=jH I.hok ea
    obtain ⟨od,J,_⟩:=O.look
    exact PySem.W.kia_tup (PySem.W.kitx_own (cl.get _) cl.hd ha hn htk hm) I.kIn J h1 e (fun z=>nomatch z) fin
theorem Ed {e:Expr} {te:TE} {p pos:Pos} {es:List Expr} {ec:Nat} {tpos:Pos} {tl:TA} (hm:X.mg "isinstance" = none) (he:PE X e te) (ht:PE X (.Tuple es ec tpos) (Dw tl)) (hg:Gl X "isinstance" := by rfl)
    (hs:starEach [e,.Tuple es ec tpos] X.env=(false,eval e X.env)::starEach [.Tuple es ec tpos] X.env:=by rfl) (hs2:starEach [.Tuple es ec tpos] X.env=(false,eval (.Tuple es ec tpos) X.env)::starEach [] X.env:=by rfl) (hpl:(backTo pos (starEach [.Tuple es ec tpos] X.env)).any (·.1)=false:=by rfl) :
    PE X (.Call (.Name "isinstance" p) [e,.Tuple es ec tpos] [] pos) (tCB (Bu X.K) (kK te (kK (Dw tl) qW))):=
  bq zQ hg hm fQ (aa he (aa ht af hs2) hs) (by decide) (by decide) hs hpl
end
theorem xA (z:Str) (ws:List Str):inV (.str z) (ws.map V.str)=decide (z∈ws):=by
  unfold inV
  rw [List.any_map,Bool.eq_iff_iff,List.any_eq_true,decide_eq_true_iff]
  constructor
  · rintro ⟨x,hx,e⟩
    have e:(x == z)=true:=e
    exact (eq_of_beq e)▸hx
  · intro h
    exact ⟨z,h,by show (z == z)=true;exact beq_self_eq_true z⟩
theorem sS (ws:List Str):(ws.map V.str).all cj=true:=by
  rw [List.all_map,List.all_eq_true]
  intro _ _;rfl
section
variable {K:PySem.W.Frag} {H:Hp} {Q:VK} {p a:Addr} {z:Str} {ws:List Str} {P:Addr→Prop} {H0:Hp} {l:List (Addr×Ob)} {fs:List Pr}
theorem IX {x:V} {t:Value} {tp:Addr} {b:Bool} (Ts:List String) (ty:iZ K H x t) (ht:H tp=some (.tup (Ts.map V.ty))) (e:PySem.W.kitAny K t (Ts.map Value.type)=some b) (h:Q (.bl b) H):Bu K [x,.ref tp] H Q:=⟨x,t,tp,Ts,b,rfl,ty,ht,e,h⟩
theorem GA (s:SqT K H p (ws.map V.str)) (h:Q (.bl (decide (z∈ws))) H):rIn K false (.str z) (.ref p) H Q:=
  ⟨p,_,rfl,.inr s,rfl,sS ws,by rw [if_neg Bool.false_ne_true,xA];exact h⟩
theorem IZ (s:SqL K H p (ws.map V.str)) (h:Q (.bl (decide (z∈ws))) H):rIn K false (.str z) (.ref p) H Q:=
  ⟨p,_,rfl,.inl s,rfl,sS ws,by rw [if_neg Bool.false_ne_true,xA];exact h⟩
theorem E6 (L:Led P H0 H l fs) (s:SqL K H p (ws.map V.str)) (hl:ws.length < 64) (h:∀ (b:Addr) (ms:List Str) (H':Hp),H b=none→ms.Perm ws→sortedS ms=true→Led P H0 H' ((b,Eo (.lst (ms.map V.str)))::l) fs→aF H H'→Q (.ref b) H'):Bp K [.ref p] H Q:=
  ⟨p,ws,rfl,s,hl,fun b ms nb pm pw=>h b ms _ nb pm pw (L.EJ nb rfl) (ck nb)⟩
theorem iB {ys:List V} (L:Led P H0 H l fs) (s:SqL K H p ys) (h:∀ (t:Addr) (H':Hp),H t=none→Led P H0 H' l (aH t ys::fs)→aF H H'→Q (.ref t) H'):Bo K [.ref p] H Q:=
  ⟨p,ys,rfl,.inl ⟨s,fun t nt=>h t _ nt (L.EI nt) (ck nt)⟩⟩
end
end L4
namespace LS
open PySem PySem.W PyProof.Rows
structure Pm (n:Nat) (p:Array Nat):Prop where
  size:p.size=n
  perm:p.toList.Perm (List.range n)
end LS
set_option hygiene false
local macro_rules | `(tactic| walk_at "put")=>`(tactic| first | exact L4.Put.head | (apply L4.Put.tail;walk_at "put"))
local macro_rules | `(tactic| walk_at "mem")=>`(tactic| first | exact List.mem_cons_self | (refine List.mem_cons_of_mem _ ?_;walk_at "mem"))
local macro_rules | `(tactic| walk_at "lk")=>`(tactic| first | exact L4.lk_hit | (refine (L4.lk_miss (by decide +kernel)).trans ?_;walk_at "lk"))
local macro_rules | `(tactic| walk_at "sz")=>`(tactic| first | (show (_:Nat)≤sizeLine;exact Nat.le_of_lt (L2.small1000 (by first | decide | omega | (simp only [List.length_cons,List.length_nil,List.length_append,List.length_map];omega)))) | exact L2.small1000 (by first | decide | omega | (simp only [List.length_cons,List.length_nil,List.length_append,List.length_map];omega)))
local macro_rules | `(tactic| walk_at "side")=>`(tactic| first
  | omega
  | (show (0:Int) < _;first | omega | decide)
  | (refine ⟨⟨?_,?_⟩,?_,?_⟩ <;> first | omega | decide)
  | (refine ⟨?_,?_⟩ <;> first | omega | decide)
  | (refine ⟨?_,?_,?_⟩ <;> first | omega | decide))
local macro_rules | `(tactic| walk_at "g0")=>`(tactic| first
  | (with_reducible refine L4.Lg ?_)
  | (with_reducible refine L4.KO (by with_unfolding_all exact rfl) ?_)
  | (with_reducible refine L4.g_c ?_)
  | (with_reducible refine L4.Jd ?_)
  | (with_reducible refine L4.KW ?_)
  | (with_reducible refine L4.Me ?_)
  | (with_reducible refine L4.KS ?_)
  | (with_reducible refine L4.Mf ?_)
  | (with_reducible refine L4.IA ?_)
  | (with_reducible refine L4.K7 ?_)
  | (with_reducible refine L4.Lf ?_)
  | (with_reducible refine L4.Le ?_)
  | (with_reducible refine L4.g_eqB ?_)
  | (with_reducible refine L4.KZ ?_)
  | (with_reducible refine L4.KY ?_)
  | (with_reducible refine L4.Jg ?_)
  | (with_reducible refine L4.Mg ?_)
  | (with_reducible refine L4.KR ?_)
  | (with_reducible refine L4.IJ ?_)
  | (with_reducible refine L4.Jc ?_)
  | (with_reducible refine L4.g_b ?_)
  | (with_reducible refine L4.Lh ?_)
  | (with_reducible refine L4.Mc ?_)
  | (with_reducible refine L4.KU ?_)
  | (with_reducible refine L4.Ji ?_)
  | (with_reducible refine L4.g_orV ?_)
  | (with_reducible refine L4.IG ?_)
  | (with_reducible refine L4.K6 ?_)
  | (with_reducible refine L4.II ?_)
  | (with_reducible refine L4.g_un ?_)
  | (with_reducible refine L4.g_rU ?_)
  | (with_reducible refine L4.KP ?_)
  | (with_reducible refine L4.K4 ?_)
  | (with_reducible refine L4.Ld ?_)
  | (with_reducible refine L4.IW ?_)
  | (with_reducible refine L4.IC ?_)
  | (with_reducible refine L4.K9 ?_)
  | (with_reducible refine L4.Mb ?_)
  | (with_reducible refine L4.Cr ?_)
  | (with_reducible refine L4.IF ?_)
  | (with_reducible refine L4.Fc ?_)
  | (with_reducible refine L4.Fj ?_)
  | (with_reducible refine L4.I9 ?_)
  | (with_reducible refine L4.g_gSub ?_)
  | (with_reducible refine L4.g_retN ?_)
  | (with_reducible refine L4.g_break ?_)
  | (with_reducible refine L4.g_cont ?_)
  | (with_reducible refine L4.GB ?_)
  | (with_reducible refine L4.GC ?_)
  | (with_reducible refine L4.Fg ?_)
  | (with_reducible refine L4.Fi ?_)
  | (with_reducible refine L4.Mh ?_)
  | (with_reducible refine L4.g_bm0 ?_)
  | (with_reducible refine L4.Lc ?_)
  | (with_reducible refine L4.IE ?_)
  | (with_reducible refine L4.ID ?_)
  | (with_reducible refine L4.KN ?_)
  | (with_reducible refine L4.KL ?_)
  | (with_reducible refine L4.KJ ?_)
  | (with_reducible refine L4.g_enum ?_)
  | (with_reducible refine L4.IP ?_)
  | (with_reducible refine L4.Fd ?_)
  | (with_reducible refine L4.Je ?_)
  | (with_reducible refine L4.g_compS ?_)
  | (with_reducible refine L4.IB ?_)
  | (with_reducible refine L4.g_rev ?_)
  | (with_reducible refine L4.IQ ?_)
  | (with_reducible refine L4.Cs ?_)
  | (with_reducible refine L4.g_chain ?_)
  | (with_reducible refine L4.g_revSq (by assumption) (L2.SqL.of (L4.Led.eo (by assumption) (by walk_at "put"))) fun l' H' n' L' _=>?_)
  | (with_reducible refine L4.g_divm (by assumption) (by constructor <;> omega) fun t' H' n' L' _=>?_)
  | (with_reducible refine L4.g_tTru ?_)
  | (with_reducible refine L4.g_addS (by walk_at "sz") ?_)
  | (with_reducible refine L4.g_lenStr (by first | assumption | walk_at "sz") ?_)
  | (with_reducible refine L4.g_mulS (by refine ⟨?_,?_,?_⟩ <;> first | omega | decide) ?_)
  | (with_reducible refine L4.g_cat (by assumption) (by walk_at "put") (by walk_at "put") (by first | assumption | walk_at "sz") fun l' H' n' L' _=>?_)
  | (with_reducible refine L4.g_slI (by assumption) (by assumption) (by first | exact not_false | assumption) fun l' H' n' L' _=>?_)
  | (with_reducible refine L4.Fp ?_)
  | (with_reducible refine L4.g_makeX ?_)
  | (with_reducible refine L4.Fb ?_)
  | (with_reducible refine L4.Cp ?_)
  | (with_reducible refine L4.Fq ?_)
  | (with_reducible refine L4.E7 ?_)
  | (with_reducible refine L4.Co ?_)
  | (with_reducible refine L4.g_undo ?_)
  | (with_reducible refine L4.g_undoR ?_)
  | (with_reducible refine L4.g_tryAs ?_)
  | (with_reducible refine L4.KQ ?_)
  | (with_reducible refine L4.g_fldX ?_)
  | (with_reducible refine L4.K3 ?_)
  | (with_reducible refine L4.IU ?_)
  | (with_reducible refine L4.g_isBlB ?_)
  | (with_reducible refine L4.g_isNotBlB ?_)
  | (with_reducible refine L4.IY ?_)
  | (with_reducible refine L4.K1 ?_)
  | (with_reducible refine L4.K2 ?_)
  | ((with_reducible refine L4.E9 ?_ ?_);(focus (walk_at "side";done)))
  | ((with_reducible refine L4.E8 ?_ ?_);(focus (walk_at "side";done)))
  | (with_reducible refine L4.Gx (L2.SqL.of (L4.Led.eo (by assumption) (by walk_at "put"))) ?_)
  | (with_reducible refine L4.g_tyS ?_)
  | (with_reducible refine L4.gA (L2.SqL.of (L4.Led.eo (by assumption) (by walk_at "put"))) ?_)
  | (with_reducible refine L4.Iz (L2.SqT.of (L4.Led.tup (by assumption) (by walk_at "mem"))) ?_)
  | (with_reducible refine L4.g_lenI (by assumption) (by assumption) (by first | exact not_false | assumption) ?_)
  | (with_reducible refine L4.lM (L2.SqL.of (L4.Led.eo (by assumption) (by walk_at "put"))) ?_)
  | (with_reducible refine L4.xG (L2.SqT.of (L4.Led.tup (by assumption) (by walk_at "mem"))) ?_)
  | (with_reducible refine L4.Cu (by assumption) (by walk_at "put") (by walk_at "sz") fun H' L' _=>?_)
  | (with_reducible refine L4.IK (by assumption) (by walk_at "sz") fun t' H' n' L' _=>?_)
  | (with_reducible refine L4.IL (by assumption) (by walk_at "sz") fun l' H' n' L' _=>?_)
  | ((with_reducible refine L4.Cq ?_ ?_);(focus (walk_at "side";done)))
  | (with_reducible refine L4.I8 (by assumption) (by walk_at "mem") (by with_unfolding_all exact rfl) ?_)
  | (with_reducible refine L4.g_geT2 (L4.Led.tup (by assumption) (by walk_at "mem")) (L4.Led.tup (by assumption) (by walk_at "mem")) ?_)
  | (with_reducible refine L4.g_leT2 (L4.Led.tup (by assumption) (by walk_at "mem")) (L4.Led.tup (by assumption) (by walk_at "mem")) ?_)
  | (with_reducible refine L4.g_ixL (by assumption) (by walk_at "put") (by with_unfolding_all exact rfl) ?_)
  | (with_reducible refine L4.K5 (by assumption) (by walk_at "mem") (by with_unfolding_all exact rfl) ?_)
  | (with_reducible refine L4.cA (by assumption) (by with_unfolding_all exact rfl) ?_)
  | (with_reducible refine L4.g_fldL (by assumption) (by walk_at "put") (by assumption) (by assumption) (by walk_at "lk") ?_)
  | (with_reducible refine L4.mK (by first | omega | assumption | exact rfl | (simp only [List.length_cons,List.length_nil,List.length_append,List.length_map];omega)) ?_)
  | (with_reducible refine L4.aV (by first | omega | assumption | exact rfl | (simp only [List.length_cons,List.length_nil,List.length_append,List.length_map];omega)) ?_)
  | (with_reducible refine L4.kg (by first | omega | assumption | exact rfl | (simp only [List.length_cons,List.length_nil,List.length_append,List.length_map];omega)) ?_)
  | (with_reducible refine L4.mJ (by first | omega | assumption | exact rfl | (simp only [List.length_cons,List.length_nil,List.length_append,List.length_map];omega)) ?_))
local macro_rules | `(tactic| walk_at "g1")=>`(tactic| first | (with_reducible refine L4.g_seq ?_) | walk_at "g0")
local macro_rules | `(tactic| walk_at "one")=>`(tactic| repeat walk_at "g0")
local macro_rules | `(tactic| walk_at "go")=>`(tactic| repeat walk_at "g1")
local macro_rules | `(tactic| walk_at "s")=>`(tactic| exact ⟨rfl,rfl,rfl,by decide +kernel,rfl,by decide +kernel,by decide +kernel⟩)
local macro_rules | `(tactic| walk_at "d")=>`(tactic| refine D.ok S (fun vs H Q E h=>?_) (fun f cdv A outer s H vs Q E hr h=>?_))
namespace Law
open PySem PySem.Spec PyProof.Rows L2 L3 L4
abbrev St:=L2.St
def top (i:Nat):Stmt:=PySem.Challenge.pw_risemarks_k82_after_as_a_hand.main.body.getD i (.Pass ⟨0,0,0,0⟩)
theorem bJ {t u:TS} {D:Ends} {σ : St} {H:Hp} (P:St→Hp→Prop) (h1:∀ nx:St→Hp→Prop,(∀ σ H,P σ H→nx σ H)→t { D with nx:=nx } σ H) (h2:∀ σ H,P σ H→u D σ H):GV t u D σ H:=h1 (u D) h2
def Oth (p:Addr) (H H':Hp):Prop:=∀ q o,H q=some o→q≠p→H' q=some o
theorem Oth.refl (p:Addr) (H:Hp):Oth p H H:=fun _ _ h _=>h
theorem Oth.trans {p:Addr} {H H1 H2:Hp} (a:Oth p H H1) (b:Oth p H1 H2):Oth p H H2:=fun q o h n=>b q o (a q o h n) n
theorem Oth.upd {p:Addr} {H H1:Hp} (a:Oth p H H1) (o:HO):Oth p H (upd H1 p o):=fun q u h n=>by rw [az n];exact a q u h n
theorem Oth.same {p:Addr} {H0 H H':Hp} (a:Oth p H H') (s:aF H0 H) (n:H0 p=none):aF H0 H':=fun q o h=>a q o (s q o h) (aJ h n)
theorem dc {H:Hp} {p:Addr} (h:H p=none) (o:HO):aF H (upd H p o):=fun b u q=>by rw [az (aJ q h)];exact q
def cD (H:Hp) (p:Addr) (n:Int):Prop:=∃ a b c:Int,H p=some (.lst [.int a,.int b,.int c])∧0≤a∧a < 10 ^ 121∧0≤b∧b≤n
theorem cD.mono {H:Hp} {p:Addr} {n m:Int} (h:cD H p n) (l:n≤m):cD H p m:=by
 obtain ⟨a,b,c,e,h1,h2,h3,h4⟩:=h
 exact ⟨a,b,c,e,h1,h2,h3,Int.le_trans h4 l⟩
section
variable {P:Program} {w:World} {K:PySem.W.Frag} {mg:Str→Option Value} {base:Heap} {CX:CXT}
theorem Dat.none {x qual:Str} {st:Stmt} {ps:List Str} {sp:Sp} (D:Dat K mg x qual st ps) (no:∀ vs H Q E,¬ sp vs H Q E):Cal P w K mg base CX x 0 ps sp:=by
 obtain ⟨f,fd,F,b,m⟩:=D.ex
 exact ⟨f,fd,⟨fun vs H Q E h=>absurd h (no vs H Q E),fun A outer s H args us vs Q E _ _ _ _ h=>absurd h (no vs H Q E)⟩,b,F.kp,m⟩
end
section
variable {P:Program} {w:World} {K:PySem.W.Frag} {mg:Str→Option Value} {base:Heap} {CX:CXT}
theorem DZ:ay ["_law_script", "_law_k", "_law_hand_here"] ["_law_script", "_law_k"] (ak (top 69)):=by walk_at "s"
def pB (K:PySem.W.Frag):Sp:=fun vs H Q _=>∃ (a:Addr) (ns:List Int) (k:Int),vs=[.ref a,.int k]∧SqL K H a (ns.map V.int)∧ns.length≤63∧0≤k ∧
 ∀ (p:Addr) (H':Hp),H p=none→cD H' p 0→aF H H'→Q (.ref p) H'
theorem tO {ns:List Int} {k:Int} (h0 : 0≤k) (h:k < (ns.length:Int)):∃ v:Int,atI (ns.map V.int) k=some (.int v):=by
 have hk:k.toNat < ns.length:=by omega
 have ek:k=((k.toNat:Nat):Int):=by omega
 have q:atI (ns.map V.int) ((k.toNat:Nat):Int)=some (.int ns[k.toNat]):=eV (by rw [List.getElem?_map,List.getElem?_eq_getElem hk] <;> rfl)
 rw [← ek] at q
 exact ⟨_,q⟩
theorem EC (D:Dat K mg "_law_hand" "_law_hand" (top 69) ["_law_script", "_law_k"]) (BT:Bt mg):Cal P w K mg base CX "_law_hand" 1 ["_law_script", "_law_k"] (pB K):=by
 have S:=DZ
 walk_at "d"
 ·obtain ⟨a,ns,k,rfl,_⟩:=h
  rfl
 obtain ⟨a,ns,k,rfl,hS,h63,h0,q⟩:=h
 refine ⟨_,(ai (aK (i:=2) S.nd rfl (by first | exact Or.inl rfl | exact Or.inr rfl) (b9 (aa ah (aa ah (aa ah af)))))
   (ai (aX (aG oi (pv 1) (bq tH rfl BT.len L3.kB (aa (pv 0) af)) (aM _)) (aj (fj (aQ fk (aq cI (pv 0) (pv 1) (fun _ _=>rfl)) (aQ fJ (aQ uQ ah ah) (aQ uQ ah ah))) (lZ (pv 2) ah set_list))) aE)
   (ai (aX (PW.pt (fO (aG l6 (aq cI (pv 2) ah (fun _ _=>rfl)) (aQ uQ ah ah) (aM _)) (dH (aG bQ (aQ fk (aq cI (pv 0) ah (fun _ _=>rfl)) ah) ah (aM _))))) (aj (fj ah (lZ (pv 2) ah set_list))) aE)
   (ai (aX (aG bQ (pv 1) ah (aM _)) (aj (fj (aQ dJ (aq cI (pv 2) ah (fun _ _=>rfl)) ah) (lZ (pv 2) ah set_list))) aE)
   (aj (au (pv 2))))))),?_⟩
 have hl:(ns.map V.int).length=ns.length:=List.length_map _
 refine ⟨(by show 3≤sizeLine;decide),fun p hp=>?_⟩
 have sq:∀ o,SqL K (upd H p o) a (ns.map V.int):=fun o=>(dc hp o).seq hS
 -- the number
 dsimp only [bO]
 refine bJ (fun σ H'=>∃ x:Int,σ=[some (.ref a),some (.int k),some (.ref p)]∧H'=upd H p (.lst [.int x,.int 0,.int 1])∧0≤x∧x < 10 ^ 121∧(x=0∨k < (ns.length:Int))) (fun nx kk=>?_) ?_
 ·refine ⟨_,rfl,_,rfl,a,_,rfl,.inl (sq _),_,_,rfl,rfl,_,rfl,?_⟩
  refine zz (fun c=>?_) (fun c=>?_)
  ·have c':k < ((ns.map V.int).length:Int):=of_decide_eq_true c
   rw [hl] at c'
   obtain ⟨v,hv⟩:=tO h0 c'
   refine ⟨_,rfl,_,rfl,a,_,_,_,rfl,rfl,sq _,hv,_,_,rfl,rfl,⟨by decide,by decide,by decide⟩,_,_,rfl,rfl,⟨by decide,by decide,by decide⟩,_,_,rfl,rfl,⟨⟨by decide,by decide⟩,by decide,by decide⟩,_,_,rfl,rfl,(by show (0:Int) < _;decide),?_⟩
   refine ⟨_,rfl,p,_,_,0,rfl,rfl,aB,rfl,?_⟩
   refine kk _ _ ⟨_,rfl,eE,?_,?_,.inr c'⟩
   ·exact Int.emod_nonneg _ (by decide)
   ·exact Int.lt_trans (Int.emod_lt_of_pos _ (by decide)) (by decide)
  ·exact kk _ _ ⟨0,rfl,rfl,by decide,by decide,.inl rfl⟩
 rintro σ H' ⟨x,rfl,rfl,x0,x1,xk⟩
 -- the way
 refine bJ (fun σ H'=>∃ m:Int,σ=[some (.ref a),some (.int k),some (.ref p)]∧H'=upd H p (.lst [.int x,.int 0,.int m])) (fun nx kk=>?_) ?_
 ·refine ⟨_,rfl,p,_,_,_,rfl,rfl,SqL.of aB,rfl,_,_,rfl,rfl,⟨by decide,by decide,by decide⟩,_,_,rfl,rfl,_,rfl,?_⟩
  refine zz (fun c=>?_) (fun c=>?_)
  ·have c':(10:Int) ^ 18≤x:=of_decide_eq_true c
   have hk:k < (ns.length:Int):=by
    rcases xk with z | z
    ·rw [z] at c';exact absurd c' (by decide)
    ·exact z
   obtain ⟨v,hv⟩:=tO (k:=0) (ns:=ns) (Int.le_refl 0) (by omega)
   refine ⟨_,rfl,a,_,_,_,rfl,rfl,sq _,hv,_,_,rfl,rfl,(by show (0:Int) < _;decide),rfl,_,rfl,?_⟩
   refine zz (fun c=>?_) (fun c=>?_)
   ·refine ⟨_,rfl,p,_,_,2,rfl,rfl,aB,rfl,?_⟩
    exact kk _ _ ⟨0,rfl,eE⟩
   ·exact kk _ _ ⟨1,rfl,rfl⟩
  ·refine LQ ?_
   exact kk _ _ ⟨1,rfl,rfl⟩
 rintro σ H' ⟨m,rfl,rfl⟩
 refine bJ (fun σ H'=>∃ y:Int,σ=[some (.ref a),some (.int k),some (.ref p)]∧H'=upd H p (.lst [.int y,.int 0,.int m])∧0≤y∧y < 10 ^ 121) (fun nx kk=>?_) ?_
 ·refine ⟨_,rfl,rfl,_,rfl,?_⟩
  refine zz (fun c=>?_) (fun c=>?_)
  ·refine ⟨_,rfl,p,_,_,_,rfl,rfl,SqL.of aB,rfl,_,_,rfl,rfl,⟨by decide,by decide⟩,_,rfl,p,_,_,0,rfl,rfl,aB,rfl,?_⟩
   exact kk _ _ ⟨x / 2,rfl,eE,by omega,by omega⟩
  ·exact kk _ _ ⟨x,rfl,rfl,x0,x1⟩
 rintro σ H' ⟨y,rfl,rfl,y0,y1⟩
 refine ⟨_,rfl,?_⟩
 exact q p _ hp ⟨y,0,m,aB,y0,y1,Int.le_refl _,Int.le_refl _⟩ (dc hp _)
theorem DS:ay ["_law_hand_here", "_law_many", "_law_found", "_law_low", "_law_by", "_law_one", "_law_two"] ["_law_hand_here", "_law_many"] (ak (top 70)):=by walk_at "s"
def lim (n:Nat):Int:=10 ^ (6+5 * n)
def DA:Nat→Sp
 | 0=>fun _ _ _ _=>False
 | n+1=>fun vs H Q _=>∃ (p:Addr) (many b:Int),vs=[.ref p,.int many]∧0 < many∧many≤lim n∧cD H p b∧b+2 ^ n≤2 ^ 60∧n≤12 ∧
  ∀ (r:Int) (H':Hp),0≤r→r < many→cD H' p (b+2 ^ n)→Oth p H H'→Q (.int r) H'
theorem Cb {n:Nat} {m:Int} (h0 : 0 < m) (h:m≤lim (n+1)):m / 1000000+1≤lim n:=by
 have e:lim (n+1)=100000 * lim n:=by
  unfold lim
  rw [show 6+5 * (n+1)=(6+5 * n)+5 from by omega,Int.pow_add]
  rw [show (10:Int) ^ 5=100000 from by decide,Int.mul_comm]
 have e1:(1000000:Int)≤lim n:=by
  unfold lim
  rw [Int.pow_add]
  have:(0:Int) < 10 ^ (5 * n):=Int.pow_pos (by decide)
  rw [show (10:Int) ^ 6=1000000 from by decide]
  have h1:(1:Int)≤10 ^ (5 * n):=this
  have:=Int.mul_le_mul_of_nonneg_left h1 (show (0:Int)≤1000000 by decide)
  rw [Int.mul_one] at this
  exact this
 omega
theorem EL {n:Nat}:(1000000:Int)≤lim n:=by
 unfold lim
 rw [Int.pow_add]
 have:(0:Int) < 10 ^ (5 * n):=Int.pow_pos (by decide)
 rw [show (10:Int) ^ 6=1000000 from by decide]
 have h1:(1:Int)≤10 ^ (5 * n):=this
 have:=Int.mul_le_mul_of_nonneg_left h1 (show (0:Int)≤1000000 by decide)
 rw [Int.mul_one] at this
 exact this
theorem Cc {n:Nat} (h:n≤12):lim n < 2 ^ 250:=by
 unfold lim
 refine Int.lt_of_le_of_lt (b:=10 ^ 66) ?_ (by decide)
 have:(10:Nat) ^ (6+5 * n)≤10 ^ 66:=Nat.pow_le_pow_right (by decide) (by omega)
 exact_mod_cast this
theorem HU {u v A B:Int} (h1 : 0≤u) (h2:u≤A) (h3 : 0≤v) (h4:v≤B) : 0≤u * v∧u * v≤A * B:=
 ⟨Int.mul_nonneg h1 h3,Int.le_trans (Int.mul_le_mul_of_nonneg_right h2 h3) (Int.mul_le_mul_of_nonneg_left h4 (Int.le_trans h1 h2))⟩
theorem Gp {n:Nat} (h:n≤12):(1:Int)≤2 ^ n∧(2:Int) ^ n≤1048576:=by
 have h1 : 1≤2 ^ n:=Nat.one_le_two_pow
 have h2 : 2 ^ n≤2 ^ 20:=Nat.pow_le_pow_right (by decide) (by omega)
 have e:((2:Int) ^ n)=((2 ^ n:Nat):Int):=by norm_cast
 rw [e]
 omega
theorem rV (D:Dat K mg "_law_pick" "_law_pick" (top 70) ["_law_hand_here", "_law_many"]) (NE:bh CX):∀ n:Nat,Cal P w K mg base CX "_law_pick" n ["_law_hand_here", "_law_many"] (DA n)
 | 0=>Dat.none D fun _ _ _ _ h=>h
 | n+1=>by
  have aO:=rV D NE n
  have S:=DS
  walk_at "d"
  ·obtain ⟨p,many,b,rfl,_⟩:=h
   rfl
  obtain ⟨p,many,b,rfl,hm,hlm,hh,hb,hn,q⟩:=h
  have hm6:=Int.lt_of_le_of_lt hlm (Cc hn)
  refine ⟨_,(ai (aX (aG bQ (aq cI (pv 0) ah (fun _ _=>rfl)) ah (aM _)) (ai (aK (i:=2) S.nd rfl (by first | exact Or.inl rfl | exact Or.inr rfl) (aQ fk (aq cI (pv 0) ah (fun _ _=>rfl)) (pv 1)))
    (ai (fj (aQ dJ (aq cI (pv 0) ah (fun _ _=>rfl)) (pv 1)) (lZ (pv 0) ah set_list))
    (aj (au (pv 2))))) aE)
   (ai (aX (aG jB (pv 1) ah (aM _)) (ai (aK (i:=3) S.nd rfl (by first | exact Or.inl rfl | exact Or.inr rfl) (aI aO (hr.mono (by first | decide | omega)) NE.pass (aa (pv 0) (aa ah af))))
    (aj (au (aQ fk (aQ bL (pv 3) (aQ fJ ah (aI aO (hr.mono (by first | decide | omega)) NE.pass (aa (pv 0) (aa (aQ bL (aQ dJ (pv 1) ah) ah) af))))) (pv 1))))) aE)
   (ai (fj (aQ bL (aq cI (pv 0) ah (fun _ _=>rfl)) ah) (lZ (pv 0) ah set_list))
   (ai (aK (i:=4) S.nd rfl (by first | exact Or.inl rfl | exact Or.inr rfl) (aQ bL ah (aQ fJ (aQ fJ ah (aq cI (pv 0) ah (fun _ _=>rfl))) (aq cI (pv 0) ah (fun _ _=>rfl)))))
   (ai (aK (i:=5) S.nd rfl (by first | exact Or.inl rfl | exact Or.inr rfl) (aQ fk (aQ fJ (aQ bL (aQ fk (aq cI (pv 0) ah (fun _ _=>rfl)) ah) ah) (pv 4)) ah))
   (ai (aK (i:=6) S.nd rfl (by first | exact Or.inl rfl | exact Or.inr rfl) (aQ fk (aQ bL (aQ fJ (pv 5) (pv 5)) (aQ fJ ah (pv 5))) ah))
   (aj (au (aQ fk (aQ dJ (aQ fk (aQ fJ (pv 6) ah) ah) ah) (pv 1)))))))))),?_⟩
  obtain ⟨a,d,c,hp,a0,a1,d0,d1⟩:=id hh
  have p20:=Gp hn
  refine ⟨_,rfl,p,_,_,_,rfl,rfl,SqL.of hp,rfl,rfl,_,rfl,?_⟩
  refine zz (fun cc=>?_) (fun cc=>?_)
  ·refine ⟨_,rfl,p,_,_,_,rfl,rfl,SqL.of hp,rfl,_,rfl,_,_,rfl,rfl,hm,?_⟩
   refine ⟨_,rfl,p,_,_,_,rfl,rfl,SqL.of hp,rfl,_,rfl,_,_,rfl,rfl,⟨hm,hm6⟩,_,rfl,p,_,_,0,rfl,rfl,hp,rfl,_,rfl,?_⟩
   refine q _ _ (Int.emod_nonneg _ (by omega)) (Int.emod_lt_of_pos _ hm) ⟨a / many,d,c,aB,Int.ediv_nonneg a0 (by omega),Int.lt_of_le_of_lt (Int.ediv_le_self _ a0) a1,d0,by omega⟩ ((Oth.refl p H).upd _)
  refine ⟨_,rfl,_,_,rfl,rfl,_,rfl,?_⟩
  refine zz (fun cg=>?_) (fun cg=>?_)
  ·have cg':(1000000:Int) < many:=of_decide_eq_true cg
   -- two smaller ones
   cases n with
   | zero=>
    have:many≤1000000:=hlm
    omega
   | succ n=>
    have p21:=Gp (n:=n) (by omega)
    have e2:(2:Int) ^ (n+1)=2 * 2 ^ n:=by rw [Int.pow_succ,Int.mul_comm]
    have hm2:=Cb hm hlm
    have hm3:=Cc (n:=n) (by omega)
    have hm4:=Int.ediv_nonneg (Int.le_of_lt hm) (show (0:Int)≤1000000 by decide)
    rw [e2] at hb
    refine ⟨_,rfl,p,1000000,b,rfl,by decide,EL,hh,by omega,by omega,fun r1 H1 r10 r11 hh1 o1=>?_⟩
    refine ⟨_,rfl,_,rfl,_,rfl,_,_,rfl,rfl,⟨by decide,by decide⟩,_,_,rfl,rfl,p,_,_,rfl,by omega,hm2,hh1,by omega,by omega,fun r2 H2 r20 r21 hh2 o2=>?_⟩
    ·refine ⟨_,_,rfl,rfl,⟨⟨by decide,by decide⟩,by omega,by omega⟩,_,_,rfl,rfl,_,rfl,_,_,rfl,rfl,hm,?_⟩
     refine q _ _ (Int.emod_nonneg _ (by omega)) (Int.emod_lt_of_pos _ hm) (hh2.mono ?_) (o1.trans o2)
     show b+2 ^ n+2 ^ n≤b+2 ^ (n+1)
     omega
  ·have MB:b≤1152921504606846976:=by omega
   refine ⟨_,rfl,p,_,_,_,rfl,rfl,SqL.of hp,rfl,_,_,rfl,rfl,_,rfl,p,_,_,1,rfl,rfl,hp,rfl,?_⟩
   have hp1:(upd H p (HO.lst [.int a,.int (d+1),.int c])) p=some (.lst [.int a,.int (d+1),.int c]):=aB
   have m1:=HU (u:=39916801 * (d+1)) (v:=d+1) (A:=2 ^ 90) (B:=2 ^ 62) (by omega) (by omega) (by omega) (by omega)
   have m0:=Int.emod_nonneg a (show (2147483629:Int)≠0 by decide)
   have m0':=Int.emod_lt_of_pos a (show (0:Int) < 2147483629 by decide)
   refine ⟨_,rfl,p,_,_,_,rfl,rfl,SqL.of hp1,rfl,_,_,rfl,rfl,⟨⟨by decide,by decide⟩,by omega,by omega⟩,_,rfl,p,_,_,_,rfl,rfl,SqL.of hp1,rfl,_,_,rfl,rfl,⟨⟨by omega,by omega⟩,by omega,by omega⟩,_,_,rfl,rfl,?_⟩
   refine ⟨_,rfl,p,_,_,_,rfl,rfl,SqL.of hp1,rfl,_,_,rfl,rfl,(by show (0:Int) < _;decide),_,_,rfl,rfl,_,rfl,_,_,rfl,rfl,⟨⟨by omega,by omega⟩,by omega,by omega⟩,_,_,rfl,rfl,(by show (0:Int) < _;decide),?_⟩
   generalize hx:(a % 2147483629+11) * (716151937+39916801 * (d+1) * (d+1)) % 998244353=x
   have x0 : 0≤x:=hx▸Int.emod_nonneg _ (by decide)
   have x1:x < 998244353:=hx▸Int.emod_lt_of_pos _ (by decide)
   refine ⟨_,rfl,_,rfl,_,_,rfl,rfl,⟨⟨by omega,by omega⟩,by omega,by omega⟩,_,rfl,_,_,rfl,rfl,⟨⟨by decide,by decide⟩,by omega,by omega⟩,_,_,rfl,rfl,_,_,rfl,rfl,(by show (0:Int) < _;decide),?_⟩
   generalize hy:(x * x+48271 * x) % 1000000007=y
   have y0 : 0≤y:=hy▸Int.emod_nonneg _ (by decide)
   have y1:y < 1000000007:=hy▸Int.emod_lt_of_pos _ (by decide)
   refine ⟨_,rfl,_,_,rfl,rfl,⟨⟨by omega,by omega⟩,by decide,by decide⟩,_,_,rfl,rfl,(by show (0:Int) < _;decide),_,_,rfl,rfl,⟨by decide,by decide⟩,_,rfl,_,_,rfl,rfl,hm,?_⟩
   exact q _ _ (Int.emod_nonneg _ (by omega)) (Int.emod_lt_of_pos _ hm) ⟨a,d+1,c,hp1,a0,a1,by omega,by omega⟩ ((Oth.refl p H).upd _)
def jT:Sp:=fun vs H Q _=>∃ (p:Addr) (many b:Int),vs=[.ref p,.int many]∧0 < many∧many≤10 ^ 50∧cD H p b∧b≤1000000000 ∧
  ∀ (r:Int) (H':Hp),0≤r→r < many→cD H' p (b+1024)→Oth p H H'→Q (.int r) H'
theorem Et (D:Dat K mg "_law_pick" "_law_pick" (top 70) ["_law_hand_here", "_law_many"]) (NE:bh CX):Cal P w K mg base CX "_law_pick" 11 ["_law_hand_here", "_law_many"] jT:=
 (rV D NE 11).imp fun vs H Q E ⟨p,many,b,e,h1,h2,hh,hb,q⟩=>⟨p,many,b,e,h1,Int.le_trans h2 (by decide),hh,(by show b+1024≤1152921504606846976;omega),by decide,q⟩
end
def cu (n:Int):Ob:=⟨fun _ o=>∃ a b c:Int,o = .lst [.int a,.int b,.int c]∧0≤a∧a < 10 ^ 121∧0≤b∧b≤n,fun _ h=>h⟩
theorem cu.at {n:Int} {H:Hp} {p:Addr} (h:∃ o,H p=some o∧(cu n).p H o):cD H p n:=by
 obtain ⟨o,e,a,b,c,rfl,r⟩:=h
 exact ⟨a,b,c,e,r⟩
theorem cD.ob {n:Int} {H:Hp} {p:Addr} (h:cD H p n):∃ o,H p=some o∧(cu n).p H o:=by
 obtain ⟨a,b,c,e,r⟩:=h
 exact ⟨_,e,a,b,c,rfl,r⟩
theorem cD.ts {n:Int} {H H':Hp} {p:Addr} (h:cD H p n) (o:Oth p H H'):Chg p H H':=by
 obtain ⟨a,b,c,e,_⟩:=h
 exact ⟨o,fun q xs hq=>o q _ hq fun z=>by rw [z,e] at hq;cases hq⟩
section
variable {K:PySem.W.Frag} {P:Addr→Prop} {H0 H:Hp} {l l':List (Addr×Ob)} {fs:List Pr} {p:Addr} {Q:VK} {E:XK}
theorem qU {a:Addr} {ns:List Int} {k:Int} (L:Led P H0 H l fs) (hS:SqL K H a (ns.map V.int)) (h63:ns.length≤63) (h0 : 0≤k)
  (q:∀ p H',H p=none→Led P H0 H' ((p,cu 0)::l) fs→aF H H'→Q (.ref p) H'):pB K [.ref a,.int k] H Q E:=
 ⟨a,ns,k,rfl,hS,h63,h0,fun p H' np hh s=>q p H' np ⟨fun x hx=>by
   rcases List.mem_cons.mp hx with rfl | hx
   ·exact hh.ob
   ·exact (L.keep s).at_ x hx,
  by
   rw [List.map_cons,List.nodup_cons]
   refine ⟨fun z=>?_,L.nd⟩
   obtain ⟨x,hx,e⟩:=List.mem_map.mp z
   exact (L.fresh np).1 x hx e,
  fun x hx=>by
   rcases List.mem_cons.mp hx with rfl | hx
   ·exact (L.fresh np).2
   ·exact L.own x hx,(L.keep s).fr,(L.keep s).st⟩ s⟩
theorem bH {many b:Int} (L:Led P H0 H l fs) (m:Put p (cu b) (cu (b+1024)) l l') (h0 : 0 < many) (h1:many≤10 ^ 50) (hb:b≤1000000000)
  (q:∀ r H',0≤r→r < many→Led P H0 H' l' fs→Chg p H H'→Q (.int r) H'):jT [.ref p,.int many] H Q E:=
 have hh:=cu.at (L.at_ _ m.mem)
 ⟨p,many,b,rfl,h0,h1,hh,hb,fun r H' r0 r1 hh' o=>q r H' r0 r1 (L.set m (hh.ts o) hh'.ob) (hh.ts o)⟩
theorem jF {b:Int} (h:cD H p b):Led (·=p) H H [(p,cu b)] []:=
 ⟨fun x hx=>by rw [List.mem_singleton.mp hx];exact h.ob,by simp,fun x hx=>.inl (by rw [List.mem_singleton.mp hx]),fun _ _ h _=>h,fun _ h=>by simp at h⟩
end
structure ShN (c s:Int):Prop where
 c1 : 1≤c
 c2:c≤1000
 s1 : 1≤s
 s2:s≤1000
theorem Lk:¬ (("counts" : Str) = "slots"):=by decide +kernel
def shF (c s:Int):List (Str×V):=[("counts",.int c),("slots",.int s)]
theorem DF (c s:Int):br "slots" (.int s) (br "counts" (.int c) [])=shF c s:=by
 show (if ("counts" : Str) = "slots" then _ else (("counts" : Str),V.int c)::[(("slots" : Str),V.int s)])=_
 rw [if_neg Lk]
 rfl
theorem wW (c s:Int):(shF c s).lookup ("counts" : Str)=some (.int c):=by unfold shF;walk_at "lk"
theorem AY (c s:Int):(shF c s).lookup ("slots" : Str)=some (.int s):=by unfold shF;walk_at "lk"
def C8 (C:Addr) (c s:Int):Ob:=⟨fun _ o=>∃ dx,o = .ins C dx (shF c s),fun _ h=>h⟩
structure ShC (K:PySem.W.Frag) (C:Addr):Prop where
 cl:Cls K C
 nc:aY K C "counts"
 ns:aY K C "slots"
section
variable {P:Program} {w:World} {K:PySem.W.Frag} {mg:Str→Option Value} {base:Heap} {CX:CXT} {C:Addr}
theorem A2:ay ["thing"] ["thing"] (ak (top 13)):=by walk_at "s"
def q9:Sp:=fun vs H Q _=>∃ i:Int,vs=[.int i]∧Q (.bl true) H
theorem fu {H:Hp} {Q:VK} {x:V} {t:Value} {T:String} {b:Bool} (ty:iZ K H x t) (e:PySem.W.kitOne K t (.type T)=some b) (h:Q (.bl b) H):D9 K [x,.ty T] H Q:=⟨x,_,t,b,rfl,ty,.inl ⟨T,rfl,e⟩,h⟩
theorem BI (D:Dat K mg "is_whole" "is_whole" (top 13) ["thing"]) (BT:Bt mg):Cal P w K mg base CX "is_whole" 1 ["thing"] q9:=by
 have S:=A2
 walk_at "d"
 ·obtain ⟨i,rfl,_⟩:=h
  rfl
 obtain ⟨i,rfl,q⟩:=h
 refine ⟨_,(aj (au (jZ (pR BT.isinstance BT.int_ L3.C2 (pv 0)) (jY (Hu (pR BT.isinstance BT.bool_ L3.xS (pv 0))))))),?_⟩
 dsimp only [aZ]
 walk_at "go"
 refine fu (.int i) rfl ?_
 walk_at "go"
 refine fu (.int i) rfl ?_
 walk_at "go"
 exact q
theorem D0:ay ["thing", "least"] ["thing", "least"] (ak (top 14)):=by walk_at "s"
def pD:Sp:=fun vs H Q _=>∃ i n:Int,vs=[.int i,.int n]∧Q (.bl (decide (n≤i))) H
theorem ED (D:Dat K mg "is_whole_from" "is_whole_from" (top 14) ["thing", "least"]) (NE:bh CX) (vN:Cal P w K mg base CX "is_whole" 1 ["thing"] q9):Cal P w K mg base CX "is_whole_from" 2 ["thing", "least"] pD:=by
 have S:=D0
 walk_at "d"
 ·obtain ⟨i,n,rfl,_⟩:=h
  rfl
 obtain ⟨i,n,rfl,q⟩:=h
 refine ⟨_,(aj (au (jZ (aI vN (hr.mono (by first | decide | omega)) NE.pass (aa (pv 0) af)) (jY (eS rS (pv 1) (pv 0) (aM _)))))),?_⟩
 walk_at "go"
 refine ⟨i,rfl,?_⟩
 walk_at "go"
 exact q
theorem DP:ay ["thing"] ["thing"] (ak (top 15)):=by walk_at "s"
def AJ:Sp:=fun vs H Q _=>∃ i:Int,vs=[.int i]∧1≤i∧i≤1000∧Q (.bl true) H
theorem Ep (D:Dat K mg "is_side" "is_side" (top 15) ["thing"]) (NE:bh CX) (kX:GlV mg "GREATEST_SIDE" (.int 1000)) (dW:Cal P w K mg base CX "is_whole_from" 2 ["thing", "least"] pD):Cal P w K mg base CX "is_side" 3 ["thing"] AJ:=by
 have S:=DP
 walk_at "d"
 ·obtain ⟨i,rfl,_⟩:=h
  rfl
 obtain ⟨i,rfl,h1,h2,q⟩:=h
 refine ⟨_,(aj (au (jZ (aI dW (hr.mono (by first | decide | omega)) NE.pass (aa (pv 0) (aa ah af))) (jY (eS rS (pv 0) (BB kX) (aM _)))))),?_⟩
 walk_at "go"
 refine ⟨i,1,rfl,?_⟩
 rw [decide_eq_true h1]
 walk_at "go"
 rw [decide_eq_true h2]
 exact q
theorem A5:ay ["self", "counts", "slots"] ["self", "counts", "slots"] (ak (inClass (top 16) 0)):=by walk_at "s"
def lB (C:Addr):Sp:=fun vs H Q _=>∃ (p dx:Addr) (c s:Int),vs=[.ref p,.int c,.int s]∧ShN c s∧H p=some (.ins C dx [])∧∀ H',H' p=some (.ins C dx (shF c s))→(∀ q o,H q=some o→q≠p→H' q=some o)→Q .non H'
theorem BN (D:nQ K mg "Shape" "Shape.__init__" C (inClass (top 16) 0) ["self", "counts", "slots"]) (SC:ShC K C) (NE:bh CX) (oG:Cal P w K mg base CX "is_side" 3 ["thing"] AJ):Mak P w K mg base CX "Shape" C 4 ["self", "counts", "slots"] (lB C):=by
 have S:=A5
 walk_at "d"
 ·obtain ⟨p,dx,c,s,rfl,_⟩:=h
  rfl
 obtain ⟨p,dx,c,sl,rfl,n,hp,q⟩:=h
 refine ⟨_,(ai (aX (PW.pt (kL (cU (b8 (aI oG (hr.mono (by first | decide | omega)) NE.pass (aa (pv 1) af)))) (jW (cU (b8 (aI oG (hr.mono (by first | decide | omega)) NE.pass (aa (pv 2) af))))))) (aj ie) aE)
   (ai (cP (pv 0) (pv 1) rfl)
   (aj (cP (pv 0) (pv 2) rfl)))),?_⟩
 dsimp only [aZ]
 walk_at "go"
 refine ⟨c,rfl,n.c1,n.c2,?_⟩
 walk_at "go"
 refine ⟨sl,rfl,n.s1,n.s2,?_⟩
 walk_at "go"
 refine ⟨p,C,dx,[],rfl,hp,SC.cl,SC.nc,by decide,?_⟩
 walk_at "go"
 refine ⟨p,C,dx,_,rfl,aB,SC.cl,SC.ns,(by show 1 < 1000;decide),?_⟩
 rw [eE,DF]
 exact q _ aB fun x o h z=>by rw [az z];exact h
theorem yf {PP:Addr→Prop} {H0 H:Hp} {l:List (Addr×Ob)} {fs:List Pr} {Q:VK} {E:XK} {c s:Int} (L:Led PP H0 H l fs) (n:ShN c s) (q:∀ x H',H x=none→Led PP H0 H' ((x,C8 C c s)::l) fs→aF H H'→Q (.ref x) H'):Made C (lB C) E [.int c,.int s] H Q:=by
 intro x dx nx nd ne
 refine ⟨x,dx,c,s,rfl,n,aB,fun H' h1 h2=>⟨rfl,?_⟩⟩
 have sm:aF H H':=fun b o e=>h2 b o (by rw [az (aJ e nx),az (aJ e nd)];exact e) (aJ e nx)
 exact q x H' nx (L.add sm nx ⟨_,h1,dx,rfl⟩) sm
def mk (c s m l k:Int):Int:=(m * s+l) * c+k
def C9 (C:Addr) (H:Hp) (p:Addr) (c s:Int):Prop:=∃ dx,H p=some (.ins C dx (shF c s))
theorem DU:ay ["shape", "moment", "slot", "count"] ["shape", "moment", "slot", "count"] (ak (top 17)):=by walk_at "s"
def AO (C:Addr):Sp:=fun vs H Q _=>∃ (p:Addr) (c s m l k:Int),vs=[.ref p,.int m,.int l,.int k]∧ShN c s∧C9 C H p c s∧Q (.int (mk c s m l k)) H
theorem Ew (D:Dat K mg "mark_of" "mark_of" (top 17) ["shape", "moment", "slot", "count"]) (SC:ShC K C):Cal P w K mg base CX "mark_of" 1 ["shape", "moment", "slot", "count"] (AO C):=by
 have S:=DU
 walk_at "d"
 ·obtain ⟨p,c,s,m,l,k,rfl,_⟩:=h
  rfl
 obtain ⟨p,c,sl,m,l,k,rfl,n,⟨dx,hp⟩,q⟩:=h
 obtain ⟨c1,c2,s1,s2⟩:=n
 refine ⟨_,(aj (au (aQ bL (aQ pS (aQ bL (aQ pS (pv 1) (bw (pv 0) rfl)) (pv 2)) (bw (pv 0) rfl)) (pv 3)))),?_⟩
 dsimp only [aZ]
 walk_at "go"
 refine ⟨p,C,dx,_,_,rfl,hp,SC.cl,SC.ns,AY c sl,?_⟩
 refine Cq (show wA _ _ from .inr ⟨by omega,by omega⟩) ?_
 walk_at "go"
 refine ⟨p,C,dx,_,_,rfl,hp,SC.cl,SC.nc,wW c sl,?_⟩
 refine Cq (show wA _ _ from .inr ⟨by omega,by omega⟩) ?_
 walk_at "go"
 exact q
theorem A9:ay ["shape", "mark", "count", "rest"] ["shape", "mark"] (ak (top 18)):=by walk_at "s"
def pq (C:Addr):Sp:=fun vs H Q _=>∃ (p:Addr) (c s m:Int),vs=[.ref p,.int m]∧ShN c s∧C9 C H p c s∧0≤m ∧
 ∀ t H',H t=none→H' t=some (.tup [.int (m / c / s),.int (m / c % s),.int (m % c)])→aF H H'→Q (.ref t) H'
theorem BR (D:Dat K mg "parts_of" "parts_of" (top 18) ["shape", "mark"]) (SC:ShC K C):Cal P w K mg base CX "parts_of" 1 ["shape", "mark"] (pq C):=by
 have S:=A9
 walk_at "d"
 ·obtain ⟨p,c,s,m,rfl,_⟩:=h
  rfl
 obtain ⟨p,c,sl,m,rfl,n,⟨dx,hp⟩,m0,q⟩:=h
 obtain ⟨c1,c2,s1,s2⟩:=n
 refine ⟨_,(ai (aK (i:=2) S.nd rfl (by first | exact Or.inl rfl | exact Or.inr rfl) (aQ fk (pv 1) (bw (pv 0) rfl)))
   (ai (aK (i:=3) S.nd rfl (by first | exact Or.inl rfl | exact Or.inr rfl) (aQ dJ (pv 1) (bw (pv 0) rfl)))
   (aj (au (aS (aa (aQ dJ (pv 3) (bw (pv 0) rfl)) (aa (aQ fk (pv 3) (bw (pv 0) rfl)) (aa (pv 2) af)))))))),?_⟩
 dsimp only [aZ]
 have L:=Led.start H (fun _=>False)
 walk_at "go"
 refine ⟨p,C,dx,_,_,rfl,hp,SC.cl,SC.nc,wW c sl,?_⟩
 walk_at "go"
 refine ⟨p,C,dx,_,_,rfl,hp,SC.cl,SC.nc,wW c sl,?_⟩
 walk_at "go"
 refine ⟨p,C,dx,_,_,rfl,hp,SC.cl,SC.ns,AY c sl,?_⟩
 walk_at "go"
 refine ⟨p,C,dx,_,_,rfl,hp,SC.cl,SC.ns,AY c sl,?_⟩
 walk_at "go"
 exact q _ _ n' (L'.tup (by walk_at "mem")) (by assumption)
end
def i0:List Str:=["ahead", "apart", "ends", "once", "spoken"]
structure RuN (ws:List Str):Prop where
 sub:∀ x∈ws,x∈i0
 nd:ws.Nodup
def stF (sh:V) (far room term:Int) (tr:Addr):List (Str×V):=[("shape",sh),("far",.int far),("room",.int room),("term",.int term),("rules",.ref tr)]
structure StC (K:PySem.W.Frag) (C:Addr):Prop where
 cl:Cls K C
 n1:aY K C "shape"
 n2:aY K C "far"
 n3:aY K C "room"
 n4:aY K C "term"
 n5:aY K C "rules"
def k9 (C:Addr) (H:Hp) (p:Addr) (sh:V) (far room term:Int) (ws:List Str):Prop:=∃ (dx tr:Addr) (ms:List Str),H p=some (.ins C dx (stF sh far room term tr))∧H tr=some (.tup (ms.map V.str))∧ms.Perm ws
structure StN (far room term:Int):Prop where
 f0 : 0≤far
 f1:far≤1000000000000
 r0 : 1≤room
 r1:room≤1000000000000
 t0 : 1≤term
 t1:term≤1000000000000
theorem Dy (sh:V) (far room term:Int) (tr:Addr):br "rules" (.ref tr) (br "term" (.int term) (br "room" (.int room) (br "far" (.int far) (br "shape" sh []))))=stF sh far room term tr:=by
 have a1:¬ (("shape" : Str) = "far"):=by decide +kernel
 have a2:¬ (("shape" : Str) = "room"):=by decide +kernel
 have a3:¬ (("shape" : Str) = "term"):=by decide +kernel
 have a4:¬ (("shape" : Str) = "rules"):=by decide +kernel
 have b2:¬ (("far" : Str) = "room"):=by decide +kernel
 have b3:¬ (("far" : Str) = "term"):=by decide +kernel
 have b4:¬ (("far" : Str) = "rules"):=by decide +kernel
 have c3:¬ (("room" : Str) = "term"):=by decide +kernel
 have c4:¬ (("room" : Str) = "rules"):=by decide +kernel
 have d4:¬ (("term" : Str) = "rules"):=by decide +kernel
 simp only [br,if_neg a1,if_neg a2,if_neg a3,if_neg a4,if_neg b2,if_neg b3,if_neg b4,if_neg c3,if_neg c4,if_neg d4]
 rfl
theorem cL (f:Str) (v:V):∀ fs:List (Str×V),(br f v fs).length≤fs.length+1
 | []=>Nat.le_refl 1
 | (g,x)::r=>by
  show (if g=f then (g,v)::r else (g,x)::br f v r).length≤_
  have:=cL f v r
  by_cases c:g=f
  ·rw [if_pos c,List.length_cons,List.length_cons];omega
  ·rw [if_neg c,List.length_cons,List.length_cons];omega
theorem yx (sh:V) (far room term:Int) (tr:Addr):(stF sh far room term tr).lookup ("rules" : Str)=some (.ref tr):=by unfold stF;walk_at "lk"
theorem nW (sh:V) (far room term:Int) (tr:Addr):(stF sh far room term tr).lookup ("shape" : Str)=some sh:=by unfold stF;walk_at "lk"
theorem Dz (sh:V) (far room term:Int) (tr:Addr):(stF sh far room term tr).lookup ("far" : Str)=some (.int far):=by unfold stF;walk_at "lk"
theorem AB (sh:V) (far room term:Int) (tr:Addr):(stF sh far room term tr).lookup ("room" : Str)=some (.int room):=by unfold stF;walk_at "lk"
section
variable {P:Program} {w:World} {K:PySem.W.Frag} {mg:Str→Option Value} {base:Heap} {CX:CXT} {C aR:Addr}
theorem DO:ay ["thing", "least"] ["thing", "least"] (ak (top 40)):=by walk_at "s"
def AH:Sp:=fun vs H Q _=>∃ i n:Int,vs=[.int i,.int n]∧n≤i∧i≤1000000000000∧Q (.bl true) H
theorem En (D:Dat K mg "is_span" "is_span" (top 40) ["thing", "least"]) (NE:bh CX) (kW:GlV mg "GREATEST_SPAN" (.int 1000000000000)) (dW:Cal P w K mg base CX "is_whole_from" 2 ["thing", "least"] pD):Cal P w K mg base CX "is_span" 3 ["thing", "least"] AH:=by
 have S:=DO
 walk_at "d"
 ·obtain ⟨i,n,rfl,_⟩:=h
  rfl
 obtain ⟨i,n,rfl,h1,h2,q⟩:=h
 refine ⟨_,(aj (au (jZ (aI dW (hr.mono (by first | decide | omega)) NE.pass (aa (pv 0) (aa (pv 1) af))) (jY (eS rS (pv 0) (BB kW) (aM _)))))),?_⟩
 try dsimp only [aZ]
 walk_at "go"
 refine ⟨i,n,rfl,?_⟩
 rw [decide_eq_true h1]
 walk_at "go"
 rw [decide_eq_true h2]
 exact q
theorem DQ:ay ["thing"] ["thing"] (ak (top 41)):=by walk_at "s"
def AM:Sp:=fun vs H Q _=>∃ z:Str,vs=[.str z]∧z∈i0∧Q (.bl true) H
theorem Er (D:Dat K mg "is_rule" "is_rule" (top 41) ["thing"]) (BT:Bt mg) (fL:GlV mg "RULES" (.ref aR)) (hR:∀ H,SqT K H aR (i0.map V.str)):Cal P w K mg base CX "is_rule" 1 ["thing"] AM:=by
 have S:=DQ
 walk_at "d"
 ·obtain ⟨z,rfl,_⟩:=h
  rfl
 obtain ⟨z,rfl,hz,q⟩:=h
 refine ⟨_,(aj (au (jZ (pR BT.isinstance BT.str_ L3.C0 (pv 0)) (jY (eS fW (pv 0) (BB fL) (by with_unfolding_all rfl)))))),?_⟩
 try dsimp only [aZ]
 walk_at "go"
 refine fu (.str z) rfl ?_
 walk_at "go"
 refine GA (hR _) ?_
 rw [decide_eq_true hz]
 exact q
theorem A6:ay ["thing"] ["thing"] (ak (top 42)):=by walk_at "s"
theorem Bl {ws:List Str} (h:RuN ws):ws.length≤5:=by
 have:∀ (xs ys:List Str),xs.Nodup→(∀ x∈xs,x∈ys)→xs.length≤ys.length:=by
  intro xs
  induction xs with
  | nil=>intro ys _ _;exact Nat.zero_le _
  | cons x xs ih=>
   intro ys hn hs
   rw [List.nodup_cons] at hn
   have hx:=hs x List.mem_cons_self
   have:=ih (ys.erase x) hn.2 fun y hy=>(List.mem_erase_of_ne (fun e=>hn.1 (by rw [← e];exact hy))).mpr (hs y (List.mem_cons_of_mem _ hy))
   rw [List.length_erase_of_mem hx] at this
   have hp:=List.length_pos_of_mem hx
   rw [List.length_cons];omega
 exact this ws i0 h.nd h.sub
def lS:Sp:=fun vs H Q _=>∃ (a:Addr) (ws:List Str),vs=[.ref a]∧H a=some (.lst (ws.map V.str))∧RuN ws∧∀ H',aF H H'→Q (.bl true) H'
theorem BO (D:Dat K mg "are_rules" "are_rules" (top 42) ["thing"]) (BT:Bt mg) (NE:bh CX) (zU:Cal P w K mg base CX "is_rule" 1 ["thing"] AM):Cal P w K mg base CX "are_rules" 3 ["thing"] lS:=by
 have S:=A6
 walk_at "d"
 ·obtain ⟨a,ws,rfl,_⟩:=h
  rfl
 obtain ⟨a,ws,rfl,ha,hw,q⟩:=h
 refine ⟨_,(ai (aX (cy (dh (pv 0))) (aj (au dZ)) aE)
   (ai (aX (cU (b8 (Ed BT.isinstance (pv 0) (aS (aa (lI (v:=(V.ty "list")) rfl BT.list_ L3.lP rfl) (aa (lI (v:=(V.ty "tuple")) rfl BT.tuple_ L3.dj rfl) af)))))) (aj (au dZ)) aE)
   (ai (aX (cU (b8 (bq (CQ rfl) rfl BT.all L3.Jz (aa (iV (g:=(bO 0)) rfl (eK (pv 0)) (kC (own:=["word"]) (cap:=[]) (ak (top 42)).names ["thing"] rfl rfl rfl (by decide +kernel)) (fun _ _ _ _=>(bg (i:=0) (show (qE ["thing"] ["word"] []).Nodup by decide +kernel) rfl (by first | exact Or.inl rfl | exact Or.inr rfl))) (fun _ _ _ _=>iu) (fun _ _ _ _=>(aI zU (hr.mono (by first | decide | omega)) NE.pass (aa (pv 0) af)))) af)))) (aj (au dZ)) aE)
   (aj (au (eS bQ (yX rfl rfl rfl BT.len BT.set_ (pv 0)) (bq tH rfl BT.len L3.kB (aa (pv 0) af)) (aM _))))))),?_⟩
 try dsimp only [aZ]
 have hl5:=Bl hw
 have L:=Led.start H (fun _=>False)
 walk_at "go"
 refine bD (fun z=>nomatch z) fun _=>?_
 walk_at "go"
 have s1:=L'.same
 refine IX ["list", "tuple"] (.lst (s1 _ _ ha)) (L'.tup (by walk_at "mem")) rfl ?_
 clear L L'
 rename Hp=>H1
 walk_at "go"
 refine gA (SqL.of (s1 _ _ ha)) ?_
 refine lN (ws.map V.str) (fun i ys Hx=>ys=(List.replicate i true).map V.bl∧Hx=H1) ⟨rfl,rfl⟩ (fun i ys Hx hi ⟨e,e2⟩=>⟨e2▸SqL.of (s1 _ _ ha),by
  rw [e,List.length_map,List.length_replicate]
  rw [List.length_map] at hi
  exact Nat.le_of_lt (small1000 (by omega))⟩) ?_ ?_
 ·rintro i v ys H2 hv ⟨rfl,rfl⟩
  obtain ⟨z,hz,rfl⟩:∃ z,z∈ws∧v = .str z:=by
   obtain ⟨z,hz,e⟩:=List.mem_map.mp (List.mem_of_getElem? hv)
   exact ⟨z,hz,e.symm⟩
  try dsimp only [bO]
  walk_at "go"
  refine ⟨z,rfl,hw.sub z hz,?_⟩
  exact ⟨by rw [List.replicate_succ',List.map_append];rfl,rfl⟩
 ·rintro ys H2 ⟨rfl,rfl⟩ lc nlc
  rw [List.length_map]
  have s2:aF H2 (upd H2 lc (.lst ((List.replicate ws.length true).map V.bl))):=dc nlc _
  walk_at "go"
  refine Jj (bs:=List.replicate ws.length true) (SqL.of aB) ?_
  rw [show (List.replicate ws.length true).all id=true by rw [List.all_eq_true];intro b hb;exact (List.mem_replicate.mp hb).2]
  walk_at "go"
  refine zH (SqL.of (s2 _ _ (s1 _ _ ha))) (by omega) ?_
  walk_at "go"
  refine lM (SqL.of (s2 _ _ (s1 _ _ ha))) ?_
  walk_at "go"
  have e:decide ((((bN [] ws).length:Nat):Int)=(((ws.map V.str).length:Nat):Int))=true:=decide_eq_true (by rw [m7 ws [] hw.nd (fun _ _ h=>by simp at h),List.length_nil,Nat.zero_add,List.length_map])
  rw [e]
  exact q _ (s1.trans s2)
theorem rD:ay ["self", "shape", "far", "room", "term", "rules"] ["self", "shape", "far", "room", "term", "rules"] (ak (inClass (top 43) 0)):=by walk_at "s"
def gf (C:Addr):Sp:=fun vs H Q _=>∃ (p dx a:Addr) (sh:V) (far room term:Int) (ws:List Str),vs=[.ref p,sh,.int far,.int room,.int term,.ref a]∧StN far room term∧H a=some (.lst (ws.map V.str))∧RuN ws∧H p=some (.ins C dx []) ∧
 ∀ (tr:Addr) (ms:List Str) (H':Hp),ms.Perm ws→H' p=some (.ins C dx (stF sh far room term tr))→H' tr=some (.tup (ms.map V.str))→(∀ q o,H q=some o→q≠p→H' q=some o)→Q .non H'
theorem rU (D:oU K mg "Settings" "Settings.__init__" C (inClass (top 43) 0) ["self", "shape", "far", "room", "term", "rules"]) (SC:StC K C) (BT:Bt mg) (NE:bh CX) (fL:GlV mg "RULES" (.ref aR)) (kr:Cal P w K mg base CX "is_span" 3 ["thing", "least"] AH) (tK:Cal P w K mg base CX "are_rules" 3 ["thing"] lS):Mak P w K mg base CX "Settings" C 4 ["self", "shape", "far", "room", "term", "rules"] (gf C):=by
 have S:=rD
 walk_at "d"
 ·obtain ⟨p,dx,a,sh,far,room,term,ws,rfl,_⟩:=h
  rfl
 obtain ⟨p,dx,a,sh,far,room,term,ws,rfl,n,ha,hw,hp,q⟩:=h
 refine ⟨_,(ai (aX (cU (b8 (aI kr (hr.mono (by first | decide | omega)) NE.pass (aa (pv 2) (aa ah af))))) (aj ie) aE)
   (ai (aX (cU (b8 (aI kr (hr.mono (by first | decide | omega)) NE.pass (aa (pv 3) (aa ah af))))) (aj ie) aE)
   (ai (aX (cU (b8 (aI kr (hr.mono (by first | decide | omega)) NE.pass (aa (pv 4) (aa ah af))))) (aj ie) aE)
   (ai (aX (cU (b8 (aI tK (hr.mono (by first | decide | omega)) NE.pass (aa (pv 5) af)))) (aj ie) aE)
   (ai (cP (pv 0) (pv 1) rfl)
   (ai (cP (pv 0) (pv 2) rfl)
   (ai (cP (pv 0) (pv 3) rfl)
   (ai (cP (pv 0) (pv 4) rfl)
   (aj (cP (pv 0) (bZ (cy (dh (pv 5))) (BB fL) (cO jO rfl BT.tuple_ L3.dj (aa (bq FE rfl BT.sorted L3.oH (aa (pv 5) af)) af))) rfl)))))))))),?_⟩
 try dsimp only [aZ]
 have hl5:=Bl hw
 walk_at "go"
 refine ⟨far,0,rfl,n.f0,n.f1,?_⟩
 walk_at "go"
 refine ⟨room,1,rfl,n.r0,n.r1,?_⟩
 walk_at "go"
 refine ⟨term,1,rfl,n.t0,n.t1,?_⟩
 walk_at "go"
 refine ⟨a,ws,rfl,ha,hw,fun H1 s1=>?_⟩
 have ha1:=s1 _ _ ha
 have hp1:=s1 _ _ hp
 have npa:a≠p:=fun z=>by rw [z,hp] at ha;cases ha
 have k1:=cL ("shape" : Str) sh []
 have k2:=cL ("far" : Str) (.int far) (br "shape" sh [])
 have k3:=cL ("room" : Str) (.int room) (br "far" (.int far) (br "shape" sh []))
 have k4:=cL ("term" : Str) (.int term) (br "room" (.int room) (br "far" (.int far) (br "shape" sh [])))
 rw [List.length_nil] at k1
 walk_at "go"
 refine ⟨p,C,dx,[],rfl,hp1,SC.cl,SC.n1,by decide,?_⟩
 walk_at "go"
 refine ⟨p,C,dx,_,rfl,aB,SC.cl,SC.n2,by omega,?_⟩
 rw [eE]
 walk_at "go"
 refine ⟨p,C,dx,_,rfl,aB,SC.cl,SC.n3,by omega,?_⟩
 rw [eE]
 walk_at "go"
 refine ⟨p,C,dx,_,rfl,aB,SC.cl,SC.n4,by omega,?_⟩
 rw [eE]
 have key:=fun tr=>Dy sh far room term tr
 generalize br ("term" : Str) (.int term) (br "room" (.int room) (br "far" (.int far) (br "shape" sh [])))=fs at *
 have hpc:(upd H1 p (.ins C dx fs)) p=some (.ins C dx fs):=aB
 have hac:(upd H1 p (.ins C dx fs)) a=some (.lst (ws.map V.str)):=by rw [az npa];exact ha1
 have oc:∀ q o,H q=some o→q≠p→(upd H1 p (.ins C dx fs)) q=some o:=fun q o e z=>by rw [az z];exact s1 _ _ e
 generalize upd H1 p (.ins C dx fs)=Hc at *
 have L:=Led.start Hc (fun _=>False)
 walk_at "go"
 refine bD (fun z=>nomatch z) fun _=>?_
 walk_at "go"
 refine E6 L (SqL.of hac) (by omega) fun lb ms H2 nb pm _ L s2=>?_
 walk_at "go"
 refine iB L (SqL.of (L.eo (p:=lb) .head)) fun tr H3 nt L s3=>?_
 walk_at "go"
 have hp3:=s3 _ _ (s2 _ _ hpc)
 have htr:=L.tup (r:=tr) (xs:=ms.map V.str) (by walk_at "mem")
 have LJ:tr≠p:=fun z=>by rw [z,hp3] at htr;cases htr
 refine ⟨p,C,dx,fs,rfl,hp3,SC.cl,SC.n5,by omega,?_⟩
 refine q tr ms _ pm (by rw [aB,key]) (by rw [az LJ];exact htr) fun x o e z=>by rw [az z];exact s3 _ _ (s2 _ _ (oc x o e z))
theorem oZ {PP:Addr→Prop} {H0 H:Hp} {l:List (Addr×Ob)} {fs:List Pr} {Q:VK} {E:XK} {a:Addr} {sh:V} {far room term:Int} {ws:List Str} (n:StN far room term) (ha:H a=some (.lst (ws.map V.str))) (hw:RuN ws) (q:∀ x H',H x=none→k9 C H' x sh far room term ws→aF H H'→Q (.ref x) H'):Made C (gf C) E [sh,.int far,.int room,.int term,.ref a] H Q:=by
 intro x dx nx nd ne
 have sm0:∀ b o,H b=some o→(upd (upd H dx (.own x)) x (.ins C dx [])) b=some o:=fun b o e=>by rw [az (aJ e nx),az (aJ e nd)];exact e
 refine ⟨x,dx,a,sh,far,room,term,ws,rfl,n,sm0 _ _ ha,hw,aB,fun tr ms H' pm h1 h2 h3=>⟨rfl,?_⟩⟩
 exact q x H' nx ⟨dx,tr,ms,h1,h2,pm⟩ fun b o e=>h3 b o (sm0 _ _ e) (aJ e nx)
theorem uG:ay ["settings", "word"] ["settings", "word"] (ak (top 44)):=by walk_at "s"
def fU (C:Addr):Sp:=fun vs H Q _=>∃ (p:Addr) (sh:V) (far room term:Int) (ws:List Str) (z:Str),vs=[.ref p,.str z]∧k9 C H p sh far room term ws∧Q (.bl (decide (z∈ws))) H
theorem uX (D:Dat K mg "has_rule" "has_rule" (top 44) ["settings", "word"]) (SC:StC K C):Cal P w K mg base CX "has_rule" 1 ["settings", "word"] (fU C):=by
 have S:=uG
 walk_at "d"
 ·obtain ⟨p,sh,far,room,term,ws,z,rfl,_⟩:=h
  rfl
 obtain ⟨p,sh,far,room,term,ws,z,rfl,⟨dx,tr,ms,hp,ht,pm⟩,q⟩:=h
 refine ⟨_,(aj (au (eS fW (pv 1) (bw (pv 0) rfl) (by with_unfolding_all rfl)))),?_⟩
 try dsimp only [aZ]
 walk_at "go"
 refine ⟨p,C,dx,_,_,rfl,hp,SC.cl,SC.n5,yx sh far room term tr,?_⟩
 refine GA (SqT.of ht) ?_
 rw [show decide (z∈ms)=decide (z∈ws) from decide_eq_decide.mpr pm.mem_iff]
 exact q
end
def yu (H:Hp) (t:Addr) (x y z:Int):Prop:=H t=some (.tup [.int x,.int y,.int z])
section
variable {P:Program} {w:World} {K:PySem.W.Frag} {mg:Str→Option Value} {base:Heap} {CX:CXT} {C:Addr}
theorem uC:ay ["area"] ["area"] (ak (top 20)):=by walk_at "s"
def AU:Sp:=fun vs H Q _=>∃ (t:Addr) (x y z:Int),vs=[.ref t]∧yu H t x y z∧Q (.int x) H
def wU:Sp:=fun vs H Q _=>∃ (t:Addr) (x y z:Int),vs=[.ref t]∧yu H t x y z∧Q (.int y) H
def wR:Sp:=fun vs H Q _=>∃ (t:Addr) (x y z:Int),vs=[.ref t]∧yu H t x y z∧Q (.int z) H
theorem uS (D:Dat K mg "slot_of" "slot_of" (top 20) ["area"]):Cal P w K mg base CX "slot_of" 1 ["area"] AU:=by
 have S:=uC
 walk_at "d"
 ·obtain ⟨t,x,y,z,rfl,_⟩:=h
  rfl
 obtain ⟨t,x,y,z,rfl,ht,q⟩:=h
 refine ⟨_,(aj (au (aq ao (pv 0) ah (fun _ _=>rfl)))),?_⟩
 dsimp only [aZ]
 have L:=(Led.start H (fun _=>False)).more (aH t [.int x,.int y,.int z]) ht
 walk_at "go"
 exact q
theorem rH:ay ["area"] ["area"] (ak (top 21)):=by walk_at "s"
theorem rZ (D:Dat K mg "first_of" "first_of" (top 21) ["area"]):Cal P w K mg base CX "first_of" 1 ["area"] wU:=by
 have S:=rH
 walk_at "d"
 ·obtain ⟨t,x,y,z,rfl,_⟩:=h
  rfl
 obtain ⟨t,x,y,z,rfl,ht,q⟩:=h
 refine ⟨_,(aj (au (aq ao (pv 0) ah (fun _ _=>rfl)))),?_⟩
 dsimp only [aZ]
 have L:=(Led.start H (fun _=>False)).more (aH t [.int x,.int y,.int z]) ht
 walk_at "go"
 exact q
theorem yS:ay ["area"] ["area"] (ak (top 22)):=by walk_at "s"
theorem zo (D:Dat K mg "end_of" "end_of" (top 22) ["area"]):Cal P w K mg base CX "end_of" 1 ["area"] wR:=by
 have S:=yS
 walk_at "d"
 ·obtain ⟨t,x,y,z,rfl,_⟩:=h
  rfl
 obtain ⟨t,x,y,z,rfl,ht,q⟩:=h
 refine ⟨_,(aj (au (aq ao (pv 0) ah (fun _ _=>rfl)))),?_⟩
 dsimp only [aZ]
 have L:=(Led.start H (fun _=>False)).more (aH t [.int x,.int y,.int z]) ht
 walk_at "go"
 exact q
end
inductive Ln
 | took (g sl f e:Int)
 | held (m:Int)
 | heard (m:Int)
 | ends (g e:Int)
inductive kF (H:Hp) (t:Addr):Ln→Prop
 | took {g sl f e:Int} {ar:Addr} (h:H t=some (.tup [.str "took",.int g,.ref ar])) (ha:H ar=some (.tup [.int sl,.int f,.int e])):kF H t (.took g sl f e)
 | held {m:Int} (h:H t=some (.tup [.str "held",.int m])):kF H t (.held m)
 | heard {m:Int} (h:H t=some (.tup [.str "heard",.int m])):kF H t (.heard m)
 | ends {g e:Int} (h:H t=some (.tup [.str "ends",.int g,.int e])):kF H t (.ends g e)
theorem kF.ts {H H':Hp} {t:Addr} {l:Ln} (h:kF H t l) (s:cS H H'):kF H' t l:=by
 cases h with
 | took h ha=>exact .took (s _ _ h) (s _ _ ha)
 | held h=>exact .held (s _ _ h)
 | heard h=>exact .heard (s _ _ h)
 | ends h=>exact .ends (s _ _ h)
theorem kF.same {H H':Hp} {t:Addr} {l:Ln} (h:kF H t l) (s:aF H H'):kF H' t l:=h.ts (gc s)
abbrev Lns:=List (Addr×Ln)
def lnV (ls:Lns):List V:=ls.map fun x=>.ref x.1
def dw (H:Hp) (ls:Lns):Prop:=∀ x∈ls,kF H x.1 x.2
theorem dw.ts {H H':Hp} {ls:Lns} (h:dw H ls) (s:cS H H'):dw H' ls:=fun x hx=>(h x hx).ts s
theorem dw.same {H H':Hp} {ls:Lns} (h:dw H ls) (s:aF H H'):dw H' ls:=fun x hx=>(h x hx).same s
theorem gq (ls:Lns):(lnV ls).length=ls.length:=List.length_map ..
theorem lK {ls:Lns} {i:Nat} {v:V} (h:(lnV ls)[i]?=some v):∃ x,ls[i]?=some x∧v = .ref x.1:=by
 unfold lnV at h
 rw [List.getElem?_map] at h
 cases e:ls[i]? with
 | none=>rw [e] at h;cases h
 | some x=>rw [e] at h;cases h;exact ⟨x,rfl,rfl⟩
theorem Ca {ls:Lns} {x:Addr×Ln}:lnV (ls++[x])=lnV ls++[.ref x.1]:=by
 unfold lnV;rw [List.map_append];rfl
theorem take_snoc {α : Type} {gs:List α} {i:Nat} {x : α} (h:gs[i]?=some x):gs.take (i+1)=gs.take i++[x]:=by
 rw [List.take_add_one,h];rfl
structure Nt where
 g:Int
 ar:Option (Int×Int×Int)
 hd:Int
 hr:Int
def Nt.nil:Nt:=⟨0,none,0,0⟩
def Nt.step (n:Nt):Ln→Nt
 | .took g sl f e=>⟨g,some (sl,f,e),n.hd,n.hr⟩
 | .held m=>⟨n.g,n.ar,max n.hd m,n.hr⟩
 | .heard m=>⟨n.g,n.ar,n.hd,max n.hr m⟩
 | .ends g e=>if g=n.g then ⟨n.g,n.ar.map fun x=>(x.1,x.2.1,min x.2.2 e),n.hd,n.hr⟩ else n
def f7 (n:Nt) (ls:Lns):Nt:=ls.foldl (fun n x=>n.step x.2) n
theorem jR (n:Nt) (g e:Int):n.step (.ends g e)=if g=n.g then ⟨n.g,n.ar.map fun x=>(x.1,x.2.1,min x.2.2 e),n.hd,n.hr⟩ else n:=rfl
theorem mP {n:Nt} {ls:Lns} {i:Nat} {x:Addr×Ln} (h:ls[i]?=some x):f7 n (ls.take (i+1))=(f7 n (ls.take i)).step x.2:=by
 unfold f7
 rw [take_snoc h,List.foldl_append];rfl
theorem Fw {α : Type} {p : α→Bool} {xs:List α} {i:Nat} {x : α} (h:xs[i]?=some x) (b:p x=true):(xs.take (i+1)).filter p=(xs.take i).filter p++[x]:=by
 rw [take_snoc h,List.filter_append,List.filter_cons_of_pos (by exact b),List.filter_nil]
theorem Jm {α : Type} {p : α→Bool} {xs:List α} {i:Nat} {x : α} (h:xs[i]?=some x) (b:p x=false):(xs.take (i+1)).filter p=(xs.take i).filter p:=by
 rw [take_snoc h,List.filter_append,List.filter_cons_of_neg (by rw [b];exact Bool.false_ne_true),List.filter_nil,List.append_nil]
def isT (x:Addr×Ln):Bool:=match x.2 with
 | .took ..=>true
 | _=>false
def gOf (x:Addr×Ln):Int:=match x.2 with
 | .took g ..=>g
 | _=>0
def gts (ls:Lns):List Int:=(ls.filter isT).map gOf
theorem ji:∀ (T:List Int) (z:Int),z≤T.foldl max z∧(∀ a∈T,a≤T.foldl max z)∧(T.foldl max z=z∨T.foldl max z∈T)
 | [],z=>⟨Int.le_refl _,(fun _ h=>by simp at h),.inl rfl⟩
 | x::T,z=>by
  obtain ⟨h1,h2,h3⟩:=ji T (max z x)
  rw [List.foldl_cons]
  refine ⟨by omega,fun a ha=>?_,?_⟩
  ·rcases List.mem_cons.mp ha with rfl | ha
   ·omega
   ·exact h2 a ha
  ·rcases h3 with h3 | h3
   ·by_cases c:z≤x
    ·exact .inr (by rw [h3,show max z x=x by omega];exact List.mem_cons_self)
    ·exact .inl (by rw [h3];omega)
   ·exact .inr (List.mem_cons_of_mem _ h3)
theorem Fv {T:List Int} {z M:Int} (h1:M=z∨M∈T) (h2:∀ a∈T,a≤M) (h3:z≤M):T.foldl max z=M:=by
 obtain ⟨k1,k2,k3⟩:=ji T z
 refine Int.le_antisymm ?_ ?_
 ·rcases k3 with k | k
  ·omega
  ·exact h2 _ k
 ·rcases h1 with rfl | h
  ·exact k1
  ·exact k2 _ h
def oQ:Ln→Prop
 | .took g _ _ _=>1≤g
 | .ends g _=>1≤g
 | _=>True
def cN (ls:Lns):Prop:=∀ x∈ls,oQ x.2
structure nN (n:Nt):Prop where
 no:n.ar=none→n.g=0
 yes:n.ar.isSome=true→1≤n.g
theorem Nt.pT {n:Nt} {l:Ln} (h:nN n) (g:oQ l):nN (n.step l):=by
 cases l with
 | took g' sl f e=>exact ⟨(fun z=>by cases z),fun _=>g⟩
 | held m=>exact ⟨h.no,h.yes⟩
 | heard m=>exact ⟨h.no,h.yes⟩
 | ends g' e=>
  rw [jR]
  by_cases c:g'=n.g
  ·rw [if_pos c]
   exact ⟨fun z=>h.no (Option.map_eq_none_iff.mp z),fun z=>h.yes (by simpa using z)⟩
  ·rw [if_neg c];exact h
theorem iD:∀ {ls:Lns} {n:Nt},nN n→cN ls→nN (f7 n ls)
 | [],_,h,_=>h
 | x::ls,n,h,g=>iD (ls:=ls) (Nt.pT h (g x List.mem_cons_self)) fun y hy=>g y (List.mem_cons_of_mem _ hy)
theorem uT:nN Nt.nil:=⟨fun _=>rfl,fun z=>by cases z⟩
def jq (K:PySem.W.Frag) (H:Hp) (t:Addr) (n:Nt):Prop:=∃ v,SqT K H t [.int n.g,v,.int n.hd,.int n.hr]∧((n.ar=none∧v = .non)∨∃ (a:Addr) (sl f e:Int),n.ar=some (sl,f,e)∧v = .ref a∧H a=some (.tup [.int sl,.int f,.int e]))
def ntD (n:Nt):Dt:=.tup [.int n.g,(match n.ar with | none=>.non | some (sl,f,e)=>.tup [.int sl,.int f,.int e]),.int n.hd,.int n.hr]
theorem jq.at {K:PySem.W.Frag} {H:Hp} {t:Addr} {n:Nt} (h:jq K H t n):At K H (.ref t) (ntD n):=by
 obtain ⟨v,hs,⟨e,rfl⟩ | ⟨a,sl,f,e,ea,rfl,ha⟩⟩:=h
 ·unfold ntD;rw [e]
  exact .tup hs (.cons (.int _) (.cons .non (.cons (.int _) (.cons (.int _) .nil))))
 ·unfold ntD;rw [ea]
  exact .tup hs (.cons (.int _) (.cons (.tup (SqT.of ha) (.cons (.int _) (.cons (.int _) (.cons (.int _) .nil)))) (.cons (.int _) (.cons (.int _) .nil))))
theorem fh {K:PySem.W.Frag} {H H':Hp} {a:Addr} {xs:List V} (e:aF H H') (h:SqT K H a xs):SqT K H' a xs:=by
 rcases h with (h | ⟨o,h⟩) | h
 ·exact .inl (.inl (e _ _ h))
 ·exact .inl (.inr ⟨o,e _ _ h⟩)
 ·exact .inr h
theorem jq.same {K:PySem.W.Frag} {H H':Hp} {t:Addr} {n:Nt} (h:jq K H t n) (s:aF H H'):jq K H' t n:=by
 obtain ⟨v,hs,hv⟩:=h
 refine ⟨v,fh s hs,?_⟩
 rcases hv with z | ⟨a,sl,f,e,ea,ev,ha⟩
 ·exact .inl z
 ·exact .inr ⟨a,sl,f,e,ea,ev,s _ _ ha⟩
section
variable {P:Program} {w:World} {K:PySem.W.Frag} {mg:Str→Option Value} {base:Heap} {CX:CXT}
theorem Bh:ay ["area", "end"] ["area", "end"] (ak (top 23)):=by walk_at "s"
def wQ:Sp:=fun vs H Q _=>∃ (t:Addr) (sl f e x:Int),vs=[.ref t,.int x]∧yu H t sl f e∧∀ t' H',H' t'=some (.tup [.int sl,.int f,.int x])→aF H H'→Q (.ref t') H'
theorem B0 (D:Dat K mg "ended_at" "ended_at" (top 23) ["area", "end"]) (NE:bh CX) (kq:Cal P w K mg base CX "slot_of" 1 ["area"] AU) (fB:Cal P w K mg base CX "first_of" 1 ["area"] wU):Cal P w K mg base CX "ended_at" 2 ["area", "end"] wQ:=by
 have S:=Bh
 walk_at "d"
 ·obtain ⟨t,sl,f,e,x,rfl,_⟩:=h
  rfl
 obtain ⟨t,sl,f',e,x,rfl,ht,q⟩:=h
 refine ⟨_,(aj (au (aS (aa (aI kq (hr.mono (by first | decide | omega)) NE.pass (aa (pv 0) af)) (aa (aI fB (hr.mono (by first | decide | omega)) NE.pass (aa (pv 0) af)) (aa (pv 1) af)))))),?_⟩
 try dsimp only [aZ]
 have L:=Led.start H (fun _=>False)
 walk_at "go"
 refine ⟨t,_,_,_,rfl,ht,?_⟩
 walk_at "go"
 refine ⟨t,_,_,_,rfl,ht,?_⟩
 walk_at "go"
 exact q _ _ (L'.tup (by walk_at "mem")) L'.same
theorem yI:ay ["told", "line"] ["told", "line"] (ak (top 26)):=by walk_at "s"
def jv (K:PySem.W.Frag):Sp:=fun vs H Q _=>∃ (t l:Addr) (n:Nt) (ln:Ln),vs=[.ref t,.ref l]∧jq K H t n∧nN n∧kF H l ln∧oQ ln∧∀ t' H',jq K H' t' (n.step ln)→aF H H'→Q (.ref t') H'
theorem zc (D:Dat K mg "read_on" "read_on" (top 26) ["told", "line"]) (BT:Bt mg) (NE:bh CX) (iH:Cal P w K mg base CX "end_of" 1 ["area"] wR) (vO:Cal P w K mg base CX "ended_at" 2 ["area", "end"] wQ):Cal P w K mg base CX "read_on" 3 ["told", "line"] (jv K):=by
 have S:=yI
 walk_at "d"
 ·obtain ⟨t,l,n,ln,rfl,_⟩:=h
  rfl
 obtain ⟨t,l,n,ln,rfl,hn,hok,hl,hg,q⟩:=h
 refine ⟨_,(ai (aX (aG bQ (aq ao (pv 1) ah (fun _ _=>rfl)) aL (aM _)) (aj (au (aS (aa (aq ao (pv 1) ah (fun _ _=>rfl)) (aa (aq ao (pv 1) ah (fun _ _=>rfl)) (aa (aq ao (pv 0) ah (fun _ _=>rfl)) (aa (aq ao (pv 0) ah (fun _ _=>rfl)) af))))))) aE)
   (ai (aX (aG bQ (aq ao (pv 1) ah (fun _ _=>rfl)) aL (aM _)) (aj (au (aS (aa (aq ao (pv 0) ah (fun _ _=>rfl)) (aa (aq ao (pv 0) ah (fun _ _=>rfl)) (aa (bq (oF rfl) rfl BT.max L3.dX (aa (aq ao (pv 0) ah (fun _ _=>rfl)) (aa (aq ao (pv 1) ah (fun _ _=>rfl)) af))) (aa (aq ao (pv 0) ah (fun _ _=>rfl)) af))))))) aE)
   (ai (aX (aG bQ (aq ao (pv 1) ah (fun _ _=>rfl)) aL (aM _)) (aj (au (aS (aa (aq ao (pv 0) ah (fun _ _=>rfl)) (aa (aq ao (pv 0) ah (fun _ _=>rfl)) (aa (aq ao (pv 0) ah (fun _ _=>rfl)) (aa (bq (oF rfl) rfl BT.max L3.dX (aa (aq ao (pv 0) ah (fun _ _=>rfl)) (aa (aq ao (pv 1) ah (fun _ _=>rfl)) af))) af))))))) aE)
   (ai (aX (aG xq (aq ao (pv 1) ah (fun _ _=>rfl)) (aq ao (pv 0) ah (fun _ _=>rfl)) (aM _)) (aj (au (pv 0))) aE)
   (aj (au (aS (aa (aq ao (pv 0) ah (fun _ _=>rfl)) (aa (aI vO (hr.mono (by first | decide | omega)) NE.pass (aa (aq ao (pv 0) ah (fun _ _=>rfl)) (aa (bq (xQ rfl) rfl BT.min L3.qC (aa (aI iH (hr.mono (by first | decide | omega)) NE.pass (aa (aq ao (pv 0) ah (fun _ _=>rfl)) af)) (aa (aq ao (pv 1) ah (fun _ _=>rfl)) af))) af))) (aa (aq ao (pv 0) ah (fun _ _=>rfl)) (aa (aq ao (pv 0) ah (fun _ _=>rfl)) af))))))))))),?_⟩
 try dsimp only [aZ]
 obtain ⟨v,hs,hv⟩:=id hn
 have x1:¬ (("held" : Str) = "took"):=by decide +kernel
 have x2:¬ (("heard" : Str) = "took"):=by decide +kernel
 have x3:¬ (("ends" : Str) = "took"):=by decide +kernel
 have x4:¬ (("heard" : Str) = "held"):=by decide +kernel
 have x5:¬ (("ends" : Str) = "held"):=by decide +kernel
 have x6:¬ (("ends" : Str) = "heard"):=by decide +kernel
 cases hl with
 | took h ha=>
  have L:=(Led.start H (fun _=>False)).more (aH l [_,_,_]) h
  walk_at "go"
  exact q _ _ ⟨_,SqT.of (L'.tup (by walk_at "mem")),.inr ⟨_,_,_,_,rfl,rfl,L'.same _ _ ha⟩⟩ L'.same
 | held h=>
  have L:=(Led.start H (fun _=>False)).more (aH l [_,_]) h
  walk_at "go"
  refine q _ _ ⟨v,SqT.of (L'.tup (by walk_at "mem")),?_⟩ L'.same
  rcases hv with z | ⟨a,sl,f',e,ea,ev,ha⟩
  ·exact .inl z
  ·exact .inr ⟨a,sl,f',e,ea,ev,L'.same _ _ ha⟩
 | heard h=>
  have L:=(Led.start H (fun _=>False)).more (aH l [_,_]) h
  walk_at "go"
  refine q _ _ ⟨v,SqT.of (L'.tup (by walk_at "mem")),?_⟩ L'.same
  rcases hv with z | ⟨a,sl,f',e,ea,ev,ha⟩
  ·exact .inl z
  ·exact .inr ⟨a,sl,f',e,ea,ev,L'.same _ _ ha⟩
 | @ends g' e' h=>
  have L:=(Led.start H (fun _=>False)).more (aH l [_,_,_]) h
  have g1 : 1≤g':=hg
  rw [jR] at q
  walk_at "go"
  refine K8 (fun z=>?_) (fun z=>?_)
  ·rw [if_pos z] at q
   rcases hv with ⟨e,rfl⟩ | ⟨a,sl,f',e,ea,rfl,ha⟩
   ·exact absurd (hok.no e) (by omega)
   rw [ea] at q
   walk_at "go"
   refine ⟨a,_,_,_,rfl,ha,?_⟩
   walk_at "go"
   refine ⟨a,_,_,_,_,rfl,ha,fun t2 H2 ht2 s2=>?_⟩
   have hs2:=fh s2 hs
   have M:=(Led.start H2 (fun _=>False)).more (aH t2 [_,_,_]) ht2
   clear L
   walk_at "go"
   exact q _ _ ⟨_,SqT.of (L'.tup (by walk_at "mem")),.inr ⟨t2,sl,f',_,rfl,rfl,L'.tup (r:=t2) (by walk_at "mem")⟩⟩ (s2.trans L'.same)
  ·rw [if_neg z] at q
   walk_at "go"
   exact q _ _ hn (aF.refl _)
theorem A7:ay ["lines", "told", "line"] ["lines"] (ak (top 27)):=by walk_at "s"
def iS (K:PySem.W.Frag):Sp:=fun vs H Q _=>∃ (a:Addr) (ls:Lns),vs=[.ref a]∧SqL K H a (lnV ls)∧dw H ls∧cN ls∧∀ t H',jq K H' t (f7 Nt.nil ls)→aF H H'→Q (.ref t) H'
theorem BP {aN:Addr} (D:Dat K mg "read_note" "read_note" (top 27) ["lines"]) (NE:bh CX) (f6:GlV mg "NOTHING" (.ref aN)) (hN:∀ H,SqT K H aN [.int 0,.non,.int 0,.int 0]) (f9:Cal P w K mg base CX "read_on" 3 ["told", "line"] (jv K)):Cal P w K mg base CX "read_note" 4 ["lines"] (iS K):=by
 have S:=A7
 walk_at "d"
 ·obtain ⟨a,ls,rfl,_⟩:=h
  rfl
 obtain ⟨a,ls,rfl,hS,hL,hg,q⟩:=h
 refine ⟨_,(ai (aK (i:=1) S.nd rfl (by first | exact Or.inl rfl | exact Or.inr rfl) (BB f6))
   (ai (ig PassesOwn.never rfl (eK (pv 0)) (bg (i:=2) S.nd rfl (by first | exact Or.inl rfl | exact Or.inr rfl)) (aj (aK (i:=1) S.nd rfl (by first | exact Or.inl rfl | exact Or.inr rfl) (aI f9 (hr.mono (by first | decide | omega)) NE.pass (aa (pv 1) (aa (pv 2) af))))))
   (aj (au (pv 1))))),?_⟩
 try dsimp only [aZ]
 walk_at "go"
 refine gA hS ?_
 refine mL (lnV ls) (fun i σ H'=>∃ (t:Addr) (u2:Option V),σ=[some (.ref a),some (.ref t),u2]∧jq K H' t (f7 Nt.nil (ls.take i))∧aF H H') ⟨aN,_,rfl,⟨.non,hN H,.inl ⟨rfl,rfl⟩⟩,aF.refl _⟩ (fun i σ H' _ ⟨_,_,_,_,sm⟩=>sm.seq hS) ?_ ?_
 ·rintro i v σ HG hv ⟨t,u2,rfl,hn,sm⟩
  obtain ⟨x,hx,rfl⟩:=lK hv
  have xm:=List.mem_of_getElem? hx
  try dsimp only [bO]
  walk_at "go"
  refine ⟨t,x.1,_,x.2,rfl,hn,iD uT fun y hy=>hg y (List.mem_of_mem_take hy),(hL x xm).same sm,hg x xm,fun t2 H2 hn2 s2=>?_⟩
  walk_at "go"
  exact ⟨t2,_,rfl,by rw [mP hx];exact hn2,sm.trans s2⟩
 ·rintro σ HG ⟨t,u2,rfl,hn,sm⟩
  rw [gq,List.take_length] at hn
  walk_at "go"
  exact q _ _ hn sm
theorem A3:ay ["lines"] ["lines"] (ak (top 29)):=by walk_at "s"
def wL (K:PySem.W.Frag):Sp:=fun vs H Q _=>∃ (a:Addr) (ls:Lns),vs=[.ref a]∧SqL K H a (lnV ls)∧dw H ls∧ls.length≤100∧∀ l H',H l=none→H' l=some (.lst (lnV (ls.filter isT)))→aF H H'→Q (.ref l) H'
theorem ou {H:Hp} {x:Addr×Ln} (h:kF H x.1 x.2):(isT x=true∧∃ g ar,H x.1=some (.tup [.str "took",.int g,.ref ar])∧gOf x=g)∨(isT x=false∧∃ w v,¬ (w=("took" : Str))∧H x.1=some (.tup (.str w::v))):=by
 obtain ⟨t,l⟩:=x
 cases h with
 | took h ha=>exact .inl ⟨rfl,_,_,h,rfl⟩
 | held h=>exact .inr ⟨rfl,_,_,by decide +kernel,h⟩
 | heard h=>exact .inr ⟨rfl,_,_,by decide +kernel,h⟩
 | ends h=>exact .inr ⟨rfl,_,_,by decide +kernel,h⟩
theorem eU {v:V} {xs:List V}:atI (v::xs) 0=some v:=eV (j:=0) rfl
theorem BK (D:Dat K mg "tooks_of" "tooks_of" (top 29) ["lines"]):Cal P w K mg base CX "tooks_of" 2 ["lines"] (wL K):=by
 have S:=A3
 walk_at "d"
 ·obtain ⟨a,ls,rfl,_⟩:=h
  rfl
 obtain ⟨a,ls,rfl,hS,hL,h100,q⟩:=h
 refine ⟨_,(aj (au (iV (g:=(bO 0)) rfl (eK (pv 0)) (kC (own:=["line"]) (cap:=[]) (ak (top 29)).names ["lines"] rfl rfl rfl (by decide +kernel)) (fun _ _ _ _=>(bg (i:=0) (show (qE ["lines"] ["line"] []).Nodup by decide +kernel) rfl (by first | exact Or.inl rfl | exact Or.inr rfl))) (fun _ _ _ _=>Bw (aG bQ (aq (cH (K:=K) rfl) (pv 0) ah (fun _ _=>rfl)) aL (aM _))) (fun _ _ _ _=>(pv 0))))),?_⟩
 try dsimp only [aZ]
 walk_at "go"
 refine gA hS ?_
 refine lN (lnV ls) (fun i ys H'=>ys=lnV ((ls.take i).filter isT)∧H'=H) ⟨rfl,rfl⟩ (fun i ys H' hi ⟨e,e2⟩=>⟨e2▸hS,by
  rw [e,gq]
  have h1:=List.length_filter_le isT (ls.take i)
  rw [List.length_take] at h1
  exact Nat.le_of_lt (small1000 (by omega))⟩) ?_ ?_
 ·rintro i v ys H1 hv ⟨rfl,rfl⟩
  obtain ⟨x,hx,rfl⟩:=lK hv
  try dsimp only [bO]
  rcases ou (hL x (List.mem_of_getElem? hx)) with ⟨b,g,ar,ht,_⟩ | ⟨b,wd,vs,nw,ht⟩
  ·have L:=(Led.start H1 (fun _=>False)).more (aH x.1 [_,_,_]) ht
   walk_at "go"
   exact ⟨by rw [Fw hx b,Ca],rfl⟩
  ·walk_at "go"
   refine cA (SqT.of ht) eU ?_
   walk_at "go"
   exact ⟨by rw [Jm hx b],rfl⟩
 ·rintro ys H1 ⟨rfl,rfl⟩ lc nlc
  rw [gq,List.take_length]
  exact q _ _ nlc aB (dc nlc _)
theorem rF:ay ["lines"] ["lines"] (ak (top 30)):=by walk_at "s"
def eZ (K:PySem.W.Frag):Sp:=fun vs H Q _=>∃ (a:Addr) (ls:Lns),vs=[.ref a]∧SqL K H a (lnV ls)∧dw H ls∧cN ls∧ls.length≤100∧∀ H',aF H H'→Q (.int ((gts ls).foldl max 0)) H'
theorem E3 {ls:Lns} (h:cN ls):∀ a∈gts ls,1≤a:=fun a ha=>by
 obtain ⟨x,hx,rfl⟩:=List.mem_map.mp ha
 obtain ⟨hm,hb⟩:=List.mem_filter.mp hx
 have:=h x hm
 obtain ⟨t,l⟩:=x
 cases l with
 | took g sl f e=>exact this
 | held m=>cases hb
 | heard m=>cases hb
 | ends g e=>cases hb
theorem rX (D:Dat K mg "greatest_taken" "greatest_taken" (top 30) ["lines"]) (BT:Bt mg) (NE:bh CX) (vJ:Cal P w K mg base CX "tooks_of" 2 ["lines"] (wL K)):Cal P w K mg base CX "greatest_taken" 3 ["lines"] (eZ K):=by
 have S:=rF
 walk_at "d"
 ·obtain ⟨a,ls,rfl,_⟩:=h
  rfl
 obtain ⟨a,ls,rfl,hS,hL,hg,h100,q⟩:=h
 refine ⟨_,(aj (au (Ec rfl rfl BT.max (iV (g:=(bO 0)) rfl (eK (aI vJ (hr.mono (by first | decide | omega)) NE.pass (aa (pv 0) af))) (kC (own:=["line"]) (cap:=[]) (ak (top 30)).names ["lines"] rfl rfl rfl (by decide +kernel)) (fun _ _ _ _=>(bg (i:=0) (show (qE ["lines"] ["line"] []).Nodup by decide +kernel) rfl (by first | exact Or.inl rfl | exact Or.inr rfl))) (fun _ _ _ _=>iu) (fun _ _ _ _=>(aq (cH (K:=K) rfl) (pv 0) ah (fun _ _=>rfl)))) ah))),?_⟩
 try dsimp only [aZ]
 walk_at "go"
 refine ⟨a,ls,rfl,hS,hL,h100,fun l1 H1 nl1 hl1 s1=>?_⟩
 walk_at "go"
 refine gA (SqL.of hl1) ?_
 have hfl:=List.length_filter_le isT ls
 refine lN (lnV (ls.filter isT)) (fun i ys H'=>ys=(((ls.filter isT).take i).map gOf).map V.int∧H'=H1) ⟨rfl,rfl⟩ (fun i ys H' hi ⟨e,e2⟩=>⟨e2▸SqL.of hl1,by
  rw [e,List.length_map,List.length_map,List.length_take]
  exact Nat.le_of_lt (small1000 (by omega))⟩) ?_ ?_
 ·rintro i v ys H2 hv ⟨rfl,rfl⟩
  obtain ⟨x,hx,rfl⟩:=lK hv
  obtain ⟨xm,xb⟩:=List.mem_filter.mp (List.mem_of_getElem? hx)
  try dsimp only [bO]
  rcases ou ((hL x xm).same s1) with ⟨b,g,ar,ht,eg⟩ | ⟨b,_⟩
  ·have L:=(Led.start H2 (fun _=>False)).more (aH x.1 [_,_,_]) ht
   walk_at "go"
   exact ⟨by rw [take_snoc hx,List.map_append,List.map_append,← eg];rfl,rfl⟩
  ·rw [xb] at b;cases b
 ·rintro ys H2 ⟨rfl,rfl⟩ lc nlc
  rw [gq,List.take_length]
  walk_at "go"
  have sx:=s1.trans (dc nlc (.lst (((ls.filter isT).map gOf).map V.int)))
  have hp:=E3 hg
  refine IT (ns:=gts ls) (SqL.of aB) (fun e=>?_) (fun M hM hx=>?_)
  ·have:=q _ sx
   rw [e] at this
   exact this
  ·have:=q _ sx
   rw [Fv (.inr hM) hx (by have:=hp M hM;omega)] at this
   exact this
end
def qV (H:Hp) (t:Addr) (x y:Int):Prop:=H t=some (.tup [.int x,.int y])
def bnd (m c:Int):Int:=if c=0 then m else m+1
theorem zx {m c b:Int} (c0 : 0≤c):HT.lexLt [m,c] [b,0]=decide (m < b):=by
 rw [HT.jf]
 by_cases h:m=b
 ·rw [if_pos h,HT.jf,decide_eq_false (show ¬ m < b by omega)]
  by_cases h2:c=0
  ·rw [if_pos h2];rfl
  ·rw [if_neg h2,decide_eq_false (show ¬ c < 0 by omega)]
 ·rw [if_neg h]
section
variable {P:Program} {w:World} {K:PySem.W.Frag} {mg:Str→Option Value} {base:Heap} {CX:CXT} {C:Addr}
theorem rJ:ay ["place"] ["place"] (ak (top 32)):=by walk_at "s"
def lE:Sp:=fun vs H Q _=>∃ (t:Addr) (m c:Int),vs=[.ref t]∧qV H t m c∧Q (.int (bnd m c)) H
theorem r8 (D:Dat K mg "bound_of" "bound_of" (top 32) ["place"]):Cal P w K mg base CX "bound_of" 1 ["place"] lE:=by
 have S:=rJ
 walk_at "d"
 ·obtain ⟨t,m,c,rfl,_⟩:=h
  rfl
 obtain ⟨t,m,c,rfl,ht,q⟩:=h
 refine ⟨_,(aj (au (bZ (aG bQ (aq ao (pv 0) ah (fun _ _=>rfl)) ah (aM _)) (aq ao (pv 0) ah (fun _ _=>rfl)) (aQ bL (aq ao (pv 0) ah (fun _ _=>rfl)) ah)))),?_⟩
 try dsimp only [aZ]
 have L:=(Led.start H (fun _=>False)).more (aH t [.int m,.int c]) ht
 walk_at "go"
 unfold bnd at q
 refine bD (fun cc=>?_) (fun cc=>?_)
 ·rw [if_pos cc] at q
  walk_at "go"
  exact q
 ·rw [if_neg cc] at q
  walk_at "go"
  exact q
theorem yJ:ay ["place", "bound"] ["place", "bound"] (ak (top 33)):=by walk_at "s"
def lQ:Sp:=fun vs H Q _=>∃ (t:Addr) (m c b:Int),vs=[.ref t,.int b]∧qV H t m c∧0≤c∧∀ r H',qV H' r (if m < b then b else m) (if m < b then 0 else c)→aF H H'→Q (.ref r) H'
theorem zd (D:Dat K mg "raised" "raised" (top 33) ["place", "bound"]) (BT:Bt mg):Cal P w K mg base CX "raised" 1 ["place", "bound"] lQ:=by
 have S:=yJ
 walk_at "d"
 ·obtain ⟨t,m,c,b,rfl,_⟩:=h
  rfl
 obtain ⟨t,m,c,b,rfl,ht,c0,q⟩:=h
 refine ⟨_,(aj (au (bq (Jt rfl (KD hr)) rfl BT.max L3.dX (aa (pv 0) (aa (aS (aa (pv 1) (aa ah af))) af))))),?_⟩
 try dsimp only [aZ]
 have L:=(Led.start H (fun _=>False)).more (aH t [.int m,.int c]) ht
 walk_at "go"
 refine Fe (L'.tup (by walk_at "mem")) (L'.tup (by walk_at "mem")) ?_
 rw [zx c0]
 refine q _ _ ?_ L'.same
 by_cases h:m < b
 ·rw [if_pos h,if_pos h,if_pos (decide_eq_true h)]
  exact L'.tup (by walk_at "mem")
 ·rw [if_neg h,if_neg h,if_neg (by rw [decide_eq_false h];exact Bool.false_ne_true)]
  exact L'.tup (by walk_at "mem")
theorem nq:ay ["shape", "place"] ["shape", "place"] (ak (top 34)):=by walk_at "s"
def AN (C:Addr):Sp:=fun vs H Q _=>∃ (p t:Addr) (c s m k:Int),vs=[.ref p,.ref t]∧C9 C H p c s∧qV H t m k∧∀ r H',qV H' r (if k+1=c then m+1 else m) (if k+1=c then 0 else k+1)→aF H H'→Q (.ref r) H'
theorem nF (D:Dat K mg "next_place" "next_place" (top 34) ["shape", "place"]) (SC:ShC K C):Cal P w K mg base CX "next_place" 1 ["shape", "place"] (AN C):=by
 have S:=nq
 walk_at "d"
 ·obtain ⟨p,t,c,s,m,k,rfl,_⟩:=h
  rfl
 obtain ⟨p,t,c,s',m,k,rfl,⟨dx,hp⟩,ht,q⟩:=h
 refine ⟨_,(ai (aX (aG bQ (aQ bL (aq ao (pv 1) ah (fun _ _=>rfl)) ah) (bw (pv 0) rfl) (aM _)) (aj (au (aS (aa (aQ bL (aq ao (pv 1) ah (fun _ _=>rfl)) ah) (aa ah af))))) aE)
   (aj (au (aS (aa (aq ao (pv 1) ah (fun _ _=>rfl)) (aa (aQ bL (aq ao (pv 1) ah (fun _ _=>rfl)) ah) af)))))),?_⟩
 try dsimp only [aZ]
 have L:=(Led.start H (fun _=>False)).more (aH t [.int m,.int k]) ht
 walk_at "go"
 refine ⟨p,C,dx,_,_,rfl,hp,SC.cl,SC.nc,wW c s',?_⟩
 walk_at "go"
 refine bD (fun cc=>?_) (fun cc=>?_)
 ·walk_at "go"
  refine q _ _ ?_ L'.same
  rw [if_pos cc,if_pos cc]
  exact L'.tup (by walk_at "mem")
 ·walk_at "go"
  refine q _ _ ?_ L'.same
  rw [if_neg cc,if_neg cc]
  exact L'.tup (by walk_at "mem")
end
section
variable {P:Program} {w:World} {K:PySem.W.Frag} {mg:Str→Option Value} {base:Heap} {C CW CR CN:Addr}
theorem D5:ay ["self", "reading"] ["self", "reading"] (ak (inClass (top 9) 0)):=by walk_at "s"
theorem EG (D:tT K mg "Wait" "Wait.__init__" CW (inClass (top 9) 0) ["self", "reading"]) (iP:x8 K mg "RiseError" CR) (EP:vX K CW "reading"):z0 P w K mg base "Wait" CW 1 ["self", "reading"] (jx CW "reading"):=by
 have S:=D5
 refine D.ok' S (fun vs H Q E h=>?_) (fun f cdv A outer s H vs Q E hr h=>?_)
 ·obtain ⟨x,v,rfl,_⟩:=h
  rfl
 obtain ⟨x,v,rfl,hx,q⟩:=h
 refine ⟨_,(ai (bT (rP iP (aa (pv 0) (aa aL af))))
   (aj (xg (pv 0) (pv 1) rfl))),?_⟩
 try dsimp only [aZ]
 walk_at "go"
 refine sQ hx D.ok ?_
 walk_at "go"
 exact Cn hx EP fun d nd=>q d nd
theorem pH:ay ["area", "place", "reading"] ["area", "place", "reading"] (ak (top 35)):=by walk_at "s"
def due (m f r:Int):Int:=max (max m r) f
def jw:Sp:=fun vs H Q _=>∃ (a t:Addr) (sl f e m k r:Int),vs=[.ref a,.ref t,.int r]∧yu H a sl f e∧qV H t m k∧Q (.int (due m f r)) H
theorem pV {CX:CXT} (D:Dat K mg "moment_at" "moment_at" (top 35) ["area", "place", "reading"]) (BT:Bt mg) (NE:bh CX) (fB:Cal P w K mg base CX "first_of" 1 ["area"] wU):Cal P w K mg base CX "moment_at" 2 ["area", "place", "reading"] jw:=by
 have S:=pH
 walk_at "d"
 ·obtain ⟨a,t,sl,f,e,m,k,r,rfl,_⟩:=h
  rfl
 obtain ⟨a,t,sl,f',e,m,k,r,rfl,ha,ht,q⟩:=h
 refine ⟨_,(aj (au (bq (vK rfl) rfl BT.max L3.dX (aa (aq ao (pv 1) ah (fun _ _=>rfl)) (aa (pv 2) (aa (aI fB (hr.mono (by first | decide | omega)) NE.pass (aa (pv 0) af)) af)))))),?_⟩
 try dsimp only [aZ]
 have L:=((Led.start H (fun _=>False)).more (aH t [.int m,.int k]) ht).more (aH a [.int sl,.int f',.int e]) ha
 walk_at "go"
 refine ⟨a,sl,f',e,rfl,ha,?_⟩
 walk_at "go"
 exact q
theorem DW:ay ["shape", "far", "area", "place", "reading", "moment", "count", "mark"] ["shape", "far", "area", "place", "reading"] (ak (top 36)):=by walk_at "s"
def cnt (m f r k:Int):Int:=if due m f r=m then k else 0
def AQ (C CN CW:Addr):Sp:=fun vs H Q E=>∃ (p a t:Addr) (c s sl f e m k r fa:Int),vs=[.ref p,.int fa,.ref a,.ref t,.int r]∧ShN c s∧C9 C H p c s∧yu H a sl f e∧qV H t m k ∧
 (e≤due m f r→E (.ref CN) none H)∧(¬ e≤due m f r→r+fa < due m f r→∀ d H',aF H H'→H' d=some (.xd [("reading",.int (due m f r - fa))])→E (.ref CW) (some d) H') ∧
 (¬ e≤due m f r→¬ r+fa < due m f r→∀ x y H',H' x=some (.tup [.int (mk c s (due m f r) sl (cnt m f r k)),.ref y])→qV H' y (if cnt m f r k+1=c then due m f r+1 else due m f r) (if cnt m f r k+1=c then 0 else cnt m f r k+1)→aF H H'→Q (.ref x) H')
theorem Ez (D:Dat K mg "made" "made" (top 36) ["shape", "far", "area", "place", "reading"]) (BT:Bt mg) (NE:bh (CX1 P w)) (nh:nP K mg "NoRoom" CN) (vV:z0 P w K mg base "Wait" CW 1 ["self", "reading"] (jx CW "reading"))
  (dP:Cal P w K mg base (CX1 P w) "moment_at" 2 ["area", "place", "reading"] jw) (iH:Cal P w K mg base (CX1 P w) "end_of" 1 ["area"] wR) (kq:Cal P w K mg base (CX1 P w) "slot_of" 1 ["area"] AU)
  (zT:Cal P w K mg base (CX1 P w) "mark_of" 1 ["shape", "moment", "slot", "count"] (AO C)) (qp:Cal P w K mg base (CX1 P w) "next_place" 1 ["shape", "place"] (AN C)):Cal P w K mg base (CX1 P w) "made" 3 ["shape", "far", "area", "place", "reading"] (AQ C CN CW):=by
 have S:=DW
 refine D.okR S (fun vs H Q E h=>?_) (fun f cdv A outer s H vs Q E hr h=>?_)
 ·obtain ⟨p,a,t,c,s,sl,f,e,m,k,r,fa,rfl,_⟩:=h
  rfl
 obtain ⟨p,a,t,c,s',sl,f',e,m,k,r,fa,rfl,N,hp,ha,ht,q1,q2,q3⟩:=h
 refine ⟨_,(ai (aK (i:=5) S.nd rfl (by first | exact Or.inl rfl | exact Or.inr rfl) (aI dP (hr.mono (by first | decide | omega)) NE.pass (aa (pv 2) (aa (pv 3) (aa (pv 4) af)))))
   (ai (aX (aG l6 (pv 5) (aI iH (hr.mono (by first | decide | omega)) NE.pass (aa (pv 2) af)) (aM _)) (aj (ia nh rfl aP (aa aL af))) aE)
   (ai (aX (aG jB (pv 5) (aQ bL (pv 4) (pv 1)) (aM _)) (aj (n9 vV (hr.mono (by first | decide | omega)) rfl aP (aa (aQ iz (pv 5) (pv 1)) af))) aE)
   (ai (aK (i:=6) S.nd rfl (by first | exact Or.inl rfl | exact Or.inr rfl) (bZ (aG bQ (pv 5) (aq ao (pv 3) ah (fun _ _=>rfl)) (aM _)) (aq ao (pv 3) ah (fun _ _=>rfl)) ah))
   (ai (aK (i:=7) S.nd rfl (by first | exact Or.inl rfl | exact Or.inr rfl) (aI zT (hr.mono (by first | decide | omega)) NE.pass (aa (pv 0) (aa (pv 5) (aa (aI kq (hr.mono (by first | decide | omega)) NE.pass (aa (pv 2) af)) (aa (pv 6) af))))))
   (aj (au (aS (aa (pv 7) (aa (aI qp (hr.mono (by first | decide | omega)) NE.pass (aa (pv 0) (aa (aS (aa (pv 5) (aa (pv 6) af))) af))) af)))))))))),?_⟩
 try dsimp only [aZ]
 have L:=((Led.start H (fun _=>False)).more (aH t [.int m,.int k]) ht).more (aH a [.int sl,.int f',.int e]) ha
 walk_at "go"
 refine ⟨a,t,sl,f',e,m,k,r,rfl,ha,ht,?_⟩
 have sh:=N
 have Il:cnt m f' r k=if due m f' r=m then k else 0:=rfl
 generalize due m f' r=du at *
 generalize cnt m f' r k=cn at *
 walk_at "go"
 refine ⟨a,sl,f',e,rfl,ha,?_⟩
 walk_at "go"
 refine bD (fun b1=>?_) (fun b1=>?_)
 ·walk_at "go"
  exact q1 b1
 walk_at "go"
 refine bD (fun b2=>?_) (fun b2=>?_)
 ·walk_at "go"
  exact oB fun d H' sm hd=>q2 (by omega) b2 d H' sm hd
 walk_at "go"
 refine bD (fun b3=>?_) (fun b3=>?_)
 all_goals (walk_at "go")
 all_goals (first | rw [if_pos b3] at Il | rw [if_neg b3] at Il)
 all_goals subst Il
 all_goals (refine ⟨a,sl,f',e,rfl,ha,?_⟩;walk_at "go")
 all_goals (refine ⟨p,c,s',_,sl,_,rfl,sh,hp,?_⟩;walk_at "go")
 all_goals (refine ⟨p,_,c,s',_,_,rfl,hp.elim fun dx h=>⟨dx,L'.same _ _ h⟩,L'.tup (by walk_at "mem"),fun y HY hy sY=>?_⟩)
 all_goals (have L:=L'.keep sY;walk_at "go")
 all_goals exact q3 (by omega) (by omega) _ y _ (L'.tup (by walk_at "mem")) (by have z:=L'.same;first | exact L'.st _ (by walk_at "mem") | exact (show aF HY _ by assumption) _ _ hy) L'.same
end
def dY (H:Hp) (v:V) (pl:Option (Int×Int)):Prop:=(pl=none∧v = .non)∨∃ (t:Addr) (m k:Int),pl=some (m,k)∧v = .ref t∧H t=some (.tup [.int m,.int k])
theorem dY.same {H H':Hp} {v:V} {pl:Option (Int×Int)} (h:dY H v pl) (s:aF H H'):dY H' v pl:=by
 rcases h with h | ⟨t,m,k,e,ev,ht⟩
 ·exact .inl h
 ·exact .inr ⟨t,m,k,e,ev,s _ _ ht⟩
def cJ (K:PySem.W.Frag) (H:Hp) (s:Addr) (pl:Option (Int×Int)) (n:Nt) (g:Int):Prop:=∃ (v:V) (t:Addr),H s=some (.tup [v,.ref t,.int g])∧dY H v pl∧jq K H t n
theorem cJ.same {K:PySem.W.Frag} {H H':Hp} {s:Addr} {pl:Option (Int×Int)} {n:Nt} {g:Int} (h:cJ K H s pl n g) (sm:aF H H'):cJ K H' s pl n g:=by
 obtain ⟨v,t,hs,hp,hn⟩:=h
 exact ⟨v,t,sm _ _ hs,hp.same sm,hn.same sm⟩
theorem k9.same {C:Addr} {H H':Hp} {p:Addr} {sh:V} {far room term:Int} {ws:List Str} (h:k9 C H p sh far room term ws) (sm:aF H H'):k9 C H' p sh far room term ws:=by
 obtain ⟨dx,tr,ms,h1,h2,pm⟩:=h
 exact ⟨dx,tr,ms,sm _ _ h1,sm _ _ h2,pm⟩
def Dn (H:Hp) (v:V) (ar:Option (Int×Int×Int)):Prop:=(ar=none∧v = .non)∨∃ (a:Addr) (sl f e:Int),ar=some (sl,f,e)∧v = .ref a∧H a=some (.tup [.int sl,.int f,.int e])
section
variable {P:Program} {w:World} {K:PySem.W.Frag} {mg:Str→Option Value} {base:Heap} {CX:CXT} {CD CA CU CS:Addr}
theorem rG:ay ["stand"] ["stand"] (ak (top 46)):=by walk_at "s"
def iU (K:PySem.W.Frag):Sp:=fun vs H Q _=>∃ (s:Addr) (pl:Option (Int×Int)) (n:Nt) (g:Int),vs=[.ref s]∧cJ K H s pl n g∧Q (.int n.g) H
theorem rY (D:Dat K mg "grant_in" "grant_in" (top 46) ["stand"]):Cal P w K mg base CX "grant_in" 1 ["stand"] (iU K):=by
 have S:=rG
 walk_at "d"
 ·obtain ⟨s,pl,n,g,rfl,_⟩:=h
  rfl
 obtain ⟨s,pl,n,g,rfl,⟨v,t,hs,hp,av,hn,hv⟩,q⟩:=h
 refine ⟨_,(aj (au (aq ao (aq ao (pv 0) ah (fun _ _=>rfl)) ah (fun _ _=>rfl)))),?_⟩
 try dsimp only [aZ]
 have L:=(Led.start H (fun _=>False)).more (aH s [_,_,_]) hs
 walk_at "go"
 exact q
theorem uE:ay ["stand"] ["stand"] (ak (top 48)):=by walk_at "s"
def jy (K:PySem.W.Frag):Sp:=fun vs H Q _=>∃ (s:Addr) (pl:Option (Int×Int)) (n:Nt) (g:Int),vs=[.ref s]∧cJ K H s pl n g∧Q (.int n.hd) H
theorem uV (D:Dat K mg "held_in" "held_in" (top 48) ["stand"]):Cal P w K mg base CX "held_in" 1 ["stand"] (jy K):=by
 have S:=uE
 walk_at "d"
 ·obtain ⟨s,pl,n,g,rfl,_⟩:=h
  rfl
 obtain ⟨s,pl,n,g,rfl,⟨v,t,hs,hp,av,hn,hv⟩,q⟩:=h
 refine ⟨_,(aj (au (aq ao (aq ao (pv 0) ah (fun _ _=>rfl)) ah (fun _ _=>rfl)))),?_⟩
 try dsimp only [aZ]
 have L:=(Led.start H (fun _=>False)).more (aH s [_,_,_]) hs
 walk_at "go"
 exact q
theorem rE:ay ["stand"] ["stand"] (ak (top 49)):=by walk_at "s"
def nX (K:PySem.W.Frag):Sp:=fun vs H Q _=>∃ (s:Addr) (pl:Option (Int×Int)) (n:Nt) (g:Int),vs=[.ref s]∧cJ K H s pl n g∧Q (.int n.hr) H
theorem rW (D:Dat K mg "heard_in" "heard_in" (top 49) ["stand"]):Cal P w K mg base CX "heard_in" 1 ["stand"] (nX K):=by
 have S:=rE
 walk_at "d"
 ·obtain ⟨s,pl,n,g,rfl,_⟩:=h
  rfl
 obtain ⟨s,pl,n,g,rfl,⟨v,t,hs,hp,av,hn,hv⟩,q⟩:=h
 refine ⟨_,(aj (au (aq ao (aq ao (pv 0) ah (fun _ _=>rfl)) ah (fun _ _=>rfl)))),?_⟩
 try dsimp only [aZ]
 have L:=(Led.start H (fun _=>False)).more (aH s [_,_,_]) hs
 walk_at "go"
 exact q
theorem uJ:ay ["stand"] ["stand"] (ak (top 47)):=by walk_at "s"
def gZ (K:PySem.W.Frag):Sp:=fun vs H Q _=>∃ (s:Addr) (pl:Option (Int×Int)) (n:Nt) (g:Int),vs=[.ref s]∧cJ K H s pl n g∧∀ v,Dn H v n.ar→Q v H
theorem u0 (D:Dat K mg "area_in" "area_in" (top 47) ["stand"]):Cal P w K mg base CX "area_in" 1 ["stand"] (gZ K):=by
 have S:=uJ
 walk_at "d"
 ·obtain ⟨s,pl,n,g,rfl,_⟩:=h
  rfl
 obtain ⟨s,pl,n,g,rfl,⟨v,t,hs,hp,av,hn,hv⟩,q⟩:=h
 refine ⟨_,(aj (au (aq ao (aq ao (pv 0) ah (fun _ _=>rfl)) ah (fun _ _=>rfl)))),?_⟩
 try dsimp only [aZ]
 have L:=(Led.start H (fun _=>False)).more (aH s [_,_,_]) hs
 walk_at "go"
 exact q av hv
theorem rC:ay ["note"] ["note"] (ak (top 50)):=by walk_at "s"
def jS (K:PySem.W.Frag):Sp:=fun vs H Q _=>∃ (t:Addr) (n:Nt),vs=[.ref t]∧jq K H t n∧∀ p H',H' p=some (.tup [.int (max n.hd n.hr),.int 0])→aF H H'→Q (.ref p) H'
theorem rT (D:Dat K mg "start_by" "start_by" (top 50) ["note"]) (BT:Bt mg):Cal P w K mg base CX "start_by" 1 ["note"] (jS K):=by
 have S:=rC
 walk_at "d"
 ·obtain ⟨t,n,rfl,_⟩:=h
  rfl
 obtain ⟨t,n,rfl,⟨av,hn,hv⟩,q⟩:=h
 refine ⟨_,(aj (au (aS (aa (bq (oF rfl) rfl BT.max L3.dX (aa (aq ao (pv 0) ah (fun _ _=>rfl)) (aa (aq ao (pv 0) ah (fun _ _=>rfl)) af))) (aa ah af))))),?_⟩
 try dsimp only [aZ]
 have L:=Led.start H (fun _=>False)
 walk_at "go"
 exact q _ _ (L'.tup (by walk_at "mem")) L'.same
theorem uD:ay ["place"] ["place"] (ak (top 51)):=by walk_at "s"
def eY (CD:Addr):Sp:=fun vs H Q E=>∃ (v:V) (pl:Option (Int×Int)),vs=[v]∧dY H v pl∧(pl=none→E (.ref CD) none H)∧(pl.isSome=true→Q .non H)
theorem uU (D:Dat K mg "need_up" "need_up" (top 51) ["place"]) (NE:bh (CX1 P w)) (JD:nP K mg "Down" CD):Cal P w K mg base (CX1 P w) "need_up" 1 ["place"] (eY CD):=by
 have S:=uD
 refine D.okR S (fun vs H Q E h=>?_) (fun f cdv A outer s H vs Q E hr h=>?_)
 ·obtain ⟨v,pl,rfl,_⟩:=h
  rfl
 obtain ⟨v,pl,rfl,hp,qe,qq⟩:=h
 refine ⟨_,(aj (aX (cy (dh (pv 0))) (aj (ia JD rfl aP (aa aL af))) aE)),?_⟩
 try dsimp only [aZ]
 walk_at "go"
 rcases hp with ⟨e,rfl⟩ | ⟨t,m,k,e,rfl,ht⟩
 ·refine mK rfl ?_
  walk_at "go"
  exact qe e
 ·refine bD (fun z=>nomatch z) fun _=>?_
  walk_at "go"
  exact qq (by rw [e];rfl)
theorem pG:ay ["area"] ["area"] (ak (top 52)):=by walk_at "s"
def ja (CA:Addr):Sp:=fun vs H Q E=>∃ (v:V) (ar:Option (Int×Int×Int)),vs=[v]∧Dn H v ar∧(ar=none→E (.ref CA) none H)∧(ar.isSome=true→Q .non H)
theorem pU (D:Dat K mg "need_area" "need_area" (top 52) ["area"]) (NE:bh (CX1 P w)) (Dc:nP K mg "NoArea" CA):Cal P w K mg base (CX1 P w) "need_area" 1 ["area"] (ja CA):=by
 have S:=pG
 refine D.okR S (fun vs H Q E h=>?_) (fun f cdv A outer s H vs Q E hr h=>?_)
 ·obtain ⟨v,ar,rfl,_⟩:=h
  rfl
 obtain ⟨v,ar,rfl,hp,qe,qq⟩:=h
 refine ⟨_,(aj (aX (cy (dh (pv 0))) (aj (ia Dc rfl aP (aa aL af))) aE)),?_⟩
 try dsimp only [aZ]
 walk_at "go"
 rcases hp with ⟨e,rfl⟩ | ⟨a,sl,f',e',e,rfl,ht⟩
 ·refine mK rfl ?_
  walk_at "go"
  exact qe e
 ·refine bD (fun z=>nomatch z) fun _=>?_
  walk_at "go"
  exact qq (by rw [e];rfl)
def fD (H0 H:Hp) (t:Addr) (v:V) (ls:Lns) (pv:V):Prop:=∃ l,H t=some (.tup [v,.ref l,pv])∧H0 l=none∧H l=some (.lst (lnV ls))∧dw H ls
theorem uH:ay ["stand"] ["stand"] (ak (top 53)):=by walk_at "s"
def fV (K:PySem.W.Frag) (CD:Addr):Sp:=fun vs H Q E=>∃ (s:Addr) (pl:Option (Int×Int)) (n:Nt) (g:Int),vs=[.ref s]∧cJ K H s pl n g∧(pl=none→E (.ref CD) none H)∧(pl.isSome=true→∀ t H',fD H H' t .non [] .non→aF H H'→Q (.ref t) H')
theorem uY (D:Dat K mg "falling" "falling" (top 53) ["stand"]) (NE:bh (CX1 P w)) (bA:Cal P w K mg base (CX1 P w) "need_up" 1 ["place"] (eY CD)):Cal P w K mg base (CX1 P w) "falling" 2 ["stand"] (fV K CD):=by
 have S:=uH
 refine D.okR S (fun vs H Q E h=>?_) (fun f cdv A outer s H vs Q E hr h=>?_)
 ·obtain ⟨s,pl,n,g,rfl,_⟩:=h
  rfl
 obtain ⟨s,pl,n,g,rfl,⟨v,t,hs,hp,hn⟩,qe,qq⟩:=h
 refine ⟨_,(ai (bT (bR bA (hr.mono (by first | decide | omega)) aP (aa (aq ao (pv 0) ah (fun _ _=>rfl)) af)))
   (aj (au (aS (aa cz (aa (b9 af) (aa cz af))))))),?_⟩
 try dsimp only [aZ]
 have L:=(Led.start H (fun _=>False)).more (aH s [_,_,_]) hs
 walk_at "go"
 refine ⟨v,pl,rfl,hp,qe,fun hsome=>?_⟩
 walk_at "go"
 exact qq hsome _ _ ⟨_,L'.tup (by walk_at "mem"),by assumption,L'.eo .head,fun _ h=>by simp at h⟩ L'.same
theorem yH:ay ["stand"] ["stand"] (ak (top 54)):=by walk_at "s"
def gU (K:PySem.W.Frag) (CU:Addr):Sp:=fun vs H Q E=>∃ (s:Addr) (pl:Option (Int×Int)) (n:Nt) (g:Int),vs=[.ref s]∧cJ K H s pl n g∧(pl.isSome=true→E (.ref CU) none H)∧(pl=none→∀ t p H',fD H H' t .non [] (.ref p)→H' p=some (.tup [.int (max n.hd n.hr),.int 0])→aF H H'→Q (.ref t) H')
theorem zb (D:Dat K mg "rising" "rising" (top 54) ["stand"]) (NE:bh (CX1 P w)) (Ms:nP K mg "Up" CU) (dD:Cal P w K mg base (CX1 P w) "start_by" 1 ["note"] (jS K)):Cal P w K mg base (CX1 P w) "rising" 2 ["stand"] (gU K CU):=by
 have S:=yH
 refine D.okR S (fun vs H Q E h=>?_) (fun f cdv A outer s H vs Q E hr h=>?_)
 ·obtain ⟨s,pl,n,g,rfl,_⟩:=h
  rfl
 obtain ⟨s,pl,n,g,rfl,⟨v,t,hs,hp,hn⟩,qe,qq⟩:=h
 refine ⟨_,(ai (aX (cy (gj (aq ao (pv 0) ah (fun _ _=>rfl)))) (aj (ia Ms rfl aP (aa aL af))) aE)
   (aj (au (aS (aa cz (aa (b9 af) (aa (aI dD (hr.mono (by first | decide | omega)) NE.pass (aa (aq ao (pv 0) ah (fun _ _=>rfl)) af)) af))))))),?_⟩
 try dsimp only [aZ]
 have L:=(Led.start H (fun _=>False)).more (aH s [_,_,_]) hs
 walk_at "go"
 rcases hp with ⟨e,rfl⟩ | ⟨t2,m,k,e,rfl,ht⟩
 ·refine mJ rfl ?_
  walk_at "go"
  obtain ⟨lx,elx⟩:∃ z,z=l':=⟨_,rfl⟩
  subst elx
  have nlx:H lx=none:=n'
  have M:=L'
  clear L L'
  refine ⟨t,n,rfl,hn.same M.same,fun p H2 hp2 s2=>?_⟩
  have N:=(M.keep s2).more (aH p [_,_]) hp2
  clear M
  walk_at "go"
  exact qq e _ p _ ⟨lx,L'.tup (by walk_at "mem"),nlx,L'.eo .head,fun _ h=>by simp at h⟩ (L'.tup (r:=p) (by walk_at "mem")) L'.same
 ·refine kg (fun z=>nomatch z) ?_
  walk_at "go"
  exact qe (by rw [e];rfl)
theorem yF:ay ["settings", "stand", "grant", "area", "place"] ["settings", "stand", "grant", "area"] (ak (top 55)):=by walk_at "s"
def g9 (m k b:Int):Int×Int:=(if m < b then b else m,if m < b then 0 else k)
def gT (K:PySem.W.Frag) (CD CS:Addr):Sp:=fun vs H Q E=>∃ (p s a:Addr) (sh:V) (far room term:Int) (ws:List Str) (pl:Option (Int×Int)) (n:Nt) (g gr sl f e:Int),vs=[.ref p,.ref s,.int gr,.ref a]∧k9 CS H p sh far room term ws∧cJ K H s pl n g∧(∀ m k,pl=some (m,k)→0≤k)∧H a=some (.tup [.int sl,.int f,.int e]) ∧
 (pl=none→E (.ref CD) none H) ∧
 (∀ m k,pl=some (m,k)→("once" : Str)∈ws→gr≤g→∀ t v H',dY H' v pl→fD H H' t (.bl false) [] v→aF H H'→Q (.ref t) H') ∧
 (∀ m k,pl=some (m,k)→¬ (("once" : Str)∈ws∧gr≤g)→∀ t l v H',dY H' v (some (g9 m k (bnd m k)))→fD H H' t (.bl true) [(l,.took gr sl f e)] v→aF H H'→Q (.ref t) H')
theorem y9 (D:Dat K mg "taking" "taking" (top 55) ["settings", "stand", "grant", "area"]) (NE:bh (CX1 P w)) (bA:Cal P w K mg base (CX1 P w) "need_up" 1 ["place"] (eY CD)) (cW:Cal P w K mg base (CX1 P w) "has_rule" 1 ["settings", "word"] (fU CS)) (fC:Cal P w K mg base (CX1 P w) "bound_of" 1 ["place"] lE) (gb:Cal P w K mg base (CX1 P w) "raised" 1 ["place", "bound"] lQ):Cal P w K mg base (CX1 P w) "taking" 2 ["settings", "stand", "grant", "area"] (gT K CD CS):=by
 have S:=yF
 refine D.okR S (fun vs H Q E h=>?_) (fun f cdv A outer s H vs Q E hr h=>?_)
 ·obtain ⟨p,s,a,sh,far,room,term,ws,pl,n,g,gr,sl,f,e,rfl,_⟩:=h
  rfl
 obtain ⟨p,s,a,sh,far,room,term,ws,pl,n,g,gr,sl,f',e,rfl,hst,⟨v,t,hs,hp,hn⟩,hk,ha,qe,q0,q1⟩:=h
 refine ⟨_,(ai (aK (i:=4) S.nd rfl (by first | exact Or.inl rfl | exact Or.inr rfl) (aq ao (pv 1) ah (fun _ _=>rfl)))
   (ai (bT (bR bA (hr.mono (by first | decide | omega)) aP (aa (pv 4) af)))
   (ai (aX (PW.pt (fO (b8 (aI cW (hr.mono (by first | decide | omega)) NE.pass (aa (pv 0) (aa aL af)))) (dH (aG rS (pv 2) (aq ao (pv 1) ah (fun _ _=>rfl)) (aM _))))) (aj (au (aS (aa dZ (aa (b9 af) (aa (pv 4) af)))))) aE)
   (aj (au (aS (aa dZ (aa (b9 (aa (aS (aa aL (aa (pv 2) (aa (pv 3) af)))) af)) (aa (aI gb (hr.mono (by first | decide | omega)) NE.pass (aa (pv 4) (aa (aI fC (hr.mono (by first | decide | omega)) NE.pass (aa (pv 4) af)) af))) af))))))))),?_⟩
 try dsimp only [aZ]
 have L:=((Led.start H (fun _=>False)).more (aH s [_,_,_]) hs).more (aH a [_,_,_]) ha
 walk_at "go"
 refine ⟨v,pl,rfl,hp,qe,fun hsome=>?_⟩
 rcases id hp with ⟨e1,rfl⟩ | ⟨tp,m,k,epl,rfl,htp⟩
 ·rw [e1] at hsome;cases hsome
 have q0:=q0 m k epl
 have q1:=q1 m k epl
 have k0:=hk m k epl
 walk_at "one"
 try dsimp only [bO]
 refine bJ (fun σ H'=>H'=H∧σ=[some (.ref p),some (.ref s),some (.int gr),some (.ref a),some (.ref tp)]∧¬ (("once" : Str)∈ws∧gr≤g)) (fun nx kk=>?_) ?_
 ·walk_at "go"
  refine ⟨p,sh,far,room,term,ws,_,rfl,hst,?_⟩
  walk_at "go"
  refine bD (fun c1=>?_) (fun c1=>?_)
  ·walk_at "go"
   refine bD (fun c2=>?_) (fun c2=>?_)
   ·walk_at "go"
    exact q0 c1 c2 _ _ _ (hp.same L'.same) ⟨_,L'.tup (by walk_at "mem"),by assumption,L'.eo .head,fun _ h=>by simp at h⟩ L'.same
   ·walk_at "go"
    exact kk _ _ ⟨rfl,rfl,fun z=>c2 z.2⟩
  ·walk_at "go"
   exact kk _ _ ⟨rfl,rfl,fun z=>c1 z.1⟩
 rintro σ HA ⟨rfl,rfl,hno⟩
 walk_at "go"
 obtain ⟨lx,tk,elx,etk⟩:∃ z y,z=l'∧y=t':=⟨_,_,rfl,rfl⟩
 subst elx etk
 have M:=L'
 clear L L'
 have nlx:HA lx=none:=(M.own (lx,_) List.mem_cons_self).elim (fun z=>absurd z id) id
 refine ⟨tp,m,k,rfl,M.same _ _ htp,?_⟩
 walk_at "go"
 refine ⟨tp,m,k,_,rfl,M.same _ _ htp,k0,fun r H2 hr2 s2=>?_⟩
 have N:=(M.keep s2).more (aH r [_,_]) hr2
 clear M
 walk_at "go"
 exact q1 hno _ tk (.ref r) _ (.inr ⟨r,_,_,rfl,rfl,L'.tup (r:=r) (by walk_at "mem")⟩) ⟨lx,L'.tup (by walk_at "mem"),nlx,L'.eo .head,fun z hz=>by
  rw [List.mem_singleton.mp hz]
  exact .took (L'.tup (r:=tk) (by walk_at "mem")) (L'.tup (r:=a) (by walk_at "mem"))⟩ L'.same
theorem uF:ay ["settings", "stand", "bound", "is_written"] ["settings", "stand", "bound"] (ak (top 59)):=by walk_at "s"
def fT (K:PySem.W.Frag) (CD CS:Addr):Sp:=fun vs H Q E=>∃ (p s:Addr) (sh:V) (far room term:Int) (ws:List Str) (pl:Option (Int×Int)) (n:Nt) (g b:Int),vs=[.ref p,.ref s,.int b]∧k9 CS H p sh far room term ws∧cJ K H s pl n g∧(∀ m k,pl=some (m,k)→0≤k) ∧
 (pl=none→E (.ref CD) none H) ∧
 (∀ m k,pl=some (m,k)→∀ t v ls H',((("spoken" : Str)∈ws∧n.hr < b∧∃ l,ls=[(l,.heard b)])∨(¬ (("spoken" : Str)∈ws∧n.hr < b)∧ls=[]))→dY H' v (some (g9 m k b))→fD H H' t .non ls v→aF H H'→Q (.ref t) H')
theorem uW (D:Dat K mg "hearing" "hearing" (top 59) ["settings", "stand", "bound"]) (NE:bh (CX1 P w)) (bA:Cal P w K mg base (CX1 P w) "need_up" 1 ["place"] (eY CD)) (cW:Cal P w K mg base (CX1 P w) "has_rule" 1 ["settings", "word"] (fU CS)) (jl:Cal P w K mg base (CX1 P w) "heard_in" 1 ["stand"] (nX K)) (gb:Cal P w K mg base (CX1 P w) "raised" 1 ["place", "bound"] lQ):Cal P w K mg base (CX1 P w) "hearing" 2 ["settings", "stand", "bound"] (fT K CD CS):=by
 have S:=uF
 refine D.okR S (fun vs H Q E h=>?_) (fun f cdv A outer s H vs Q E hr h=>?_)
 ·obtain ⟨p,s,sh,far,room,term,ws,pl,n,g,b,rfl,_⟩:=h
  rfl
 obtain ⟨p,s,sh,far,room,term,ws,pl,n,g,b,rfl,hst,hsd,hk,qe,q1⟩:=h
 obtain ⟨v,t,hs,hp,hn⟩:=id hsd
 refine ⟨_,(ai (bT (bR bA (hr.mono (by first | decide | omega)) aP (aa (aq ao (pv 1) ah (fun _ _=>rfl)) af)))
   (ai (aK (i:=3) S.nd rfl (by first | exact Or.inl rfl | exact Or.inr rfl) (jZ (aI cW (hr.mono (by first | decide | omega)) NE.pass (aa (pv 0) (aa aL af))) (jY (eS jB (pv 2) (aI jl (hr.mono (by first | decide | omega)) NE.pass (aa (pv 1) af)) (aM _)))))
   (aj (au (aS (aa cz (aa (bZ (b8 (pv 3)) (b9 (aa (aS (aa aL (aa (pv 2) af))) af)) (b9 af)) (aa (aI gb (hr.mono (by first | decide | omega)) NE.pass (aa (aq ao (pv 1) ah (fun _ _=>rfl)) (aa (pv 2) af))) af)))))))),?_⟩
 try dsimp only [aZ]
 have L:=(Led.start H (fun _=>False)).more (aH s [_,_,_]) hs
 walk_at "go"
 refine ⟨v,pl,rfl,hp,qe,fun hsome=>?_⟩
 rcases id hp with ⟨e1,rfl⟩ | ⟨tp,m,k,epl,rfl,htp⟩
 ·rw [e1] at hsome;cases hsome
 have q1:=q1 m k epl
 have k0:=hk m k epl
 walk_at "one"
 try dsimp only [bO]
 refine bJ (fun σ H'=>H'=H∧σ=[some (.ref p),some (.ref s),some (.int b),some (.bl (decide (("spoken" : Str)∈ws∧n.hr < b)))]) (fun nx kk=>?_) ?_
 ·walk_at "go"
  refine ⟨p,sh,far,room,term,ws,_,rfl,hst,?_⟩
  walk_at "go"
  refine bD (fun c1=>?_) (fun c1=>?_)
  ·walk_at "go"
   refine ⟨s,pl,n,g,rfl,hsd,?_⟩
   walk_at "go"
   exact kk _ _ ⟨rfl,by rw [show decide (("spoken" : Str)∈ws∧n.hr < b)=decide (n.hr < b) from decide_eq_decide.mpr ⟨fun z=>z.2,fun z=>⟨c1,z⟩⟩];rfl⟩
  ·exact kk _ _ ⟨rfl,by rw [decide_eq_false (fun z=>c1 z.1)];rfl⟩
 rintro σ HA ⟨rfl,rfl⟩
 walk_at "go"
 refine bD (fun c=>?_) (fun c=>?_)
 ·walk_at "go"
  obtain ⟨lx,tk,elx,etk⟩:∃ z y,z=l'∧y=t':=⟨_,_,rfl,rfl⟩
  subst elx etk
  have M:=L'
  clear L L'
  have nlx:HA lx=none:=(M.own (lx,_) List.mem_cons_self).elim (fun z=>absurd z id) id
  refine ⟨tp,m,k,_,rfl,M.same _ _ htp,k0,fun r H2 hr2 s2=>?_⟩
  have N:=(M.keep s2).more (aH r [_,_]) hr2
  clear M
  walk_at "go"
  exact q1 _ (.ref r) [(tk,.heard b)] _ (.inl ⟨c.1,c.2,tk,rfl⟩) (.inr ⟨r,_,_,rfl,rfl,L'.tup (r:=r) (by walk_at "mem")⟩) ⟨lx,L'.tup (by walk_at "mem"),nlx,L'.eo .head,fun z hz=>by
   rw [List.mem_singleton.mp hz]
   exact .heard (L'.tup (r:=tk) (by walk_at "mem"))⟩ L'.same
 ·walk_at "go"
  obtain ⟨lx,elx⟩:∃ z,z=l':=⟨_,rfl⟩
  subst elx
  have M:=L'
  clear L L'
  have nlx:HA lx=none:=(M.own (lx,_) List.mem_cons_self).elim (fun z=>absurd z id) id
  refine ⟨tp,m,k,_,rfl,M.same _ _ htp,k0,fun r H2 hr2 s2=>?_⟩
  have N:=(M.keep s2).more (aH r [_,_]) hr2
  clear M
  walk_at "go"
  exact q1 _ (.ref r) [] _ (.inr ⟨c,rfl⟩) (.inr ⟨r,_,_,rfl,rfl,L'.tup (r:=r) (by walk_at "mem")⟩) ⟨lx,L'.tup (by walk_at "mem"),nlx,L'.eo .head,fun z hz=>by simp at hz⟩ L'.same
theorem yR:ay ["settings", "stand", "place", "end", "told"] ["settings", "stand"] (ak (top 60)):=by walk_at "s"
def cR (f m k hd:Int):Int:=max (max f (bnd m k)) hd
theorem tP {H:Hp} {v:V} {sl f e:Int} (h:Dn H v (some (sl,f,e))):∃ a,v = .ref a∧H a=some (.tup [.int sl,.int f,.int e]):=by
 rcases h with ⟨z,_⟩ | ⟨a,_,_,_,z,ev,ha⟩
 ·cases z
 ·cases z;exact ⟨a,ev,ha⟩
def gY (K:PySem.W.Frag) (CD CA CN CS:Addr):Sp:=fun vs H Q E=>∃ (p s:Addr) (sh:V) (far room term:Int) (ws:List Str) (pl:Option (Int×Int)) (n:Nt) (g:Int),vs=[.ref p,.ref s]∧k9 CS H p sh far room term ws∧cJ K H s pl n g ∧
 (pl=none→E (.ref CD) none H)∧(pl.isSome=true→n.ar=none→E (.ref CA) none H) ∧
 (∀ m k sl f e,pl=some (m,k)→n.ar=some (sl,f,e)→cR f m k n.hd≥e→E (.ref CN) none H) ∧
 (∀ m k sl f e,pl=some (m,k)→n.ar=some (sl,f,e)→¬ cR f m k n.hd≥e→∀ t tv v ls H',H' tv=some (.tup [.int n.g,.int (cR f m k n.hd)])→((("ends" : Str)∈ws∧∃ l,ls=[(l,.ends n.g (cR f m k n.hd))])∨(¬ ("ends" : Str)∈ws∧ls=[]))→dY H' v pl→fD H H' t (.ref tv) ls v→aF H H'→Q (.ref t) H')
theorem zm {CN:Addr} (D:Dat K mg "giving" "giving" (top 60) ["settings", "stand"]) (BT:Bt mg) (NE:bh (CX1 P w)) (nh:nP K mg "NoRoom" CN) (bA:Cal P w K mg base (CX1 P w) "need_up" 1 ["place"] (eY CD)) (cZ:Cal P w K mg base (CX1 P w) "need_area" 1 ["area"] (ja CA)) (bM:Cal P w K mg base (CX1 P w) "area_in" 1 ["stand"] (gZ K)) (fB:Cal P w K mg base (CX1 P w) "first_of" 1 ["area"] wU) (iH:Cal P w K mg base (CX1 P w) "end_of" 1 ["area"] wR) (fC:Cal P w K mg base (CX1 P w) "bound_of" 1 ["place"] lE)
  (cF:Cal P w K mg base (CX1 P w) "held_in" 1 ["stand"] (jy K)) (cB:Cal P w K mg base (CX1 P w) "grant_in" 1 ["stand"] (iU K)) (cW:Cal P w K mg base (CX1 P w) "has_rule" 1 ["settings", "word"] (fU CS)):Cal P w K mg base (CX1 P w) "giving" 2 ["settings", "stand"] (gY K CD CA CN CS):=by
 have S:=yR
 refine D.okR S (fun vs H Q E h=>?_) (fun f cdv A outer s H vs Q E hr h=>?_)
 ·obtain ⟨p,s,sh,far,room,term,ws,pl,n,g,rfl,_⟩:=h
  rfl
 obtain ⟨p,s,sh,far,room,term,ws,pl,n,g,rfl,hst,hsd,qd,qa,qn,q1⟩:=h
 obtain ⟨v,t,hs,hp,hn⟩:=id hsd
 refine ⟨_,(ai (aK (i:=2) S.nd rfl (by first | exact Or.inl rfl | exact Or.inr rfl) (aq ao (pv 1) ah (fun _ _=>rfl)))
   (ai (bT (bR bA (hr.mono (by first | decide | omega)) aP (aa (pv 2) af)))
   (ai (bT (bR cZ (hr.mono (by first | decide | omega)) aP (aa (aI bM (hr.mono (by first | decide | omega)) NE.pass (aa (pv 1) af)) af)))
   (ai (aK (i:=3) S.nd rfl (by first | exact Or.inl rfl | exact Or.inr rfl) (bq (vK rfl) rfl BT.max L3.dX (aa (aI fB (hr.mono (by first | decide | omega)) NE.pass (aa (aI bM (hr.mono (by first | decide | omega)) NE.pass (aa (pv 1) af)) af)) (aa (aI fC (hr.mono (by first | decide | omega)) NE.pass (aa (pv 2) af)) (aa (aI cF (hr.mono (by first | decide | omega)) NE.pass (aa (pv 1) af)) af)))))
   (ai (aX (aG l6 (pv 3) (aI iH (hr.mono (by first | decide | omega)) NE.pass (aa (aI bM (hr.mono (by first | decide | omega)) NE.pass (aa (pv 1) af)) af)) (aM _)) (aj (ia nh rfl aP (aa aL af))) aE)
   (ai (aK (i:=4) S.nd rfl (by first | exact Or.inl rfl | exact Or.inr rfl) (aS (aa (aI cB (hr.mono (by first | decide | omega)) NE.pass (aa (pv 1) af)) (aa (pv 3) af))))
   (aj (au (aS (aa (pv 4) (aa (bZ (b8 (aI cW (hr.mono (by first | decide | omega)) NE.pass (aa (pv 0) (aa aL af)))) (b9 (aa (aS (aa aL (aa (aI cB (hr.mono (by first | decide | omega)) NE.pass (aa (pv 1) af)) (aa (pv 3) af)))) af)) (b9 af)) (aa (pv 2) af)))))))))))),?_⟩
 try dsimp only [aZ]
 have L:=(Led.start H (fun _=>False)).more (aH s [_,_,_]) hs
 walk_at "go"
 refine ⟨v,pl,rfl,hp,qd,fun hsome=>?_⟩
 rcases id hp with ⟨e1,rfl⟩ | ⟨tp,m,k,epl,rfl,htp⟩
 ·rw [e1] at hsome;cases hsome
 walk_at "go"
 refine ⟨s,pl,n,g,rfl,hsd,fun av hav=>?_⟩
 walk_at "go"
 refine ⟨av,n.ar,rfl,hav,qa hsome,fun hars=>?_⟩
 obtain ⟨⟨sl,f',e⟩,ear⟩:=Option.isSome_iff_exists.mp hars
 have qn:=qn m k sl f' e epl ear
 have q1:=q1 m k sl f' e epl ear
 rw [ear] at hav
 walk_at "go"
 refine ⟨s,pl,n,g,rfl,hsd,fun av2 hav2=>?_⟩
 rw [ear] at hav2
 obtain ⟨a2,rfl,ha2⟩:=tP hav2
 walk_at "go"
 refine ⟨a2,_,_,_,rfl,ha2,?_⟩
 walk_at "go"
 refine ⟨tp,m,k,rfl,htp,?_⟩
 walk_at "go"
 refine ⟨s,pl,n,g,rfl,hsd,?_⟩
 walk_at "go"
 refine ⟨s,pl,n,g,rfl,hsd,fun av3 hav3=>?_⟩
 rw [ear] at hav3
 obtain ⟨a3,rfl,ha3⟩:=tP hav3
 walk_at "go"
 refine ⟨a3,_,_,_,rfl,ha3,?_⟩
 walk_at "go"
 refine bD (fun c=>?_) (fun c=>?_)
 ·walk_at "go"
  exact qn c
 walk_at "go"
 refine ⟨s,pl,n,g,rfl,hsd,?_⟩
 walk_at "go"
 obtain ⟨tv,etv⟩:∃ z,z=t':=⟨_,rfl⟩
 subst etv
 have M:=L'
 clear L L'
 have sM:=M.same
 refine ⟨p,sh,far,room,term,ws,_,rfl,hst.same sM,?_⟩
 walk_at "go"
 refine bD (fun c1=>?_) (fun c1=>?_)
 ·walk_at "go"
  refine ⟨s,pl,n,g,rfl,hsd.same sM,?_⟩
  walk_at "go"
  refine q1 c _ tv (.ref tp) [(_,.ends n.g _)] _ (L'.tup (r:=tv) (by walk_at "mem")) (.inl ⟨c1,_,rfl⟩) (hp.same L'.same) ⟨l',L'.tup (by walk_at "mem"),(L'.own (l',_) List.mem_cons_self).elim (fun z=>absurd z id) id,L'.eo .head,fun z hz=>?_⟩ L'.same
  rw [List.mem_singleton.mp hz]
  exact .ends (L'.tup (by walk_at "mem"))
 ·walk_at "go"
  exact q1 c _ tv (.ref tp) [] _ (L'.tup (r:=tv) (by walk_at "mem")) (.inr ⟨c1,rfl⟩) (hp.same L'.same) ⟨l',L'.tup (by walk_at "mem"),(L'.own (l',_) List.mem_cons_self).elim (fun z=>absurd z id) id,L'.eo .head,fun z hz=>by simp at hz⟩ L'.same
end
def MkE (CD CA CN CW:Addr) (H:Hp) (pl:Option (Int×Int)) (n:Nt) (far r:Int) (E:XK):Prop:=(pl=none→E (.ref CD) none H)∧(pl.isSome=true→n.ar=none→E (.ref CA) none H) ∧
 (∀ m k sl f e,pl=some (m,k)→n.ar=some (sl,f,e)→e≤due m f r→E (.ref CN) none H) ∧
 (∀ m k sl f e,pl=some (m,k)→n.ar=some (sl,f,e)→¬ e≤due m f r→r+far < due m f r→∀ d H',aF H H'→H' d=some (.xd [("reading",.int (due m f r - far))])→E (.ref CW) (some d) H')
def nxP (c m f r k:Int):Int×Int:=(if cnt m f r k+1=c then due m f r+1 else due m f r,if cnt m f r k+1=c then 0 else cnt m f r k+1)
def lg (C CS:Addr) (H:Hp) (p sp:Addr) (c s far room term:Int) (ws:List Str):Prop:=k9 CS H p (.ref sp) far room term ws∧C9 C H sp c s∧ShN c s
theorem lg.same {C CS:Addr} {H H':Hp} {p sp:Addr} {c s far room term:Int} {ws:List Str} (h:lg C CS H p sp c s far room term ws) (sm:aF H H'):lg C CS H' p sp c s far room term ws:=
 ⟨h.1.same sm,h.2.1.elim fun dx e=>⟨dx,sm _ _ e⟩,h.2.2⟩
section
variable {P:Program} {w:World} {K:PySem.W.Frag} {mg:Str→Option Value} {base:Heap} {C CD CA CN CW CT CS CR:Addr}
theorem yT:ay ["self", "moment"] ["self", "moment"] (ak (inClass (top 10) 0)):=by walk_at "s"
theorem zp (D:tT K mg "NoNote" "NoNote.__init__" CT (inClass (top 10) 0) ["self", "moment"]) (iP:x8 K mg "RiseError" CR) (EP:vX K CT "moment"):z0 P w K mg base "NoNote" CT 1 ["self", "moment"] (jx CT "moment"):=by
 have S:=yT
 refine D.ok' S (fun vs H Q E h=>?_) (fun f cdv A outer s H vs Q E hr h=>?_)
 ·obtain ⟨x,v,rfl,_⟩:=h
  rfl
 obtain ⟨x,v,rfl,hx,q⟩:=h
 refine ⟨_,(ai (bT (rP iP (aa (pv 0) (aa aL af))))
   (aj (xg (pv 0) (pv 1) rfl))),?_⟩
 try dsimp only [aZ]
 walk_at "go"
 refine sQ hx D.ok ?_
 walk_at "go"
 exact Cn hx EP fun d nd=>q d nd
theorem G3:ay ["settings", "stand", "reading"] ["settings", "stand", "reading"] (ak (top 56)):=by walk_at "s"
def AR (K:PySem.W.Frag) (C CD CA CN CW CS:Addr):Sp:=fun vs H Q E=>∃ (p s sp:Addr) (c s' far room term:Int) (ws:List Str) (pl:Option (Int×Int)) (n:Nt) (g r:Int),vs=[.ref p,.ref s,.int r]∧lg C CS H p sp c s' far room term ws∧cJ K H s pl n g∧MkE CD CA CN CW H pl n far r E ∧
 (∀ m k sl f e,pl=some (m,k)→n.ar=some (sl,f,e)→¬ e≤due m f r→¬ r+far < due m f r→∀ x y H',H' x=some (.tup [.int (mk c s' (due m f r) sl (cnt m f r k)),.ref y])→dY H' (.ref y) (some (nxP c m f r k))→aF H H'→Q (.ref x) H')
theorem HF (D:Dat K mg "mark_and_place" "mark_and_place" (top 56) ["settings", "stand", "reading"]) (SS:StC K CS) (NE:bh (CX1 P w)) (bA:Cal P w K mg base (CX1 P w) "need_up" 1 ["place"] (eY CD)) (cZ:Cal P w K mg base (CX1 P w) "need_area" 1 ["area"] (ja CA)) (bM:Cal P w K mg base (CX1 P w) "area_in" 1 ["stand"] (gZ K))
  (vM:Cal P w K mg base (CX1 P w) "made" 3 ["shape", "far", "area", "place", "reading"] (AQ C CN CW)):Cal P w K mg base (CX1 P w) "mark_and_place" 4 ["settings", "stand", "reading"] (AR K C CD CA CN CW CS):=by
 have S:=G3
 refine D.okR S (fun vs H Q E h=>?_) (fun f cdv A outer s H vs Q E hr h=>?_)
 ·obtain ⟨p,s,sp,c,s',far,room,term,ws,pl,n,g,r,rfl,_⟩:=h
  rfl
 obtain ⟨p,s,sp,c,s',far,room,term,ws,pl,n,g,r,rfl,⟨⟨dx,tr,ms,hp0,htr,pm⟩,hsh,shn⟩,hsd,⟨qd,qa,qn,qw⟩,q1⟩:=h
 obtain ⟨v,t,hs,hp,hn⟩:=id hsd
 refine ⟨_,(ai (bT (bR bA (hr.mono (by first | decide | omega)) aP (aa (aq ao (pv 1) ah (fun _ _=>rfl)) af)))
   (ai (bT (bR cZ (hr.mono (by first | decide | omega)) aP (aa (aI bM (hr.mono (by first | decide | omega)) NE.pass (aa (pv 1) af)) af)))
   (aj (au (bR vM (hr.mono (by first | decide | omega)) aP (aa (bw (pv 0) rfl) (aa (bw (pv 0) rfl) (aa (aI bM (hr.mono (by first | decide | omega)) NE.pass (aa (pv 1) af)) (aa (aq ao (pv 1) ah (fun _ _=>rfl)) (aa (pv 2) af)))))))))),?_⟩
 try dsimp only [aZ]
 have L:=(Led.start H (fun _=>False)).more (aH s [_,_,_]) hs
 walk_at "go"
 refine ⟨v,pl,rfl,hp,qd,fun hsome=>?_⟩
 rcases id hp with ⟨e1,rfl⟩ | ⟨tp,m,k,epl,rfl,htp⟩
 ·rw [e1] at hsome;cases hsome
 walk_at "go"
 refine ⟨s,pl,n,g,rfl,hsd,fun av hav=>?_⟩
 walk_at "go"
 refine ⟨av,n.ar,rfl,hav,qa hsome,fun hars=>?_⟩
 obtain ⟨⟨sl,f',e⟩,ear⟩:=Option.isSome_iff_exists.mp hars
 have qn:=qn m k sl f' e epl ear
 have qw:=qw m k sl f' e epl ear
 have q1:=q1 m k sl f' e epl ear
 walk_at "go"
 refine ⟨p,CS,dx,_,_,rfl,hp0,SS.cl,SS.n1,nW _ far room term tr,?_⟩
 walk_at "go"
 refine ⟨p,CS,dx,_,_,rfl,hp0,SS.cl,SS.n2,Dz _ far room term tr,?_⟩
 walk_at "go"
 refine ⟨s,pl,n,g,rfl,hsd,fun av2 hav2=>?_⟩
 rw [ear] at hav2
 obtain ⟨a2,rfl,ha2⟩:=tP hav2
 walk_at "go"
 exact ⟨sp,a2,tp,c,s',sl,f',e,m,k,r,far,rfl,shn,hsh,ha2,htp,qn,qw,fun b1 b2 x y H' hx hy sm=>q1 b1 b2 x y H' hx (.inr ⟨y,_,_,rfl,rfl,hy⟩) sm⟩
theorem uB:ay ["settings", "stand", "reading", "ahead"] ["settings", "stand", "reading"] (ak (top 57)):=by walk_at "s"
def fS (K:PySem.W.Frag) (C CD CA CN CW CS:Addr):Sp:=fun vs H Q E=>∃ (p s sp:Addr) (c s' far room term:Int) (ws:List Str) (pl:Option (Int×Int)) (n:Nt) (g r:Int),vs=[.ref p,.ref s,.int r]∧lg C CS H p sp c s' far room term ws∧cJ K H s pl n g∧MkE CD CA CN CW H pl n far r E ∧
 (∀ m k sl f e,pl=some (m,k)→n.ar=some (sl,f,e)→¬ e≤due m f r→¬ r+far < due m f r→∀ t v ls H',(n.hd < due m f r+room∧(∃ l,ls=[(l,.held (due m f r+room))])∨¬ n.hd < due m f r+room∧ls=[])→dY H' v pl→fD H H' t (.int (max n.hd (due m f r+room))) ls v→aF H H'→Q (.ref t) H')
theorem uR (D:Dat K mg "writing" "writing" (top 57) ["settings", "stand", "reading"]) (SS:StC K CS) (NE:bh (CX1 P w)) (dF:Cal P w K mg base (CX1 P w) "mark_and_place" 4 ["settings", "stand", "reading"] (AR K C CD CA CN CW CS)) (bM:Cal P w K mg base (CX1 P w) "area_in" 1 ["stand"] (gZ K)) (cF:Cal P w K mg base (CX1 P w) "held_in" 1 ["stand"] (jy K))
  (dP:Cal P w K mg base (CX1 P w) "moment_at" 2 ["area", "place", "reading"] jw):Cal P w K mg base (CX1 P w) "writing" 5 ["settings", "stand", "reading"] (fS K C CD CA CN CW CS):=by
 have S:=uB
 refine D.okR S (fun vs H Q E h=>?_) (fun f cdv A outer s H vs Q E hr h=>?_)
 ·obtain ⟨p,s,sp,c,s',far,room,term,ws,pl,n,g,r,rfl,_⟩:=h
  rfl
 obtain ⟨p,s,sp,c,s',far,room,term,ws,pl,n,g,r,rfl,hss,hsd,he,q1⟩:=h
 refine ⟨_,(ai (bT (bR dF (hr.mono (by first | decide | omega)) aP (aa (pv 0) (aa (pv 1) (aa (pv 2) af)))))
   (ai (aK (i:=3) S.nd rfl (by first | exact Or.inl rfl | exact Or.inr rfl) (aQ bL (aI dP (hr.mono (by first | decide | omega)) NE.pass (aa (aI bM (hr.mono (by first | decide | omega)) NE.pass (aa (pv 1) af)) (aa (aq ao (pv 1) ah (fun _ _=>rfl)) (aa (pv 2) af)))) (bw (pv 0) rfl)))
   (ai (aX (aG jB (pv 3) (aI cF (hr.mono (by first | decide | omega)) NE.pass (aa (pv 1) af)) (aM _)) (aj (au (aS (aa (pv 3) (aa (b9 (aa (aS (aa aL (aa (pv 3) af))) af)) (aa (aq ao (pv 1) ah (fun _ _=>rfl)) af)))))) aE)
   (aj (au (aS (aa (aI cF (hr.mono (by first | decide | omega)) NE.pass (aa (pv 1) af)) (aa (b9 af) (aa (aq ao (pv 1) ah (fun _ _=>rfl)) af))))))))),?_⟩
 try dsimp only [aZ]
 walk_at "go"
 refine ⟨p,s,sp,c,s',far,room,term,ws,pl,n,g,r,rfl,hss,hsd,he,fun m k sl f' e epl ear b1 b2 x y H1 hx hy s1=>?_⟩
 have q1:=q1 m k sl f' e epl ear b1 b2
 have sI:=hsd.same s1
 obtain ⟨v,t,hs,hp,hn⟩:=id sI
 obtain ⟨⟨dx,tr,ms,hp0,htr,pm⟩,hsh,shn⟩:=hss.same s1
 rcases id hp with ⟨e1,rfl⟩ | ⟨tp,m2,k2,epl2,rfl,htp⟩
 ·rw [epl] at e1;cases e1
 rw [epl] at epl2
 cases epl2
 have L:=(Led.start H1 (fun _=>False)).more (aH s [_,_,_]) hs
 walk_at "go"
 refine ⟨s,pl,n,g,rfl,sI,fun av2 hav2=>?_⟩
 rw [ear] at hav2
 obtain ⟨a2,rfl,ha2⟩:=tP hav2
 walk_at "go"
 refine ⟨a2,tp,sl,f',e,m,k,r,rfl,ha2,htp,?_⟩
 generalize due m f' r=du at *
 walk_at "go"
 refine ⟨p,CS,dx,_,_,rfl,hp0,SS.cl,SS.n3,AB _ far room term tr,?_⟩
 walk_at "go"
 refine ⟨s,pl,n,g,rfl,sI,?_⟩
 walk_at "go"
 refine bD (fun c=>?_) (fun c=>?_)
 ·rw [show max n.hd (du+room)=du+room by omega] at q1
  walk_at "go"
  exact q1 _ (.ref tp) [(_,.held _)] _ (.inl ⟨c,_,rfl⟩) (hp.same L'.same) ⟨l',L'.tup (by walk_at "mem"),(by
   cases e0:H l' with
   | none=>rfl
   | some o=>exact absurd (s1 _ _ e0) (by rw [(L'.own (l',_) List.mem_cons_self).elim (fun z=>absurd z id) id];exact fun z=>nomatch z)),L'.eo .head,fun z hz=>by
   rw [List.mem_singleton.mp hz]
   exact .held (L'.tup (by walk_at "mem"))⟩ (s1.trans L'.same)
 ·rw [show max n.hd (du+room)=n.hd by omega] at q1
  walk_at "go"
  refine ⟨s,pl,n,g,rfl,sI,?_⟩
  walk_at "go"
  exact q1 _ (.ref tp) [] _ (.inr ⟨c,rfl⟩) (hp.same L'.same) ⟨l',L'.tup (by walk_at "mem"),(by
   cases e0:H l' with
   | none=>rfl
   | some o=>exact absurd (s1 _ _ e0) (by rw [(L'.own (l',_) List.mem_cons_self).elim (fun z=>absurd z id) id];exact fun z=>nomatch z)),L'.eo .head,fun z hz=>by simp at hz⟩ (s1.trans L'.same)
theorem yK:ay ["settings", "stand", "reading", "told", "moment"] ["settings", "stand", "reading"] (ak (top 58)):=by walk_at "s"
def gW (K:PySem.W.Frag) (C CD CA CN CW CT CS:Addr):Sp:=fun vs H Q E=>∃ (p s sp:Addr) (c s' far room term:Int) (ws:List Str) (pl:Option (Int×Int)) (n:Nt) (g r:Int),vs=[.ref p,.ref s,.int r]∧lg C CS H p sp c s' far room term ws∧cJ K H s pl n g∧MkE CD CA CN CW H pl n far r E ∧
 (∀ m k sl f e,pl=some (m,k)→n.ar=some (sl,f,e)→¬ e≤due m f r→¬ r+far < due m f r→("ahead" : Str)∈ws→n.hd≤due m f r→∀ d H',aF H H'→H' d=some (.xd [("moment",.int (due m f r))])→E (.ref CT) (some d) H') ∧
 (∀ m k sl f e,pl=some (m,k)→n.ar=some (sl,f,e)→¬ e≤due m f r→¬ r+far < due m f r→¬ (("ahead" : Str)∈ws∧n.hd≤due m f r)→∀ t v H',dY H' v (some (nxP c m f r k))→fD H H' t (.int (mk c s' (due m f r) sl (cnt m f r k))) [] v→aF H H'→Q (.ref t) H')
theorem ze (D:Dat K mg "making" "making" (top 58) ["settings", "stand", "reading"]) (NE:bh (CX1 P w)) (ni:z0 P w K mg base "NoNote" CT 1 ["self", "moment"] (jx CT "moment")) (dF:Cal P w K mg base (CX1 P w) "mark_and_place" 4 ["settings", "stand", "reading"] (AR K C CD CA CN CW CS)) (bM:Cal P w K mg base (CX1 P w) "area_in" 1 ["stand"] (gZ K)) (cF:Cal P w K mg base (CX1 P w) "held_in" 1 ["stand"] (jy K))
  (dP:Cal P w K mg base (CX1 P w) "moment_at" 2 ["area", "place", "reading"] jw) (cW:Cal P w K mg base (CX1 P w) "has_rule" 1 ["settings", "word"] (fU CS)):Cal P w K mg base (CX1 P w) "making" 5 ["settings", "stand", "reading"] (gW K C CD CA CN CW CT CS):=by
 have S:=yK
 refine D.okR S (fun vs H Q E h=>?_) (fun f cdv A outer s H vs Q E hr h=>?_)
 ·obtain ⟨p,s,sp,c,s',far,room,term,ws,pl,n,g,r,rfl,_⟩:=h
  rfl
 obtain ⟨p,s,sp,c,s',far,room,term,ws,pl,n,g,r,rfl,hss,hsd,he,qt,q1⟩:=h
 refine ⟨_,(ai (aK (i:=3) S.nd rfl (by first | exact Or.inl rfl | exact Or.inr rfl) (bR dF (hr.mono (by first | decide | omega)) aP (aa (pv 0) (aa (pv 1) (aa (pv 2) af)))))
   (ai (aK (i:=4) S.nd rfl (by first | exact Or.inl rfl | exact Or.inr rfl) (aI dP (hr.mono (by first | decide | omega)) NE.pass (aa (aI bM (hr.mono (by first | decide | omega)) NE.pass (aa (pv 1) af)) (aa (aq ao (pv 1) ah (fun _ _=>rfl)) (aa (pv 2) af)))))
   (ai (aX (PW.pt (fO (b8 (aI cW (hr.mono (by first | decide | omega)) NE.pass (aa (pv 0) (aa aL af)))) (dH (aG l6 (pv 4) (aI cF (hr.mono (by first | decide | omega)) NE.pass (aa (pv 1) af)) (aM _))))) (aj (n9 ni (hr.mono (by first | decide | omega)) rfl aP (aa (pv 4) af))) aE)
   (aj (au (aS (aa (aq ao (pv 3) ah (fun _ _=>rfl)) (aa (b9 af) (aa (aq ao (pv 3) ah (fun _ _=>rfl)) af))))))))),?_⟩
 try dsimp only [aZ]
 walk_at "go"
 refine ⟨p,s,sp,c,s',far,room,term,ws,pl,n,g,r,rfl,hss,hsd,he,fun m k sl f' e epl ear b1 b2 x y H1 hx hy s1=>?_⟩
 have qt:=qt m k sl f' e epl ear b1 b2
 have q1:=q1 m k sl f' e epl ear b1 b2
 have sI:=hsd.same s1
 obtain ⟨v,t,hs,hp,hn⟩:=id sI
 have LY:=hss.same s1
 rcases id hp with ⟨e1,rfl⟩ | ⟨tp,m2,k2,epl2,rfl,htp⟩
 ·rw [epl] at e1;cases e1
 rw [epl] at epl2
 cases epl2
 have L:=((Led.start H1 (fun _=>False)).more (aH s [_,_,_]) hs).more (aH x [_,_]) hx
 walk_at "go"
 refine ⟨s,pl,n,g,rfl,sI,fun av2 hav2=>?_⟩
 rw [ear] at hav2
 obtain ⟨a2,rfl,ha2⟩:=tP hav2
 walk_at "go"
 refine ⟨a2,tp,sl,f',e,m,k,r,rfl,ha2,htp,?_⟩
 generalize nxP c m f' r k=np at *
 generalize mk c s' (due m f' r) sl (cnt m f' r k)=mm at *
 generalize due m f' r=du at *
 walk_at "one"
 try dsimp only [bO]
 refine bJ (fun σ H'=>H'=H1∧σ=[some (.ref p),some (.ref s),some (.int r),some (.ref x),some (.int du)]∧¬ (("ahead" : Str)∈ws∧n.hd≤du)) (fun nx kk=>?_) ?_
 ·walk_at "go"
  refine ⟨p,_,far,room,term,ws,_,rfl,LY.1,?_⟩
  walk_at "go"
  refine bD (fun c1=>?_) (fun c1=>?_)
  ·walk_at "go"
   refine ⟨s,pl,n,g,rfl,sI,?_⟩
   walk_at "go"
   refine bD (fun c2=>?_) (fun c2=>?_)
   ·walk_at "go"
    exact oB fun d H' sm hd=>qt c1 c2 d H' (s1.trans sm) hd
   ·walk_at "go"
    exact kk _ _ ⟨rfl,rfl,fun z=>c2 z.2⟩
  ·walk_at "go"
   exact kk _ _ ⟨rfl,rfl,fun z=>c1 z.1⟩
 rintro σ HA ⟨rfl,rfl,hno⟩
 walk_at "go"
 exact q1 hno _ (.ref y) _ (hy.same L'.same) ⟨l',L'.tup (by walk_at "mem"),(by
   cases e0:H l' with
   | none=>rfl
   | some o=>exact absurd (s1 _ _ e0) (by rw [(L'.own (l',_) List.mem_cons_self).elim (fun z=>absurd z id) id];exact fun z=>nomatch z)),L'.eo .head,fun z hz=>by simp at hz⟩ (s1.trans L'.same)
end
end Law
namespace L4
open PySem PySem.Spec PyProof.Rows L2 L3
structure Dd (P:Program) (w:World) (K:PySem.W.Frag) (mg:Str→Option Value) (base:Heap) (CX:CXT) (x:Str) (C:Addr) (k:Nat) (ps:List Str) (sp:Sp):Prop where
 ex:∃ f fd,Mk K C f∧fF P w K mg base CX k f fd ps sp∧Binds K fd ps [.none]∧mg x=some (.ref C)
structure oW (K:PySem.W.Frag) (mg:Str→Option Value) (x qual:Str) (C:Addr) (st:Stmt) (ps:List Str):Prop where
 ex:∃ (f:Addr) (oc dV kV doc pm cdv ct:Value) (od an:Option Addr) (osl:Array (Option Value)),K.lookup f=some ⟨oc,od,.func (PySem.W.fnOf "__init__" qual (bC st) (bf st) (ak st) dV kV doc pm an cdv ct),osl⟩∧PySem.W.codeIn K cdv qual=true ∧
  Binds K (PySem.W.fnOf "__init__" qual (bC st) (bf st) (ak st) dV kV doc pm an cdv ct) ps []∧Binds K (PySem.W.fnOf "__init__" qual (bC st) (bf st) (ak st) dV kV doc pm an cdv ct) ps [.none]∧mg x=some (.ref C)∧Mk K C f
 cl:Cls K C
section
variable {P:Program} {w:World} {K:PySem.W.Frag} {mg:Str→Option Value} {base:Heap} {CX:CXT} {x qual:Str} {C:Addr} {st:Stmt} {N ps:List Str} {k:Nat} {sp:Sp}
theorem oW.ok (D:oW K mg x qual C st ps) (S:ay N ps (ak st)) (len:∀ vs H Q E,sp vs H Q E→vs.length=ps.length)
  (hbody:∀ (f:Addr) (cdv:Value) (A:Around) (outer:List Env) (s:Shared) (H:Hp) (vs:List V) (Q:VK) (E:XK),bX k (A.deeper (envOfC qual (ak st) s.heap.objs.size f cdv))→sp vs H Q E →
   ∃ t,PSs (aZ CX P w K mg base N qual (ak st) f cdv A outer s H E).nox (bf st) t∧t { nx:=fun _ H'=>Q .non H',rt:=Q } (start N vs) H):Mak P w K mg base CX x C (k+1) ps sp∧Dd P w K mg base CX x C (k+1) ps sp:=by
 obtain ⟨f,oc,dV,kV,doc,pm,cdv,ct,od,an,osl,lk,hcd,b,b1,m,mk⟩:=D.ex
 have F:fF P w K mg base CX (k+1) f _ ps sp:=sR lk hcd S len fun A outer s H vs Q E hr hsp=>by
  obtain ⟨t,h,q⟩:=hbody f cdv A outer s H vs Q E hr hsp
  exact ⟨t,h.nox,q⟩
 exact ⟨⟨f,_,mk,F,b,m⟩,⟨f,_,mk,F,b1,m⟩⟩
theorem CO {h:Heap} (X:K.In h) (G:h.Ns mainGlobals mg) {f T:Addr} {oc tc:Value} {od td an:Option Addr} {osl tsl:Array (Option Value)} {its:Array Value} {tn:Nat} {kV doc pm cdv ct:Value} (aC:PySem.W.nsIn K mainGlobals x=some (some (.ref C)))
  (a:PySem.W.findIn K (.ref C) "__init__" = some (some (.ref f))) (i:PySem.W.isFn K (.ref f)=true)
  (l:K.lookup f=some ⟨oc,od,.func (PySem.W.fnOf "__init__" qual (bC st) (bf st) (ak st) (.ref T) kV doc pm an cdv ct),osl⟩) (tl:K.lookup T=some ⟨tc,td,.seq its tn,tsl⟩) (c:PySem.W.codeIn K cdv qual=true)
  (pg:PySem.W.plainGet K C Str.empty=true) (hd:PySem.W.hasDictIn K C=true) (po:PySem.W.plainOver K C=true) (sa:PySem.W.findIn K (.ref C) "__setattr__" = some (some (.builtin "object.__setattr__"))) (mk:PySem.W.makesIn K C=true) (kc:PySem.W.keepIn K (.ref C)=true)
  (b:∀ (T:Addr) (kV doc pm:Value) (an:Option Addr) (cdv ct:Value) (us:List Value),us.length=ps.length→∃ k:Option (Array Value)→Sem (List (Str×Value)),bindArgs (PySem.W.fnOf "__init__" qual (bC st) (bf st) (ak st) (.ref T) kV doc pm an cdv ct) ⟨us,[]⟩=(seqItems? (.ref T) >>= k)∧k (some its)=pure (ps.zip us))
  (b1:∀ (T:Addr) (kV doc pm:Value) (an:Option Addr) (cdv ct:Value) (us:List Value),us.length+1=ps.length→∃ k:Option (Array Value)→Sem (List (Str×Value)),bindArgs (PySem.W.fnOf "__init__" qual (bC st) (bf st) (ak st) (.ref T) kV doc pm an cdv ct) ⟨us,[]⟩=(seqItems? (.ref T) >>= k)∧k (some its)=pure (ps.zip (us++[.none]))):oW K mg x qual C st ps:=
 ⟨⟨f,oc,.ref T,kV,doc,pm,cdv,ct,od,an,osl,l,c,(fun s us hK hl=>by
  rw [List.append_nil] at hl ⊢
  obtain ⟨k,h1,h2⟩:=b T kV doc pm an cdv ct us hl
  exact BindsTo.of_defaults (T:=T) rfl (hK _ _ tl) rfl h1 h2),(fun s us hK hl=>by
  rw [List.length_append,List.length_singleton] at hl
  obtain ⟨k,h1,h2⟩:=b1 T kV doc pm an cdv ct us hl
  exact BindsTo.of_defaults (T:=T) rfl (hK _ _ tl) rfl h1 h2),PySem.W.mg_of X G aC,⟨mk,a,i,kc⟩⟩,⟨pg,hd,po,sa⟩⟩
end
section
variable {X:Cx} {CX:CXT} {k:Nat} {ps:List Str} {sp:Sp} {E:XK} {x:Str} {C:Addr} {p pos:Pos} {e:Expr} {es:List Expr} {t:TA}
theorem Hv (M:Dd X.prog X.w X.K X.mg X.base CX x C k ps sp) (hr:bX (k+1) X.A) (hx:Passes CX X E) (ha:PA X (e::es) t) (hg:Gl X x:=by rfl)
  (hdb:(x == ("__debug__" : Str))=false:=by decide) (he:starEach (e::es) X.env=(false,eval e X.env)::starEach es X.env:=by rfl) (hpl:(backTo pos (starEach es X.env)).any (·.1)=false:=by rfl) :
  PE X (.Call (.Name x p) (e::es) [] pos) (qY C sp [.non] E t):=by
 obtain ⟨f,fd,m,F,b,g⟩:=M.ex
 exact xj m F hr hg g b (.cons rfl .nil) hx ha hdb he hpl
theorem Ff {H:Hp} {σ : St} {Q:VK} (h:t σ H fun vs H1=>Made C sp E (vs++[.non]) H1 Q):qY C sp [.non] E t σ H Q:=h
end
end L4
namespace Law
open PySem PySem.Spec PyProof.Rows L2 L3 L4
structure Hd where
 p:Addr
 l:Addr
 ps:Addr
 sp:Addr
 nm:Str
 c:Int
 s:Int
 far:Int
 room:Int
 term:Int
 ws:List Str
def hdF (nm:Str) (ps l:Addr) (sv:V):List (Str×V):=[("name",.str nm),("settings",.ref ps),("lines",.ref l),("spot",sv)]
structure HdC (K:PySem.W.Frag) (CH:Addr):Prop where
 cl:Cls K CH
 n1:aY K CH "name"
 n2:aY K CH "settings"
 n3:aY K CH "lines"
 n4:aY K CH "spot"
theorem EW (nm:Str) (ps l:Addr) (sv sv':V):br "spot" sv' (hdF nm ps l sv)=hdF nm ps l sv':=by
 have a1:¬ (("name" : Str) = "spot"):=by decide +kernel
 have a2:¬ (("settings" : Str) = "spot"):=by decide +kernel
 have a3:¬ (("lines" : Str) = "spot"):=by decide +kernel
 unfold hdF
 simp only [br,if_neg a1,if_neg a2,if_neg a3,if_pos]
theorem Ik (nm:Str) (ps l:Addr) (sv:V):br "spot" sv (br "lines" (.ref l) (br "settings" (.ref ps) (br "name" (.str nm) [])))=hdF nm ps l sv:=by
 have a1:¬ (("name" : Str) = "spot"):=by decide +kernel
 have a2:¬ (("settings" : Str) = "spot"):=by decide +kernel
 have a3:¬ (("lines" : Str) = "spot"):=by decide +kernel
 have b1:¬ (("name" : Str) = "lines"):=by decide +kernel
 have b2:¬ (("settings" : Str) = "lines"):=by decide +kernel
 have c1:¬ (("name" : Str) = "settings"):=by decide +kernel
 simp only [br,if_neg a1,if_neg a2,if_neg a3,if_neg b1,if_neg b2,if_neg c1]
 rfl
theorem sO (nm:Str) (ps l:Addr) (sv:V):(hdF nm ps l sv).lookup ("lines" : Str)=some (.ref l):=by unfold hdF;walk_at "lk"
theorem sN (nm:Str) (ps l:Addr) (sv:V):(hdF nm ps l sv).lookup ("spot" : Str)=some sv:=by unfold hdF;walk_at "lk"
theorem mF (nm:Str) (ps l:Addr) (sv:V):(hdF nm ps l sv).lookup ("settings" : Str)=some (.ref ps):=by unfold hdF;walk_at "lk"
theorem xu (f:Str) (v:V):∀ fs:List (Str×V),(br f v fs).lookup f=some v
 | []=>lk_hit
 | (g,x)::r=>by
  show (if g=f then (g,v)::r else (g,x)::br f v r).lookup f=some v
  by_cases c:g=f
  ·rw [if_pos c,c];exact lk_hit
  ·rw [if_neg c,lk_miss (by rw [beq_eq_false_iff_ne];exact fun z=>c z.symm)]
   exact xu f v r
def bP (C CS CH:Addr) (H:Hp) (d:Hd) (ls:Lns) (pl:Option (Int×Int)):Prop:=(∃ dx sv,H d.p=some (.ins CH dx (hdF d.nm d.ps d.l sv))∧dY H sv pl)∧H d.l=some (.lst (lnV ls))∧dw H ls∧lg C CS H d.ps d.sp d.c d.s d.far d.room d.term d.ws
theorem bP.same {C CS CH:Addr} {H H':Hp} {d:Hd} {ls:Lns} {pl:Option (Int×Int)} (h:bP C CS CH H d ls pl) (s:aF H H'):bP C CS CH H' d ls pl:=by
 obtain ⟨⟨dx,sv,h1,h2⟩,h3,h4,h5⟩:=h
 exact ⟨⟨dx,sv,s _ _ h1,h2.same s⟩,s _ _ h3,h4.same s,h5.same s⟩
structure cX (ls:Lns) (pl:Option (Int×Int)):Prop where
 good:cN ls
 k0:∀ m k,pl=some (m,k)→0≤k
 len:ls.length≤98
def Fr2 (p l:Addr) (H H':Hp):Prop:=∀ q o,H q=some o→q≠p→q≠l→H' q=some o
theorem Fr2.trans {p l:Addr} {H H1 H2:Hp} (a:Fr2 p l H H1) (b:Fr2 p l H1 H2):Fr2 p l H H2:=fun q o h n1 n2=>b q o (a q o h n1 n2) n1 n2
theorem Fr2.of {p l:Addr} {H H1:Hp} (a:aF H H1):Fr2 p l H H1:=fun q o h _ _=>a q o h
def nt (ls:Lns):Nt:=f7 Nt.nil ls
def gmx (ls:Lns):Int:=(gts ls).foldl max 0
section
variable {P:Program} {w:World} {K:PySem.W.Frag} {mg:Str→Option Value} {base:Heap} {CX:CXT} {C CS CH CD CU CA CN CW CT:Addr}
theorem uI:ay ["lines"] ["lines"] (ak (top 28)):=by walk_at "s"
def rA (K:PySem.W.Frag):Sp:=fun vs H Q _=>∃ (a:Addr) (ls:Lns),vs=[.ref a]∧SqL K H a (lnV ls)∧dw H ls∧cN ls∧∀ v H',Dn H' v (nt ls).ar→aF H H'→Q v H'
theorem uZ (D:Dat K mg "area_of" "area_of" (top 28) ["lines"]) (NE:bh CX) (b7:Cal P w K mg base CX "read_note" 4 ["lines"] (iS K)):Cal P w K mg base CX "area_of" 5 ["lines"] (rA K):=by
 have S:=uI
 walk_at "d"
 ·obtain ⟨a,ls,rfl,_⟩:=h
  rfl
 obtain ⟨a,ls,rfl,hS,hL,hg,q⟩:=h
 refine ⟨_,(aj (au (aq ao (aI b7 (hr.mono (by first | decide | omega)) NE.pass (aa (pv 0) af)) ah (fun _ _=>rfl)))),?_⟩
 try dsimp only [aZ]
 walk_at "go"
 refine ⟨a,ls,rfl,hS,hL,hg,fun t H' ⟨av,hn,hv⟩ sm=>?_⟩
 walk_at "go"
 exact q av H' hv sm
theorem Bf:ay ["self", "name", "settings", "lines"] ["self", "name", "settings", "lines"] (ak (inClass (top 67) 0)):=by walk_at "s"
def AL (H:Hp) (v:V) (ls:Lns):Prop:=(v = .non∧ls=[])∨∃ a,v = .ref a∧H a=some (.lst (lnV ls))
def iT (CH:Addr):Sp:=fun vs H Q _=>∃ (p dx ps:Addr) (nm:Str) (v:V) (ls:Lns),vs=[.ref p,.str nm,.ref ps,v]∧AL H v ls∧dw H ls∧cN ls∧ls.length≤98∧H p=some (.ins CH dx []) ∧
 ∀ (l:Addr) (sv:V) (H':Hp),H l=none→H' p=some (.ins CH dx (hdF nm ps l sv))→dY H' sv (some (max (nt ls).hd (nt ls).hr,0))→H' l=some (.lst (lnV ls))→(∀ q o,H q=some o→q≠p→H' q=some o)→Q .non H'
theorem BY (D:oW K mg "Hand" "Hand.__init__" CH (inClass (top 67) 0) ["self", "name", "settings", "lines"]) (SC:HdC K CH) (BT:Bt mg) (NE:bh CX) (b7:Cal P w K mg base CX "read_note" 4 ["lines"] (iS K)) (dD:Cal P w K mg base CX "start_by" 1 ["note"] (jS K)):Mak P w K mg base CX "Hand" CH 5 ["self", "name", "settings", "lines"] (iT CH)∧Dd P w K mg base CX "Hand" CH 5 ["self", "name", "settings", "lines"] (iT CH):=by
 have S:=Bf
 walk_at "d"
 ·obtain ⟨p,dx,ps,nm,v,ls,rfl,_⟩:=h
  rfl
 obtain ⟨p,dx,ps,nm,v,ls,rfl,hal,hL,hg,hlen,hp,q⟩:=h
 refine ⟨_,(ai (cP (pv 0) (pv 1) rfl)
   (ai (cP (pv 0) (pv 2) rfl)
   (ai (cP (pv 0) (bZ (cy (dh (pv 3))) (b9 af) (cO mT rfl BT.list_ L3.lP (aa (pv 3) af))) rfl)
   (aj (cP (pv 0) (aI dD (hr.mono (by first | decide | omega)) NE.pass (aa (aI b7 (hr.mono (by first | decide | omega)) NE.pass (aa (bw (pv 0) rfl) af)) af)) rfl))))),?_⟩
 try dsimp only [aZ]
 have k1:=cL ("name" : Str) (.str nm) []
 have k2:=cL ("settings" : Str) (.ref ps) (br "name" (.str nm) [])
 rw [List.length_nil] at k1
 walk_at "go"
 refine ⟨p,CH,dx,[],rfl,hp,SC.cl,SC.n1,by decide,?_⟩
 walk_at "go"
 refine ⟨p,CH,dx,_,rfl,aB,SC.cl,SC.n2,by omega,?_⟩
 rw [eE]
 have key:=fun l sv=>Ik nm ps l sv
 generalize br ("settings" : Str) (.ref ps) (br "name" (.str nm) [])=fs at *
 have k3:∀ l,(br ("lines" : Str) (.ref l) fs).length≤fs.length+1:=fun l=>cL _ _ _
 have hpc:(upd H p (.ins CH dx fs)) p=some (.ins CH dx fs):=aB
 have oc:∀ q o,H q=some o→q≠p→(upd H p (.ins CH dx fs)) q=some o:=fun q o e z=>by rw [az z];exact e
 have hLc:dw (upd H p (.ins CH dx fs)) ls:=hL.ts (uv hp fun xs z=>nomatch z)
 have ic:∀ q,(upd H p (.ins CH dx fs)) q=none→H q=none:=fun q e=>by
  by_cases z:q=p
  ·rw [z,aB] at e;cases e
  ·rwa [az z] at e
 have hac:AL (upd H p (.ins CH dx fs)) v ls:=by
  rcases hal with z | ⟨a,rfl,ha⟩
  ·exact .inl z
  ·exact .inr ⟨a,rfl,oc _ _ ha fun z=>by rw [z,hp] at ha;cases ha⟩
 generalize upd H p (.ins CH dx fs)=Hc at *
 try dsimp only [bO]
 refine bJ (fun σ H'=>∃ l,Hc l=none∧H' p=some (.ins CH dx (br "lines" (.ref l) fs))∧H' l=some (.lst (lnV ls))∧dw H' ls∧(∀ q o,Hc q=some o→q≠p→H' q=some o)∧σ=[some (.ref p),some (.str nm),some (.ref ps),some v]) (fun nx kk=>?_) ?_
 ·have L:=Led.start Hc (fun _=>False)
  walk_at "go"
  rcases hac with ⟨rfl,rfl⟩ | ⟨a,rfl,ha⟩
  ·refine mK rfl ?_
   walk_at "go"
   have np:p≠l':=fun z=>by rw [z,n'] at hpc;cases hpc
   refine ⟨p,CH,dx,fs,rfl,L'.same _ _ hpc,SC.cl,SC.n3,by omega,?_⟩
   exact kk _ _ ⟨l',n',aB,by rw [az (Ne.symm np)];exact L'.eo .head,fun _ h=>by simp at h,fun q o e z=>by rw [az z];exact L'.same _ _ e,rfl⟩
  ·refine bD (fun z=>nomatch z) fun _=>?_
   walk_at "go"
   refine mH L (.inl (SqL.of ha)) fun b HB nb L' sB=>?_
   have np:p≠b:=fun z=>by rw [z,nb] at hpc;cases hpc
   walk_at "go"
   refine ⟨p,CH,dx,fs,rfl,sB _ _ hpc,SC.cl,SC.n3,by omega,?_⟩
   exact kk _ _ ⟨b,nb,aB,by rw [az (Ne.symm np)];exact L'.eo .head,(hLc.same sB).ts (uv (sB _ _ hpc) fun xs z=>nomatch z),fun q o e z=>by rw [az z];exact sB _ _ e,rfl⟩
 rintro σ H1 ⟨l,nl,hp1,hl1,hL1,o1,rfl⟩
 walk_at "go"
 refine ⟨p,CH,dx,_,_,rfl,hp1,SC.cl,SC.n3,xu _ _ _,?_⟩
 walk_at "go"
 refine ⟨l,ls,rfl,SqL.of hl1,hL1,hg,fun t H2 hn s2=>?_⟩
 walk_at "go"
 refine ⟨t,_,rfl,hn,fun pt H3 hpt s3=>?_⟩
 walk_at "go"
 have hp3:=s3 _ _ (s2 _ _ hp1)
 have k4:=k3 l
 refine ⟨p,CH,dx,_,rfl,hp3,SC.cl,SC.n4,by omega,?_⟩
 rw [key]
 have npl:l≠p:=fun z=>by rw [z,hpc] at nl;cases nl
 have LK:pt≠p:=fun z=>by rw [z,hp3] at hpt;cases hpt
 exact q l (.ref pt) _ (ic _ nl) aB (.inr ⟨pt,_,_,rfl,rfl,by rw [az LK];exact hpt⟩) (by rw [az npl];exact s3 _ _ (s2 _ _ hl1)) fun x o e z=>by rw [az z];exact s3 _ _ (s2 _ _ (o1 x o (oc x o e z) z))
theorem uo {C CS:Addr} {H:Hp} {Q:VK} {E:XK} {ps sp:Addr} {nm:Str} {v:V} {ls:Lns} {c s far room term:Int} {ws:List Str} (ha:AL H v ls) (hL:dw H ls) (hg:cN ls) (hl:ls.length≤98) (hs:lg C CS H ps sp c s far room term ws)
  (q:∀ x l H',H x=none→H l=none→bP C CS CH H' ⟨x,l,ps,sp,nm,c,s,far,room,term,ws⟩ ls (some (max (nt ls).hd (nt ls).hr,0))→aF H H'→Q (.ref x) H'):Made CH (iT CH) E [.str nm,.ref ps,v] H Q:=by
 intro x dx nx nd ne
 have sm0:aF H (upd (upd H dx (.own x)) x (.ins CH dx [])):=fun b o e=>by rw [az (aJ e nx),az (aJ e nd)];exact e
 have ha':AL (upd (upd H dx (.own x)) x (.ins CH dx [])) v ls:=by
  rcases ha with z | ⟨a,rfl,h⟩
  ·exact .inl z
  ·exact .inr ⟨a,rfl,sm0 _ _ h⟩
 refine ⟨x,dx,ps,nm,v,ls,rfl,ha',hL.same sm0,hg,hl,aB,fun l sv H' nl h1 h2 h3 h4=>⟨rfl,?_⟩⟩
 have sm:aF H H':=fun b o e=>h4 b o (sm0 _ _ e) (aJ e nx)
 have nl':H l=none:=by
  cases e:H l with
  | none=>rfl
  | some o=>rw [sm0 _ _ e] at nl;cases nl
 exact q x l H' nx nl' ⟨⟨dx,sv,h1,h2⟩,h3,hL.same sm,hs.same sm⟩ sm
end
theorem dS {m:Str} {nm:Str} {ps l:Addr} {sv:V} (a1:(m == ("name" : Str))=false) (a2:(m == ("settings" : Str))=false) (a3:(m == ("lines" : Str))=false) (a4:(m == ("spot" : Str))=false):(hdF nm ps l sv).lookup m=none:=by
 unfold hdF
 rw [lk_miss a1,lk_miss a2,lk_miss a3,lk_miss a4];rfl
section
variable {P:Program} {w:World} {K:PySem.W.Frag} {mg:Str→Option Value} {base:Heap} {CX:CXT} {C CS CH CD CU CA CN CW CT:Addr}
theorem Be:ay ["self"] ["self"] (ak (inClass (top 67) 1)):=by walk_at "s"
def uz (C CS CH:Addr):Sp:=fun vs H Q _=>∃ (d:Hd) (ls:Lns) (pl:Option (Int×Int)),vs=[.ref d.p]∧bP C CS CH H d ls pl∧Q (.bl pl.isSome) H
theorem BX (D:cC K CH "is_up" "Hand.is_up" (inClass (top 67) 1) ["self"]) (SC:HdC K CH):bB P w K mg base CX CH "is_up" 1 ["self"] (uz C CS CH):=by
 have S:=Be
 refine eT D S (fun vs H Q E h=>?_) (fun f cdv A outer s H vs Q E hr h=>?_)
 ·obtain ⟨d,ls,pl,rfl,_⟩:=h
  rfl
 obtain ⟨d,ls,pl,rfl,⟨⟨dx,sv,hp,hpl⟩,hl,hL,hss⟩,q⟩:=h
 refine ⟨_,(aj (au (BC (gj (bw (pv 0) rfl))))),?_⟩
 try dsimp only [aZ]
 walk_at "go"
 refine ⟨d.p,CH,dx,_,_,rfl,hp,SC.cl,SC.n4,sN _ _ _ _,?_⟩
 walk_at "go"
 rcases hpl with ⟨rfl,rfl⟩ | ⟨t,m,k,rfl,rfl,_⟩
 ·exact q
 ·exact q
theorem A8:ay ["self"] ["self"] (ak (inClass (top 67) 2)):=by walk_at "s"
def pe (C CS CH:Addr):Sp:=fun vs H Q _=>∃ (d:Hd) (ls:Lns) (pl:Option (Int×Int)),vs=[.ref d.p]∧bP C CS CH H d ls pl∧∀ v,dY H v pl→Q v H
theorem BQ (D:cC K CH "place" "Hand.place" (inClass (top 67) 2) ["self"]) (SC:HdC K CH):bB P w K mg base CX CH "place" 1 ["self"] (pe C CS CH):=by
 have S:=A8
 refine eT D S (fun vs H Q E h=>?_) (fun f cdv A outer s H vs Q E hr h=>?_)
 ·obtain ⟨d,ls,pl,rfl,_⟩:=h
  rfl
 obtain ⟨d,ls,pl,rfl,⟨⟨dx,sv,hp,hpl⟩,hl,hL,hss⟩,q⟩:=h
 refine ⟨_,(aj (au (bw (pv 0) rfl))),?_⟩
 try dsimp only [aZ]
 walk_at "go"
 refine ⟨d.p,CH,dx,_,_,rfl,hp,SC.cl,SC.n4,sN _ _ _ _,?_⟩
 exact q sv hpl
theorem DT:ay ["self"] ["self"] (ak (inClass (top 67) 3)):=by walk_at "s"
def ux (C CS CH:Addr):Sp:=fun vs H Q _=>∃ (d:Hd) (ls:Lns) (pl:Option (Int×Int)),vs=[.ref d.p]∧bP C CS CH H d ls pl∧∀ b H',H b=none→H' b=some (.lst (lnV ls))→aF H H'→Q (.ref b) H'
theorem Eu (D:cC K CH "note" "Hand.note" (inClass (top 67) 3) ["self"]) (SC:HdC K CH) (BT:Bt mg):bB P w K mg base CX CH "note" 1 ["self"] (ux C CS CH):=by
 have S:=DT
 refine eT D S (fun vs H Q E h=>?_) (fun f cdv A outer s H vs Q E hr h=>?_)
 ·obtain ⟨d,ls,pl,rfl,_⟩:=h
  rfl
 obtain ⟨d,ls,pl,rfl,⟨⟨dx,sv,hp,hpl⟩,hl,hL,hss⟩,q⟩:=h
 refine ⟨_,(aj (au (cO mT rfl BT.list_ L3.lP (aa (bw (pv 0) rfl) af)))),?_⟩
 try dsimp only [aZ]
 walk_at "go"
 refine ⟨d.p,CH,dx,_,_,rfl,hp,SC.cl,SC.n3,sO _ _ _ _,?_⟩
 walk_at "go"
 refine mH (Led.start H (fun _=>False)) (.inl (SqL.of hl)) fun b HB nb L sB=>?_
 walk_at "go"
 exact q b HB nb (L.eo .head) sB
theorem D4:ay ["self"] ["self"] (ak (inClass (top 67) 4)):=by walk_at "s"
def AV (C CS CH:Addr):Sp:=fun vs H Q _=>∃ (d:Hd) (ls:Lns) (pl:Option (Int×Int)),vs=[.ref d.p]∧bP C CS CH H d ls pl∧cN ls∧∀ v H',Dn H' v (nt ls).ar→aF H H'→Q v H'
theorem EF (D:cC K CH "area" "Hand.area" (inClass (top 67) 4) ["self"]) (SC:HdC K CH) (NE:bh CX) (ku:Cal P w K mg base CX "area_of" 5 ["lines"] (rA K)):bB P w K mg base CX CH "area" 6 ["self"] (AV C CS CH):=by
 have S:=D4
 refine eT D S (fun vs H Q E h=>?_) (fun f cdv A outer s H vs Q E hr h=>?_)
 ·obtain ⟨d,ls,pl,rfl,_⟩:=h
  rfl
 obtain ⟨d,ls,pl,rfl,⟨⟨dx,sv,hp,hpl⟩,hl,hL,hss⟩,hg,q⟩:=h
 refine ⟨_,(aj (au (aI ku (hr.mono (by first | decide | omega)) NE.pass (aa (bw (pv 0) rfl) af)))),?_⟩
 try dsimp only [aZ]
 walk_at "go"
 refine ⟨d.p,CH,dx,_,_,rfl,hp,SC.cl,SC.n3,sO _ _ _ _,?_⟩
 walk_at "go"
 exact ⟨d.l,ls,rfl,SqL.of hl,hL,hg,q⟩
theorem A4:ay ["self"] ["self"] (ak (inClass (top 67) 5)):=by walk_at "s"
def fG (K:PySem.W.Frag) (C CS CH:Addr):Sp:=fun vs H Q _=>∃ (d:Hd) (ls:Lns) (pl:Option (Int×Int)),vs=[.ref d.p]∧bP C CS CH H d ls pl∧cX ls pl∧∀ t H',cJ K H' t pl (nt ls) (gmx ls)→aF H H'→Q (.ref t) H'
theorem BL (D:cC K CH "stand" "Hand.stand" (inClass (top 67) 5) ["self"]) (SC:HdC K CH) (NE:bh CX) (b7:Cal P w K mg base CX "read_note" 4 ["lines"] (iS K)) (bE:Cal P w K mg base CX "greatest_taken" 3 ["lines"] (eZ K)):bB P w K mg base CX CH "stand" 5 ["self"] (fG K C CS CH):=by
 have S:=A4
 refine eT D S (fun vs H Q E h=>?_) (fun f cdv A outer s H vs Q E hr h=>?_)
 ·obtain ⟨d,ls,pl,rfl,_⟩:=h
  rfl
 obtain ⟨d,ls,pl,rfl,⟨⟨dx,sv,hp,hpl⟩,hl,hL,hss⟩,⟨hg,k0,hlen⟩,q⟩:=h
 refine ⟨_,(aj (au (aS (aa (bw (pv 0) rfl) (aa (aI b7 (hr.mono (by first | decide | omega)) NE.pass (aa (bw (pv 0) rfl) af)) (aa (aI bE (hr.mono (by first | decide | omega)) NE.pass (aa (bw (pv 0) rfl) af)) af)))))),?_⟩
 try dsimp only [aZ]
 walk_at "go"
 refine ⟨d.p,CH,dx,_,_,rfl,hp,SC.cl,SC.n4,sN _ _ _ _,?_⟩
 walk_at "go"
 refine ⟨d.p,CH,dx,_,_,rfl,hp,SC.cl,SC.n3,sO _ _ _ _,?_⟩
 walk_at "go"
 refine ⟨d.l,ls,rfl,SqL.of hl,hL,hg,fun t H1 hn s1=>?_⟩
 walk_at "go"
 refine ⟨d.p,CH,dx,_,_,rfl,s1 _ _ hp,SC.cl,SC.n3,sO _ _ _ _,?_⟩
 walk_at "go"
 refine ⟨d.l,ls,rfl,SqL.of (s1 _ _ hl),hL.same s1,hg,by omega,fun H2 s2=>?_⟩
 have L:=Led.start H2 (fun _=>False)
 walk_at "go"
 exact q _ _ ⟨sv,t,L'.tup (by walk_at "mem"),hpl.same ((s1.trans s2).trans L'.same),hn.same (s2.trans L'.same)⟩ ((s1.trans s2).trans L'.same)
theorem Ke:ay ["self", "step"] ["self", "step"] (ak (inClass (top 67) 6)):=by walk_at "s"
def pC (C CS CH:Addr):Sp:=fun vs H Q _=>∃ (d:Hd) (ls ls2:Lns) (pl pl2:Option (Int×Int)) (H0:Hp) (t:Addr) (v pv:V),vs=[.ref d.p,.ref t]∧bP C CS CH H d ls pl∧ls.length≤98∧ls2.length≤1∧H0 d.l≠none∧fD H0 H t v ls2 pv∧dY H pv pl2∧∀ H',bP C CS CH H' d (ls++ls2) pl2→Fr2 d.p d.l H H'→Q v H'
theorem Ka {C CS CH:Addr} {H H':Hp} {d:Hd} {ls:Lns} {pl:Option (Int×Int)} (h:bP C CS CH H d ls pl) (f:Fr2 d.p d.l H H'):lg C CS H' d.ps d.sp d.c d.s d.far d.room d.term d.ws:=by
 obtain ⟨⟨dx,sv,hp,hpl⟩,hl,hL,⟨dy,tr,ms,h1,h2,pm⟩,⟨dz,h3⟩,hn⟩:=h
 have ne:∀ {u:Addr} {fs:List (Str×V)} (sv:V),stF (.ref d.sp) d.far d.room d.term u≠hdF d.nm d.ps d.l sv:=fun sv z=>by
  have:=congrArg (fun x=>(x.headD ("",.non)).1) z
  exact absurd this (by show ¬ (("shape" : Str) = "name");decide +kernel)
 have ne2:shF d.c d.s≠hdF d.nm d.ps d.l sv:=fun z=>by
  have:=congrArg (fun x=>(x.headD ("",.non)).1) z
  exact absurd this (by show ¬ (("counts" : Str) = "name");decide +kernel)
 refine ⟨⟨dy,tr,ms,f _ _ h1 ?_ ?_,f _ _ h2 ?_ ?_,pm⟩,⟨dz,f _ _ h3 ?_ ?_⟩,hn⟩
 ·intro z
  rw [z,hp] at h1
  cases h1
 ·intro z
  rw [z,hl] at h1
  cases h1
 ·intro z
  rw [z,hp] at h2
  cases h2
 ·intro z
  rw [z,hl] at h2
  cases h2
 ·intro z
  rw [z,hp] at h3
  cases h3
 ·intro z
  rw [z,hl] at h3
  cases h3
theorem GF {C CS CH:Addr} {H H':Hp} {d:Hd} {ls:Lns} {pl:Option (Int×Int)} (h:bP C CS CH H d ls pl) (f:Fr2 d.p d.l H H'):cS H H':=fun q xs e=>f q _ e (fun z=>by
  obtain ⟨⟨dx,sv,hp,hpl⟩,hl,_⟩:=h
  rw [z,hp] at e;cases e) (fun z=>by
  obtain ⟨⟨dx,sv,hp,hpl⟩,hl,_⟩:=h
  rw [z,hl] at e;cases e)
theorem dY.ts {H H':Hp} {v:V} {pl:Option (Int×Int)} (h:dY H v pl) (s:cS H H'):dY H' v pl:=by
 rcases h with h | ⟨t,m,k,e,ev,ht⟩
 ·exact .inl h
 ·exact .inr ⟨t,m,k,e,ev,s _ _ ht⟩
theorem Ks (D:cC K CH "go" "Hand.go" (inClass (top 67) 6) ["self", "step"]) (SC:HdC K CH):bB P w K mg base CX CH "go" 1 ["self", "step"] (pC C CS CH):=by
 have S:=Ke
 refine eT D S (fun vs H Q E h=>?_) (fun f cdv A outer s H vs Q E hr h=>?_)
 ·obtain ⟨d,ls,ls2,pl,pl2,H0,t,v,sw,rfl,_⟩:=h
  rfl
 obtain ⟨d,ls,ls2,pl,pl2,H0,t,v,sw,rfl,hd,hlen,hl2,h0,⟨lx,ht,nlx,hlx,hL2⟩,hpv,q⟩:=h
 obtain ⟨⟨dx,sv,hp,hpl⟩,hl,hL,hss⟩:=id hd
 have nxl:lx≠d.l:=fun z=>h0 (z▸nlx)
 have npl:d.p≠d.l:=fun z=>by rw [z,hl] at hp;cases hp
 refine ⟨_,(ai (bT (xo PySem.F.plainAttrs_list PySem.F.slot_list_extend PySem.F.type_list_extend zq (bw (pv 0) rfl) (aa (aq ao (pv 1) ah (fun _ _=>rfl)) af)))
   (ai (cP (pv 0) (aq ao (pv 1) ah (fun _ _=>rfl)) rfl)
   (aj (au (aq ao (pv 1) ah (fun _ _=>rfl)))))),?_⟩
 try dsimp only [aZ]
 have L:=(Led.start H (fun _=>False)).more (aH t [_,_,_]) ht
 walk_at "go"
 refine ⟨d.p,CH,dx,_,_,rfl,hp,SC.cl,SC.n3,sO _ _ _ _,?_⟩
 walk_at "go"
 refine Gx (SqL.of hl) ?_
 walk_at "go"
 refine ⟨d.l,lx,lnV ls,lnV ls2,rfl,rfl,hl,hlx,Nat.le_of_lt (small1000 (by rw [gq,gq];omega)),?_⟩
 have e2:lnV ls++lnV ls2=lnV (ls++ls2):=by unfold lnV;rw [List.map_append]
 rw [e2]
 have c1:Chg d.l H (upd H d.l (.lst (lnV (ls++ls2)))):=Chg.upd hl fun xs z=>nomatch z
 have hp1:(upd H d.l (.lst (lnV (ls++ls2)))) d.p=some (.ins CH dx (hdF d.nm d.ps d.l sv)):=by rw [az npl];exact hp
 have hl1:(upd H d.l (.lst (lnV (ls++ls2)))) d.l=some (.lst (lnV (ls++ls2))):=aB
 have ht1:=c1.ts _ _ ht
 have f1:Fr2 d.p d.l H (upd H d.l (.lst (lnV (ls++ls2)))):=fun q o e _ z=>by rw [az z];exact e
 generalize upd H d.l (.lst (lnV (ls++ls2)))=H1 at *
 have M:=(Led.start H1 (fun _=>False)).more (aH t [_,_,_]) ht1
 clear L
 walk_at "go"
 refine ⟨d.p,CH,dx,_,rfl,hp1,SC.cl,SC.n4,(by show 4 < 1000;decide),?_⟩
 rw [EW]
 have f2:Fr2 d.p d.l H (upd H1 d.p (.ins CH dx (hdF d.nm d.ps d.l sw))):=fun q o e z1 z2=>by rw [az z1];exact f1 q o e z1 z2
 have t2:=GF hd f2
 have M2:=(Led.start (upd H1 d.p (.ins CH dx (hdF d.nm d.ps d.l sw))) (fun _=>False)).more (aH t [_,_,_]) (t2 _ _ ht)
 clear M
 walk_at "go"
 refine q _ ⟨⟨dx,sw,aB,hpv.ts t2⟩,by rw [az (Ne.symm npl)];exact hl1,fun x hx=>?_,Ka hd f2⟩ f2
 rcases List.mem_append.mp hx with hx | hx
 ·exact (hL x hx).ts t2
 ·exact (hL2 x hx).ts t2
end
theorem vo {nm:Str} {ps l:Addr} {sv:V}:(hdF nm ps l sv).lookup ("go" : Str)=none:=dS (by decide +kernel) (by decide +kernel) (by decide +kernel) (by decide +kernel)
theorem gx {nm:Str} {ps l:Addr} {sv:V}:(hdF nm ps l sv).lookup ("stand" : Str)=none:=dS (by decide +kernel) (by decide +kernel) (by decide +kernel) (by decide +kernel)
section
variable {P:Program} {w:World} {K:PySem.W.Frag} {mg:Str→Option Value} {base:Heap} {CX:CXT} {C CS CH CD CU CA CN CW CT:Addr}
theorem gQ {d:Hd} {ls ls2:Lns} {pl pl2:Option (Int×Int)} {H1 H:Hp} {t:Addr} {v pv:V} {Q:VK} {E:XK} (hd:bP C CS CH H d ls pl) (hd1:bP C CS CH H1 d ls pl) (hlen:ls.length≤98) (h2:ls2.length≤1) (ht:fD H1 H t v ls2 pv) (hp:dY H pv pl2)
  (q:∀ H',bP C CS CH H' d (ls++ls2) pl2→Fr2 d.p d.l H H'→Q v H'):pC C CS CH [.ref d.p,.ref t] H Q E:=
 ⟨d,ls,ls2,pl,pl2,H1,t,v,pv,rfl,hd,hlen,h2,(by rw [hd1.2.1];exact fun z=>nomatch z),ht,hp,q⟩
theorem D3:ay ["self"] ["self"] (ak (inClass (top 67) 7)):=by walk_at "s"
def pF (C CS CH CD:Addr):Sp:=fun vs H Q E=>∃ (d:Hd) (ls:Lns) (pl:Option (Int×Int)),vs=[.ref d.p]∧bP C CS CH H d ls pl∧cX ls pl∧(pl=none→∀ H',aF H H'→E (.ref CD) none H')∧(pl.isSome=true→∀ H',bP C CS CH H' d ls none→Fr2 d.p d.l H H'→Q .non H')
theorem EE (D:cC K CH "fall" "Hand.fall" (inClass (top 67) 7) ["self"]) (SC:HdC K CH) (NE:bh (CX1 P w)) (bW:bB P w K mg base (CX1 P w) CH "go" 1 ["self", "step"] (pC C CS CH)) (bx:bB P w K mg base (CX1 P w) CH "stand" 5 ["self"] (fG K C CS CH)) (c7:Cal P w K mg base (CX1 P w) "falling" 2 ["stand"] (fV K CD)):bB P w K mg base (CX1 P w) CH "fall" 6 ["self"] (pF C CS CH CD):=by
 have S:=D3
 refine di D S (fun vs H Q E h=>?_) (fun f cdv A outer s H vs Q E hr h=>?_)
 ·obtain ⟨d,ls,pl,rfl,_⟩:=h
  rfl
 obtain ⟨d,ls,pl,rfl,hd,hok,qe,q⟩:=h
 obtain ⟨⟨dx,sv,hp,hpl⟩,hl,hL,hss⟩:=id hd
 refine ⟨_,(aj (au (iy bW (hr.mono (by first | decide | omega)) NE.pass (pv 0) (aa (bR c7 (hr.mono (by first | decide | omega)) aP (aa (fP bx (hr.mono (by first | decide | omega)) NE.pass (pv 0)) af)) af)))),?_⟩
 try dsimp only [aZ]
 walk_at "go"
 refine bu hp vo ?_
 walk_at "go"
 refine bu hp gx ?_
 walk_at "go"
 refine ⟨d,ls,pl,rfl,hd,hok,fun t H1 hst s1=>?_⟩
 walk_at "go"
 refine ⟨t,pl,_,_,rfl,hst,fun e=>qe e H1 s1,fun hs t2 H2 ht2 s2=>?_⟩
 walk_at "go"
 exact gQ (hd.same (s1.trans s2)) (hd.same s1) hok.len (by simp) ht2 (.inl ⟨rfl,rfl⟩) fun H3 hd3 f3=>q hs H3 (by rw [List.append_nil] at hd3;exact hd3) ((Fr2.of (s1.trans s2)).trans f3)
theorem DR:ay ["self"] ["self"] (ak (inClass (top 67) 8)):=by walk_at "s"
def o7 (C CS CH CU:Addr):Sp:=fun vs H Q E=>∃ (d:Hd) (ls:Lns) (pl:Option (Int×Int)),vs=[.ref d.p]∧bP C CS CH H d ls pl∧cX ls pl∧(pl.isSome=true→∀ H',aF H H'→E (.ref CU) none H')∧(pl=none→∀ H',bP C CS CH H' d ls (some (max (nt ls).hd (nt ls).hr,0))→Fr2 d.p d.l H H'→Q .non H')
theorem Es (D:cC K CH "rise" "Hand.rise" (inClass (top 67) 8) ["self"]) (SC:HdC K CH) (NE:bh (CX1 P w)) (bW:bB P w K mg base (CX1 P w) CH "go" 1 ["self", "step"] (pC C CS CH)) (bx:bB P w K mg base (CX1 P w) CH "stand" 5 ["self"] (fG K C CS CH)) (dO:Cal P w K mg base (CX1 P w) "rising" 2 ["stand"] (gU K CU)):bB P w K mg base (CX1 P w) CH "rise" 6 ["self"] (o7 C CS CH CU):=by
 have S:=DR
 refine di D S (fun vs H Q E h=>?_) (fun f cdv A outer s H vs Q E hr h=>?_)
 ·obtain ⟨d,ls,pl,rfl,_⟩:=h
  rfl
 obtain ⟨d,ls,pl,rfl,hd,hok,qe,q⟩:=h
 obtain ⟨⟨dx,sv,hp,hpl⟩,hl,hL,hss⟩:=id hd
 refine ⟨_,(aj (au (iy bW (hr.mono (by first | decide | omega)) NE.pass (pv 0) (aa (bR dO (hr.mono (by first | decide | omega)) aP (aa (fP bx (hr.mono (by first | decide | omega)) NE.pass (pv 0)) af)) af)))),?_⟩
 try dsimp only [aZ]
 walk_at "go"
 refine bu hp vo ?_
 walk_at "go"
 refine bu hp gx ?_
 walk_at "go"
 refine ⟨d,ls,pl,rfl,hd,hok,fun t H1 hst s1=>?_⟩
 walk_at "go"
 refine ⟨t,pl,_,_,rfl,hst,fun e=>qe e H1 s1,fun hs t2 pt H2 ht2 hpt s2=>?_⟩
 walk_at "go"
 exact gQ (hd.same (s1.trans s2)) (hd.same s1) hok.len (by simp) ht2 (.inr ⟨pt,_,_,rfl,rfl,hpt⟩) fun H3 hd3 f3=>q hs H3 (by rw [List.append_nil] at hd3;exact hd3) ((Fr2.of (s1.trans s2)).trans f3)
theorem DM:ay ["self", "grant", "area"] ["self", "grant", "area"] (ak (inClass (top 67) 9)):=by walk_at "s"
def o6 (C CS CH CD:Addr):Sp:=fun vs H Q E=>∃ (d:Hd) (ls:Lns) (pl:Option (Int×Int)) (gr sl f e:Int) (a:Addr),vs=[.ref d.p,.int gr,.ref a]∧bP C CS CH H d ls pl∧cX ls pl∧H a=some (.tup [.int sl,.int f,.int e])∧(pl=none→∀ H',aF H H'→E (.ref CD) none H') ∧
 (∀ m k,pl=some (m,k)→("once" : Str)∈d.ws→gr≤gmx ls→∀ H',bP C CS CH H' d ls pl→Fr2 d.p d.l H H'→Q (.bl false) H') ∧
 (∀ m k,pl=some (m,k)→¬ (("once" : Str)∈d.ws∧gr≤gmx ls)→∀ l H',bP C CS CH H' d (ls++[(l,.took gr sl f e)]) (some (g9 m k (bnd m k)))→Fr2 d.p d.l H H'→Q (.bl true) H')
theorem Em (D:cC K CH "take" "Hand.take" (inClass (top 67) 9) ["self", "grant", "area"]) (SC:HdC K CH) (NE:bh (CX1 P w)) (bW:bB P w K mg base (CX1 P w) CH "go" 1 ["self", "step"] (pC C CS CH)) (bx:bB P w K mg base (CX1 P w) CH "stand" 5 ["self"] (fG K C CS CH)) (dN:Cal P w K mg base (CX1 P w) "taking" 2 ["settings", "stand", "grant", "area"] (gT K CD CS)):bB P w K mg base (CX1 P w) CH "take" 6 ["self", "grant", "area"] (o6 C CS CH CD):=by
 have S:=DM
 refine di D S (fun vs H Q E h=>?_) (fun f cdv A outer s H vs Q E hr h=>?_)
 ·obtain ⟨d,ls,pl,gr,sl,f,e,a,rfl,_⟩:=h
  rfl
 obtain ⟨d,ls,pl,gr,sl,f',e,a,rfl,hd,hok,ha,qe,q0,q1⟩:=h
 obtain ⟨⟨dx,sv,hp,hpl⟩,hl,hL,hss⟩:=id hd
 refine ⟨_,(aj (au (iy bW (hr.mono (by first | decide | omega)) NE.pass (pv 0) (aa (bR dN (hr.mono (by first | decide | omega)) aP (aa (bw (pv 0) rfl) (aa (fP bx (hr.mono (by first | decide | omega)) NE.pass (pv 0)) (aa (pv 1) (aa (pv 2) af))))) af)))),?_⟩
 try dsimp only [aZ]
 walk_at "go"
 refine bu hp vo ?_
 walk_at "go"
 refine ⟨d.p,CH,dx,_,_,rfl,hp,SC.cl,SC.n2,mF _ _ _ _,?_⟩
 walk_at "go"
 refine bu hp gx ?_
 walk_at "go"
 refine ⟨d,ls,pl,rfl,hd,hok,fun t H1 hst s1=>?_⟩
 walk_at "go"
 refine ⟨d.ps,t,a,_,d.far,d.room,d.term,d.ws,pl,_,_,gr,sl,f',e,rfl,(hss.same s1).1,hst,hok.k0,s1 _ _ ha,fun e=>qe e H1 s1,fun m k epl c1 c2 t2 v H2 hv ht2 s2=>?_,fun m k epl c1 t2 l v H2 hv ht2 s2=>?_⟩
 ·walk_at "go"
  exact gQ (hd.same (s1.trans s2)) (hd.same s1) hok.len (by simp) ht2 hv fun H3 hd3 f3=>q0 m k epl c1 c2 H3 (by rw [List.append_nil] at hd3;exact hd3) ((Fr2.of (s1.trans s2)).trans f3)
 ·walk_at "go"
  exact gQ (hd.same (s1.trans s2)) (hd.same s1) hok.len (by simp) ht2 hv fun H3 hd3 f3=>q1 m k epl c1 l H3 hd3 ((Fr2.of (s1.trans s2)).trans f3)
theorem A0:ay ["self", "reading"] ["self", "reading"] (ak (inClass (top 67) 10)):=by walk_at "s"
def lA (C CS CH CD CA CN CW:Addr):Sp:=fun vs H Q E=>∃ (d:Hd) (ls:Lns) (pl:Option (Int×Int)) (r:Int),vs=[.ref d.p,.int r]∧bP C CS CH H d ls pl∧cX ls pl∧(∀ H',aF H H'→MkE CD CA CN CW H' pl (nt ls) d.far r E) ∧
 (∀ m k sl f e,pl=some (m,k)→(nt ls).ar=some (sl,f,e)→¬ e≤due m f r→¬ r+d.far < due m f r→∀ ls2 H',((nt ls).hd < due m f r+d.room∧(∃ l,ls2=[(l,.held (due m f r+d.room))])∨¬ (nt ls).hd < due m f r+d.room∧ls2=[])→bP C CS CH H' d (ls++ls2) pl→Fr2 d.p d.l H H'→Q (.int (max (nt ls).hd (due m f r+d.room))) H')
theorem BG (D:cC K CH "write" "Hand.write" (inClass (top 67) 10) ["self", "reading"]) (SC:HdC K CH) (NE:bh (CX1 P w)) (bW:bB P w K mg base (CX1 P w) CH "go" 1 ["self", "step"] (pC C CS CH)) (bx:bB P w K mg base (CX1 P w) CH "stand" 5 ["self"] (fG K C CS CH)) (cY:Cal P w K mg base (CX1 P w) "writing" 5 ["settings", "stand", "reading"] (fS K C CD CA CN CW CS)):bB P w K mg base (CX1 P w) CH "write" 6 ["self", "reading"] (lA C CS CH CD CA CN CW):=by
 have S:=A0
 refine di D S (fun vs H Q E h=>?_) (fun f cdv A outer s H vs Q E hr h=>?_)
 ·obtain ⟨d,ls,pl,r,rfl,_⟩:=h
  rfl
 obtain ⟨d,ls,pl,r,rfl,hd,hok,qe,q1⟩:=h
 obtain ⟨⟨dx,sv,hp,hpl⟩,hl,hL,hss⟩:=id hd
 refine ⟨_,(aj (au (iy bW (hr.mono (by first | decide | omega)) NE.pass (pv 0) (aa (bR cY (hr.mono (by first | decide | omega)) aP (aa (bw (pv 0) rfl) (aa (fP bx (hr.mono (by first | decide | omega)) NE.pass (pv 0)) (aa (pv 1) af)))) af)))),?_⟩
 try dsimp only [aZ]
 walk_at "go"
 refine bu hp vo ?_
 walk_at "go"
 refine ⟨d.p,CH,dx,_,_,rfl,hp,SC.cl,SC.n2,mF _ _ _ _,?_⟩
 walk_at "go"
 refine bu hp gx ?_
 walk_at "go"
 refine ⟨d,ls,pl,rfl,hd,hok,fun t H1 hst s1=>?_⟩
 walk_at "go"
 refine ⟨d.ps,t,d.sp,d.c,d.s,d.far,d.room,d.term,d.ws,pl,_,_,r,rfl,hss.same s1,hst,qe H1 s1,fun m k sl f' e epl ear b1 b2 t2 v ls2 H2 hls hv ht2 s2=>?_⟩
 have hl2:ls2.length≤1:=by
  rcases hls with ⟨_,l,rfl⟩ | ⟨_,rfl⟩ <;> simp
 walk_at "go"
 exact gQ (hd.same (s1.trans s2)) (hd.same s1) hok.len hl2 ht2 hv fun H3 hd3 f3=>q1 m k sl f' e epl ear b1 b2 ls2 H3 hls hd3 ((Fr2.of (s1.trans s2)).trans f3)
theorem DV:ay ["self", "reading"] ["self", "reading"] (ak (inClass (top 67) 11)):=by walk_at "s"
def lC (C CS CH CD CA CN CW CT:Addr):Sp:=fun vs H Q E=>∃ (d:Hd) (ls:Lns) (pl:Option (Int×Int)) (r:Int),vs=[.ref d.p,.int r]∧bP C CS CH H d ls pl∧cX ls pl∧(∀ H',aF H H'→MkE CD CA CN CW H' pl (nt ls) d.far r E) ∧
 (∀ m k sl f e,pl=some (m,k)→(nt ls).ar=some (sl,f,e)→¬ e≤due m f r→¬ r+d.far < due m f r→("ahead" : Str)∈d.ws→(nt ls).hd≤due m f r→∀ dd H',aF H H'→H' dd=some (.xd [("moment",.int (due m f r))])→E (.ref CT) (some dd) H') ∧
 (∀ m k sl f e,pl=some (m,k)→(nt ls).ar=some (sl,f,e)→¬ e≤due m f r→¬ r+d.far < due m f r→¬ (("ahead" : Str)∈d.ws∧(nt ls).hd≤due m f r)→∀ H',bP C CS CH H' d ls (some (nxP d.c m f r k))→Fr2 d.p d.l H H'→Q (.int (mk d.c d.s (due m f r) sl (cnt m f r k))) H')
theorem Ey (D:cC K CH "make" "Hand.make" (inClass (top 67) 11) ["self", "reading"]) (SC:HdC K CH) (NE:bh (CX1 P w)) (bW:bB P w K mg base (CX1 P w) CH "go" 1 ["self", "step"] (pC C CS CH)) (bx:bB P w K mg base (CX1 P w) CH "stand" 5 ["self"] (fG K C CS CH)) (dQ:Cal P w K mg base (CX1 P w) "making" 5 ["settings", "stand", "reading"] (gW K C CD CA CN CW CT CS)):bB P w K mg base (CX1 P w) CH "make" 6 ["self", "reading"] (lC C CS CH CD CA CN CW CT):=by
 have S:=DV
 refine di D S (fun vs H Q E h=>?_) (fun f cdv A outer s H vs Q E hr h=>?_)
 ·obtain ⟨d,ls,pl,r,rfl,_⟩:=h
  rfl
 obtain ⟨d,ls,pl,r,rfl,hd,hok,qe,qt,q1⟩:=h
 obtain ⟨⟨dx,sv,hp,hpl⟩,hl,hL,hss⟩:=id hd
 refine ⟨_,(aj (au (iy bW (hr.mono (by first | decide | omega)) NE.pass (pv 0) (aa (bR dQ (hr.mono (by first | decide | omega)) aP (aa (bw (pv 0) rfl) (aa (fP bx (hr.mono (by first | decide | omega)) NE.pass (pv 0)) (aa (pv 1) af)))) af)))),?_⟩
 try dsimp only [aZ]
 walk_at "go"
 refine bu hp vo ?_
 walk_at "go"
 refine ⟨d.p,CH,dx,_,_,rfl,hp,SC.cl,SC.n2,mF _ _ _ _,?_⟩
 walk_at "go"
 refine bu hp gx ?_
 walk_at "go"
 refine ⟨d,ls,pl,rfl,hd,hok,fun t H1 hst s1=>?_⟩
 walk_at "go"
 refine ⟨d.ps,t,d.sp,d.c,d.s,d.far,d.room,d.term,d.ws,pl,_,_,r,rfl,hss.same s1,hst,qe H1 s1,fun m k sl f' e epl ear b1 b2 c1 c2 dd H2 s2 hdd=>qt m k sl f' e epl ear b1 b2 c1 c2 dd H2 (s1.trans s2) hdd,fun m k sl f' e epl ear b1 b2 c1 t2 v H2 hv ht2 s2=>?_⟩
 walk_at "go"
 exact gQ (hd.same (s1.trans s2)) (hd.same s1) hok.len (by simp) ht2 hv fun H3 hd3 f3=>q1 m k sl f' e epl ear b1 b2 c1 H3 (by rw [List.append_nil] at hd3;exact hd3) ((Fr2.of (s1.trans s2)).trans f3)
theorem DY:ay ["self", "bound"] ["self", "bound"] (ak (inClass (top 67) 12)):=by walk_at "s"
def pA (C CS CH CD:Addr):Sp:=fun vs H Q E=>∃ (d:Hd) (ls:Lns) (pl:Option (Int×Int)) (b:Int),vs=[.ref d.p,.int b]∧bP C CS CH H d ls pl∧cX ls pl∧(pl=none→∀ H',aF H H'→E (.ref CD) none H') ∧
 (∀ m k,pl=some (m,k)→∀ ls2 H',((("spoken" : Str)∈d.ws∧(nt ls).hr < b∧∃ l,ls2=[(l,.heard b)])∨(¬ (("spoken" : Str)∈d.ws∧(nt ls).hr < b)∧ls2=[]))→bP C CS CH H' d (ls++ls2) (some (g9 m k b))→Fr2 d.p d.l H H'→Q .non H')
theorem EB (D:cC K CH "hear" "Hand.hear" (inClass (top 67) 12) ["self", "bound"]) (SC:HdC K CH) (NE:bh (CX1 P w)) (bW:bB P w K mg base (CX1 P w) CH "go" 1 ["self", "step"] (pC C CS CH)) (bx:bB P w K mg base (CX1 P w) CH "stand" 5 ["self"] (fG K C CS CH)) (c6:Cal P w K mg base (CX1 P w) "hearing" 2 ["settings", "stand", "bound"] (fT K CD CS)):bB P w K mg base (CX1 P w) CH "hear" 6 ["self", "bound"] (pA C CS CH CD):=by
 have S:=DY
 refine di D S (fun vs H Q E h=>?_) (fun f cdv A outer s H vs Q E hr h=>?_)
 ·obtain ⟨d,ls,pl,b,rfl,_⟩:=h
  rfl
 obtain ⟨d,ls,pl,b,rfl,hd,hok,qe,q1⟩:=h
 obtain ⟨⟨dx,sv,hp,hpl⟩,hl,hL,hss⟩:=id hd
 refine ⟨_,(aj (au (iy bW (hr.mono (by first | decide | omega)) NE.pass (pv 0) (aa (bR c6 (hr.mono (by first | decide | omega)) aP (aa (bw (pv 0) rfl) (aa (fP bx (hr.mono (by first | decide | omega)) NE.pass (pv 0)) (aa (pv 1) af)))) af)))),?_⟩
 try dsimp only [aZ]
 walk_at "go"
 refine bu hp vo ?_
 walk_at "go"
 refine ⟨d.p,CH,dx,_,_,rfl,hp,SC.cl,SC.n2,mF _ _ _ _,?_⟩
 walk_at "go"
 refine bu hp gx ?_
 walk_at "go"
 refine ⟨d,ls,pl,rfl,hd,hok,fun t H1 hst s1=>?_⟩
 walk_at "go"
 refine ⟨d.ps,t,_,d.far,d.room,d.term,d.ws,pl,_,_,b,rfl,(hss.same s1).1,hst,hok.k0,fun e=>qe e H1 s1,fun m k epl t2 v ls2 H2 hls hv ht2 s2=>?_⟩
 have hl2:ls2.length≤1:=by
  rcases hls with ⟨_,_,l,rfl⟩ | ⟨_,rfl⟩ <;> simp
 walk_at "go"
 exact gQ (hd.same (s1.trans s2)) (hd.same s1) hok.len hl2 ht2 hv fun H3 hd3 f3=>q1 m k epl ls2 H3 hls hd3 ((Fr2.of (s1.trans s2)).trans f3)
theorem DL:ay ["self"] ["self"] (ak (inClass (top 67) 13)):=by walk_at "s"
def AF (C CS CH CD:Addr):Sp:=fun vs H Q E=>∃ (d:Hd) (ls:Lns) (pl:Option (Int×Int)),vs=[.ref d.p]∧bP C CS CH H d ls pl∧(pl=none→E (.ref CD) none H)∧(∀ m k,pl=some (m,k)→Q (.int (bnd m k)) H)
theorem El (D:cC K CH "tell" "Hand.tell" (inClass (top 67) 13) ["self"]) (SC:HdC K CH) (NE:bh (CX1 P w)) (bA:Cal P w K mg base (CX1 P w) "need_up" 1 ["place"] (eY CD)) (fC:Cal P w K mg base (CX1 P w) "bound_of" 1 ["place"] lE):bB P w K mg base (CX1 P w) CH "tell" 2 ["self"] (AF C CS CH CD):=by
 have S:=DL
 refine di D S (fun vs H Q E h=>?_) (fun f cdv A outer s H vs Q E hr h=>?_)
 ·obtain ⟨d,ls,pl,rfl,_⟩:=h
  rfl
 obtain ⟨d,ls,pl,rfl,⟨⟨dx,sv,hp,hpl⟩,hl,hL,hss⟩,qe,q⟩:=h
 refine ⟨_,(ai (bT (bR bA (hr.mono (by first | decide | omega)) aP (aa (bw (pv 0) rfl) af)))
   (aj (au (aI fC (hr.mono (by first | decide | omega)) NE.pass (aa (bw (pv 0) rfl) af))))),?_⟩
 try dsimp only [aZ]
 walk_at "go"
 refine ⟨d.p,CH,dx,_,_,rfl,hp,SC.cl,SC.n4,sN _ _ _ _,?_⟩
 walk_at "go"
 refine ⟨sv,pl,rfl,hpl,qe,fun hsome=>?_⟩
 walk_at "go"
 refine ⟨d.p,CH,dx,_,_,rfl,hp,SC.cl,SC.n4,sN _ _ _ _,?_⟩
 rcases hpl with ⟨rfl,rfl⟩ | ⟨t,m,k,rfl,rfl,ht⟩
 ·cases hsome
 walk_at "go"
 exact ⟨t,m,k,rfl,ht,q m k rfl⟩
theorem Bg:ay ["self"] ["self"] (ak (inClass (top 67) 14)):=by walk_at "s"
def lD (C CS CH CD CA CN:Addr):Sp:=fun vs H Q E=>∃ (d:Hd) (ls:Lns) (pl:Option (Int×Int)),vs=[.ref d.p]∧bP C CS CH H d ls pl∧cX ls pl∧(pl=none→∀ H',aF H H'→E (.ref CD) none H')∧(pl.isSome=true→(nt ls).ar=none→∀ H',aF H H'→E (.ref CA) none H') ∧
 (∀ m k sl f e,pl=some (m,k)→(nt ls).ar=some (sl,f,e)→cR f m k (nt ls).hd≥e→∀ H',aF H H'→E (.ref CN) none H') ∧
 (∀ m k sl f e,pl=some (m,k)→(nt ls).ar=some (sl,f,e)→¬ cR f m k (nt ls).hd≥e→∀ tv ls2 H',H' tv=some (.tup [.int (nt ls).g,.int (cR f m k (nt ls).hd)])→((("ends" : Str)∈d.ws∧∃ l,ls2=[(l,.ends (nt ls).g (cR f m k (nt ls).hd))])∨(¬ ("ends" : Str)∈d.ws∧ls2=[]))→bP C CS CH H' d (ls++ls2) pl→Fr2 d.p d.l H H'→Q (.ref tv) H')
theorem BZ (D:cC K CH "give_back" "Hand.give_back" (inClass (top 67) 14) ["self"]) (SC:HdC K CH) (NE:bh (CX1 P w)) (bW:bB P w K mg base (CX1 P w) CH "go" 1 ["self", "step"] (pC C CS CH)) (bx:bB P w K mg base (CX1 P w) CH "stand" 5 ["self"] (fG K C CS CH)) (dR:Cal P w K mg base (CX1 P w) "giving" 2 ["settings", "stand"] (gY K CD CA CN CS)):bB P w K mg base (CX1 P w) CH "give_back" 6 ["self"] (lD C CS CH CD CA CN):=by
 have S:=Bg
 refine di D S (fun vs H Q E h=>?_) (fun f cdv A outer s H vs Q E hr h=>?_)
 ·obtain ⟨d,ls,pl,rfl,_⟩:=h
  rfl
 obtain ⟨d,ls,pl,rfl,hd,hok,qd,qa,qn,q1⟩:=h
 obtain ⟨⟨dx,sv,hp,hpl⟩,hl,hL,hss⟩:=id hd
 refine ⟨_,(aj (au (iy bW (hr.mono (by first | decide | omega)) NE.pass (pv 0) (aa (bR dR (hr.mono (by first | decide | omega)) aP (aa (bw (pv 0) rfl) (aa (fP bx (hr.mono (by first | decide | omega)) NE.pass (pv 0)) af))) af)))),?_⟩
 try dsimp only [aZ]
 walk_at "go"
 refine bu hp vo ?_
 walk_at "go"
 refine ⟨d.p,CH,dx,_,_,rfl,hp,SC.cl,SC.n2,mF _ _ _ _,?_⟩
 walk_at "go"
 refine bu hp gx ?_
 walk_at "go"
 refine ⟨d,ls,pl,rfl,hd,hok,fun t H1 hst s1=>?_⟩
 walk_at "go"
 refine ⟨d.ps,t,_,d.far,d.room,d.term,d.ws,pl,_,_,rfl,(hss.same s1).1,hst,fun e=>qd e H1 s1,fun e1 e2=>qa e1 e2 H1 s1,fun m k sl f' e epl ear c=>qn m k sl f' e epl ear c H1 s1,fun m k sl f' e epl ear c t2 tv v ls2 H2 htv hls hv ht2 s2=>?_⟩
 have hl2:ls2.length≤1:=by
  rcases hls with ⟨_,l,rfl⟩ | ⟨_,rfl⟩ <;> simp
 walk_at "go"
 exact gQ (hd.same (s1.trans s2)) (hd.same s1) hok.len hl2 ht2 hv fun H3 hd3 f3=>q1 m k sl f' e epl ear c tv ls2 H3 (GF (hd.same (s1.trans s2)) f3 _ _ htv) hls hd3 ((Fr2.of (s1.trans s2)).trans f3)
end
open PySem.W in
structure ExW (K:Frag) (mg:Str→Option Value) (x qual:Str) (C:Addr) (st:Stmt) (ps:List Str):Prop where
 dat:tT K mg x qual C st ps
 get:z3 K C
 hd:hasDictIn K C=true
 ov:∃ cd,clsIn K C=some cd∧cT cd.mro∧cd.hasDict=true
 sa:findIn K (.ref C) "__setattr__" = some (some (.builtin "object.__setattr__"))
open PySem.W in
theorem ExW.put {K:Frag} {mg:Str→Option Value} {x qual f:Str} {C:Addr} {st:Stmt} {ps:List Str} (W:ExW K mg x qual C st ps) (t:takerIn K C f=some none):vX K C f:=⟨W.get,W.sa,W.ov,t⟩
open PySem.W in
theorem Cy {K:Frag} {h:Heap} {mg:Str→Option Value} {x qual:Str} {CW CR f:Addr} {st:Stmt} {ps:List Str} {cbW:ClassData} {dd od an:Option Addr} {k0 k1 k2 k3 k5:Option Value} {oc kV doc pm cdv ct:Value} {osl:Array (Option Value)} (X:K.In h) (G:h.Ns mainGlobals mg)
  (a1:nsIn K mainGlobals x=some (some (.ref CW))) (g6:specialIn K (.builtin "object.__class__") "__get__" = some (some (.builtin "getset_descriptor.__get__"))) (g7:takesIn K (.builtin "object.__class__")=some true)
  (v1:findIn K (.ref CW) "__getattribute__" = some (some (.builtin "BaseException.__getattribute__"))) (v2:findIn K (.ref CW) "__getattr__" = some none) (v3:mroIn K CW (.type "BaseException")=some true) (v4:mroIn K CW (.type "object")=some true)
  (v5:findIn K (.ref CW) "__class__" = some (some (.builtin "object.__class__"))) (v8:clsIn K CW=some cbW) (r0:excIn K CR eu "ValueError.__new__" = true)
  (u1:findIn K (.ref CW) "__setattr__" = some (some (.builtin "object.__setattr__"))) (u3:K.lookup CW=some ⟨.type "type",dd,.cls cbW,#[k0,k1,k2,k3,some (.builtin "ValueError.__new__"),k5]⟩) (u4:cbW.mro = .ref CW::.ref CR::eu) (u5:cbW.hasDel=false) (u6:cbW.hasDict=true)
  (i1:findIn K (.ref CW) "__init__" = some (some (.ref f))) (i2:typeIn K (.ref f)=some (.type "function")) (i3:K.lookup f=some ⟨oc,od,.func (fnOf "__init__" qual (bC st) (bf st) (ak st) .none kV doc pm an cdv ct),osl⟩) (i4:codeIn K cdv qual=true) (i5:keepIn K (.ref f)=true) (i6:keepIn K (.ref CW)=true)
  (b:∀ (kV doc pm:Value) (an:Option Addr) (cdv ct:Value) (us:List Value),us.length=ps.length→bindArgs (fnOf "__init__" qual (bC st) (bf st) (ak st) .none kV doc pm an cdv ct) ⟨us,[]⟩=pure (ps.zip us)) (x1:hasDictIn K CW=true):ExW K mg x qual CW st ps:=
 ⟨Fy X G a1 (CC u3 u4 u5 r0) i1 i2 i3 i4 i5 i6 b,⟨v1,v2,v3,v4,v5,g6,g7,DB v8⟩,x1,⟨cbW,v8,u4▸cT.two,u6⟩,u1⟩
def ers (CD CU CA CN CW CT:Addr):List Addr:=[CD,CU,CA,CN,CW,CT]
structure JO (K:PySem.W.Frag) (mg:Str→Option Value) (CD CU CA CN CW CT CR:Addr):Prop where
 d:nP K mg "Down" CD
 u:nP K mg "Up" CU
 a:nP K mg "NoArea" CA
 n:nP K mg "NoRoom" CN
 w:tT K mg "Wait" "Wait.__init__" CW (inClass (top 9) 0) ["self", "reading"]
 pw:vX K CW "reading"
 t:tT K mg "NoNote" "NoNote.__init__" CT (inClass (top 10) 0) ["self", "moment"]
 pt:vX K CT "moment"
 b:x8 K mg "RiseError" CR
 hR:mg "RiseError" = some (.ref CR)
 hD:mg "Down" = some (.ref CD)
 hU:mg "Up" = some (.ref CU)
 hA:mg "NoArea" = some (.ref CA)
 hN:mg "NoRoom" = some (.ref CN)
 hW:mg "Wait" = some (.ref CW)
 hT:mg "NoNote" = some (.ref CT)
 et:∀ c∈ers CD CU CA CN CW CT,PySem.W.exmOne K (.ref c) (.ref CR)=some true
open PySem.W in
theorem EU {K:Frag} {h:Heap} {mg:Str→Option Value} {CD CU CA CN CW CT CR:Addr} {R:Addr→Addr→Addr→Addr→Addr→Addr→Addr→Prop} (X:K.In h) (G:h.Ns mainGlobals mg)
  (WW:ExW K mg "Wait" "Wait.__init__" CW (inClass (top 9) 0) ["self", "reading"]) (WT:ExW K mg "NoNote" "NoNote.__init__" CT (inClass (top 10) 0) ["self", "moment"]) (tw:takerIn K CW "reading" = some none) (tt:takerIn K CT "moment" = some none)
  (aD:nsIn K mainGlobals "Down" = some (some (.ref CD))) (aU:nsIn K mainGlobals "Up" = some (some (.ref CU))) (aA:nsIn K mainGlobals "NoArea" = some (some (.ref CA))) (aN:nsIn K mainGlobals "NoRoom" = some (some (.ref CN))) (aW:nsIn K mainGlobals "Wait" = some (some (.ref CW))) (aT:nsIn K mainGlobals "NoNote" = some (some (.ref CT))) (aR:nsIn K mainGlobals "RiseError" = some (some (.ref CR)))
  (d1:excIn K CD eu "ValueError.__new__" = true) (d2:findIn K (.ref CD) "__init__" = some (some (.builtin "ValueError.__init__"))) (d3:keepIn K (.ref CD)=true)
  (u1:excIn K CU eu "ValueError.__new__" = true) (u2:findIn K (.ref CU) "__init__" = some (some (.builtin "ValueError.__init__"))) (u3:keepIn K (.ref CU)=true)
  (c1:excIn K CA eu "ValueError.__new__" = true) (c2:findIn K (.ref CA) "__init__" = some (some (.builtin "ValueError.__init__"))) (c3:keepIn K (.ref CA)=true)
  (n1:excIn K CN eu "ValueError.__new__" = true) (n2:findIn K (.ref CN) "__init__" = some (some (.builtin "ValueError.__init__"))) (n3:keepIn K (.ref CN)=true)
  (r1:specialIn K (.ref CR) "__getattribute__" = some (some (.builtin "type.__getattribute__"))) (r2:readsIn K CR (.type "type")=true) (r3:findCls K (.ref CR) (.type "type") "__init__" = some (.val (.builtin "ValueError.__init__")))
  (m1:exmOne K (.ref CD) (.ref CR)=some true) (m2:exmOne K (.ref CU) (.ref CR)=some true) (m3:exmOne K (.ref CA) (.ref CR)=some true) (m4:exmOne K (.ref CN) (.ref CR)=some true) (m5:exmOne K (.ref CW) (.ref CR)=some true) (m6:exmOne K (.ref CT) (.ref CR)=some true)
  (hR:R CD CU CA CN CW CT CR):∃ CD CU CA CN CW CT CR:Addr,JO K mg CD CU CA CN CW CT CR∧R CD CU CA CN CW CT CR:=
 ⟨CD,CU,CA,CN,CW,CT,CR,⟨⟨iW d1,d2,d3,mg_of X G aD⟩,⟨iW u1,u2,u3,mg_of X G aU⟩,⟨iW c1,c2,c3,mg_of X G aA⟩,⟨iW n1,n2,n3,mg_of X G aN⟩,WW.dat,WW.put tw,WT.dat,WT.put tt,⟨mg_of X G aR,r1,r2,r3⟩,mg_of X G aR,mg_of X G aD,mg_of X G aU,mg_of X G aA,mg_of X G aN,mg_of X G aW,mg_of X G aT,fun c hc=>by
  simp only [ers,List.mem_cons,List.not_mem_nil,or_false] at hc
  rcases hc with rfl | rfl | rfl | rfl | rfl | rfl
  ·exact m1
  ·exact m2
  ·exact m3
  ·exact m4
  ·exact m5
  ·exact m6⟩,hR⟩
structure Lx (K:PySem.W.Frag) (mg:Str→Option Value) (CH:Addr):Prop where
 is_up:cC K CH "is_up" "Hand.is_up" (inClass (top 67) 1) ["self"]
 place:cC K CH "place" "Hand.place" (inClass (top 67) 2) ["self"]
 note:cC K CH "note" "Hand.note" (inClass (top 67) 3) ["self"]
 area:cC K CH "area" "Hand.area" (inClass (top 67) 4) ["self"]
 stand:cC K CH "stand" "Hand.stand" (inClass (top 67) 5) ["self"]
 go:cC K CH "go" "Hand.go" (inClass (top 67) 6) ["self", "step"]
 fall:cC K CH "fall" "Hand.fall" (inClass (top 67) 7) ["self"]
 rise:cC K CH "rise" "Hand.rise" (inClass (top 67) 8) ["self"]
 take:cC K CH "take" "Hand.take" (inClass (top 67) 9) ["self", "grant", "area"]
 write:cC K CH "write" "Hand.write" (inClass (top 67) 10) ["self", "reading"]
 make:cC K CH "make" "Hand.make" (inClass (top 67) 11) ["self", "reading"]
 hear:cC K CH "hear" "Hand.hear" (inClass (top 67) 12) ["self", "bound"]
 tell:cC K CH "tell" "Hand.tell" (inClass (top 67) 13) ["self"]
 give_back:cC K CH "give_back" "Hand.give_back" (inClass (top 67) 14) ["self"]
structure Ly (K:PySem.W.Frag) (mg:Str→Option Value):Prop where
 d_is_whole:Dat K mg "is_whole" "is_whole" (top 13) ["thing"]
 d_is_whole_from:Dat K mg "is_whole_from" "is_whole_from" (top 14) ["thing", "least"]
 d_is_side:Dat K mg "is_side" "is_side" (top 15) ["thing"]
 d_mark_of:Dat K mg "mark_of" "mark_of" (top 17) ["shape", "moment", "slot", "count"]
 d_parts_of:Dat K mg "parts_of" "parts_of" (top 18) ["shape", "mark"]
 d_is_span:Dat K mg "is_span" "is_span" (top 40) ["thing", "least"]
 d_is_rule:Dat K mg "is_rule" "is_rule" (top 41) ["thing"]
 d_are_rules:Dat K mg "are_rules" "are_rules" (top 42) ["thing"]
 d_has_rule:Dat K mg "has_rule" "has_rule" (top 44) ["settings", "word"]
 d_slot_of:Dat K mg "slot_of" "slot_of" (top 20) ["area"]
 d_first_of:Dat K mg "first_of" "first_of" (top 21) ["area"]
 d_end_of:Dat K mg "end_of" "end_of" (top 22) ["area"]
 d_ended_at:Dat K mg "ended_at" "ended_at" (top 23) ["area", "end"]
 d_read_on:Dat K mg "read_on" "read_on" (top 26) ["told", "line"]
 d_read_note:Dat K mg "read_note" "read_note" (top 27) ["lines"]
 d_tooks_of:Dat K mg "tooks_of" "tooks_of" (top 29) ["lines"]
 d_greatest_taken:Dat K mg "greatest_taken" "greatest_taken" (top 30) ["lines"]
 d_bound_of:Dat K mg "bound_of" "bound_of" (top 32) ["place"]
 d_raised:Dat K mg "raised" "raised" (top 33) ["place", "bound"]
 d_next_place:Dat K mg "next_place" "next_place" (top 34) ["shape", "place"]
 d_moment_at:Dat K mg "moment_at" "moment_at" (top 35) ["area", "place", "reading"]
 d_made:Dat K mg "made" "made" (top 36) ["shape", "far", "area", "place", "reading"]
 d_grant_in:Dat K mg "grant_in" "grant_in" (top 46) ["stand"]
 d_area_in:Dat K mg "area_in" "area_in" (top 47) ["stand"]
 d_held_in:Dat K mg "held_in" "held_in" (top 48) ["stand"]
 d_heard_in:Dat K mg "heard_in" "heard_in" (top 49) ["stand"]
 d_start_by:Dat K mg "start_by" "start_by" (top 50) ["note"]
 d_need_up:Dat K mg "need_up" "need_up" (top 51) ["place"]
 d_need_area:Dat K mg "need_area" "need_area" (top 52) ["area"]
 d_falling:Dat K mg "falling" "falling" (top 53) ["stand"]
 d_rising:Dat K mg "rising" "rising" (top 54) ["stand"]
 d_taking:Dat K mg "taking" "taking" (top 55) ["settings", "stand", "grant", "area"]
 d_hearing:Dat K mg "hearing" "hearing" (top 59) ["settings", "stand", "bound"]
 d_giving:Dat K mg "giving" "giving" (top 60) ["settings", "stand"]
 d_mark_and_place:Dat K mg "mark_and_place" "mark_and_place" (top 56) ["settings", "stand", "reading"]
 d_writing:Dat K mg "writing" "writing" (top 57) ["settings", "stand", "reading"]
 d_making:Dat K mg "making" "making" (top 58) ["settings", "stand", "reading"]
 d_area_of:Dat K mg "area_of" "area_of" (top 28) ["lines"]
 d__law_hand:Dat K mg "_law_hand" "_law_hand" (top 69) ["_law_script", "_law_k"]
 d__law_pick:Dat K mg "_law_pick" "_law_pick" (top 70) ["_law_hand_here", "_law_many"]
structure Mu (P:Program) (w:World) (K:PySem.W.Frag) (mg:Str→Option Value) (base:Heap) (C CS CH CD CU CA CN CW CT:Addr):Prop where
 fM:Cal P w K mg base (CX1 P w) "_law_hand" 1 ["_law_script", "_law_k"] (pB K)
 aO:Cal P w K mg base (CX1 P w) "_law_pick" 11 ["_law_hand_here", "_law_many"] jT
 jC:Mak P w K mg base (CX1 P w) "Shape" C 4 ["self", "counts", "slots"] (lB C)
 fm:Mak P w K mg base (CX1 P w) "Settings" CS 4 ["self", "shape", "far", "room", "term", "rules"] (gf CS)
 m_Hand:Mak P w K mg base (CX1 P w) "Hand" CH 5 ["self", "name", "settings", "lines"] (iT CH)
 jD:Dd P w K mg base (CX1 P w) "Hand" CH 5 ["self", "name", "settings", "lines"] (iT CH)
 gJ:bB P w K mg base (CX1 P w) CH "is_up" 1 ["self"] (uz C CS CH)
 gI:bB P w K mg base (CX1 P w) CH "place" 1 ["self"] (pe C CS CH)
 iK:bB P w K mg base (CX1 P w) CH "note" 1 ["self"] (ux C CS CH)
 M_Hand_area:bB P w K mg base (CX1 P w) CH "area" 6 ["self"] (AV C CS CH)
 iN:bB P w K mg base (CX1 P w) CH "fall" 6 ["self"] (pF C CS CH CD)
 iJ:bB P w K mg base (CX1 P w) CH "rise" 6 ["self"] (o7 C CS CH CU)
 iI:bB P w K mg base (CX1 P w) CH "take" 6 ["self", "grant", "area"] (o6 C CS CH CD)
 gH:bB P w K mg base (CX1 P w) CH "write" 6 ["self", "reading"] (lA C CS CH CD CA CN CW)
 iL:bB P w K mg base (CX1 P w) CH "make" 6 ["self", "reading"] (lC C CS CH CD CA CN CW CT)
 iM:bB P w K mg base (CX1 P w) CH "hear" 6 ["self", "bound"] (pA C CS CH CD)
 M_Hand_tell:bB P w K mg base (CX1 P w) CH "tell" 2 ["self"] (AF C CS CH CD)
 dG:bB P w K mg base (CX1 P w) CH "give_back" 6 ["self"] (lD C CS CH CD CA CN)
 jk:Cal P w K mg base (CX1 P w) "parts_of" 1 ["shape", "mark"] (pq C)
 f9:Cal P w K mg base (CX1 P w) "read_on" 3 ["told", "line"] (jv K)
 b7:Cal P w K mg base (CX1 P w) "read_note" 4 ["lines"] (iS K)
 bE:Cal P w K mg base (CX1 P w) "greatest_taken" 3 ["lines"] (eZ K)
 cB:Cal P w K mg base (CX1 P w) "grant_in" 1 ["stand"] (iU K)
 c7:Cal P w K mg base (CX1 P w) "falling" 2 ["stand"] (fV K CD)
 dO:Cal P w K mg base (CX1 P w) "rising" 2 ["stand"] (gU K CU)
 dN:Cal P w K mg base (CX1 P w) "taking" 2 ["settings", "stand", "grant", "area"] (gT K CD CS)
 c6:Cal P w K mg base (CX1 P w) "hearing" 2 ["settings", "stand", "bound"] (fT K CD CS)
 dR:Cal P w K mg base (CX1 P w) "giving" 2 ["settings", "stand"] (gY K CD CA CN CS)
 cY:Cal P w K mg base (CX1 P w) "writing" 5 ["settings", "stand", "reading"] (fS K C CD CA CN CW CS)
 dQ:Cal P w K mg base (CX1 P w) "making" 5 ["settings", "stand", "reading"] (gW K C CD CA CN CW CT CS)
section
variable {P:Program} {w:World} {K:PySem.W.Frag} {mg:Str→Option Value} {base:Heap} {C CS CH CD CU CA CN CW CT CR aR aN:Addr}
theorem EX (BT:Bt mg) (NE:bh (CX1 P w)) (D:Ly K mg) (M:Lx K mg CH) (ER:JO K mg CD CU CA CN CW CT CR) (DSh:nQ K mg "Shape" "Shape.__init__" C (inClass (top 16) 0) ["self", "counts", "slots"]) (SC:ShC K C) (DSt:oU K mg "Settings" "Settings.__init__" CS (inClass (top 43) 0) ["self", "shape", "far", "room", "term", "rules"]) (SS:StC K CS)
  (DHd:oW K mg "Hand" "Hand.__init__" CH (inClass (top 67) 0) ["self", "name", "settings", "lines"]) (HC:HdC K CH) (vA:GlV mg "GREATEST_SIDE" (.int 1000)) (vz:GlV mg "GREATEST_SPAN" (.int 1000000000000)) (fL:GlV mg "RULES" (.ref aR)) (hR:∀ H,SqT K H aR (i0.map V.str)) (f6:GlV mg "NOTHING" (.ref aN)) (hN:∀ H,SqT K H aN [.int 0,.non,.int 0,.int 0]):Mu P w K mg base C CS CH CD CU CA CN CW CT:=by
 have FA:=BI (P:=P) (w:=w) (base:=base) (CX:=CX1 P w) D.d_is_whole BT
 have CY:=ED D.d_is_whole_from NE FA
 have jC:=BN DSh SC NE (Ep D.d_is_side NE vA CY)
 have vL:=Ew (P:=P) (w:=w) (base:=base) (CX:=CX1 P w) D.d_mark_of SC
 have FF:=BO D.d_are_rules BT NE (Er (P:=P) (w:=w) (base:=base) (CX:=CX1 P w) D.d_is_rule BT fL hR)
 have fm:=rU DSt SS BT NE fL (En D.d_is_span NE vz CY) FF
 have iX:=uX (P:=P) (w:=w) (base:=base) (CX:=CX1 P w) D.d_has_rule SS
 have CV:=uS (P:=P) (w:=w) (base:=base) (CX:=CX1 P w) D.d_slot_of
 have qs:=rZ (P:=P) (w:=w) (base:=base) (CX:=CX1 P w) D.d_first_of
 have CZ:=zo (P:=P) (w:=w) (base:=base) (CX:=CX1 P w) D.d_end_of
 have tG:=zc D.d_read_on BT NE CZ (B0 D.d_ended_at NE CV qs)
 have lO:=BP D.d_read_note NE f6 hN tG
 have FG:=BR (P:=P) (w:=w) (base:=base) (CX:=CX1 P w) D.d_parts_of SC
 have xR:=rX D.d_greatest_taken BT NE (BK (P:=P) (w:=w) (base:=base) (CX:=CX1 P w) D.d_tooks_of)
 have qu:=r8 (P:=P) (w:=w) (base:=base) (CX:=CX1 P w) D.d_bound_of
 have gb:=zd (P:=P) (w:=w) (base:=base) (CX:=CX1 P w) D.d_raised BT
 have Jr:=nF (P:=P) (w:=w) (base:=base) (CX:=CX1 P w) D.d_next_place SC
 have mS:=pV D.d_moment_at BT NE qs
 have vV:=EG (P:=P) (w:=w) (base:=base) ER.w ER.b ER.pw
 have ni:=zp (P:=P) (w:=w) (base:=base) ER.t ER.b ER.pt
 have vM:=Ez D.d_made BT NE ER.n vV mS CZ CV vL Jr
 have cB:=rY (P:=P) (w:=w) (base:=base) (CX:=CX1 P w) D.d_grant_in
 have cF:=uV (P:=P) (w:=w) (base:=base) (CX:=CX1 P w) D.d_held_in
 have jl:=rW (P:=P) (w:=w) (base:=base) (CX:=CX1 P w) D.d_heard_in
 have bM:=u0 (P:=P) (w:=w) (base:=base) (CX:=CX1 P w) D.d_area_in
 have dD:=rT (P:=P) (w:=w) (base:=base) (CX:=CX1 P w) D.d_start_by BT
 have bA:=uU (P:=P) (w:=w) (base:=base) D.d_need_up NE ER.d
 have cZ:=pU (P:=P) (w:=w) (base:=base) D.d_need_area NE ER.a
 have c7:=uY D.d_falling NE bA
 have dO:=zb D.d_rising NE ER.u dD
 have dN:=y9 D.d_taking NE bA iX qu gb
 have c6:=uW D.d_hearing NE bA iX jl gb
 have dR:=zm D.d_giving BT NE ER.n bA cZ bM qs CZ qu cF cB iX
 have GI:=HF D.d_mark_and_place SS NE bA cZ bM vM
 have cY:=uR D.d_writing SS NE GI bM cF mS
 have dQ:=ze D.d_making NE ni GI bM cF mS iX
 have ku:=uZ D.d_area_of NE lO
 obtain ⟨m_Hand,jD⟩:=BY DHd HC BT NE lO dD
 have FZ:=BX (P:=P) (w:=w) (mg:=mg) (base:=base) (CX:=CX1 P w) (C:=C) (CS:=CS) M.is_up HC
 have FY:=BQ (P:=P) (w:=w) (mg:=mg) (base:=base) (CX:=CX1 P w) (C:=C) (CS:=CS) M.place HC
 have JI:=Eu (P:=P) (w:=w) (mg:=mg) (base:=base) (CX:=CX1 P w) (C:=C) (CS:=CS) M.note HC BT
 have JN:=EF (C:=C) (CS:=CS) M.area HC NE ku
 have gG:=BL (C:=C) (CS:=CS) M.stand HC NE lO xR
 have vW:=Ks (P:=P) (w:=w) (mg:=mg) (base:=base) (CX:=CX1 P w) (C:=C) (CS:=CS) M.go HC
 have JM:=EE M.fall HC NE vW gG c7
 have JH:=Es M.rise HC NE vW gG dO
 have JF:=Em M.take HC NE vW gG dN
 have FW:=BG M.write HC NE vW gG cY
 have JJ:=Ey M.make HC NE vW gG dQ
 have JK:=EB M.hear HC NE vW gG c6
 have JE:=El (C:=C) (CS:=CS) M.tell HC NE bA qu
 have JL:=BZ M.give_back HC NE vW gG dR
 have Jw:=EC (P:=P) (w:=w) (base:=base) (CX:=CX1 P w) D.d__law_hand BT
 have Jq:=Et (P:=P) (w:=w) (base:=base) (CX:=CX1 P w) D.d__law_pick NE
 exact ⟨Jw,Jq,jC,fm,m_Hand,jD,FZ,FY,JI,JN,JM,JH,JF,FW,JJ,JK,JE,JL,FG,tG,lO,xR,cB,c7,dO,dN,c6,dR,cY,dQ⟩
end
theorem E1 {nm:Str} {ps l:Addr} {sv:V}:(hdF nm ps l sv).lookup ("is_up" : Str)=none:=dS (by decide +kernel) (by decide +kernel) (by decide +kernel) (by decide +kernel)
theorem EZ {nm:Str} {ps l:Addr} {sv:V}:(hdF nm ps l sv).lookup ("place" : Str)=none:=dS (by decide +kernel) (by decide +kernel) (by decide +kernel) (by decide +kernel)
theorem Ip {nm:Str} {ps l:Addr} {sv:V}:(hdF nm ps l sv).lookup ("note" : Str)=none:=dS (by decide +kernel) (by decide +kernel) (by decide +kernel) (by decide +kernel)
theorem Iu {nm:Str} {ps l:Addr} {sv:V}:(hdF nm ps l sv).lookup ("fall" : Str)=none:=dS (by decide +kernel) (by decide +kernel) (by decide +kernel) (by decide +kernel)
theorem Io {nm:Str} {ps l:Addr} {sv:V}:(hdF nm ps l sv).lookup ("rise" : Str)=none:=dS (by decide +kernel) (by decide +kernel) (by decide +kernel) (by decide +kernel)
theorem Im {nm:Str} {ps l:Addr} {sv:V}:(hdF nm ps l sv).lookup ("take" : Str)=none:=dS (by decide +kernel) (by decide +kernel) (by decide +kernel) (by decide +kernel)
theorem EY {nm:Str} {ps l:Addr} {sv:V}:(hdF nm ps l sv).lookup ("write" : Str)=none:=dS (by decide +kernel) (by decide +kernel) (by decide +kernel) (by decide +kernel)
theorem Iq {nm:Str} {ps l:Addr} {sv:V}:(hdF nm ps l sv).lookup ("make" : Str)=none:=dS (by decide +kernel) (by decide +kernel) (by decide +kernel) (by decide +kernel)
theorem Ir {nm:Str} {ps l:Addr} {sv:V}:(hdF nm ps l sv).lookup ("hear" : Str)=none:=dS (by decide +kernel) (by decide +kernel) (by decide +kernel) (by decide +kernel)
theorem E2 {nm:Str} {ps l:Addr} {sv:V}:(hdF nm ps l sv).lookup ("give_back" : Str)=none:=dS (by decide +kernel) (by decide +kernel) (by decide +kernel) (by decide +kernel)
section
variable {C CS CH:Addr} {H H':Hp} {d:Hd} {ls:Lns} {pl:Option (Int×Int)} {p:Addr} {b:Int}
theorem zG {x:Addr×Ln} (h:cN ls) (g:oQ x.2):cN (ls++[x]):=fun y hy=>(List.mem_append.mp hy).elim (h y) fun z=>by rw [List.mem_singleton.mp z];exact g
theorem cX.any (h:cX ls pl) {pl':Option (Int×Int)} (k0:∀ m k,pl'=some (m,k)→0≤k):cX ls pl':=⟨h.good,k0,h.len⟩
theorem cX.snoc {x:Addr×Ln} (h:cX ls pl) (hl:ls.length≤97) (g:oQ x.2) {pl':Option (Int×Int)} (k0:∀ m k,pl'=some (m,k)→0≤k):cX (ls++[x]) pl':=⟨zG h.good g,k0,by rw [List.length_append,List.length_singleton];omega⟩
theorem xx {m k:Int} (h : 0≤k):∀ m' k',some (m,k)=some (m',k')→0≤k':=fun _ _ e=>by cases e;exact h
theorem pO {m k b:Int} (h : 0≤k):∀ m' k',some (g9 m k b)=some (m',k')→0≤k':=fun _ _ e=>by
 unfold g9 at e
 cases e
 split <;> omega
theorem Ku {c m f r k:Int} (h : 0≤k):∀ m' k',some (nxP c m f r k)=some (m',k')→0≤k':=fun _ _ e=>by
 unfold nxP cnt at e
 cases e
 split <;> split <;> omega
theorem LI (h:cN ls) {x:Int×Int×Int} (e:(nt ls).ar=some x) : 1≤(nt ls).g:=(iD uT h).yes (by show (nt ls).ar.isSome=true;rw [e];rfl)
end
inductive Op where
 | take (gr sl f e:Int)
 | hear (b:Int)
 | write (r:Int)
 | make (r:Int)
 | fall
 | rise
 | give
inductive Ou where
 | err (j:Nat)
 | non
 | bl (b:Bool)
 | int (n:Int)
 | pr (a b:Int)
abbrev Rs:=Ou×List Ln×Option (Int×Int)
def opF (d:Hd) (n:Nt) (g:Int) (pl:Option (Int×Int)):Op→Rs
 | .fall=>match pl with
  | none=>(.err 0,[],none)
  | some _=>(.non,[],none)
 | .rise=>match pl with
  | none=>(.non,[],some (max n.hd n.hr,0))
  | some p=>(.err 1,[],some p)
 | .take gr sl f e=>match pl with
  | none=>(.err 0,[],none)
  | some (m,k)=>if ("once" : Str)∈d.ws∧gr≤g then (.bl false,[],some (m,k)) else (.bl true,[.took gr sl f e],some (g9 m k (bnd m k)))
 | .hear b=>match pl with
  | none=>(.err 0,[],none)
  | some (m,k)=>(.non,if ("spoken" : Str)∈d.ws∧n.hr < b then [.heard b] else [],some (g9 m k b))
 | .write r=>match pl with
  | none=>(.err 0,[],none)
  | some (m,k)=>match n.ar with
   | none=>(.err 2,[],some (m,k))
   | some (_,f,e)=>if e≤due m f r then (.err 3,[],some (m,k)) else if r+d.far < due m f r then (.err 4,[],some (m,k)) else (.int (max n.hd (due m f r+d.room)),if n.hd < due m f r+d.room then [.held (due m f r+d.room)] else [],some (m,k))
 | .make r=>match pl with
  | none=>(.err 0,[],none)
  | some (m,k)=>match n.ar with
   | none=>(.err 2,[],some (m,k))
   | some (sl,f,e)=>if e≤due m f r then (.err 3,[],some (m,k)) else if r+d.far < due m f r then (.err 4,[],some (m,k)) else if ("ahead" : Str)∈d.ws∧n.hd≤due m f r then (.err 5,[],some (m,k)) else (.int (mk d.c d.s (due m f r) sl (cnt m f r k)),[],some (nxP d.c m f r k))
 | .give=>match pl with
  | none=>(.err 0,[],none)
  | some (m,k)=>match n.ar with
   | none=>(.err 2,[],some (m,k))
   | some (_,f,e)=>if cR f m k n.hd≥e then (.err 3,[],some (m,k)) else (.pr n.g (cR f m k n.hd),if ("ends" : Str)∈d.ws then [.ends n.g (cR f m k n.hd)] else [],some (m,k))
def lu (H:Hp) (v:V):Ou→Prop
 | .err _=>False
 | .non=>v = .non
 | .bl b=>v = .bl b
 | .int n=>v = .int n
 | .pr a b=>∃ t,v = .ref t∧H t=some (.tup [.int a,.int b])
theorem lu.ts {H H':Hp} {v:V} {o:Ou} (h:lu H v o) (s:cS H H'):lu H' v o:=by
 cases o with
 | err j=>exact h
 | non=>exact h
 | bl b=>exact h
 | int n=>exact h
 | pr a b=>obtain ⟨t,e,h⟩:=h;exact ⟨t,e,s _ _ h⟩
def ouD:Ou→Dt
 | .err _=>.non
 | .non=>.non
 | .bl b=>.bl b
 | .int n=>.int n
 | .pr a b=>.tup [.int a,.int b]
theorem lu.at {K:PySem.W.Frag} {H:Hp} {v:V} {o:Ou} (h:lu H v o):At K H v (ouD o):=by
 cases o with
 | err j=>exact h.elim
 | non=>rw [show v = .non from h];exact .non
 | bl b=>rw [show v = .bl b from h];exact .bl _
 | int n=>rw [show v = .int n from h];exact .int _
 | pr a b=>obtain ⟨t,rfl,h⟩:=h;exact .tup (SqT.of h) (.cons (.int _) (.cons (.int _) .nil))
def Lm (H:Hp):Option Addr→Prop
 | none=>True
 | some d=>∃ fs,H d=some (.xd fs)
section
variable {P:Program} {w:World} {K:PySem.W.Frag} {mg:Str→Option Value} {base:Heap} {C CS CH CD CU CA CN CW CT CR:Addr} {d:Hd} {ls:Lns} {pl:Option (Int×Int)} {H:Hp} {Q:VK} {E:XK}
def AfH (C CS CH:Addr) (d:Hd) (ls:Lns) (pl:Option (Int×Int)) (op:Op) (H:Hp) (Q:VK):Prop:=∀ v o ls2 pl2 H',opF d (nt ls) (gmx ls) pl op=(o,ls2.map (·.2),pl2)→lu H' v o→bP C CS CH H' d (ls++ls2) pl2→cX (ls++ls2) pl2→ls2.length≤1→Fr2 d.p d.l H H'→Q v H'
def AfE (cs:List Addr) (d:Hd) (ls:Lns) (pl:Option (Int×Int)) (op:Op) (H:Hp) (E:XK):Prop:=∀ (j:Nat) (c:Addr) (dx:Option Addr) (H':Hp),cs[j]?=some c→opF d (nt ls) (gmx ls) pl op=(.err j,[],pl)→aF H H'→Lm H' dx→E (.ref c) dx H'
theorem C6 {C CS CH:Addr} {H:Hp} {d:Hd} {ls:Lns} {pl:Option (Int×Int)} (h:bP C CS CH H d ls pl):bP C CS CH H d (ls++[]) pl:=by rw [List.append_nil];exact h
theorem ok0 {ls:Lns} {pl pl':Option (Int×Int)} (h:cX ls pl) (k0:∀ m k,pl'=some (m,k)→0≤k):cX (ls++[]) pl':=by rw [List.append_nil];exact h.any k0
theorem yr (hd:bP C CS CH H d ls pl) (hok:cX ls pl) (qe:AfE (ers CD CU CA CN CW CT) d ls pl .fall H E) (q:AfH C CS CH d ls pl .fall H Q):pF C CS CH CD [.ref d.p] H Q E:=
 ⟨d,ls,pl,rfl,hd,hok,fun z H' s=>qe 0 CD none H' rfl (by subst z;rfl) s trivial,fun z H' h f=>q .non .non [] none H' (by cases pl with | none=>cases z | some p=>rfl) rfl (C6 h) (ok0 hok (fun _ _ z=>nomatch z)) (Nat.zero_le _) f⟩
theorem yh (hd:bP C CS CH H d ls pl) (hok:cX ls pl) (qe:AfE (ers CD CU CA CN CW CT) d ls pl .rise H E) (q:AfH C CS CH d ls pl .rise H Q):o7 C CS CH CU [.ref d.p] H Q E:=
 ⟨d,ls,pl,rfl,hd,hok,fun z H' s=>qe 1 CU none H' rfl (by cases pl with | none=>cases z | some p=>rfl) s trivial,fun z H' h f=>q .non .non [] _ H' (by subst z;rfl) rfl (C6 h) (ok0 hok (xx (Int.le_refl 0))) (Nat.zero_le _) f⟩
theorem yd {gr sl f e:Int} {a:Addr} (hd:bP C CS CH H d ls pl) (hok:cX ls pl) (hl:ls.length≤97) (hg : 1≤gr) (ha:H a=some (.tup [.int sl,.int f,.int e])) (qe:AfE (ers CD CU CA CN CW CT) d ls pl (.take gr sl f e) H E) (q:AfH C CS CH d ls pl (.take gr sl f e) H Q):o6 C CS CH CD [.ref d.p,.int gr,.ref a] H Q E:=
 ⟨d,ls,pl,gr,sl,f,e,a,rfl,hd,hok,ha,fun z H' s=>qe 0 CD none H' rfl (by subst z;rfl) s trivial,
  fun m k z c1 c2 H' h f'=>q (.bl false) (.bl false) [] pl H' (by subst z;simp only [opF];rw [if_pos ⟨c1,c2⟩];rfl) rfl (C6 h) (ok0 hok hok.k0) (Nat.zero_le _) f',
  fun m k z c l H' h f'=>q (.bl true) (.bl true) [(l,.took gr sl f e)] _ H' (by subst z;simp only [opF];rw [if_neg c];rfl) rfl h (hok.snoc (x:=(l,Ln.took gr sl f e)) hl hg (pO (hok.k0 m k z))) (Nat.le_refl 1) f'⟩
theorem ym {b:Int} (hd:bP C CS CH H d ls pl) (hok:cX ls pl) (hl:ls.length≤97) (qe:AfE (ers CD CU CA CN CW CT) d ls pl (.hear b) H E) (q:AfH C CS CH d ls pl (.hear b) H Q):pA C CS CH CD [.ref d.p,.int b] H Q E:=
 ⟨d,ls,pl,b,rfl,hd,hok,fun z H' s=>qe 0 CD none H' rfl (by subst z;rfl) s trivial,fun m k z ls2 H' hs h f'=>by
  rcases hs with ⟨c1,c2,l,rfl⟩ | ⟨c,rfl⟩
  ·exact q .non .non _ _ H' (by subst z;simp only [opF];rw [if_pos ⟨c1,c2⟩];rfl) rfl h (hok.snoc (x:=(l,Ln.heard b)) hl trivial (pO (hok.k0 m k z))) (Nat.le_refl 1) f'
  ·exact q .non .non _ _ H' (by subst z;simp only [opF];rw [if_neg c];rfl) rfl h (ok0 hok (pO (hok.k0 m k z))) (Nat.zero_le _) f'⟩
theorem wD {r:Int} {op:Op} (hop:op = .write r∨op = .make r) (qe:AfE (ers CD CU CA CN CW CT) d ls pl op H E):∀ H',aF H H'→MkE CD CA CN CW H' pl (nt ls) d.far r E:=fun H' s=>
 ⟨fun z=>qe 0 CD none H' rfl (by subst z;rcases hop with rfl | rfl <;> rfl) s trivial,
  fun z y=>qe 2 CA none H' rfl (by cases pl with | none=>cases z | some p=>rcases hop with rfl | rfl <;> (simp only [opF];rw [y])) s trivial,
  fun m k sl f e z y c=>qe 3 CN none H' rfl (by subst z;rcases hop with rfl | rfl <;> (simp only [opF];rw [y];dsimp only;rw [if_pos c])) s trivial,
  fun m k sl f e z y c1 c2 dd H2 s2 hd=>qe 4 CW (some dd) H2 rfl (by subst z;rcases hop with rfl | rfl <;> (simp only [opF];rw [y];dsimp only;rw [if_neg c1,if_pos c2])) (s.trans s2) ⟨_,hd⟩⟩
theorem uh {r:Int} (hd:bP C CS CH H d ls pl) (hok:cX ls pl) (hl:ls.length≤97) (qe:AfE (ers CD CU CA CN CW CT) d ls pl (.write r) H E) (q:AfH C CS CH d ls pl (.write r) H Q):lA C CS CH CD CA CN CW [.ref d.p,.int r] H Q E:=
 ⟨d,ls,pl,r,rfl,hd,hok,wD (.inl rfl) qe,fun m k sl f e z y c1 c2 ls2 H' hs h f'=>by
  rcases hs with ⟨c,l,rfl⟩ | ⟨c,rfl⟩
  ·exact q _ (.int (max (nt ls).hd (due m f r+d.room))) _ _ H' (by subst z;simp only [opF];rw [y];dsimp only;rw [if_neg c1,if_neg c2,if_pos c];rfl) rfl h (hok.snoc (x:=(l,Ln.held (due m f r+d.room))) hl trivial hok.k0) (Nat.le_refl 1) f'
  ·exact q _ (.int (max (nt ls).hd (due m f r+d.room))) _ _ H' (by subst z;simp only [opF];rw [y];dsimp only;rw [if_neg c1,if_neg c2,if_neg c];rfl) rfl h (ok0 hok hok.k0) (Nat.zero_le _) f'⟩
theorem yj {r:Int} (hd:bP C CS CH H d ls pl) (hok:cX ls pl) (qe:AfE (ers CD CU CA CN CW CT) d ls pl (.make r) H E) (q:AfH C CS CH d ls pl (.make r) H Q):lC C CS CH CD CA CN CW CT [.ref d.p,.int r] H Q E:=
 ⟨d,ls,pl,r,rfl,hd,hok,wD (.inr rfl) qe,
  fun m k sl f e z y c1 c2 a1 a2 dd H' s hx=>qe 5 CT (some dd) H' rfl (by subst z;simp only [opF];rw [y];dsimp only;rw [if_neg c1,if_neg c2,if_pos ⟨a1,a2⟩]) s ⟨_,hx⟩,
  fun m k sl f e z y c1 c2 a H' h f'=>q _ (.int (mk d.c d.s (due m f r) sl (cnt m f r k))) [] _ H' (by subst z;simp only [opF];rw [y];dsimp only;rw [if_neg c1,if_neg c2,if_neg a];rfl) rfl (C6 h) (ok0 hok (Ku (hok.k0 m k z))) (Nat.zero_le _) f'⟩
theorem yp (hd:bP C CS CH H d ls pl) (hok:cX ls pl) (hl:ls.length≤97) (qe:AfE (ers CD CU CA CN CW CT) d ls pl .give H E) (q:AfH C CS CH d ls pl .give H Q):lD C CS CH CD CA CN [.ref d.p] H Q E:=
 ⟨d,ls,pl,rfl,hd,hok,fun z H' s=>qe 0 CD none H' rfl (by subst z;rfl) s trivial,
  fun z y H' s=>qe 2 CA none H' rfl (by cases pl with | none=>cases z | some p=>(simp only [opF];rw [y])) s trivial,
  fun m k sl f e z y c H' s=>qe 3 CN none H' rfl (by subst z;simp only [opF];rw [y];dsimp only;rw [if_pos c]) s trivial,
  fun m k sl f e z y c tv ls2 H' ht hs h f'=>by
  rcases hs with ⟨c1,l,rfl⟩ | ⟨c1,rfl⟩
  ·exact q _ (.pr (nt ls).g (cR f m k (nt ls).hd)) _ _ H' (by subst z;simp only [opF];rw [y];dsimp only;rw [if_neg c,if_pos c1];rfl) ⟨tv,rfl,ht⟩ h (hok.snoc (x:=(l,Ln.ends (nt ls).g (cR f m k (nt ls).hd))) hl (LI hok.good y) hok.k0) (Nat.le_refl 1) f'
  ·exact q _ (.pr (nt ls).g (cR f m k (nt ls).hd)) _ _ H' (by subst z;simp only [opF];rw [y];dsimp only;rw [if_neg c,if_neg c1];rfl) ⟨tv,rfl,ht⟩ h (ok0 hok hok.k0) (Nat.zero_le _) f'⟩
def ntX (xs:List Ln):Nt:=xs.foldl Nt.step Nt.nil
theorem Gq (ls:Lns):nt ls=ntX (ls.map (·.2)):=by unfold nt f7 ntX;rw [List.foldl_map]
def j8:Ln→Bool
 | .took _ _ _ _=>true
 | _=>false
def p9:Ln→Int
 | .took g _ _ _=>g
 | _=>0
end
end Law
namespace L4
open PySem PySem.Spec PyProof.Rows L2 L3
theorem bI:Slot "set_iterator" "__next__" "set_iterator.__next__" :=
 .of (owner:="set_iterator") (n:="__next__") (by rw [typeLookup_type,builtinLookup_eq_fast];kernel_rfl) (by decide +kernel) (by decide +kernel) (by decide +kernel)
  (by first | exact .inl (by decide +kernel) | exact .inr (by decide +kernel)) (by rw [isSubtype_type];kernel_rfl)
theorem jz:Slot "set_iterator" "__iter__" "set_iterator.__iter__" :=
 .of (owner:="set_iterator") (n:="__iter__") (by rw [typeLookup_type,builtinLookup_eq_fast];kernel_rfl) (by decide +kernel) (by decide +kernel) (by decide +kernel)
  (by first | exact .inl (by decide +kernel) | exact .inr (by decide +kernel)) (by rw [isSubtype_type];kernel_rfl)
theorem dI:entryFor table "set_iterator.__next__" = some Builtin.«set_iterator.__next__»:=entryFor_of_tree (by kernel_rfl)
theorem nJ:entryFor table "set_iterator.__iter__" = some Builtin.«dict_keyiterator.__iter__»:=
 entryFor_alias (id':="dict_keyiterator.__iter__") (by kernel_rfl) rfl (by decide +kernel) (by kernel_rfl)
theorem qh:entryFor table "set.__iter__" = some Builtin.«frozenset.__iter__»:=
 entryFor_alias (id':="frozenset.__iter__") (by kernel_rfl) rfl (by decide +kernel) (by kernel_rfl)
theorem rQ:Manifest.owners.lookup (String.ofList ['r', 'o', 't', 'a', 'r', 'e', 't', 'i', '_', 't', 'e', 's'].reverse)=some Manifest.sig_set_iterator:=by kernel_rfl
theorem eW (a:Value):argsOk "set_iterator.__next__" ⟨[a],[]⟩:=by
 unfold argsOk;rw [signature?_of (id:="set_iterator.__next__") (n:=['_', '_', 't', 'x', 'e', 'n', '_', '_']) (o:=['r', 'o', 't', 'a', 'r', 'e', 't', 'i', '_', 't', 'e', 's']) (by kernel_rfl) rQ];kernel_rfl
theorem qF (a:Value):argsOk "set_iterator.__iter__" ⟨[a],[]⟩:=by
 unfold argsOk;rw [signature?_of (id:="set_iterator.__iter__") (n:=['_', '_', 'r', 'e', 't', 'i', '_', '_']) (o:=['r', 'o', 't', 'a', 'r', 'e', 't', 'i', '_', 't', 'e', 's']) (by kernel_rfl) rQ];kernel_rfl
def dm (h:Heap) (a:Addr) (es:Array (Int×Value)) (ep:Nat) (t:SetTable):Prop:=∃ o,h.get? a=some o∧o.cls = .type "set" ∧ o.data = .set es ep t∧t.fits es.size=true
def fE (h:Heap) (I:Addr) (first:Value) (i:Nat) (a:Addr) (n ep:Nat):Prop:=∃ o,h.get? I=some o∧o.cls = .type "set_iterator" ∧ o.data = .fields #[first,.int i 0,.ref a,.int n 0,.int ep 0]
section
variable {prog:Program} {w:World} {A:Around} {E:Value→Shared→Prop} {s:Shared}
theorem fE.typeIs {I a:Addr} {first:Value} {i n ep:Nat} (h:fE s.heap I first i a n ep):s.TypeIs (.ref I) "set_iterator" := let ⟨o,ho,hc,_⟩:=h;⟨o,ho,hc⟩
theorem dm.typeIs {a:Addr} {es:Array (Int×Value)} {ep:Nat} {t:SetTable} (h:dm s.heap a es ep t):s.TypeIs (.ref a) "set" := let ⟨o,ho,hc,_⟩:=h;⟨o,ho,hc⟩
theorem cE {a:Addr} {es:Array (Int×Value)} {ep:Nat} {t:SetTable} {Q:(Array (Int×Value)×Nat×SetTable)→Shared→Prop} (hs:dm s.heap a es ep t) (h:Q (es,ep,t) s):wpAny (model prog w) A (setState a) Q E s:=by
 obtain ⟨o,ho,_,hd,hf⟩:=hs
 exact wpAny_setState_of ho hd hf h
theorem oX {I a:Addr} {first:Value} {i n ep:Nat} {Q:Value→Shared→Prop} (hit:fE s.heap I first i a n ep) (h:Q (.ref I) s):wpAny (model prog w) A (pyIter (.ref I)) Q E s:=by
 refine wpAny_pyIter_slot hit.typeIs jz (wpAny_call_entry jz hit.typeIs nJ ?_ (qF _))
 show wpAny _ _ (ret (.ref I)) _ _ s
 exact wpAny_pure ⟨_,rfl, "set_iterator",_,hit.typeIs,bI.lookup,h⟩
theorem jr {I a:Addr} {sl i nx ep:Nat} {es:Array (Int×Value)} {t:SetTable} {x:Value} {Q:Option Value→Shared→Prop} (hit:fE s.heap I (.int sl 0) i a es.size ep) (hs:dm s.heap a es ep t)
  (hN:∀ (Q:Option (Value×Nat)→Shared→Prop) (E:Value→Shared→Prop),Q (some (x,nx)) s→wpAny (model prog w) A.in1 (setNext a sl i ep) Q E s)
  (hQ:∀ h',fE h' I (.int nx 0) (i+1) a es.size ep→Heap.SameBut I s.heap h'→Q (some x) { s with heap:=h' }) :
  wpAny (model prog w) A (pyNext (.ref I)) Q E s:=by
 obtain ⟨o,ho,hc,hd⟩:=id hit
 unfold pyNext
 refine wpAny_bind (wpAny_attempt (wpAny_callSpecial?_slot (name:=Str.ofString "__next__") hit.typeIs bI (wpAny_call_entry bI hit.typeIs dI ?_ (eW _))))
 unfold Builtin.«set_iterator.__next__»
 refine wpAny_bind (wpAny_pure ?_)
 refine wpAny_bind (wpAny_fieldsOf ho hd ?_)
 dsimp only
 unfold setEntries
 refine wpAny_bind (wpAny_bind (cE hs (wpAny_pure ?_)))
 rw [if_neg (by simp)]
 refine wpAny_bind ?_
 simp only [Int.toNat_natCast]
 refine hN _ _ ?_
 dsimp only
 refine wpAny_bind (wpAny_setField ho hd (by simp) ?_)
 refine wpAny_bind (wpAny_setField (Heap.get?_update_self _ ho (Obj.isFreed_of_fields (Obj.data_mapFields hd _))) (Obj.data_mapFields hd _) (by simp) ?_)
 refine wpAny_pure ⟨_,rfl,wpAny_pure (hQ _ ⟨_,Heap.get?_update_self _ (Heap.get?_update_self _ ho (Obj.isFreed_of_fields (Obj.data_mapFields hd _))) (Obj.isFreed_of_fields (Obj.data_mapFields (Obj.data_mapFields hd _) _)),?_,?_⟩ ?_)⟩
 ·rw [Obj.cls_mapFields,Obj.cls_mapFields];exact hc
 ·rw [Obj.data_mapFields (Obj.data_mapFields hd _)];simp [rawInt]
 ·exact (Heap.SameBut.update ..).trans (Heap.SameBut.update ..)
theorem kJ {I a:Addr} {sl i ep:Nat} {es:Array (Int×Value)} {t:SetTable} {Q:Option Value→Shared→Prop} (hh:A.handled=none) (hit:fE s.heap I (.int sl 0) i a es.size ep) (hs:dm s.heap a es ep t)
  (hN:∀ (Q:Option (Value×Nat)→Shared→Prop) (E:Value→Shared→Prop),Q none s→wpAny (model prog w) A.in1 (setNext a sl i ep) Q E s)
  (hQ:∀ h',Heap.ExtBut I s.heap h'→Q none { s with heap:=h' }) :
  wpAny (model prog w) A (pyNext (.ref I)) Q E s:=by
 obtain ⟨o,ho,hc,hd⟩:=id hit
 unfold pyNext
 refine wpAny_bind (wpAny_attempt (wpAny_callSpecial?_slot (name:=Str.ofString "__next__") hit.typeIs bI (wpAny_call_entry bI hit.typeIs dI ?_ (eW _))))
 unfold Builtin.«set_iterator.__next__»
 refine wpAny_bind (wpAny_pure ?_)
 refine wpAny_bind (wpAny_fieldsOf ho hd ?_)
 dsimp only
 unfold setEntries
 refine wpAny_bind (wpAny_bind (cE hs (wpAny_pure ?_)))
 rw [if_neg (by simp)]
 refine wpAny_bind ?_
 simp only [Int.toNat_natCast]
 refine hN _ _ ?_
 dsimp only
 refine wpAny_bind (wpAny_setField ho hd (by simp) ?_)
 refine wpAny_bind ?_
 simp only [newExc,newTuple]
 refine wpAny_bind (wpAny_newObj_type ?_ (by size_fits))
 refine wpAny_bind (m:=firstArgMember _ _) (wpAny_of_eq (a:=Value.none) (by first | rfl | (simp only [firstArgMember];rfl)) ?_)
 refine wpAny_newObj_type ?_ (by size_fits)
 simp only [raiseNew]
 refine wpAny_bind (wpAny_handled ?_)
 rw [show A.in1.handled=none from hh]
 refine wpAny_bind (wpAny_pure (wpAny_throw ?_))
 refine wpAny_bind (wpAny_isInstance (T:="StopIteration") (b:=true) ⟨_,Heap.get?_push_size _ rfl,rfl⟩ isSubtype_stop ?_)
 exact wpAny_pure (hQ _ (((Heap.SameBut.update ..).extBut.push _).push _))
end
theorem jj {α : Type}:∀ (l:List α) (i:Nat) (h:i < l.length),(l[i]::l.eraseIdx i).Perm l
 | [],_,h=>by cases h
 | x::l,0,_=>.refl _
 | x::l,i+1,h=>(List.Perm.swap x (l[i]'(Nat.lt_of_succ_lt_succ h)) (l.eraseIdx i)).trans ((jj l i (Nat.lt_of_succ_lt_succ h)).cons x)
theorem xh {α : Type} (next:Nat→Nat):∀ (fuel k:Nat) (left:List α) (out:Array α),left.length=fuel→(pickOrder.go next fuel k left out).toList.Perm (out.toList++left)
 | 0,k,left,out,h=>by
  rw [List.length_eq_zero_iff.mp h,List.append_nil]
  unfold pickOrder.go
  exact .refl _
 | fuel+1,k,left,out,h=>by
  have hl:next k % left.length < left.length:=Nat.mod_lt _ (by omega)
  unfold pickOrder.go
  rw [List.getElem?_eq_getElem hl]
  dsimp only
  refine (xh next fuel (k+1) _ _ (by rw [List.length_eraseIdx_of_lt hl];omega)).trans ?_
  rw [Array.toList_push,List.append_assoc]
  exact List.Perm.append_left _ (jj _ _ hl)
theorem jX {α : Type} (next:Nat→Nat) (xs:Array α):(pickOrder next xs).toList.Perm xs.toList:=by
 have:=xh next xs.size 0 xs.toList #[] (Array.length_toList)
 rw [show (#[]:Array α).toList=[] from rfl,List.nil_append] at this
 exact this
section
variable {prog:Program} {w:World} {A:Around} {E:Value→Shared→Prop} {s:Shared}
theorem wp_choose {n:Nat} {Q:Nat→Shared→Prop} (hn:n≠0) (h:∀ i d',i < n→Q i { s with drawn:=d' }):wpAny (model prog w) A (choose .order n) Q E s:=fun Γ p hΓ=>
 ⟨hn,h _ _ (Nat.mod_lt _ (Nat.pos_of_ne_zero hn))⟩
theorem wC {α : Type}:∀ (n:Nat) (xs:List α) {s:Shared} {Q:List α→Shared→Prop},xs.length=n→(∀ ys d',ys.Perm xs→Q ys { s with drawn:=d' })→wpAny (model prog w) A (drawOrder n xs) Q E s
 | 0,xs,s,Q,hl,h=>by
  rw [List.length_eq_zero_iff.mp hl] at h
  unfold drawOrder
  exact wpAny_pure (h [] s.drawn (.refl _))
 | n+1,[],s,Q,hl,h=>by cases hl
 | n+1,x::xs,s,Q,hl,h=>by
  unfold drawOrder
  refine wpAny_bind (wp_choose (by rw [hl];omega) fun i d' hi=>?_)
  rw [List.getElem?_eq_getElem hi]
  dsimp only
  refine wpAny_bind (wC n _ (by rw [List.length_eraseIdx_of_lt hi,hl];rfl) fun ys d2 hp=>wpAny_pure ?_)
  exact h _ d2 ((hp.cons _).trans (jj _ _ hi))
theorem iQ {Q:Bool→Shared→Prop} (h:Q (w.params.followText "set-order") s):wpAny (model prog w) A setsByText Q E s:=by
 unfold setsByText
 exact wpAny_bind (wpAny_askSetting (wpAny_pure h))
theorem gK {a:Addr} {sl i ep:Nat} {es:Array (Int×Value)} {t:SetTable} {Q:Option (Value×Nat)→Shared→Prop} (hb:w.params.followText "set-order" = true) (hs:dm s.heap a es ep t)
  (h:Q (((pickOrder (w.params.setOrder a ep) es)[i]?).map fun e=>(e.2,sl)) s):wpAny (model prog w) A (setNext a sl i ep) Q E s:=by
 unfold setNext
 refine wpAny_bind (cE hs ?_)
 dsimp only
 refine wpAny_bind (iQ ?_)
 rw [hb,if_pos rfl,if_neg (by simp)]
 refine wpAny_bind ?_
 unfold setWalk
 refine wpAny_bind (cE hs ?_)
 dsimp only
 refine wpAny_bind (iQ ?_)
 rw [hb,if_pos rfl]
 refine wpAny_bind (wpAny_askSetting (wpAny_pure (wpAny_pure h)))
end
def TupAt (h:Heap) (T:Addr) (ps:List Nat):Prop:=∃ o c,h.get? T=some o∧o.data = .seq ((ps.map fun (i:Nat)=>Value.int i 0).toArray) c
section
variable {prog:Program} {w:World} {A:Around} {E:Value→Shared→Prop} {s:Shared}
theorem kI {T:Addr} {ps:List Nat} {Q:Option (Array Value)→Shared→Prop} (ht:TupAt s.heap T ps) (h:Q (some ((ps.map fun (i:Nat)=>Value.int i 0).toArray)) s):wpAny (model prog w) A (seqItems? (.ref T)) Q E s:=by
 obtain ⟨o,c,ho,hd⟩:=ht
 unfold seqItems?
 dsimp only
 refine wpAny_bind (wpAny_load ho ?_)
 rw [hd]
 exact wpAny_pure h
theorem nj {I a T:Addr} {i ep:Nat} {es:Array (Int×Value)} {t:SetTable} {ps:List Nat} {p:Nat} {e:Int×Value} {Q:Option Value→Shared→Prop} (hit:fE s.heap I (.ref T) i a es.size ep) (hs:dm s.heap a es ep t) (ht:TupAt s.heap T ps) (hp:ps[i]?=some p) (he:es[p]?=some e)
  (hQ:∀ h',fE h' I (.ref T) (i+1) a es.size ep→Heap.SameBut I s.heap h'→Q (some e.2) { s with heap:=h' }) :
  wpAny (model prog w) A (pyNext (.ref I)) Q E s:=by
 obtain ⟨o,ho,hc,hd⟩:=id hit
 unfold pyNext
 refine wpAny_bind (wpAny_attempt (wpAny_callSpecial?_slot (name:=Str.ofString "__next__") hit.typeIs bI (wpAny_call_entry bI hit.typeIs dI ?_ (eW _))))
 unfold Builtin.«set_iterator.__next__»
 refine wpAny_bind (wpAny_pure ?_)
 refine wpAny_bind (wpAny_fieldsOf ho hd ?_)
 dsimp only
 unfold setEntries
 refine wpAny_bind (wpAny_bind (cE hs (wpAny_pure ?_)))
 rw [if_neg (by simp)]
 refine wpAny_bind (kI ht ?_)
 simp only [Int.toNat_natCast,List.getElem?_toArray,List.getElem?_map,hp,Option.map_some]
 unfold setNextDrawn
 refine wpAny_bind (wpAny_bind (cE hs ?_))
 dsimp only
 rw [if_neg (by simp),he]
 refine wpAny_pure ?_
 refine wpAny_bind (wpAny_setField ho hd (by simp) ?_)
 refine wpAny_pure ⟨_,rfl,wpAny_pure (hQ _ ⟨_,Heap.get?_update_self _ ho (Obj.isFreed_of_fields (Obj.data_mapFields hd _)),?_,?_⟩ (Heap.SameBut.update ..))⟩
 ·rw [Obj.cls_mapFields];exact hc
 ·rw [Obj.data_mapFields hd];simp [rawInt]
theorem oY {I a T:Addr} {i ep:Nat} {es:Array (Int×Value)} {t:SetTable} {ps:List Nat} {Q:Option Value→Shared→Prop} (hh:A.handled=none) (hit:fE s.heap I (.ref T) i a es.size ep) (hs:dm s.heap a es ep t) (ht:TupAt s.heap T ps) (hp:ps[i]?=none)
  (hQ:∀ h',Heap.ExtBut I s.heap h'→Q none { s with heap:=h' }) :
  wpAny (model prog w) A (pyNext (.ref I)) Q E s:=by
 obtain ⟨o,ho,hc,hd⟩:=id hit
 unfold pyNext
 refine wpAny_bind (wpAny_attempt (wpAny_callSpecial?_slot (name:=Str.ofString "__next__") hit.typeIs bI (wpAny_call_entry bI hit.typeIs dI ?_ (eW _))))
 unfold Builtin.«set_iterator.__next__»
 refine wpAny_bind (wpAny_pure ?_)
 refine wpAny_bind (wpAny_fieldsOf ho hd ?_)
 dsimp only
 unfold setEntries
 refine wpAny_bind (wpAny_bind (cE hs (wpAny_pure ?_)))
 rw [if_neg (by simp)]
 refine wpAny_bind (kI ht ?_)
 simp only [Int.toNat_natCast,List.getElem?_toArray,List.getElem?_map,hp,Option.map_none]
 refine wpAny_bind (wpAny_setField ho hd (by simp) ?_)
 refine wpAny_bind (wpAny_setField (Heap.get?_update_self _ ho (Obj.isFreed_of_fields (Obj.data_mapFields hd _))) (Obj.data_mapFields hd _) (by simp) ?_)
 refine wpAny_bind ?_
 simp only [newExc,newTuple]
 refine wpAny_bind (wpAny_newObj_type ?_ (by size_fits))
 refine wpAny_bind (m:=firstArgMember _ _) (wpAny_of_eq (a:=Value.none) (by first | rfl | (simp only [firstArgMember];rfl)) ?_)
 refine wpAny_newObj_type ?_ (by size_fits)
 simp only [raiseNew]
 refine wpAny_bind (wpAny_handled ?_)
 rw [show A.in1.handled=none from hh]
 refine wpAny_bind (wpAny_pure (wpAny_throw ?_))
 refine wpAny_bind (wpAny_isInstance (T:="StopIteration") (b:=true) ⟨_,Heap.get?_push_size _ rfl,rfl⟩ isSubtype_stop ?_)
 exact wpAny_pure (hQ _ ((((Heap.SameBut.update ..).trans (Heap.SameBut.update ..)).extBut.push _).push _))
end
theorem fE.at {h h':Heap} {I a:Addr} {first:Value} {i n ep:Nat} (x:fE h I first i a n ep) (e:∀ o,h.get? I=some o→h'.get? I=some o):fE h' I first i a n ep:=let ⟨o,ho,r⟩:=x;⟨o,e _ ho,r⟩
theorem dm.at {h h':Heap} {a:Addr} {es:Array (Int×Value)} {ep:Nat} {t:SetTable} (x:dm h a es ep t) (e:∀ o,h.get? a=some o→h'.get? a=some o):dm h' a es ep t:=let ⟨o,ho,r⟩:=x;⟨o,e _ ho,r⟩
theorem TupAt.at {h h':Heap} {T:Addr} {ps:List Nat} (x:TupAt h T ps) (e:∀ o,h.get? T=some o→h'.get? T=some o):TupAt h' T ps:=let ⟨o,c,ho,r⟩:=x;⟨o,c,e _ ho,r⟩
section
variable {prog:Program} {w:World} {A:Around} {E:Value→Shared→Prop} {s:Shared}
theorem Ds {a:Addr} {es:Array (Int×Value)} {ep:Nat} {t:SetTable} {Q:Value→Shared→Prop} (hs:dm s.heap a es ep t) (hz:es.size≤sizeLine)
  (h1:(!w.params.followText "set-order" && (!t.plain && decide (es.size > 1)))=false→Q (.ref s.heap.objs.size) { s with heap:=s.heap.push { cls:=.type "set_iterator",data:=.fields #[.int (0:Nat) 0,.int (0:Nat) 0,.ref a,.int es.size 0,.int ep 0] } })
  (h2:w.params.followText "set-order" = false→∀ (ps:List Nat) d',ps.Perm (List.range es.size)→Q (.ref (s.heap.objs.size+1)) { s with heap:=(s.heap.push { cls:=.type "tuple",data:=.seq ((ps.map fun (i:Nat)=>Value.int i 0).toArray) }).push { cls:=.type "set_iterator",data:=.fields #[.ref s.heap.objs.size,.int (0:Nat) 0,.ref a,.int es.size 0,.int ep 0] },drawn:=d' }) :
  wpAny (model prog w) A (pyIter (.ref a)) Q E s:=by
 have hT:=hs.typeIs
 refine wpAny_pyIter_slot hT F.slot_set_iter (wpAny_call_entry F.slot_set_iter hT qh ?_ (F.args_set_iter_1 _))
 unfold Builtin.«frozenset.__iter__» Builtin.Frozenset.slot0 slotArgs
 simp only [List.isEmpty_nil,Bool.not_true,Bool.false_eq_true,↓reduceIte,bind_assoc,List.length_nil,bne_self_eq_false]
 unfold Builtin.Frozenset.addrOf Builtin.Frozenset.sizeOf setEntries
 refine wpAny_bind (wpAny_pure ?_)
 try dsimp only
 refine wpAny_bind (wpAny_pure ?_)
 refine wpAny_bind (wpAny_bind (wpAny_bind (cE hs (wpAny_pure (wpAny_pure ?_)))))
 unfold setDrawn
 refine wpAny_bind (wpAny_bind (cE hs ?_))
 dsimp only
 refine wpAny_bind (iQ (wpAny_pure ?_))
 show wpAny _ _ (if (!w.params.followText "set-order" && (!t.plain && decide (es.size > 1)))=true then _ else _) _ _ _
 cases hm:(!w.params.followText "set-order" && (!t.plain && decide (es.size > 1))) with
 | false=>
  rw [if_neg Bool.false_ne_true]
  refine wpAny_bind (wpAny_pure ?_)
  unfold setEpoch
  refine wpAny_bind (wpAny_bind (cE hs (wpAny_pure ?_)))
  unfold newFields
  refine wpAny_bind (wpAny_newObj_type (wpAny_pure ⟨_,rfl, "set_iterator",_,⟨_,Heap.get?_push_size _ rfl,rfl⟩,bI.lookup,?_⟩))
  exact h1 hm
 | true=>
  rw [if_pos rfl]
  rw [Bool.and_eq_true,Bool.not_eq_true'] at hm
  refine wpAny_bind (wC _ _ List.length_range fun ps d' hp=>?_)
  have hl:ps.length=es.size:=by rw [hp.length_eq,List.length_range]
  refine wpAny_bind (wpAny_newTuple ?_ (by rw [List.length_map,hl];exact hz))
  unfold setEpoch
  refine wpAny_bind (wpAny_bind (cE (hs.at fun o e=>Heap.get?_push_of_some _ e) (wpAny_pure ?_)))
  unfold newFields
  refine wpAny_bind (wpAny_newObj_type (wpAny_pure ⟨_,rfl, "set_iterator",_,⟨_,Heap.get?_push_size _ rfl,rfl⟩,bI.lookup,?_⟩))
  have:=h2 hm.1 ps d' hp
  rw [Heap.size_push]
  exact this
theorem ue (hb:w.params.followText "set-order" = true) (hh:A.handled=none) (I a:Addr) (hne:a≠I) (es:Array (Int×Value)) (ep:Nat) (t:SetTable) :
  Walks prog w A I [I,a] [I] es.size (fun i v=>((pickOrder (w.params.setOrder a ep) es).toList.map (·.2))[i]?=some v) (fun i h=>fE h I (.int (0:Nat) 0) i a es.size ep∧dm h a es ep t) where
 sub:=fun b hb=>by simp at hb;simp [hb]
 frame:=fun _ _ _ st hk=>⟨st.1.at fun o e=>hk I (by simp) o e,st.2.at fun o e=>hk a (by simp) o e⟩
 item:=fun i s Q E hi st hQ=>by
  have hl:(pickOrder (w.params.setOrder a ep) es).size=es.size:=by
   rw [← Array.length_toList,(jX _ es).length_eq,Array.length_toList]
  have hi':i < (pickOrder (w.params.setOrder a ep) es).size:=by omega
  refine jr (x:=(pickOrder (w.params.setOrder a ep) es)[i].2) (nx:=0) st.1 st.2 (fun Q E h=>gK hb st.2 (by rw [Array.getElem?_eq_getElem hi'];exact h)) fun h' hit' hs'=>?_
  exact hQ _ h' s.toks (by rw [List.getElem?_map,Array.getElem?_toList,Array.getElem?_eq_getElem hi'];rfl) ⟨hit',st.2.at fun o e=>by rw [hs'.2 a hne];exact e⟩ fun b o hb e=>by rw [hs'.2 b (fun h=>hb (by simp [h]))];exact e
 done:=fun s Q E st hQ=>by
  have hl:(pickOrder (w.params.setOrder a ep) es).size=es.size:=by
   rw [← Array.length_toList,(jX _ es).length_eq,Array.length_toList]
  exact kJ hh st.1 st.2 (fun Q E h=>gK hb st.2 (by rw [Array.getElem?_eq_none (by omega)];exact h)) fun h' he'=>hQ h' s.toks fun b o hb e=>he' b o (fun h=>hb (by simp [h])) e
 self:=fun _ _ _ _ st hQ=>oX st.1 hQ
theorem qS (hh:A.handled=none) (I a T:Addr) (hne:a≠I) (hnT:T≠I) (es:Array (Int×Value)) (ep:Nat) (t:SetTable) (ps:List Nat) (hp:ps.Perm (List.range es.size)) :
  Walks prog w A I [I,a,T] [I] es.size (fun i v=>(ps.map fun p=>(es.getD p (0,.none)).2)[i]?=some v) (fun i h=>fE h I (.ref T) i a es.size ep∧dm h a es ep t∧TupAt h T ps) where
 sub:=fun b hb=>by simp at hb;simp [hb]
 frame:=fun _ _ _ st hk=>⟨st.1.at fun o e=>hk I (by simp) o e,st.2.1.at fun o e=>hk a (by simp) o e,st.2.2.at fun o e=>hk T (by simp) o e⟩
 item:=fun i s Q E hi st hQ=>by
  have hl:ps.length=es.size:=by rw [hp.length_eq,List.length_range]
  have hi':i < ps.length:=by omega
  have hpi:ps[i] < es.size:=List.mem_range.mp (hp.mem_iff.mp (List.getElem_mem hi'))
  refine nj st.1 st.2.1 st.2.2 (List.getElem?_eq_getElem hi') (Array.getElem?_eq_getElem hpi) fun h' hit' hs'=>?_
  exact hQ _ h' s.toks (by rw [List.getElem?_map,List.getElem?_eq_getElem hi',Option.map_some,Array.getD_eq_getD_getElem?,Array.getElem?_eq_getElem hpi];rfl) ⟨hit',st.2.1.at fun o e=>by rw [hs'.2 a hne];exact e,st.2.2.at fun o e=>by rw [hs'.2 T hnT];exact e⟩ fun b o hb e=>by rw [hs'.2 b (fun h=>hb (by simp [h]))];exact e
 done:=fun s Q E st hQ=>by
  have hl:ps.length=es.size:=by rw [hp.length_eq,List.length_range]
  exact oY hh st.1 st.2.1 st.2.2 (List.getElem?_eq_none (by omega)) fun h' he'=>hQ h' s.toks fun b o hb e=>he' b o (fun h=>hb (by simp [h])) e
 self:=fun _ _ _ _ st hQ=>oX st.1 hQ
end
theorem mC {l:List Value} {acc:Array Value} {n:Nat} (h:ItemsOf (fun i v=>l[i]?=some v) acc n) (hl:l.length=n):acc.toList=l:=by
 refine List.ext_getElem? fun i=>?_
 by_cases hi:i < n
 ·have hi':i < acc.size:=by rw [h.1];exact hi
  rw [Array.getElem?_toList,Array.getElem?_eq_getElem hi']
  exact (h.2 i _ (Array.getElem?_eq_getElem hi')).symm
 ·rw [List.getElem?_eq_none (by rw [Array.length_toList,h.1];omega),List.getElem?_eq_none (by omega)]
theorem uL (es:Array (Int×Value)):(List.range es.size).map (fun p=>(es.getD p (0,.none)).2)=es.toList.map (·.2):=by
 refine List.ext_getElem? fun i=>?_
 have e0:es.toList[i]?=es[i]?:=Array.getElem?_toList ..
 rw [List.getElem?_map,List.getElem?_map,e0]
 by_cases hi:i < es.size
 ·rw [List.getElem?_range hi,Array.getElem?_eq_getElem hi,Option.map_some,Option.map_some,Array.getD_eq_getD_getElem?,Array.getElem?_eq_getElem hi];rfl
 ·rw [List.getElem?_eq_none (by rw [List.length_range];omega),Array.getElem?_eq_none (by omega)];rfl
section
variable {prog:Program} {w:World} {A:Around} {E:Value→Shared→Prop} {s:Shared}
theorem mQ {a I S:Addr} {fp wr:List Addr} {n:Nat} {P:Nat→Value→Prop} {St:Nat→Heap→Prop} {R:Result→Shared→Prop} {K:PySem.Fin→Shared→Prop} (W:Walks prog w A.in1 I fp wr n P St) (hz:n≤sizeLine) (hSf:S∉fp) (st:St 0 s.heap)
  (hS:s.heap.get? S=some { cls:=.type "list",data:=.seq ([]:List Value).toArray }) (ha:s.TypeIs (.ref a) "set")
  (hK:∀ s2,codeAny (model prog w) A (.builtin "list.extend.loop" ⟨[.ref S,.ref I,.ref S],[]⟩) R s2→K (.again (.builtin "list.extend.loop" ⟨[.ref S,.ref I,.ref S],[]⟩)) s2)
  (k:∀ s' acc c,Moved (S::wr) (fun a b=>b=a) s s'→s'.heap.get? S=some { cls:=.type "list",data:=.seq acc c }→ItemsOf P acc n→R (.ok (.ret (.ref S))) s') :
  wpAny (model prog w) A.in1 (do
   let room ← holding [.ref I] (Builtin.List.listLengthHint (.ref a))
   if (room || ["set", "frozenset", "dict", "dict_keys", "dict_values", "dict_items"].any (Value.type "set" == .type ·))=true then do
     rule "list.extend.makes-room"
     Builtin.List.listTouch (.ref S)
     again (.builtin "list.extend.loop" ⟨[.ref S,.ref I,.ref S],[]⟩)
    else again (.builtin "list.extend.loop" ⟨[.ref S,.ref I,.ref S],[]⟩)) K E s:=by
 refine wpAny_bind (wpAny_holding ?_)
 unfold Builtin.List.listLengthHint
 refine wpAny_bind (wpAny_specialOf ha F.slot_set_len.lookup ?_)
 generalize hid:("set.__len__" : String)=id0
 dsimp only
 rw [show splitId id0=some ("set", "__len__") from by subst hid;decide +kernel]
 subst hid
 dsimp only
 refine wpAny_bind (wpAny_isInstance (b:=true) ha (by rw [isSubtype_type];kernel_rfl) ?_)
 rw [if_neg (by decide)]
 show wpAny _ _ (if true=true then _ else _) _ _ _
 rw [if_pos rfl]
 refine wpAny_bind (wpAny_typeOf ha (wpAny_pure ?_))
 rw [if_pos (by decide)]
 refine wpAny_bind (wpAny_rule ?_)
 refine wpAny_bind ?_
 show wpAny _ A.in1 (updateSeq S (·.push .none) >>= fun _=>updateSeq S (·.pop)) _ _ _
 refine wpAny_bind (wpAny_updateSeq hS rfl ?_)
 have hS2:=Heap.get?_update_self (Obj.mapSeq (·.push Value.none)) hS rfl
 refine wpAny_updateSeq hS2 rfl ?_
 have hS3:=Heap.get?_update_self (Obj.mapSeq (·.pop)) hS2 rfl
 have oth:∀ b o,b≠S→s.heap.get? b=some o→((s.heap.update S (Obj.mapSeq (·.push Value.none))).update S (Obj.mapSeq (·.pop))).get? b=some o:=
  fun b o hb e=>(Heap.get?_update_other _ _ (Ne.symm hb)).trans ((Heap.get?_update_other _ _ (Ne.symm hb)).trans e)
 refine wpAny_pure (hK _ (codeAny_extend_loopS W.toS hz _ hSf _ n 0 _ _ _ rfl (Nat.zero_le _) (W.frame 0 _ _ st fun b hb o e=>oth b o (fun h=>hSf (h▸hb)) e) hS3 (ItemsOf.nil P) fun s' acc' c' hm hS' hacc=>k s' acc' c' ?_ hS' hacc))
 exact ⟨fun b o hb e=>hm.heap b o hb (oth b o (fun h=>hb (by rw [h];exact List.mem_cons_self)) e),hm.gens,hm.drawn,hm.os,hm.toks⟩
end
theorem yw (t:SetTable) (n:Nat):(t.orStandIn n).led=t.led:=by unfold SetTable.orStandIn;split <;> rfl
theorem EN (t:SetTable) (es:Array (Int×Value)) (h:Int) (x:Value):(layNew t es h x).2.1.led=t.led:=by
 unfold layNew
 cases t.freeSlot h with
 | none=>rfl
 | some p=>exact yw _ _
theorem yU (t:SetTable) (es:Array (Int×Value)) (n:Nat):(relayAll t es n).2.1.led=t.led∧(t.plain=false→(relayAll t es n).2.1.plain=false):=by
 unfold relayAll
 cases hr:t.relaid (es.map (·.1)) n with
 | none=>exact ⟨rfl,fun _=>rfl⟩
 | some p=>
  obtain ⟨t',order⟩:=p
  have e:t'.led=t.led∧t'.plain=t.plain:=by
   unfold SetTable.relaid SetTable.laid at hr
   cases hc:SetTable.layClean (SetTable.sizeAbove n - 1) (es.map (·.1)) with
   | none=>rw [hc] at hr;cases hr
   | some ow=>
    rw [hc] at hr
    cases hr
    exact ⟨rfl,rfl⟩
  dsimp only
  split
  ·exact ⟨e.1,fun z=>e.2.trans z⟩
  ·exact ⟨rfl,fun _=>rfl⟩
section
variable {prog:Program} {w:World} {A:Around} {E:Value→Shared→Prop} {s:Shared} {R:Result→Shared→Prop} {I S:Addr} {fp wr:List Addr} {G:Array GenState→Array GenState→Prop} {P:Nat→Value→Prop} {St:Nat→Shared→Prop} {xs:List Str}
theorem rB (a:Value) {Q1:Value→Shared→Prop} (h:Q1 (.ref s.heap.objs.size) { s with heap:=s.heap.push { cls:=.type "set",dict:=none,data:=.set #[] 0 (.fresh 0 0 (!w.params.followText "set-order")) } }) :
  codeAny (model prog w) A (.call (.builtin "set.__new__") ⟨[.type "set",a],[]⟩) (wants Q1 E) s:=by
 refine codeAny_of_tree ?_
 show wpAny _ A.in1 (do checkBuiltinCall "set.__new__" ⟨[.type "set",a],[]⟩;again (.builtin "set.__new__" ⟨[.type "set",a],[]⟩)) _ _ s
 refine wpAny_bind (wpAny_of_eq (F.newCall_set_1 a) (wpAny_pure ⟨plainId_quiet F.plain_set_new _,codeAny_builtin F.entry_set_new ?_⟩))
 rw [Around.under_plainId F.plain_set_new _]
 unfold Builtin.«set.__new__» Builtin.Frozenset.newClass
 have hsub:=sub_set_self
 obtain ⟨hp,g,d,tk,os⟩:=s
 dsimp only
 wp_walk
 refine wpAny_askSetting (wpAny_pure ?_)
 dsimp only
 simp only [newObj]
 refine wpAny_bind (wpAny_alloc (wpAny_pure ?_))
 exact wpAny_pure h
end
theorem rO {α : Type} [DecidableEq α]:∀ {ws ss:List α},ws.Nodup→(∀ x∈ws,x∈ss)→ss.length=ws.length→ss.Perm ws
 | [],ss,_,_,h=>by rw [List.length_eq_zero_iff.mp h]
 | x::ws,ss,nd,hm,h=>by
  rw [List.nodup_cons] at nd
  have hx:=hm x List.mem_cons_self
  refine (List.perm_cons_erase hx).trans (List.Perm.cons x (rO nd.2 (fun y hy=>(List.mem_erase_of_ne (fun z:y=x=>nd.1 (by rw [← z];exact hy))).mpr (hm y (List.mem_cons_of_mem _ hy))) ?_))
  have:=List.length_erase_of_mem hx
  rw [List.length_cons] at h
  omega
section
variable {X:Cx} {e:Expr} {te:TE} {p p2 pos pos2:Pos}
theorem zD {pins:List (Addr×Obj)} {σ : List (Option V)} {H:Hp} {s:Shared} {d':Drawn} (I:Inv X pins σ H s):Inv X pins σ H { s with drawn:=d' }:=⟨I.ok,I.os,I.bare,I.base,I.loc,I.cell,I.free,I.freeC,I.pin,I.hok,I.len⟩
end
def Asc (l:List Nat):Prop:=l.Pairwise (· < ·)
theorem Asc.lt {xs:Array Nat} (h:Asc xs.toList) {i j:Nat} (hij:i < j) (hj:j < xs.size):xs[i]'(by omega) < xs[j]:=by
 have:=List.pairwise_iff_getElem.mp h i j (by rw [Array.length_toList];omega) (by rw [Array.length_toList];exact hj) hij
 simpa using this
theorem mV {xs:Array Nat} {j:Nat} (ha:Asc xs.toList):∀ (fuel lo hi:Nat),hi - lo≤fuel→lo≤hi→hi≤xs.size→(∀ i (h:i < xs.size),i < lo→xs[i] < j)→(∀ i (h:i < xs.size),hi≤i→j≤xs[i]) →
  SetTable.below.go xs j fuel lo hi≤xs.size∧(∀ i (h:i < xs.size),i < SetTable.below.go xs j fuel lo hi→xs[i] < j)∧(∀ i (h:i < xs.size),SetTable.below.go xs j fuel lo hi≤i→j≤xs[i])
 | 0,lo,hi,hf,hl,hs,h1,h2=>by
  obtain rfl:lo=hi:=by omega
  exact ⟨hs,h1,h2⟩
 | fuel+1,lo,hi,hf,hl,hs,h1,h2=>by
  unfold SetTable.below.go
  by_cases c:lo < hi
  ·rw [if_pos c]
   have hm:(lo+hi) / 2 < xs.size:=by omega
   dsimp only
   rw [Array.getD_eq_getD_getElem?,Array.getElem?_eq_getElem hm,Option.getD_some]
   by_cases d:xs[(lo+hi) / 2] < j
   ·rw [if_pos d]
    refine mV ha fuel _ hi (by omega) (by omega) hs (fun i h hx=>?_) h2
    by_cases e:i=(lo+hi) / 2
    ·subst e;exact d
    ·exact Nat.lt_trans (ha.lt (show i < (lo+hi) / 2 by omega) hm) d
   ·rw [if_neg d]
    refine mV ha fuel lo _ (by omega) (by omega) (by omega) h1 (fun i h hx=>?_)
    by_cases e:i=(lo+hi) / 2
    ·subst e;omega
    ·have:=ha.lt (show (lo+hi) / 2 < i by omega) h
     omega
  ·rw [if_neg c]
   obtain rfl:lo=hi:=by omega
   exact ⟨hs,h1,h2⟩
theorem mU {xs:Array Nat} (ha:Asc xs.toList) (j:Nat):SetTable.below xs j≤xs.size∧(∀ i (h:i < xs.size),i < SetTable.below xs j→xs[i] < j)∧(∀ i (h:i < xs.size),SetTable.below xs j≤i→j≤xs[i]):=
 mV ha xs.size 0 xs.size (by omega) (Nat.zero_le _) (Nat.le_refl _) (fun i h z=>by omega) (fun i h z=>by omega)
theorem FL {xs:Array Nat} (ha:Asc xs.toList):SetTable.below xs 0=0:=by
 obtain ⟨h0,h1,_⟩:=mU ha 0
 by_cases c:SetTable.below xs 0=0
 ·exact c
 ·exact absurd (h1 0 (by omega) (by omega)) (Nat.not_lt_zero _)
theorem below_at {xs:Array Nat} (ha:Asc xs.toList) {i:Nat} (hi:i < xs.size):SetTable.below xs (xs[i]+1)=i+1:=by
 obtain ⟨h0,h1,h2⟩:=mU ha (xs[i]+1)
 generalize SetTable.below xs (xs[i]+1)=r at *
 rcases Nat.lt_trichotomy r (i+1) with c | c | c
 ·have:=h2 i hi (by omega);omega
 ·exact c
 ·have a1:=h1 (i+1) (by omega) c
  have a2:=ha.lt (show i < i+1 by omega) (show i+1 < xs.size by omega)
  omega
theorem sD {α : Type} (xs:Array α) (p:Nat) (x : α):(SetTable.insertAt xs p x).toList=xs.toList.take p++x::xs.toList.drop p:=by
 unfold SetTable.insertAt
 simp [List.take_of_length_le]
def Df (xs:Array Nat) (j:Nat):Prop:=xs[SetTable.below xs j]?≠some j
theorem vR {xs:Array Nat} (ha:Asc xs.toList) {j:Nat} (hf:Df xs j):Asc (SetTable.insertAt xs (SetTable.below xs j) j).toList:=by
 obtain ⟨h0,h1,h2⟩:=mU ha j
 have hp:∀ x∈xs.toList.take (SetTable.below xs j),x < j:=fun x hx=>by
  obtain ⟨i,hi,e⟩:=List.getElem_of_mem hx
  rw [List.length_take,Array.length_toList] at hi
  rw [List.getElem_take,Array.getElem_toList] at e
  rw [← e]
  exact h1 i (by omega) (by omega)
 have hq:∀ x∈xs.toList.drop (SetTable.below xs j),j < x:=fun x hx=>by
  obtain ⟨i,hi,e⟩:=List.getElem_of_mem hx
  rw [List.length_drop,Array.length_toList] at hi
  rw [List.getElem_drop,Array.getElem_toList] at e
  rw [← e]
  have hb:SetTable.below xs j < xs.size:=by omega
  have b0:=h2 _ hb (Nat.le_refl _)
  have b1:xs[SetTable.below xs j]≠j:=fun z=>hf (by rw [Array.getElem?_eq_getElem hb,z])
  by_cases c:i=0
  ·subst c
   simp only [Nat.add_zero]
   omega
  ·have:=ha.lt (show SetTable.below xs j < SetTable.below xs j+i by omega) (by omega)
   omega
 rw [sD]
 unfold Asc
 rw [List.pairwise_append]
 refine ⟨ha.sublist (List.take_sublist _ _),List.pairwise_cons.mpr ⟨hq,ha.sublist (List.drop_sublist _ _)⟩,fun a h b h'=>?_⟩
 rcases List.mem_cons.mp h' with rfl | h'
 ·exact hp a h
 ·exact Nat.lt_trans (hp a h) (hq b h')
theorem nY {t:SetTable} {j:Nat} (h:∀ i,t.slot j≠.live i):Df t.place j:=fun e=>by
 unfold SetTable.slot at h
 dsimp only at h
 rw [e,if_pos (by simp)] at h
 exact h _ rfl
theorem jc {t:SetTable} {f:Nat→Int} {h:Int}:∀ (fuel:Nat) (p:SetTable.Probe) (j:Nat) (d:Option Nat),(∀ k,p.dummy=some k→Df t.place k)→SetTable.probe.go t f h fuel p=some (.empty j d)→Df t.place (d.getD j)
 | 0,p,j,d,_,e=>by unfold SetTable.probe.go at e;cases e
 | fuel+1,p,j,d,hp,e=>by
  unfold SetTable.probe.go at e
  have adv:∀ q:SetTable.Probe,(t.advance q).dummy=q.dummy:=fun q=>by unfold SetTable.advance;split <;> rfl
  cases hs:t.slot p.j with
  | empty=>
   rw [hs] at e
   cases e
   cases hd:p.dummy with
   | none=>exact nY fun i z=>by rw [Option.getD_none,hs] at z;cases z
   | some k=>exact hp k hd
  | dummy=>
   rw [hs] at e
   refine jc fuel _ j d (fun k hk=>?_) e
   rw [adv] at hk
   cases hk
   exact nY fun i z=>by rw [hs] at z;cases z
  | live i=>
   rw [hs] at e
   dsimp only at e
   split at e
   ·cases e
   ·exact jc fuel _ j d (fun k hk=>hp k (by rw [adv] at hk;exact hk)) e
theorem zI {t:SetTable} {h:Int} {j:Nat} {b:Bool} (e:t.freeSlot h=some (j,b)):Df t.place j:=by
 unfold SetTable.freeSlot at e
 split at e
 ·rename_i j' d' hq
  cases e
  exact jc _ _ _ _ (fun k hk=>by cases hk) hq
 ·cases e
theorem iY (n:Nat):Asc (Array.range n).toList:=by
 rw [Array.toList_range]
 exact List.pairwise_lt_range
theorem FO {t:SetTable} {es:Array (Int×Value)} {h:Int} {x:Value} (ha:Asc t.place.toList):Asc (layNew t es h x).2.1.place.toList:=by
 unfold layNew
 cases hs:t.freeSlot h with
 | none=>exact iY _
 | some p=>
  obtain ⟨j,b⟩:=p
  dsimp only
  unfold SetTable.orStandIn
  split
  ·exact vR ha (zI hs)
  ·exact iY _
theorem zX (t:SetTable) (es:Array (Int×Value)) (n:Nat):Asc (relayAll t es n).2.1.place.toList:=by
 unfold relayAll
 cases hr:t.relaid (es.map (·.1)) n with
 | none=>exact iY _
 | some p=>
  obtain ⟨t',order⟩:=p
  have e:Asc t'.place.toList:=by
   unfold SetTable.relaid SetTable.laid at hr
   cases hc:SetTable.layClean (SetTable.sizeAbove n - 1) (es.map (·.1)) with
   | none=>rw [hc] at hr;cases hr
   | some ow=>
    rw [hc] at hr
    cases hr
    dsimp only
    unfold Asc
    rw [List.pairwise_map]
    refine List.Pairwise.filterMap _ (R:=(· < ·)) (fun a b hab x hx y hy=>?_) List.pairwise_lt_range
    simp only [Option.mem_def,Option.map_eq_some_iff] at hx hy
    obtain ⟨_,_,rfl⟩:=hx
    obtain ⟨_,_,rfl⟩:=hy
    exact hab
  dsimp only
  split
  ·exact e
  ·exact iY _
section
variable {prog:Program} {w:World} {A:Around} {E:Value→Shared→Prop} {s:Shared}
theorem gP {a:Addr} {sl i ep:Nat} {es:Array (Int×Value)} {t:SetTable} {Q:Option (Value×Nat)→Shared→Prop} (hb:w.params.followText "set-order" = false) (hs:dm s.heap a es ep t) (p6:t.led=true) (h1:(!t.plain && decide (es.size > 1))=false)
  (h:Q (match es[SetTable.below t.place sl]?,t.place[SetTable.below t.place sl]? with | some (_,x),some j=>some (x,j+1) | _,_=>none) s):wpAny (model prog w) A (setNext a sl i ep) Q E s:=by
 unfold setNext
 refine wpAny_bind (cE hs ?_)
 dsimp only
 refine wpAny_bind (iQ ?_)
 rw [hb,if_neg Bool.false_ne_true]
 refine wpAny_mono (Q:=Q) (E:=E) ?_ (fun _ _ h=>h) (fun _ _ h=>h)
 show wpAny _ _ (if (!t.plain && decide (es.size > 1))=true then _ else _) _ _ _
 rw [h1,if_neg Bool.false_ne_true]
 refine wpAny_bind ?_
 show wpAny _ _ (if (!t.led && !es.isEmpty)=true then _ else _) _ _ _
 rw [p6,Bool.not_true,Bool.false_and,if_neg Bool.false_ne_true]
 exact wpAny_pure (wpAny_pure h)
theorem yb (hb:w.params.followText "set-order" = false) (hh:A.handled=none) (I a:Addr) (hne:a≠I) (es:Array (Int×Value)) (ep:Nat) (t:SetTable) (hf:t.fits es.size=true) (p6:t.led=true) (ha:Asc t.place.toList) (h1:(!t.plain && decide (es.size > 1))=false) :
  Walks prog w A I [I,a] [I] es.size (fun i v=>(es.toList.map (·.2))[i]?=some v) (fun i h=>(∃ sl:Nat,fE h I (.int sl 0) i a es.size ep∧SetTable.below t.place sl=i)∧dm h a es ep t) where
 sub:=fun b hb=>by simp at hb;simp [hb]
 frame:=fun _ _ _ st hk=>⟨st.1.elim fun sl x=>⟨sl,x.1.at fun o e=>hk I (by simp) o e,x.2⟩,st.2.at fun o e=>hk a (by simp) o e⟩
 item:=fun i s Q E hi st hQ=>by
  obtain ⟨⟨sl,hit,hbl⟩,hs⟩:=st
  have hpz:t.place.size=es.size:=by
   simp only [SetTable.fits,Bool.and_eq_true,beq_iff_eq] at hf
   exact hf.1
  have hip:i < t.place.size:=by rw [hpz];exact hi
  refine jr (x:=es[i].2) (nx:=t.place[i]+1) hit hs (fun Q E h=>gP hb hs p6 h1 (by rw [hbl,Array.getElem?_eq_getElem hi,Array.getElem?_eq_getElem hip];exact h)) fun h' hit' hs'=>?_
  exact hQ _ h' s.toks (by rw [List.getElem?_map,Array.getElem?_toList,Array.getElem?_eq_getElem hi];rfl) ⟨⟨_,hit',below_at ha hip⟩,hs.at fun o e=>by rw [hs'.2 a hne];exact e⟩ fun b o hb e=>by rw [hs'.2 b (fun h=>hb (by simp [h]))];exact e
 done:=fun s Q E st hQ=>by
  obtain ⟨⟨sl,hit,hbl⟩,hs⟩:=st
  exact kJ hh hit hs (fun Q E h=>gP hb hs p6 h1 (by rw [hbl,Array.getElem?_eq_none (Nat.le_refl _)];exact h)) fun h' he'=>hQ h' s.toks fun b o hb e=>he' b o (fun h=>hb (by simp [h])) e
 self:=fun _ _ _ _ st hQ=>st.1.elim fun sl x=>oX x.1 hQ
theorem qj {a:Addr} {es:Array (Int×Value)} {ep:Nat} {t:SetTable} {Q:List Value→Shared→Prop} (hh:A.handled=none) (hs:dm s.heap a es ep t) (hz:es.size≤sizeLine)
  (hm:w.params.followText "set-order" = false→t.led=true∧Asc t.place.toList)
  (hQ:∀ vals h' d' tk,vals.Perm (es.toList.map (·.2))→s.heap.objs.size < h'.objs.size→(∀ b o,s.heap.get? b=some o→h'.get? b=some o)→Q vals { s with heap:=h',drawn:=d',toks:=tk }) :
  wpAny (model prog w) A (collect (.ref a)) Q E s:=by
 have hla:a < s.heap.objs.size:=by obtain ⟨o,ho,_⟩:=hs;exact Heap.lt_size ho
 have hSa:s.heap.objs.size≠a:=Nat.ne_of_gt hla
 unfold collect
 refine wpAny_bind (wpAny_runValue (codeAny_builtin F.entry_proto_collect ?_))
 rw [Around.under_plainId F.plain_proto_collect _]
 show wpAny _ A.in1 (newList [] >>= fun l=>again (.builtin "list.__iadd__" ⟨[l,.ref a],[]⟩)) _ _ s
 refine wpAny_bind (wpAny_newObj_type ?_)
 refine wpAny_pure ⟨plainId_quiet F.plain_list_iadd _,codeAny_builtin F.entry_list_iadd ?_⟩
 rw [Around.under_plainId F.plain_list_iadd _]
 show wpAny _ A.in1 (Builtin.List.listExtendWith (.ref s.heap.objs.size) (.ref a) (.ref s.heap.objs.size)) _ _ _
 have hsz:(s.heap.push { cls:=.type "list",data:=.seq ([]:List Value).toArray }).objs.size=s.heap.objs.size+1:=Heap.size_push ..
 have hs1:dm (s.heap.push { cls:=.type "list",data:=.seq ([]:List Value).toArray }) a es ep t:=hs.at fun o e=>Heap.get?_push_of_some _ e
 have hS1:(s.heap.push { cls:=.type "list",data:=.seq ([]:List Value).toArray }).get? s.heap.objs.size=some { cls:=.type "list",data:=.seq ([]:List Value).toArray }:=Heap.get?_push_size _ rfl
 have hT:Shared.TypeIs { s with heap:=s.heap.push { cls:=.type "list",data:=.seq ([]:List Value).toArray } } (.ref a) "set" := hs1.typeIs
 have h1:Builtin.List.listSameRef (.ref s.heap.objs.size) (.ref a)=false:=by simp [Builtin.List.listSameRef,hSa]
 unfold Builtin.List.listExtendWith
 refine wpAny_bind (wpAny_typeOf hT ?_)
 rw [if_neg (by rw [h1];decide)]
 refine wpAny_bind (Ds hs1 hz (fun hd=>?_) (fun hd ps d' hp=>?_))
 ·cases hb:w.params.followText "set-order" with
  | true=>
   have W:=ue (prog:=prog) (A:=A.in1) hb hh (s.heap.push { cls:=.type "list",data:=.seq ([]:List Value).toArray }).objs.size a (by rw [hsz];exact Nat.ne_of_lt (Nat.lt_succ_of_lt hla)) es ep t
   refine mQ W hz (fun z=>?_) ⟨⟨_,Heap.get?_push_size _ rfl,rfl,rfl⟩,hs1.at fun o e=>Heap.get?_push_of_some _ e⟩ (Heap.get?_push_of_some _ hS1) ((hs1.at fun o e=>Heap.get?_push_of_some _ e).elim fun o x=>⟨o,x.1,x.2.1⟩) (fun _ h=>⟨plainId_quiet F.plain_extend_loop _,h⟩) (fun s' acc c mv hS' hacc=>?_)
   ·simp only [hsz,List.mem_cons,List.not_mem_nil,or_false] at z
    rcases z with z | z
    ·exact absurd z (Nat.ne_of_lt (Nat.lt_succ_self _))
    ·exact hSa z
   ·show wpAny _ A (load s.heap.objs.size >>= _) _ _ s'
    refine wpAny_bind (wpAny_load hS' (wpAny_pure ?_))
    obtain ⟨h',g',d2,tk',os'⟩:=s'
    obtain rfl:g'=s.gens:=mv.gens
    obtain rfl:os'=s.os:=mv.os
    refine hQ _ h' d2 tk' ?_ (Heap.lt_size hS') fun b o e=>mv.heap b o (fun z=>?_) (Heap.get?_push_of_some _ (Heap.get?_push_of_some _ e))
    ·have pp:=(jX (w.params.setOrder a ep) es).map (·.2)
     rw [mC hacc (by rw [pp.length_eq,List.length_map,Array.length_toList])]
     exact pp
    ·have hb1:=Heap.lt_size e
     simp only [hsz,List.mem_cons,List.not_mem_nil,or_false] at z
     rcases z with z | z
     ·exact absurd z (Nat.ne_of_lt hb1)
     ·exact absurd z (Nat.ne_of_lt (Nat.lt_succ_of_lt hb1))
  | false=>
   have h2:(!t.plain && decide (es.size > 1))=false:=by rw [hb] at hd;simpa using hd
   have hf:t.fits es.size=true:=hs.elim fun o x=>x.2.2.2
   obtain ⟨hl,ha⟩:=hm hb
   have W:=yb (prog:=prog) (A:=A.in1) hb hh (s.heap.push { cls:=.type "list",data:=.seq ([]:List Value).toArray }).objs.size a (by rw [hsz];exact Nat.ne_of_lt (Nat.lt_succ_of_lt hla)) es ep t hf hl ha h2
   refine mQ W hz (fun z=>?_) ⟨⟨0,⟨_,Heap.get?_push_size _ rfl,rfl,rfl⟩,FL ha⟩,hs1.at fun o e=>Heap.get?_push_of_some _ e⟩ (Heap.get?_push_of_some _ hS1) ((hs1.at fun o e=>Heap.get?_push_of_some _ e).elim fun o x=>⟨o,x.1,x.2.1⟩) (fun _ h=>⟨plainId_quiet F.plain_extend_loop _,h⟩) (fun s' acc c mv hS' hacc=>?_)
   ·simp only [hsz,List.mem_cons,List.not_mem_nil,or_false] at z
    rcases z with z | z
    ·exact absurd z (Nat.ne_of_lt (Nat.lt_succ_self _))
    ·exact hSa z
   ·show wpAny _ A (load s.heap.objs.size >>= _) _ _ s'
    refine wpAny_bind (wpAny_load hS' (wpAny_pure ?_))
    obtain ⟨h',g',d2,tk',os'⟩:=s'
    obtain rfl:g'=s.gens:=mv.gens
    obtain rfl:os'=s.os:=mv.os
    refine hQ _ h' d2 tk' ?_ (Heap.lt_size hS') fun b o e=>mv.heap b o (fun z=>?_) (Heap.get?_push_of_some _ (Heap.get?_push_of_some _ e))
    ·rw [mC hacc (by rw [List.length_map,Array.length_toList])]
    ·have hb1:=Heap.lt_size e
     simp only [hsz,List.mem_cons,List.not_mem_nil,or_false] at z
     rcases z with z | z
     ·exact absurd z (Nat.ne_of_lt hb1)
     ·exact absurd z (Nat.ne_of_lt (Nat.lt_succ_of_lt hb1))
 ·have hsT:((s.heap.push { cls:=.type "list",data:=.seq ([]:List Value).toArray }).push { cls:=.type "tuple",data:=.seq ((ps.map fun (i:Nat)=>Value.int i 0).toArray) }).objs.size=s.heap.objs.size+1+1:=by rw [Heap.size_push,hsz]
  have W:=qS (prog:=prog) (w:=w) (A:=A.in1) hh ((s.heap.push { cls:=.type "list",data:=.seq ([]:List Value).toArray }).objs.size+1) a (s.heap.push { cls:=.type "list",data:=.seq ([]:List Value).toArray }).objs.size (by rw [hsz];exact Nat.ne_of_lt (Nat.lt_succ_of_lt (Nat.lt_succ_of_lt hla))) (Nat.ne_of_lt (Nat.lt_succ_self _)) es ep t ps hp
  have hI:=Heap.get?_push_size ((s.heap.push { cls:=.type "list",data:=.seq ([]:List Value).toArray }).push { cls:=.type "tuple",data:=.seq ((ps.map fun (i:Nat)=>Value.int i 0).toArray) }) (o:={ cls:=.type "set_iterator",data:=.fields #[.ref (s.heap.push { cls:=.type "list",data:=.seq ([]:List Value).toArray }).objs.size,.int (0:Nat) 0,.ref a,.int es.size 0,.int ep 0] }) rfl
  rw [hsT,← hsz] at hI
  refine mQ W hz (fun z=>?_) ⟨⟨_,hI,rfl,rfl⟩,hs1.at fun o e=>Heap.get?_push_of_some _ (Heap.get?_push_of_some _ e),⟨_,_,Heap.get?_push_of_some _ (Heap.get?_push_size _ rfl),rfl⟩⟩ (Heap.get?_push_of_some _ (Heap.get?_push_of_some _ hS1)) ((hs1.at fun o e=>Heap.get?_push_of_some _ (Heap.get?_push_of_some _ e)).elim fun o x=>⟨o,x.1,x.2.1⟩) (fun _ h=>⟨plainId_quiet F.plain_extend_loop _,h⟩) (fun s' acc c mv hS' hacc=>?_)
  ·simp only [hsz,List.mem_cons,List.not_mem_nil,or_false] at z
   rcases z with z | z | z
   ·exact absurd z (Nat.ne_of_lt (Nat.lt_succ_of_lt (Nat.lt_succ_self _)))
   ·exact hSa z
   ·exact absurd z (Nat.ne_of_lt (Nat.lt_succ_self _))
  ·show wpAny _ A (load s.heap.objs.size >>= _) _ _ s'
   refine wpAny_bind (wpAny_load hS' (wpAny_pure ?_))
   obtain ⟨h',g',d2,tk',os'⟩:=s'
   obtain rfl:g'=s.gens:=mv.gens
   obtain rfl:os'=s.os:=mv.os
   refine hQ _ h' d2 tk' ?_ (Heap.lt_size hS') fun b o e=>mv.heap b o (fun z=>?_) (Heap.get?_push_of_some _ (Heap.get?_push_of_some _ (Heap.get?_push_of_some _ e)))
   ·rw [mC hacc (by rw [List.length_map,hp.length_eq,List.length_range]),← uL]
    exact hp.map _
   ·have hb1:=Heap.lt_size e
    simp only [hsz,List.mem_cons,List.not_mem_nil,or_false] at z
    rcases z with z | z
    ·exact absurd z (Nat.ne_of_lt hb1)
    ·exact absurd z (Nat.ne_of_lt (Nat.lt_succ_of_lt (Nat.lt_succ_of_lt hb1)))
end
def lq (h:Heap) (a:Addr) (led:Bool):Prop:=∃ o es ep t,h.get? a=some o∧o.data = .set es ep t∧t.led=led∧Asc t.place.toList
theorem n8 {h h':Heap} {a:Addr} {led:Bool} (x:lq h a led) (k:∀ o,h.get? a=some o→h'.get? a=some o):lq h' a led:=let ⟨o,es,ep,t,ho,r⟩:=x;⟨o,es,ep,t,k o ho,r⟩
def bK:List Int→List Int→List Int
 | acc,[]=>acc
 | acc,x::xs=>bK (if x∈acc then acc else acc++[x]) xs
theorem m9:∀ (xs ys acc:List Int),bK acc (xs++ys)=bK (bK acc xs) ys
 | [],_,_=>rfl
 | x::xs,ys,acc=>m9 xs ys _
theorem kT {xs:List Int} {i:Nat} {x:Int} (h:xs[i]?=some x):bK [] (xs.take (i+1))=if x∈bK [] (xs.take i) then bK [] (xs.take i) else bK [] (xs.take i)++[x]:=by
 rw [List.take_add_one,h,m9];rfl
theorem jo:∀ (xs acc:List Int),(bK acc xs).length≤acc.length+xs.length
 | [],acc=>by simp [bK]
 | x::xs,acc=>by
  have:=jo xs (if x∈acc then acc else acc++[x])
  show (bK (if x∈acc then acc else acc++[x]) xs).length≤_
  by_cases c:x∈acc
  ·rw [if_pos c] at this ⊢;rw [List.length_cons];omega
  ·rw [if_neg c,List.length_append,List.length_singleton] at this;rw [if_neg c,List.length_cons];omega
theorem lW {prog:Program} {w:World} {S:Addr} {h h':Heap} {f:Int→Bool} {c:Nat} (hS:h.SetOf (intKind prog w) S f c) (k:∀ o,h.get? S=some o→h'.get? S=some o):h'.SetOf (intKind prog w) S f c:=by
 obtain ⟨o,es,ep,t,ho,r⟩:=hS
 exact ⟨o,es,ep,t,k o ho,r⟩
section
variable {prog:Program} {w:World} {A:Around} {E:Value→Shared→Prop} {s:Shared}
theorem nV {h:Heap} {a:Addr} {o:Obj} {es es':Array (Int×Value)} {ep:Nat} {t t':SetTable} {led:Bool} (ho:h.get? a=some o) (hd:o.data = .set es ep t) (hl:t'.led=led) (hp:Asc t'.place.toList):lq (h.update a (Obj.putSet es' t')) a led:=by
 refine ⟨_,es',ep+1,t',Heap.get?_update_self (Obj.putSet es' t') ho (by rw [putSet_of es' t' hd];rfl),?_,hl,hp⟩
 rw [putSet_of es' t' hd]
theorem oO {g:Bool→Sem Unit} (hg:∀ (b:Bool) (s1:Shared) (Q':Unit→Shared→Prop),Q' () s1→wpAny (model prog w) A (g b) Q' E s1) {a:Addr} {o:Obj} {es es1:Array (Int×Value)} {ep:Nat} {t t2:SetTable} {S':Int→Bool} {led wasDummy:Bool} {R:Option Bool→Shared→Prop} (ho:s.heap.get? a=some o) (hex:o.ExactSet) (hd:o.data = .set es ep t)
  (hel1:ElemsOf (intKind prog w) es1.toList) (hmem1:∀ k',S' k'=true↔∃ e∈es1.toList,(intKind prog w).is k' e.2=true) (hb1:es1.size < scanBound) (hf2:t2.fits es1.size=true) (hl:t2.led=led) (hp:Asc t2.place.toList)
  (h:∀ h',Heap.SameBut a s.heap h'→h'.SetOf (intKind prog w) a S' es1.size→lq h' a led→R (some true) { s with heap:=h' }) :
  wpAny (model prog w) A (do
    storeSet a es1 t2
    if (!wasDummy && t2.tooFull)=true then do
      g (relayAll t2 es1 (SetTable.grown es1.size)).2.2
      storeSet a (relayAll t2 es1 (SetTable.grown es1.size)).1 (relayAll t2 es1 (SetTable.grown es1.size)).2.1
      pure (some true)
     else pure (some true)) R E s:=by
 refine wpAny_bind (wpAny_storeSet_of ho hd ?_ (fits_of_scanBound hb1))
 obtain ⟨ho1,hS1⟩:=SetOf_store (knd:=intKind prog w) ho hex hd hel1 hmem1 hb1 hf2
 have sb1:=Heap.SameBut.update s.heap a (Obj.putSet es1 t2)
 split
 ·have pp:=relayAll_perm t2 es1 (SetTable.grown es1.size)
  have ff:=relayAll_fits t2 es1 (SetTable.grown es1.size)
  have ll:=yU t2 es1 (SetTable.grown es1.size)
  have la:=zX t2 es1 (SetTable.grown es1.size)
  generalize relayAll t2 es1 (SetTable.grown es1.size)=r at pp ff ll la ⊢
  obtain ⟨es2,t3,gv⟩:=r
  dsimp only at pp ff ll la ⊢
  have hz:es2.size=es1.size:=by rw [← Array.length_toList,pp.length_eq,Array.length_toList]
  have hb2:es2.size < scanBound:=by rw [hz];exact hb1
  refine wpAny_bind (hg _ _ _ (wpAny_bind (wpAny_storeSet_of ho1 rfl ?_ (fits_of_scanBound hb2))))
  have hS2:=(SetOf_store (knd:=intKind prog w) (S':=S') ho1 hex rfl (hel1.perm pp) (fun k'=>(hmem1 k').trans ⟨fun ⟨e,he,q⟩=>⟨e,pp.mem_iff.mpr he,q⟩,fun ⟨e,he,q⟩=>⟨e,pp.mem_iff.mp he,q⟩⟩) hb2 ff).2
  rw [hz] at hS2
  exact wpAny_pure (h _ (sb1.trans (Heap.SameBut.update _ a _)) hS2 (nV ho1 rfl (ll.1.trans hl) la))
 ·exact wpAny_pure (h _ sb1 hS1 (nV ho hd hl hp))
theorem add_int {a:Addr} {S:Int→Bool} {n:Nat} {x:Int} {tk:Tok} {led:Bool} {Q:Bool→Shared→Prop} (hS:s.heap.SetOf (intKind prog w) a S n) (hL:lq s.heap a led) (hroom:n+1 < scanBound)
  (h:∀ h',Heap.SameBut a s.heap h'→h'.SetOf (intKind prog w) a (fun k'=>S k' || decide (k'=x)) (if S x then n else n+1)→lq h' a led→Q (!S x) { s with heap:=h' }) :
  wpAny (model prog w) A (setAddHashed a (.int x tk) ((intKind prog w).hash x)) Q E s:=by
 have hkey:(intKind prog w).is x (.int x tk)=true:=intKind_is _ _ _ _
 have hsc:(Value.int x tk).scannable=true:=rfl
 obtain ⟨o,es,ep,t,ho,hex,hd,hel,hmem,hb,hf,hn⟩:=id hS
 obtain ⟨htl,hta⟩:t.led=led∧Asc t.place.toList:=by
  obtain ⟨o',es',ep',t',ho',hd',hl⟩:=hL
  rw [ho] at ho';cases ho'
  rw [hd] at hd';cases hd'
  exact hl
 unfold setAddHashed setAddHashedIn
 refine wpAny_holding (wpAny_bind (wpAny_setState_of ho hd hf ?_))
 dsimp only
 rw [byScan_of hsc hb hel,if_pos rfl]
 unfold setAddByScan
 refine wpAny_bind (wpAny_bind (wpAny_rule (wpAny_bind (wpAny_setScan_of hkey ho hd hf hel ?_))))
 cases hr:List.findIdx? (fun e=>(intKind prog w).is x e.2) es.toList with
 | some j=>
  obtain ⟨hj,hpj,_⟩:=List.findIdx?_eq_some_iff_getElem.mp hr
  have hSk:S x=true:=(hmem x).mpr ⟨es.toList[j],List.getElem_mem hj,hpj⟩
  refine wpAny_pure (wpAny_pure ?_)
  have:=h s.heap (Heap.SameBut.refl a s.heap) (SetOf_congr hS (fun k'=>?_) (by rw [hSk];rfl)) hL
  ·rw [hSk] at this;exact this
  ·by_cases e:k'=x
   ·rw [e,hSk];rfl
   ·rw [decide_eq_false e,Bool.or_false]
 | none=>
  have hSk:S x=false:=by
   cases hk:S x with
   | false=>rfl
   | true=>
    obtain ⟨e,he,hp⟩:=(hmem x).mp hk
    have:=List.findIdx?_eq_none_iff.mp hr e he
    rw [hp] at this;cases this
  have oA:=layNew_perm t es ((intKind prog w).hash x) (.int x tk)
  have xC:=layNew_fits t es ((intKind prog w).hash x) (.int x tk)
  have p6:=EN t es ((intKind prog w).hash x) (.int x tk)
  have hasc:=FO (es:=es) (h:=(intKind prog w).hash x) (x:=.int x tk) hta
  dsimp only
  generalize hL1:layNew t es ((intKind prog w).hash x) (.int x tk)=L1 at oA xC p6 hasc ⊢
  obtain ⟨es1,t1,wasDummy,gave⟩:=L1
  dsimp only at oA xC p6 hasc ⊢
  rw [Array.toList_push] at oA
  have hel1:=(hel.push hkey hsc).perm oA
  have hmem1:∀ k',(S k' || decide (k'=x))=true↔∃ e∈es1.toList,(intKind prog w).is k' e.2=true:=mem_push_iff hkey hmem oA
  have hsz1:es1.size=n+1:=by rw [← Array.length_toList,oA.length_eq,List.length_append,Array.length_toList,hn];rfl
  have hb1:es1.size < scanBound:=by rw [hsz1];exact hroom
  have hend:∀ h',Heap.SameBut a s.heap h'→h'.SetOf (intKind prog w) a (fun k'=>S k' || decide (k'=x)) es1.size→lq h' a led→Q true { s with heap:=h' }:=fun h' q1 q2 q3=>by
   have:=h h' q1
   rw [hSk,← hsz1] at this
   exact this q2 q3
  have hgw:∀ (b:Bool) (s1:Shared) (Q':Unit→Shared→Prop),Q' () s1→wpAny (model prog w) A (match b with | true=>rule "set.scan.the-table-gave-way" | false=>pure ()) Q' E s1:=fun b s1 Q' hq=>by cases b <;> first | exact wpAny_pure hq | exact wpAny_rule hq
  refine wpAny_bind (hgw _ _ _ ?_)
  split
  ·refine wpAny_bind ?_
   rw [hashByValue_scannable 8 hsc]
   refine wpAny_pure ?_
   rw [show plainKind (Value.int x tk)=true from rfl,if_pos rfl]
   exact oO (t2:=t1) hgw ho hex hd hel1 hmem1 hb1 xC (p6.trans htl) hasc fun h' q1 q2 q3=>wpAny_pure (hend h' q1 q2 q3)
  ·refine wpAny_bind (wpAny_pure ?_)
   rw [if_pos rfl]
   exact oO (t2:=t1) hgw ho hex hd hel1 hmem1 hb1 xC (p6.trans htl) hasc fun h' q1 q2 q3=>wpAny_pure (hend h' q1 q2 q3)
end
section
variable {prog:Program} {w:World} {A:Around} {E:Value→Shared→Prop} {s:Shared} {R:Result→Shared→Prop} {I S:Addr} {fp wr:List Addr} {G:Array GenState→Array GenState→Prop} {P:Nat→Value→Prop} {St:Nat→Shared→Prop} {xs:List Int}
theorem DI {led:Bool} (W:WalksS prog w A.in1 I fp wr G xs.length P St) (hSf:S∉fp) (hval:∀ i v,P i v→∃ x t,xs[i]?=some x∧v = .int x t) (hb:xs.length+1 < scanBound) :
  ∀ (r i:Nat) (s:Shared),xs.length - i=r→i≤xs.length→St i s→s.heap.SetOf (intKind prog w) S (fun k=>decide (k∈bK [] (xs.take i))) (bK [] (xs.take i)).length→lq s.heap S led →
   (∀ s',Moved (S::wr) G s s'→s'.heap.SetOf (intKind prog w) S (fun k=>decide (k∈bK [] xs)) (bK [] xs).length→lq s'.heap S led→R (.ok (.ret .none)) s') →
   codeAny (model prog w) A (.builtin "set.update.loop" ⟨[.ref S,.ref I],[]⟩) R s:=by
 have hSw:S∉wr:=fun h=>hSf (W.sub _ h)
 have up:∀ b∈wr,b∈S::wr:=fun b hb=>List.mem_cons_of_mem _ hb
 intro r
 induction r with
 | zero=>
  intro i s hr hi st hS hL k
  obtain rfl:i=xs.length:=by omega
  rw [List.take_length] at hS
  refine codeAny_builtin F.entry_set_update_loop ?_
  rw [Around.under_plainId F.plain_set_update_loop _]
  show wpAny _ A.in1 (pyNext (.ref I) >>= _) _ _ s
  refine wpAny_bind (W.done s _ _ st fun s' hm=>?_)
  exact wpAny_pure (k s' (hm.mono up) (lW hS fun o e=>hm.heap S o hSw e) (n8 hL fun o e=>hm.heap S o hSw e))
 | succ r ih=>
  intro i s hr hi st hS hL k
  have hlt:i < xs.length:=by omega
  refine codeAny_builtin F.entry_set_update_loop ?_
  rw [Around.under_plainId F.plain_set_update_loop _]
  show wpAny _ A.in1 (pyNext (.ref I) >>= _) _ _ s
  refine wpAny_bind (W.item i s _ _ hlt st fun v s1 hP st1 hm=>?_)
  obtain ⟨x,t,hx,rfl⟩:=hval i v hP
  have hS1:=lW hS fun o e=>hm.heap S o hSw e
  have hL1:=n8 hL fun o e=>hm.heap S o hSw e
  have hl:=jo (xs.take i) []
  rw [List.length_take] at hl
  show wpAny _ A.in1 (holding [Value.int x t] (setAdd S (.int x t)) >>= _) _ _ s1
  refine wpAny_bind (wpAny_holding ?_)
  unfold setAdd
  refine wpAny_holding (wpAny_bind ((intKind prog w).pyHash (k:=x) (intKind_is _ _ _ _) ?_))
  refine add_int (s:={ s1 with toks:=s1.toks+1 }) hS1 hL1 (by simp at hl;omega) fun h2 same hS2 hL2=>?_
  have hS3:h2.SetOf (intKind prog w) S (fun k=>decide (k∈bK [] (xs.take (i+1)))) (bK [] (xs.take (i+1))).length:=by
   refine SetOf_congr hS2 (fun k'=>?_) ?_
   ·rw [kT hx]
    by_cases c:x∈bK [] (xs.take i)
    ·rw [if_pos c]
     by_cases e:k'=x
     ·subst e;simp [c]
     ·simp [e]
    ·rw [if_neg c];simp [List.mem_append]
   ·rw [kT hx]
    by_cases c:x∈bK [] (xs.take i)
    ·rw [if_pos c,if_pos (decide_eq_true c)]
    ·rw [if_neg c,if_neg (by rw [decide_eq_false c];exact Bool.false_ne_true),List.length_append,List.length_singleton]
  refine wpAny_pure ⟨plainId_quiet F.plain_set_update_loop _,ih (i+1) _ (by omega) hlt (W.frame _ s1 _ _ st1 (Nat.le_succ _) fun b hb o e=>?_) hS3 hL2 fun s' hm' hS' hL'=>?_⟩
  ·rw [same.2 b (fun h:b=S=>hSf (by rw [← h];exact hb))];exact e
  ·refine k s' (Moved.trans W.gtrans ((hm.mono up).then_heap (Nat.le_succ _) fun b o hb e=>?_) hm') hS' hL'
   rw [same.2 b (fun h:b=S=>hb (by rw [h];exact List.mem_cons_self))];exact e
end
theorem m8:∀ (xs acc:List Int) (x:Int),x∈bK acc xs↔x∈acc∨x∈xs
 | [],acc,x=>by simp [bK]
 | y::xs,acc,x=>by
  show x∈bK (if y∈acc then acc else acc++[y]) xs↔_
  rw [m8 xs]
  by_cases c:y∈acc
  ·rw [if_pos c,List.mem_cons]
   refine ⟨fun h=>h.elim .inl fun h=>.inr (.inr h),fun h=>h.elim .inl fun h=>h.elim (fun e=>.inl (e▸c)) .inr⟩
  ·rw [if_neg c,List.mem_append,List.mem_singleton,List.mem_cons,or_assoc]
theorem eX:∀ (xs acc:List Int),acc.Nodup→(bK acc xs).Nodup
 | [],acc,h=>h
 | y::xs,acc,h=>by
  show (bK (if y∈acc then acc else acc++[y]) xs).Nodup
  by_cases c:y∈acc
  ·rw [if_pos c];exact eX xs acc h
  ·rw [if_neg c]
   refine eX xs _ (List.nodup_append.mpr ⟨h,by simp,fun a ha b hb z=>c ?_⟩)
   rw [List.mem_singleton.mp hb] at z
   exact z▸ha
theorem oz:∀ (l:List Value),(∀ v∈l,∃ x t,v = .int x t)→∃ ss,IntsAre l ss
 | [],_=>⟨[],.nil⟩
 | v::l,h=>by
  obtain ⟨ss,hs⟩:=oz l fun u hu=>h u (List.mem_cons_of_mem _ hu)
  obtain ⟨x,t,rfl⟩:=h v List.mem_cons_self
  exact ⟨x::ss,.cons x t hs⟩
theorem sy:∀ {l:List Value} {ss:List Int} {x:Int} {t:Tok},IntsAre l ss→Value.int x t∈l→x∈ss
 | _,_,x,t,.nil,h=>by simp at h
 | _,_,x,t,.cons y u r,h=>by
  rcases List.mem_cons.mp h with h | h
  ·cases h;exact List.mem_cons_self
  ·exact List.mem_cons_of_mem _ (sy r h)
theorem ints_length:∀ {l:List Value} {ss:List Int},IntsAre l ss→l.length=ss.length
 | _,_,.nil=>rfl
 | _,_,.cons _ _ r=>by rw [List.length_cons,List.length_cons,ints_length r]
structure qH (xs ms:List Int):Prop where
 lt:ms.Pairwise (· < ·)
 mem:∀ x,x∈ms↔x∈xs
theorem yC {xs ms:List Int} (hp:ms.Perm (bK [] xs)) (hs:ms.Pairwise (·≤·)):qH xs ms:=by
 have nd:ms.Nodup:=hp.nodup_iff.mpr (eX xs [] List.nodup_nil)
 refine ⟨?_,fun x=>by rw [hp.mem_iff,m8];simp⟩
 refine (List.pairwise_and_iff.mpr ⟨hs,nd⟩).imp fun h=>?_
 have h1:=h.1
 have h2:=h.2
 omega
section
variable {prog:Program} {w:World} {A:Around} {E:Value→Shared→Prop} {s:Shared}
theorem yy {a:Addr} {ws:List Int} {Q:Value→Shared→Prop} (hh:A.handled=none) (hS:s.heap.SetOf (intKind prog w) a (fun k=>decide (k∈ws)) ws.length) (hL:lq s.heap a (!w.params.followText "set-order")) (hnd:ws.Nodup) (h64:ws.length < 64)
  (h:∀ (h':Heap) (l:Addr) d' tk (out:List Value) (ms:List Int) (e:Nat),s.heap.objs.size≤l→h'.get? l=some (seqObj "list" out.toArray e)→IntsAre out ms→ms.Perm ws→ms.Pairwise (·≤·)→(∀ b o,s.heap.get? b=some o→h'.get? b=some o)→Q (.ref l) { s with heap:=h',drawn:=d',toks:=tk }) :
  wpAny (model prog w) A (call (.builtin "sorted") [.ref a]) Q E s:=by
 obtain ⟨o,es,ep,t,ho,hex,hd,hel,hmem,hb,hf,hn⟩:=id hS
 have hs:dm s.heap a es ep t:=⟨o,ho,hex.1,hd,hf⟩
 have hm:w.params.followText "set-order" = false→t.led=true∧Asc t.place.toList:=fun hb=>by
  obtain ⟨o',es',ep',t',ho',hd',hl,hp⟩:=hL
  rw [ho] at ho';cases ho'
  rw [hd] at hd';cases hd'
  exact ⟨by rw [hl,hb];rfl,hp⟩
 refine Calls.call_function_entry kind_sorted plain_sorted entry_sorted (args_sorted1 _) ?_
 unfold Builtin.«sorted»
 refine wpAny_bind (m:=checkCount "sorted" 1 1 _) (wpAny_pure ?_)
 refine wpAny_bind (qj (by exact hh) hs (by rw [hn,sizeLine_eq];omega) hm fun vals h1 d1 tk1 hpv hlt1 hk1=>?_)
 obtain ⟨ss1,hs1⟩:=oz vals fun v hv=>by
  obtain ⟨e,he,rfl⟩:=List.mem_map.mp (hpv.mem_iff.mp hv)
  obtain ⟨⟨k,hk,_⟩,_⟩:=hel e he
  obtain ⟨u,hu⟩:=Value.isInt_shape hk
  exact ⟨k,u,hu⟩
 have hp1:ss1.Perm ws:=by
  refine rO hnd (fun x hx=>?_) ?_
  ·obtain ⟨e,he,hk⟩:=(hmem x).mp (decide_eq_true hx)
   obtain ⟨u,hu⟩:=Value.isInt_shape hk
   exact sy hs1 (hpv.mem_iff.mpr (List.mem_map.mpr ⟨e,he,hu⟩))
  ·rw [← ints_length hs1,hpv.length_eq,List.length_map,Array.length_toList,hn]
 have hl1:vals.length < 64:=by rw [ints_length hs1,hp1.length_eq];exact h64
 refine wpAny_bind (wpAny_newList ?_ (by rw [sizeLine_eq];omega))
 have hoL:(h1.push (seqObj "list" vals.toArray 0)).get? h1.objs.size=some (seqObj "list" vals.toArray 0):=Heap.get?_push_size _ rfl
 show wpAny _ _ _ _ _ { s with heap:=h1.push (seqObj "list" vals.toArray 0),drawn:=d1,toks:=tk1 }
 refine wpAny_bind (wpAny_holding (wpAny_call_entry slot_list_sort ⟨_,hoL,rfl⟩ entry_list_sort (list_sort_tree hoL hs1 hl1 fun out ms a1 a2 a3=>⟨_,rfl,?_⟩) (args_list_sort _)))
 obtain ⟨e,he⟩:=sortedHeap_at (vs:=vals) (out:=out) hoL
 refine wpAny_pure ⟨_,rfl,h _ _ d1 tk1 out.toList ms e (Nat.le_of_lt hlt1) (by rw [Array.toArray_toList];exact he) a1 (a2.trans hp1) a3 fun b o hb=>?_⟩
 have hb1:=hk1 b o hb
 have hlt:=Heap.lt_size hb1
 rw [sortedHeap_old (Nat.ne_of_lt hlt) (by rw [size_push'];exact Nat.lt_succ_of_lt hlt),Heap.get?_push_ne _ _ _ (Nat.ne_of_lt hlt)]
 exact hb1
end
section
variable {prog:Program} {w:World} {A:Around} {E:Value→Shared→Prop} {s:Shared} {R:Result→Shared→Prop} {I S:Addr} {fp wr:List Addr} {G:Array GenState→Array GenState→Prop} {P:Nat→Value→Prop} {St:Nat→Shared→Prop} {xs:List Int}
set_option maxRecDepth 100000 in
set_option maxHeartbeats 3200000 in
theorem AZ {l:Addr} {items:Array Value} {Q:Value→Shared→Prop} (hh:A.handled=none) (hl:s.heap.IsTuple l items) (hn:items.size=xs.length) (hi:∀ (i:Nat) (v:Value),items[i]?=some v→∃ x t,xs[i]?=some x∧v=Value.int x t) (hb:xs.length+1 < scanBound)
  (h:∀ (h':Heap) (tk:Nat),h'.SetOf (intKind prog w) s.heap.objs.size (fun k=>decide (k∈bK [] xs)) (bK [] xs).length→lq h' s.heap.objs.size (!w.params.followText "set-order")→(∀ b o,s.heap.get? b=some o→h'.get? b=some o)→Q (.ref s.heap.objs.size) { s with heap:=h',toks:=tk }) :
  wpAny (model prog w) A (call (.type "set") [.ref l]) Q E s:=by
 obtain ⟨c,tl,hmro⟩:=F.called_set.mro
 have hmade:=F.called_set.made
 have hsub:=F.called_set.sub
 have h1:=F.called_set.notType
 have h2:=F.called_set.canCreate
 have hct:=F.typeCall_set_1 (.ref l)
 refine wpAny_call (codeAny_of_tree ?_)
 show wpAny _ _ (callAny (.type "set") _) _ _ _
 refine wpAny_pure ⟨Code.quiet_builtin _ (by decide +kernel),codeAny_builtin F.entry_type_call ?_⟩
 rw [Around.under_plain (weight_type_call_type "set" [.ref l] []) rfl]
 repeat (any_goals (first | assumption | wp_step))
 refine codeAny_mono (rB (.ref l) (E:=E) (Q1:=fun obj s₁=>∃ led:Bool,led=(!w.params.followText "set-order")∧obj = .ref s.heap.objs.size∧s₁={ s with heap:=s.heap.push { cls:=.type "set",dict:=none,data:=.set #[] 0 (.fresh 0 0 led) } }) ⟨_,rfl,rfl,rfl⟩) fun r s₁ hr=>?_
 rcases r with e | fl
 ·exact hr
 cases fl with
 | ret obj=>
  obtain ⟨led,eled,rfl,rfl⟩:=hr
  generalize ho:({ cls:=.type "set",dict:=none,data:=.set #[] 0 (.fresh 0 0 led) }:Obj)=so at *
  have hS:(s.heap.push so).get? s.heap.objs.size=some so:=Heap.get?_push_size _ (by rw [← ho];rfl)
  have hT:Shared.TypeIs { s with heap:=s.heap.push so } (.ref s.heap.objs.size) "set" := ⟨_,hS,by rw [← ho]⟩
  have hli:=F.called_set.init.lookup
  have hbi:=F.called_set.init.bind (.ref s.heap.objs.size)
  repeat (any_goals (first | assumption | wp_step))
  refine codeAny_mono (codeAny_call_builtin (R:=wants (fun r s₂=>r = .none∧∃ h' tk,s₂={ s with heap:=h',toks:=tk }∧h'.SetOf (intKind prog w) s.heap.objs.size (fun k=>decide (k∈bK [] xs)) (bK [] xs).length∧lq h' s.heap.objs.size led∧∀ b o,s.heap.get? b=some o→h'.get? b=some o) E) F.called_set.init.plain F.entry_set_init (check_set_init_1 hT ?_)) fun r₂ s₂ hr₂=>?_
  ·have hlS:l < s.heap.objs.size:=by obtain ⟨_,e,_⟩:=hl;exact Heap.lt_size e
   subst ho
   have hl1:=hl.push { cls:=.type "set",dict:=none,data:=.set #[] 0 (.fresh 0 0 led) }
   obtain ⟨⟨lc,ld,ldat,lsl⟩,e1,e2,nl,e3⟩:=id hl1
   simp only at e2 e3
   subst e2 e3
   have L0:=F.sub_tuple_set
   have L5:=F.sub_tuple_frozenset
   have hne:(Value.type "tuple" == Value.type "dict")=false:=by decide
   unfold Builtin.«set.__init__» noKeywords Builtin.Frozenset.updateFrom
   generalize hPI:pyIter=PI
   wp_walk
   subst hPI
   refine wpAny_pyIter_tuple hl1 ?_
   refine wpAny_bind (wpAny_runValue ?_)
   have hsz:(s.heap.push { cls:=.type "set",dict:=none,data:=.set #[] 0 (.fresh 0 0 led) }).objs.size=s.heap.objs.size+1:=Heap.size_push ..
   have W:=(Walks.tuple (prog:=prog) (w:=w) (A:=A.in1.in1.in1) (by simp [hh]) (s.heap.push { cls:=.type "set",dict:=none,data:=.set #[] 0 (.fresh 0 0 led) }).objs.size l (by rw [hsz];exact Nat.ne_of_lt (Nat.lt_succ_of_lt hlS)) items).toS
   rw [hn] at W
   refine DI (led:=led) (xs:=xs) W (by rw [hsz];simp only [List.mem_cons,List.not_mem_nil,or_false,not_or];exact ⟨Nat.ne_of_lt (Nat.lt_succ_self _),Nat.ne_of_gt hlS⟩) (fun i v hv=>hi i v hv) hb _ 0 _ rfl (Nat.zero_le _) ⟨⟨_,Heap.get?_push_size _ rfl,rfl,rfl⟩,hl1.push _⟩ ?_ ⟨_,_,_,_,Heap.get?_push_of_some _ hS,rfl,rfl,List.Pairwise.nil⟩ fun s' hm hS' hL'=>?_
   ·exact SetOf_congr ((setObjOf_fresh (knd:=intKind prog w) led).setOf (Heap.get?_push_of_some _ hS) (by unfold scanBound;decide)) (fun _=>rfl) rfl
   ·obtain ⟨h',g',d',tk',os'⟩:=s'
    obtain rfl:g'=s.gens:=hm.gens
    obtain rfl:d'=s.drawn:=hm.drawn
    obtain rfl:os'=s.os:=hm.os
    refine wpAny_pure (wpAny_pure ⟨rfl,h',tk',rfl,hS',hL',fun b o e=>?_⟩)
    have hb1:=Heap.lt_size e
    exact hm.heap b o (by rw [hsz];simp only [List.mem_cons,List.not_mem_nil,or_false,not_or];exact ⟨Nat.ne_of_lt hb1,Nat.ne_of_lt (Nat.lt_succ_of_lt hb1)⟩) (Heap.get?_push_of_some _ (Heap.get?_push_of_some _ e))
  ·rcases r₂ with e | fl₂
   ·exact hr₂
   cases fl₂ with
   | ret r=>
    obtain ⟨rfl,h',tk,rfl,hS',hL',hk'⟩:=hr₂
    repeat (any_goals (first | assumption | wp_step))
    exact h _ _ hS' (eled▸hL') hk'
   | _=>exact hr₂.elim
 | _=>exact hr.elim
end
def jV (K:PySem.W.Frag) (x:V) (H:Hp) (Q:VK):Prop:=∃ (a:Addr) (xs:List Int),x = .ref a∧SqT K H a (xs.map V.int)∧xs.length < 64∧∀ (l:Addr) (ms:List Int),H l=none→qH xs ms→ms.length≤xs.length→Q (.ref l) (upd H l (.lst (ms.map V.int)))
def nU (K:PySem.W.Frag) (te:TE):TE:=fun σ H Q=>te σ H fun x H1=>jV K x H1 Q
section
variable {X:Cx} {e:Expr} {te:TE} {p p2 pos pos2:Pos}
theorem kM (hc:X.calm=true) (hg:Gl X "sorted") (hg2:Gl X "set") (hm:X.mg "sorted" = none) (hm2:X.mg "set" = none) (he:PE X e te) (hs1:starEach [.Call (.Name "set" p2) [e] [] pos2] X.env=[(false,eval (.Call (.Name "set" p2) [e] [] pos2) X.env)]:=by rfl) (hs2:starEach [e] X.env=[(false,eval e X.env)]:=by rfl) :
  PE X (.Call (.Name "sorted" p) [.Call (.Name "set" p2) [e] [] pos2] [] pos) (nU X.K te):=by
 intro pins s σ H Q I h
 refine wpAny_Call_Name_kw (fq I hg hm L3.oH ?_)
 refine PyProof.Rows.callWith_builtin1 ?_ (by rw [hs1];rfl) (by rfl)
 rw [hs1]
 show wpAny (model X.prog X.w) X.A (spliced ((false,eval (.Call (.Name "set" p2) [e] [] pos2) X.env)::[])) _ X.xe s
 refine Calls.spliced_cons (wpAny_Call_Name_kw (fq I hg2 hm2 L3.C1 ?_))
 refine PyProof.Rows.callWith_type1 ?_ (by rw [hs2];rfl) (by rfl)
 rw [hs2]
 show wpAny (model X.prog X.w) X.A (spliced ((false,eval e X.env)::[])) _ X.xe s
 refine Calls.spliced_cons (thn (he pins s σ H _ I h) fun u s1 ⟨x,H1,I1,r1,q1⟩=>Calls.spliced_nil ?_)
 obtain ⟨a,xs,rfl,hq,h64,q⟩:=q1
 cases r1
 obtain ⟨its,rv,pl,hz⟩:=I1.tuple hq
 have hlen:its.length=xs.length:=by rw [← rv.length,List.length_map]
 have hsb:xs.length+1 < scanBound:=by unfold scanBound;omega
 have hal:=jo xs []
 rw [List.length_nil,Nat.zero_add] at hal
 refine AZ (I.ok.hd hc) (show s1.heap.IsTuple a its.toArray from pl) (by rw [List.size_toArray];exact hlen) (fun i v hv=>?_) hsb fun h' tk hS hL hk=>?_
 ·have hv':its[i]?=some v:=by simpa using hv
  have hi:i < xs.length:=by
   have:=(List.getElem?_eq_some_iff.mp hv').1
   omega
  obtain ⟨u,hu,ru⟩:=rv.get (i:=i) (x:=V.int xs[i]) (by rw [List.getElem?_map,List.getElem?_eq_getElem hi];rfl)
  rw [hv'] at hu
  cases hu
  obtain ⟨t,rfl⟩:=ru
  exact ⟨_,t,List.getElem?_eq_getElem hi,rfl⟩
 ·have I2:=I1.kept (t':=tk) hk
  refine Calls.spliced_nil ?_
  refine yy (I.ok.hd hc) hS hL (eX xs [] List.nodup_nil) (by omega) fun h2 l d2 tk2 out ms e2 hle hat hso hpm hsd hk2=>?_
  have ro:=fR hso
  have hz2:(ms.map V.int).length≤sizeLine:=by rw [List.length_map,hpm.length_eq];exact Nat.le_of_lt (small1000 (by omega))
  exact ⟨.ref l,_,zD (I2.laid (a:=l) (o:=.lst (ms.map V.int)) (t':=tk2) hk2 hle ⟨hz2,out,e2,ro,hat⟩),rfl,q _ ms (I2.hok.fresh hle) (yC hpm hsd) (by rw [hpm.length_eq];omega)⟩
theorem mG {K:PySem.W.Frag} {σ : St} {H:Hp} {Q:VK} (h:te σ H fun x H1=>jV K x H1 Q):nU K te σ H Q:=h
theorem kP {K:PySem.W.Frag} {H:Hp} {Q:VK} {a:Addr} {xs:List Int} (s:SqT K H a (xs.map V.int)) (hl:xs.length < 64) (h:∀ (l:Addr) (ms:List Int) (H':Hp),H l=none→qH xs ms→ms.length≤xs.length→H' l=some (.lst (ms.map V.int))→aF H H'→Q (.ref l) H'):jV K (.ref a) H Q:=
 ⟨a,xs,rfl,s,hl,fun l ms nl hp hs=>h l ms _ nl hp hs aB (ck nl)⟩
end
end L4
namespace Law
open PySem PySem.Spec PyProof.Rows L2 L3 L4
structure Ar where
 a:Addr
 x:Int
 y:Int
 z:Int
def arV (as:List Ar):List V:=as.map fun r=>V.ref r.a
def i8 (H:Hp) (as:List Ar):Prop:=∀ r∈as,H r.a=some (.tup [.int r.x,.int r.y,.int r.z])
theorem i8.same {H H':Hp} {as:List Ar} (h:i8 H as) (s:aF H H'):i8 H' as:=fun r hr=>s _ _ (h r hr)
theorem i8.ts {H H':Hp} {as:List Ar} (h:i8 H as) (s:cS H H'):i8 H' as:=fun r hr=>s _ _ (h r hr)
def Lo (H:Hp) (t:Addr) (r:Rs):Prop:=∃ (v:V) (l:Addr) (pv:V) (ls:Lns),H t=some (.tup [v,.ref l,pv])∧H l=some (.lst (lnV ls))∧dw H ls∧ls.map (·.2)=r.2.1∧lu H v r.1∧dY H pv r.2.2∧cN ls∧ls.length≤1
def opT:Op→List V
 | .take gr _ _ _=>[.str "take",.int gr]
 | .hear b=>[.str "hear",.int b]
 | .write r=>[.str "write",.int r]
 | .make r=>[.str "make",.int r]
 | .fall=>[.str "fall"]
 | .rise=>[.str "rise"]
 | .give=>[.str "back"]
def kE (as:List Ar):Op→Prop
 | .take gr sl f e=>∃ (i:Nat) (r:Ar),gr=(i:Int)+1∧as[i]?=some r∧r.x=sl∧r.y=f∧r.z=e
 | _=>True
def bS:Ou→Bool
 | .err _=>true
 | _=>false
section
variable {P:Program} {w:World} {K:PySem.W.Frag} {mg:Str→Option Value} {base:Heap} {C CS CH CD CU CA CN CW CT CR:Addr} {d:Hd} {pl:Option (Int×Int)} {n:Nt} {g:Int} {H:Hp} {Q:VK} {E:XK}
def SfH (d:Hd) (n:Nt) (g:Int) (pl:Option (Int×Int)) (op:Op) (H:Hp) (Q:VK):Prop:=bS (opF d n g pl op).1=false→∀ t H',Lo H' t (opF d n g pl op)→aF H H'→Q (.ref t) H'
def SfE (cs:List Addr) (d:Hd) (n:Nt) (g:Int) (pl:Option (Int×Int)) (op:Op) (H:Hp) (E:XK):Prop:=bS (opF d n g pl op).1=true→∀ (c:Addr) (dx:Option Addr) (H':Hp),c∈cs→aF H H'→Lm H' dx→E (.ref c) dx H'
theorem gR {H0 H:Hp} {t:Addr} {v pv:V} {ls:Lns} {o:Ou} {pl2:Option (Int×Int)} {r:Rs} (ht:fD H0 H t v ls pv) (hp:dY H pv pl2) (ho:lu H v o) (e:r=(o,ls.map (·.2),pl2)) (hg:cN ls) (hl:ls.length≤1):Lo H t r:=by
 obtain ⟨l,h1,_,h2,h3⟩:=ht
 subst e
 exact ⟨v,l,pv,ls,h1,h2,h3,rfl,ho,hp,hg,hl⟩
theorem good0:cN []:=fun _ h=>by simp at h
theorem xD {x:Addr×Ln} (h:oQ x.2):cN [x]:=fun y hy=>by rw [List.mem_singleton.mp hy];exact h
theorem yq {s:Addr} (hs:cJ K H s pl n g) (qe:SfE (ers CD CU CA CN CW CT) d n g pl .fall H E) (q:SfH d n g pl .fall H Q):fV K CD [.ref s] H Q E:=
 ⟨s,pl,n,g,rfl,hs,fun z=>qe (by subst z;rfl) CD none H (by simp [ers]) (aF.refl _) trivial,fun z t H' ht sm=>by
  cases pl with
  | none=>cases z
  | some p=>exact q rfl t H' (gR (o:=.non) ht (.inl ⟨rfl,rfl⟩) rfl rfl good0 (Nat.zero_le _)) sm⟩
theorem yg {s:Addr} (hs:cJ K H s pl n g) (qe:SfE (ers CD CU CA CN CW CT) d n g pl .rise H E) (q:SfH d n g pl .rise H Q):gU K CU [.ref s] H Q E:=
 ⟨s,pl,n,g,rfl,hs,fun z=>qe (by cases pl with | none=>cases z | some p=>rfl) CU none H (by simp [ers]) (aF.refl _) trivial,fun z t p H' ht hp sm=>by
  subst z
  exact q rfl t H' (gR (o:=.non) ht (.inr ⟨p,_,_,rfl,rfl,hp⟩) rfl rfl good0 (Nat.zero_le _)) sm⟩
theorem yc {s p a:Addr} {sh:V} {far room term gr sl f e:Int} (hst:k9 CS H p sh far room term d.ws) (hs:cJ K H s pl n g) (k0:∀ m k,pl=some (m,k)→0≤k) (hg : 1≤gr) (ha:H a=some (.tup [.int sl,.int f,.int e])) (qe:SfE (ers CD CU CA CN CW CT) d n g pl (.take gr sl f e) H E) (q:SfH d n g pl (.take gr sl f e) H Q):gT K CD CS [.ref p,.ref s,.int gr,.ref a] H Q E:=
 ⟨p,s,a,sh,far,room,term,d.ws,pl,n,g,gr,sl,f,e,rfl,hst,hs,k0,ha,fun z=>qe (by subst z;rfl) CD none H (by simp [ers]) (aF.refl _) trivial,
  fun m k z c1 c2 t v H' hp ht sm=>by
   subst z
   have e:opF d n g (some (m,k)) (.take gr sl f e)=(.bl false,[],some (m,k)):=by simp only [opF];rw [if_pos ⟨c1,c2⟩]
   exact q (by rw [e];rfl) t H' (by rw [e];exact gR (o:=.bl false) ht hp rfl rfl good0 (Nat.zero_le _)) sm,
  fun m k z c t l v H' hp ht sm=>by
   subst z
   have e:opF d n g (some (m,k)) (.take gr sl f e)=(.bl true,[.took gr sl f e],some (g9 m k (bnd m k))):=by simp only [opF];rw [if_neg c]
   exact q (by rw [e];rfl) t H' (by rw [e];exact gR (o:=.bl true) ht hp rfl rfl (xD (x:=(l,Ln.took gr sl f _)) hg) (Nat.le_refl 1)) sm⟩
theorem yk {s p:Addr} {sh:V} {far room term b:Int} (hst:k9 CS H p sh far room term d.ws) (hs:cJ K H s pl n g) (k0:∀ m k,pl=some (m,k)→0≤k) (qe:SfE (ers CD CU CA CN CW CT) d n g pl (.hear b) H E) (q:SfH d n g pl (.hear b) H Q):fT K CD CS [.ref p,.ref s,.int b] H Q E:=
 ⟨p,s,sh,far,room,term,d.ws,pl,n,g,b,rfl,hst,hs,k0,fun z=>qe (by subst z;rfl) CD none H (by simp [ers]) (aF.refl _) trivial,fun m k z t v ls H' hls hp ht sm=>by
  subst z
  rcases hls with ⟨c1,c2,l,rfl⟩ | ⟨c,rfl⟩
  ·have e:opF d n g (some (m,k)) (.hear b)=(.non,[.heard b],some (g9 m k b)):=by simp only [opF];rw [if_pos ⟨c1,c2⟩]
   exact q (by rw [e];rfl) t H' (by rw [e];exact gR (o:=.non) ht hp rfl rfl (xD (x:=(l,Ln.heard b)) trivial) (Nat.le_refl 1)) sm
  ·have e:opF d n g (some (m,k)) (.hear b)=(.non,[],some (g9 m k b)):=by simp only [opF];rw [if_neg c]
   exact q (by rw [e];rfl) t H' (by rw [e];exact gR (o:=.non) ht hp rfl rfl good0 (Nat.zero_le _)) sm⟩
theorem wF {r:Int} {op:Op} (hop:op = .write r∨op = .make r) (qe:SfE (ers CD CU CA CN CW CT) d n g pl op H E):MkE CD CA CN CW H pl n d.far r E:=
 ⟨fun z=>qe (by subst z;rcases hop with rfl | rfl <;> rfl) CD none H (by simp [ers]) (aF.refl _) trivial,
  fun z y=>qe (by cases pl with | none=>cases z | some p=>rcases hop with rfl | rfl <;> (simp only [opF];rw [y];rfl)) CA none H (by simp [ers]) (aF.refl _) trivial,
  fun m k sl f e z y c=>qe (by subst z;rcases hop with rfl | rfl <;> (simp only [opF];rw [y];dsimp only;rw [if_pos c];rfl)) CN none H (by simp [ers]) (aF.refl _) trivial,
  fun m k sl f e z y c1 c2 dd H2 s2 hd=>qe (by subst z;rcases hop with rfl | rfl <;> (simp only [opF];rw [y];dsimp only;rw [if_neg c1,if_pos c2];rfl)) CW (some dd) H2 (by simp [ers]) s2 ⟨_,hd⟩⟩
theorem uf {s p:Addr} {r:Int} (hst:lg C CS H p d.sp d.c d.s d.far d.room d.term d.ws) (hs:cJ K H s pl n g) (qe:SfE (ers CD CU CA CN CW CT) d n g pl (.write r) H E) (q:SfH d n g pl (.write r) H Q):fS K C CD CA CN CW CS [.ref p,.ref s,.int r] H Q E:=
 ⟨p,s,d.sp,d.c,d.s,d.far,d.room,d.term,d.ws,pl,n,g,r,rfl,hst,hs,wF (.inl rfl) qe,fun m k sl f e z y c1 c2 t v ls H' hls hp ht sm=>by
  subst z
  rcases hls with ⟨c,l,rfl⟩ | ⟨c,rfl⟩
  ·have e:opF d n g (some (m,k)) (.write r)=(.int (max n.hd (due m f r+d.room)),[.held (due m f r+d.room)],some (m,k)):=by simp only [opF];rw [y];dsimp only;rw [if_neg c1,if_neg c2,if_pos c]
   exact q (by rw [e];rfl) t H' (by rw [e];exact gR (o:=.int _) ht hp rfl rfl (xD (x:=(l,Ln.held _)) trivial) (Nat.le_refl 1)) sm
  ·have e:opF d n g (some (m,k)) (.write r)=(.int (max n.hd (due m f r+d.room)),[],some (m,k)):=by simp only [opF];rw [y];dsimp only;rw [if_neg c1,if_neg c2,if_neg c]
   exact q (by rw [e];rfl) t H' (by rw [e];exact gR (o:=.int _) ht hp rfl rfl good0 (Nat.zero_le _)) sm⟩
theorem yi {s p:Addr} {r:Int} (hst:lg C CS H p d.sp d.c d.s d.far d.room d.term d.ws) (hs:cJ K H s pl n g) (qe:SfE (ers CD CU CA CN CW CT) d n g pl (.make r) H E) (q:SfH d n g pl (.make r) H Q):gW K C CD CA CN CW CT CS [.ref p,.ref s,.int r] H Q E:=
 ⟨p,s,d.sp,d.c,d.s,d.far,d.room,d.term,d.ws,pl,n,g,r,rfl,hst,hs,wF (.inr rfl) qe,
  fun m k sl f e z y c1 c2 a1 a2 dd H' sm hx=>qe (by subst z;simp only [opF];rw [y];dsimp only;rw [if_neg c1,if_neg c2,if_pos ⟨a1,a2⟩];rfl) CT (some dd) H' (by simp [ers]) sm ⟨_,hx⟩,
  fun m k sl f e z y c1 c2 a t v H' hp ht sm=>by
   subst z
   have e:opF d n g (some (m,k)) (.make r)=(.int (mk d.c d.s (due m f r) sl (cnt m f r k)),[],some (nxP d.c m f r k)):=by simp only [opF];rw [y];dsimp only;rw [if_neg c1,if_neg c2,if_neg a]
   exact q (by rw [e];rfl) t H' (by rw [e];exact gR (o:=.int _) ht hp rfl rfl good0 (Nat.zero_le _)) sm⟩
theorem yo {s p:Addr} {sh:V} {far room term:Int} (hst:k9 CS H p sh far room term d.ws) (hs:cJ K H s pl n g) (hn:nN n) (qe:SfE (ers CD CU CA CN CW CT) d n g pl .give H E) (q:SfH d n g pl .give H Q):gY K CD CA CN CS [.ref p,.ref s] H Q E:=
 ⟨p,s,sh,far,room,term,d.ws,pl,n,g,rfl,hst,hs,fun z=>qe (by subst z;rfl) CD none H (by simp [ers]) (aF.refl _) trivial,
  fun z y=>qe (by cases pl with | none=>cases z | some p=>(simp only [opF];rw [y];rfl)) CA none H (by simp [ers]) (aF.refl _) trivial,
  fun m k sl f e z y c=>qe (by subst z;simp only [opF];rw [y];dsimp only;rw [if_pos c];rfl) CN none H (by simp [ers]) (aF.refl _) trivial,
  fun m k sl f e z y c t tv v ls H' htv hls hp ht sm=>by
   subst z
   rcases hls with ⟨c1,l,rfl⟩ | ⟨c1,rfl⟩
   ·have e:opF d n g (some (m,k)) .give=(.pr n.g (cR f m k n.hd),[.ends n.g (cR f m k n.hd)],some (m,k)):=by simp only [opF];rw [y];dsimp only;rw [if_neg c,if_pos c1]
    exact q (by rw [e];rfl) t H' (by rw [e];exact gR (o:=.pr _ _) ht hp ⟨tv,rfl,htv⟩ rfl (xD (x:=(l,Ln.ends _ _)) (hn.yes (by rw [y];rfl))) (Nat.le_refl 1)) sm
   ·have e:opF d n g (some (m,k)) .give=(.pr n.g (cR f m k n.hd),[],some (m,k)):=by simp only [opF];rw [y];dsimp only;rw [if_neg c,if_neg c1]
    exact q (by rw [e];rfl) t H' (by rw [e];exact gR (o:=.pr _ _) ht hp ⟨tv,rfl,htv⟩ rfl good0 (Nat.zero_le _)) sm⟩
end
def smF (ps lb:Addr) (m:Int) (tg:Addr):List (Str×V):=[("settings",.ref ps),("areas",.ref lb),("moments",.int m),("ground",.ref tg)]
structure SmC (K:PySem.W.Frag) (CM:Addr):Prop where
 cl:Cls K CM
 n1:aY K CM "settings"
 n2:aY K CM "areas"
 n3:aY K CM "moments"
 n4:aY K CM "ground"
theorem G0 (ps lb:Addr) (m:Int) (tg:Addr):br "ground" (.ref tg) (br "moments" (.int m) (br "areas" (.ref lb) (br "settings" (.ref ps) [])))=smF ps lb m tg:=by
 have a1:¬ (("settings" : Str) = "ground"):=by decide +kernel
 have a2:¬ (("areas" : Str) = "ground"):=by decide +kernel
 have a3:¬ (("moments" : Str) = "ground"):=by decide +kernel
 have b1:¬ (("settings" : Str) = "moments"):=by decide +kernel
 have b2:¬ (("areas" : Str) = "moments"):=by decide +kernel
 have c1:¬ (("settings" : Str) = "areas"):=by decide +kernel
 simp only [br,if_neg a1,if_neg a2,if_neg a3,if_neg b1,if_neg b2,if_neg c1]
 rfl
theorem lU (ps lb:Addr) (m:Int) (tg:Addr):(smF ps lb m tg).lookup ("settings" : Str)=some (.ref ps):=by unfold smF;walk_at "lk"
theorem Kc (ps lb:Addr) (m:Int) (tg:Addr):(smF ps lb m tg).lookup ("ground" : Str)=some (.ref tg):=by unfold smF;walk_at "lk"
theorem lF {z:Str} {ps lb:Addr} {m:Int} {tg:Addr} (h1:(z == "settings")=false) (h2:(z == "areas")=false) (h3:(z == "moments")=false) (h4:(z == "ground")=false):(smF ps lb m tg).lookup z=none:=by
 unfold smF
 rw [lk_miss h1,lk_miss h2,lk_miss h3,lk_miss h4];rfl
theorem DC {ps lb:Addr} {m:Int} {tg:Addr}:(smF ps lb m tg).lookup ("step" : Str)=none:=lF (by decide +kernel) (by decide +kernel) (by decide +kernel) (by decide +kernel)
theorem AW {ps lb:Addr} {m:Int} {tg:Addr}:(smF ps lb m tg).lookup ("step_or_none" : Str)=none:=lF (by decide +kernel) (by decide +kernel) (by decide +kernel) (by decide +kernel)
theorem AX {ps lb:Addr} {m:Int} {tg:Addr}:(smF ps lb m tg).lookup ("after" : Str)=none:=lF (by decide +kernel) (by decide +kernel) (by decide +kernel) (by decide +kernel)
theorem GZ {ps lb:Addr} {m:Int} {tg:Addr}:(smF ps lb m tg).lookup ("bad" : Str)=none:=lF (by decide +kernel) (by decide +kernel) (by decide +kernel) (by decide +kernel)
structure Sm where
 p:Addr
 ps:Addr
 lb:Addr
 tg:Addr
 m:Int
def C7 (CM:Addr) (H:Hp) (x:Sm) (xs:List V):Prop:=(∃ dx,H x.p=some (.ins CM dx (smF x.ps x.lb x.m x.tg)))∧H x.lb=some (.lst xs)∧H x.tg=some (.tup xs)
theorem C7.same {CM:Addr} {H H':Hp} {x:Sm} {xs:List V} (h:C7 CM H x xs) (s:aF H H'):C7 CM H' x xs:=by
 obtain ⟨⟨dx,h1⟩,h2,h3⟩:=h
 exact ⟨⟨dx,s _ _ h1⟩,s _ _ h2,s _ _ h3⟩
def SmW (C CS CM:Addr) (H:Hp) (x:Sm) (as:List Ar) (d:Hd):Prop:=C7 CM H x (arV as)∧i8 H as∧lg C CS H x.ps d.sp d.c d.s d.far d.room d.term d.ws
theorem SmW.same {C CS CM:Addr} {H H':Hp} {x:Sm} {as:List Ar} {d:Hd} (h:SmW C CS CM H x as d) (s:aF H H'):SmW C CS CM H' x as d:=⟨h.1.same s,h.2.1.same s,h.2.2.same s⟩
theorem xW {as:List Ar} {i:Nat} {r:Ar} (h:as[i]?=some r):(arV as)[i]?=some (.ref r.a):=by unfold arV;rw [List.getElem?_map,h];rfl
section
variable {P:Program} {w:World} {K:PySem.W.Frag} {mg:Str→Option Value} {base:Heap} {CX:CXT} {C CS CM:Addr}
theorem yG:ay ["self", "settings", "areas", "moments"] ["self", "settings", "areas", "moments"] (ak (inClass (top 65) 0)):=by walk_at "s"
def AI (CM:Addr):Sp:=fun vs H Q _=>∃ (p dx ps la:Addr) (m:Int) (xs:List V),vs=[.ref p,.ref ps,.ref la,.int m]∧H la=some (.lst xs)∧xs.length≤10∧H p=some (.ins CM dx []) ∧
 ∀ (lb tg:Addr) (H':Hp),H lb=none→H' p=some (.ins CM dx (smF ps lb m tg))→H' lb=some (.lst xs)→H' tg=some (.tup xs)→(∀ q o,H q=some o→q≠p→H' q=some o)→Q .non H'
theorem za (D:nQ K mg "Small" "Small.__init__" CM (inClass (top 65) 0) ["self", "settings", "areas", "moments"]) (SC:SmC K CM) (BT:Bt mg):Mak P w K mg base CX "Small" CM 2 ["self", "settings", "areas", "moments"] (AI CM):=by
 have S:=yG
 walk_at "d"
 ·obtain ⟨p,dx,ps,la,m,xs,rfl,_⟩:=h
  rfl
 obtain ⟨p,dx,ps,la,m,xs,rfl,hla,hlen,hp,q⟩:=h
 refine ⟨_,(ai (cP (pv 0) (pv 1) rfl)
   (ai (cP (pv 0) (cO mT rfl BT.list_ L3.lP (aa (pv 2) af)) rfl)
   (ai (cP (pv 0) (pv 3) rfl)
   (aj (cP (pv 0) (cO jO rfl BT.tuple_ L3.dj (aa (pv 2) af)) rfl))))),?_⟩
 try dsimp only [aZ]
 have npa:la≠p:=fun z=>by rw [z,hp] at hla;cases hla
 have k1:=cL ("settings" : Str) (.ref ps) []
 have k2:=fun lb=>cL ("areas" : Str) (.ref lb) (br "settings" (.ref ps) [])
 have k3:=fun lb=>cL ("moments" : Str) (.int m) (br "areas" (.ref lb) (br "settings" (.ref ps) []))
 rw [List.length_nil] at k1
 walk_at "go"
 refine ⟨p,CM,dx,[],rfl,hp,SC.cl,SC.n1,by decide,?_⟩
 have hpc:(upd H p (.ins CM dx (br "settings" (.ref ps) []))) p=some (.ins CM dx (br "settings" (.ref ps) [])):=aB
 have hac:(upd H p (.ins CM dx (br "settings" (.ref ps) []))) la=some (.lst xs):=by rw [az npa];exact hla
 have oc:∀ q o,H q=some o→q≠p→(upd H p (.ins CM dx (br "settings" (.ref ps) []))) q=some o:=fun q o e z=>by rw [az z];exact e
 have ic:∀ q,(upd H p (.ins CM dx (br "settings" (.ref ps) []))) q=none→H q=none:=fun q e=>by
  by_cases z:q=p
  ·rw [z,aB] at e;cases e
  ·rwa [az z] at e
 generalize upd H p (.ins CM dx (br "settings" (.ref ps) []))=Hc at *
 have L:=Led.start Hc (fun _=>False)
 walk_at "go"
 refine mH L (.inl (SqL.of hac)) fun lb HB nb L' sB=>?_
 have np:p≠lb:=fun z=>by rw [z,nb] at hpc;cases hpc
 have nlb:=ic _ nb
 have hlb:=L'.eo (p:=lb) .head
 clear L L'
 walk_at "go"
 refine ⟨p,CM,dx,_,rfl,sB _ _ hpc,SC.cl,SC.n2,by omega,?_⟩
 walk_at "go"
 have k2:=k2 lb
 have k3:=k3 lb
 refine ⟨p,CM,dx,_,rfl,aB,SC.cl,SC.n3,by omega,?_⟩
 rw [eE]
 have key:=fun tg=>G0 ps lb m tg
 have kl:(br "moments" (.int m) (br "areas" (.ref lb) (br "settings" (.ref ps) []))).length≤3:=by omega
 generalize br "moments" (.int m) (br "areas" (.ref lb) (br "settings" (.ref ps) []))=fs at *
 have hp2:(upd HB p (.ins CM dx fs)) p=some (.ins CM dx fs):=aB
 have L6:(upd HB p (.ins CM dx fs)) lb=some (.lst xs):=by rw [az (Ne.symm np)];exact hlb
 have Ij:(upd HB p (.ins CM dx fs)) la=some (.lst xs):=by rw [az npa];exact sB _ _ hac
 have o2:∀ q o,H q=some o→q≠p→(upd HB p (.ins CM dx fs)) q=some o:=fun q o e z=>by rw [az z];exact sB _ _ (oc q o e z)
 generalize upd HB p (.ins CM dx fs)=H2 at *
 have L:=Led.start H2 (fun _=>False)
 walk_at "go"
 refine iB L (SqL.of Ij) fun tg H3 nt L s3=>?_
 have htg:=L.tup (r:=tg) (xs:=xs) (by walk_at "mem")
 have ntp:tg≠p:=fun z=>by rw [z,s3 _ _ hp2] at htg;cases htg
 clear L
 walk_at "go"
 refine ⟨p,CM,dx,_,rfl,s3 _ _ hp2,SC.cl,SC.n4,by omega,?_⟩
 refine q lb tg _ nlb (by rw [aB,key]) (by rw [az (Ne.symm np)];exact s3 _ _ L6) (by rw [az ntp];exact htg) fun x o e z=>by rw [az z];exact s3 _ _ (o2 x o e z)
theorem ye {H:Hp} {Q:VK} {E:XK} {ps la:Addr} {m:Int} {xs:List V} (ha:H la=some (.lst xs)) (hl:xs.length≤10) (q:∀ (x:Sm) (H':Hp),H x.p=none→H x.lb=none→x.ps=ps→x.m=m→C7 CM H' x xs→aF H H'→Q (.ref x.p) H'):Made CM (AI CM) E [.ref ps,.ref la,.int m] H Q:=by
 intro x dx nx nd ne
 have sm0:∀ b o,H b=some o→(upd (upd H dx (.own x)) x (.ins CM dx [])) b=some o:=fun b o e=>by rw [az (aJ e nx),az (aJ e nd)];exact e
 refine ⟨x,dx,ps,la,m,xs,rfl,sm0 _ _ ha,hl,aB,fun lb tg H' nlb h1 h2 h3 h4=>⟨rfl,?_⟩⟩
 refine q ⟨x,ps,lb,tg,m⟩ H' nx ?_ rfl rfl ⟨⟨dx,h1⟩,h2,h3⟩ fun b o e=>h4 b o (sm0 _ _ e) (aJ e nx)
 cases e:H lb with
 | none=>rfl
 | some o=>rw [sm0 _ _ e] at nlb;cases nlb
end
section
variable {P:Program} {w:World} {K:PySem.W.Frag} {mg:Str→Option Value} {base:Heap} {C CS CM CH CD CU CA CN CW CT CR:Addr}
theorem DN:ay ["self", "stand", "deed"] ["self", "stand", "deed"] (ak (inClass (top 65) 3)):=by walk_at "s"
def AG (K:PySem.W.Frag) (C CS CM CD CU CA CN CW CT:Addr):Sp:=fun vs H Q E=>∃ (x:Sm) (as:List Ar) (d:Hd) (s t:Addr) (pl:Option (Int×Int)) (n:Nt) (g:Int) (op:Op),vs=[.ref x.p,.ref s,.ref t]∧SmW C CS CM H x as d∧cJ K H s pl n g∧(∀ m k,pl=some (m,k)→0≤k)∧nN n∧H t=some (.tup (opT op))∧kE as op∧SfE (ers CD CU CA CN CW CT) d n g pl op H E∧SfH d n g pl op H Q
theorem pT (D:cC K CM "step" "Small.step" (inClass (top 65) 3) ["self", "stand", "deed"]) (SC:SmC K CM) (NE:bh (CX1 P w)) (dN:Cal P w K mg base (CX1 P w) "taking" 2 ["settings", "stand", "grant", "area"] (gT K CD CS)) (cY:Cal P w K mg base (CX1 P w) "writing" 5 ["settings", "stand", "reading"] (fS K C CD CA CN CW CS)) (dQ:Cal P w K mg base (CX1 P w) "making" 5 ["settings", "stand", "reading"] (gW K C CD CA CN CW CT CS))
  (c6:Cal P w K mg base (CX1 P w) "hearing" 2 ["settings", "stand", "bound"] (fT K CD CS)) (dR:Cal P w K mg base (CX1 P w) "giving" 2 ["settings", "stand"] (gY K CD CA CN CS)) (c7:Cal P w K mg base (CX1 P w) "falling" 2 ["stand"] (fV K CD)) (dO:Cal P w K mg base (CX1 P w) "rising" 2 ["stand"] (gU K CU)):bB P w K mg base (CX1 P w) CM "step" 6 ["self", "stand", "deed"] (AG K C CS CM CD CU CA CN CW CT):=by
 have S:=DN
 refine di D S (fun vs H Q E h=>?_) (fun f cdv A outer s H vs Q E hr h=>?_)
 ·obtain ⟨x,as,d,s,t,pl,n,g,op,rfl,_⟩:=h
  rfl
 obtain ⟨x,as,d,s0,t,pl,n,g,op,rfl,hW,hs,k0,hn,ht,ho,qe,q⟩:=h
 obtain ⟨⟨⟨dx,hx⟩,hlb,htg⟩,hA,hst⟩:=hW
 refine ⟨_,(ai (aX (aG bQ (aq ao (pv 2) ah (fun _ _=>rfl)) aL (aM _)) (aj (au (bR dN (hr.mono (by first | decide | omega)) aP (aa (bw (pv 0) rfl) (aa (pv 1) (aa (aq ao (pv 2) ah (fun _ _=>rfl)) (aa (aq ao (bw (pv 0) rfl) (aQ iz (aq ao (pv 2) ah (fun _ _=>rfl)) ah) (fun _ _=>rfl)) af))))))) aE)
   (ai (aX (aG bQ (aq ao (pv 2) ah (fun _ _=>rfl)) aL (aM _)) (aj (au (bR cY (hr.mono (by first | decide | omega)) aP (aa (bw (pv 0) rfl) (aa (pv 1) (aa (aq ao (pv 2) ah (fun _ _=>rfl)) af)))))) aE)
   (ai (aX (aG bQ (aq ao (pv 2) ah (fun _ _=>rfl)) aL (aM _)) (aj (au (bR dQ (hr.mono (by first | decide | omega)) aP (aa (bw (pv 0) rfl) (aa (pv 1) (aa (aq ao (pv 2) ah (fun _ _=>rfl)) af)))))) aE)
   (ai (aX (aG bQ (aq ao (pv 2) ah (fun _ _=>rfl)) aL (aM _)) (aj (au (bR c6 (hr.mono (by first | decide | omega)) aP (aa (bw (pv 0) rfl) (aa (pv 1) (aa (aq ao (pv 2) ah (fun _ _=>rfl)) af)))))) aE)
   (ai (aX (aG bQ (aq ao (pv 2) ah (fun _ _=>rfl)) aL (aM _)) (aj (au (bR dR (hr.mono (by first | decide | omega)) aP (aa (bw (pv 0) rfl) (aa (pv 1) af))))) aE)
   (aj (au (bZ (aG bQ (aq ao (pv 2) ah (fun _ _=>rfl)) aL (aM _)) (bR c7 (hr.mono (by first | decide | omega)) aP (aa (pv 1) af)) (bR dO (hr.mono (by first | decide | omega)) aP (aa (pv 1) af)))))))))),?_⟩
 try dsimp only [aZ]
 have L:=(Led.start H (fun _=>False)).more (aH t _) ht
 cases op with
 | take gr sl f e=>
  obtain ⟨i,r,rfl,hi,rfl,rfl,rfl⟩:=ho
  walk_at "go"
  refine ⟨x.p,CM,dx,_,_,rfl,hx,SC.cl,SC.n1,lU _ _ _ _,?_⟩
  walk_at "go"
  refine ⟨x.p,CM,dx,_,_,rfl,hx,SC.cl,SC.n4,Kc _ _ _ _,?_⟩
  walk_at "go"
  refine cA (SqT.of htg) (v:=.ref r.a) (by rw [show (i:Int)+1 - 1=(i:Int) by omega];exact eV (xW hi)) ?_
  walk_at "go"
  exact yc hst.1 hs k0 (by omega) (hA r (List.mem_of_getElem? hi)) qe q
 | hear b=>
  walk_at "go"
  refine aV (by decide +kernel) ?_
  walk_at "go"
  refine aV (by decide +kernel) ?_
  walk_at "go"
  refine aV (by decide +kernel) ?_
  walk_at "go"
  refine ⟨x.p,CM,dx,_,_,rfl,hx,SC.cl,SC.n1,lU _ _ _ _,?_⟩
  walk_at "go"
  exact yk hst.1 hs k0 qe q
 | write r=>
  walk_at "go"
  refine aV (by decide +kernel) ?_
  walk_at "go"
  refine ⟨x.p,CM,dx,_,_,rfl,hx,SC.cl,SC.n1,lU _ _ _ _,?_⟩
  walk_at "go"
  exact uf hst hs qe q
 | make r=>
  walk_at "go"
  refine aV (by decide +kernel) ?_
  walk_at "go"
  refine aV (by decide +kernel) ?_
  walk_at "go"
  refine ⟨x.p,CM,dx,_,_,rfl,hx,SC.cl,SC.n1,lU _ _ _ _,?_⟩
  walk_at "go"
  exact yi hst hs qe q
 | fall=>
  walk_at "go"
  refine aV (by decide +kernel) ?_
  walk_at "go"
  refine aV (by decide +kernel) ?_
  walk_at "go"
  refine aV (by decide +kernel) ?_
  walk_at "go"
  refine aV (by decide +kernel) ?_
  walk_at "go"
  refine aV (by decide +kernel) ?_
  walk_at "go"
  exact yq hs qe q
 | rise=>
  walk_at "go"
  refine aV (by decide +kernel) ?_
  walk_at "go"
  refine aV (by decide +kernel) ?_
  walk_at "go"
  refine aV (by decide +kernel) ?_
  walk_at "go"
  refine aV (by decide +kernel) ?_
  walk_at "go"
  refine aV (by decide +kernel) ?_
  walk_at "go"
  refine aV (by decide +kernel) ?_
  walk_at "go"
  exact yg hs qe q
 | give=>
  walk_at "go"
  refine aV (by decide +kernel) ?_
  walk_at "go"
  refine aV (by decide +kernel) ?_
  walk_at "go"
  refine aV (by decide +kernel) ?_
  walk_at "go"
  refine aV (by decide +kernel) ?_
  walk_at "go"
  refine ⟨x.p,CM,dx,_,_,rfl,hx,SC.cl,SC.n1,lU _ _ _ _,?_⟩
  walk_at "go"
  exact yo hst.1 hs hn qe q
end
end Law
namespace PySem
section
variable {prog:Program} {w:World} {A:Around} {E:Value→Shared→Prop} {s:Shared} {l:Addr} {xs:Array (Int×Tok)}
theorem vf {Q:Value→Shared→Prop} (hh:A.handled=none) (hl:s.heap.IsTuple l (intItems xs)) (hne : 0 < xs.size)
  (h:∀ v h' tk,(intItems xs)[argBest (fun i j=>decide (numAt xs i > numAt xs j)) (xs.size - 1)]?=some v→(∀ b o,s.heap.get? b=some o→h'.get? b=some o)→Q v { s with heap:=h',toks:=tk }) :
  wpAny (model prog w) A (call (.builtin "max") [.ref l]) Q E s:=by
 have hlt:l < s.heap.objs.size:=by obtain ⟨_,e,_⟩:=hl;exact Heap.lt_size e
 refine call_max_walk (wpAny_pyIter_tuple hl ?_)
 refine ⟨_,_,_,_,_,_,_,rfl,Walks.tuple (A:=A.in1) hh s.heap.objs.size l (Nat.ne_of_lt hlt) (intItems xs),⟨⟨_,Heap.get?_push_size _ rfl,rfl,rfl⟩,hl.push _⟩,fun b hb=>?_,by simpa [intItems] using hne,CmpOf.ints_gt (numAt xs) (fun _ _=>intItems_at),fun v h' tk hP hk=>?_⟩
 ·show b < (s.heap.push _).objs.size
  rw [Heap.size_push]
  rcases List.mem_cons.mp hb with rfl | hb
  ·exact Nat.lt_succ_self _
  ·rcases List.mem_cons.mp hb with rfl | hb
   ·exact Nat.lt_succ_of_lt hlt
   ·cases hb
 ·exact h v h' tk (by simpa [intItems] using hP) fun b o e=>by
   refine hk b o (fun hm=>?_) (Heap.get?_push_of_some _ e)
   rcases List.mem_cons.mp hm with e1 | hm
   ·exact absurd (e1▸Heap.lt_size e) (Nat.lt_irrefl _)
   ·cases hm
end
end PySem
namespace L4
open PySem PySem.Spec PyProof.Rows L2 L3
def Gi (K:PySem.W.Frag):RL:=fun xs H Q=>∃ (p:Addr) (ns:List Int),xs=[.ref p]∧SqT K H p (ns.map V.int)∧0 < ns.length∧∀ M,M∈ns→(∀ a∈ns,a≤M)→Q (.int M) H
theorem Js {X:Cx} (hc:X.calm=true):cK X (.builtin "max") (Gi X.K):=by
 intro pins s σ H xs us Q I r h
 obtain ⟨p,ns,rfl,hq,hne,q⟩:=h
 obtain ⟨u,rfl,rx⟩:=vals1 r
 cases rx
 obtain ⟨its,rv,pl,hz⟩:=I.tuple hq
 have hi:=ints_of rv
 obtain ⟨xs,e⟩:=hi.allInts.items
 have hl:s.heap.IsTuple p (intItems xs):=e▸(show s.heap.IsTuple p its.toArray from pl)
 have hns:ns=xs.toList.map (·.1):=by
  rw [← nums_intItems,← e]
  exact (show numsOf its.toArray.toList=ns from hi.numsOf).symm
 have hsz : 0 < xs.size:=by
  have h3:=hne;rw [hns,List.length_map,Array.length_toList] at h3;exact h3
 refine vf (I.ok.hd hc) hl hsz fun v h' tk hv hk=>?_
 obtain ⟨t,rfl⟩:=intItems_at hv
 obtain ⟨h1,h2⟩:=argBest_gt (numAt xs) (xs.size - 1)
 refine ⟨.int _,H,I.kept hk,⟨_,rfl⟩,q _ ?_ fun a ha=>?_⟩
 ·rw [hns,numAt_eq];exact getD_mem (by rw [List.length_map,Array.length_toList];omega)
 ·rw [hns] at ha
  obtain ⟨j,hj,rfl⟩:=mem_getD ha
  rw [List.length_map,Array.length_toList] at hj
  rw [← numAt_eq];exact h2 j (by omega)
theorem IS {K:PySem.W.Frag} {H:Hp} {Q:VK} {p:Addr} {ns:List Int} (s:SqT K H p (ns.map V.int)) (hne : 0 < ns.length) (h:∀ M,M∈ns→(∀ a∈ns,a≤M)→Q (.int M) H):Gi K [.ref p] H Q:=⟨p,ns,rfl,s,hne,h⟩
end L4
namespace Law
open PySem PySem.Spec PyProof.Rows L2 L3 L4
structure Sta where
 pl:Option (Int×Int)
 n:Nt
 g:Int
 ms:List Int
 b:Int
 gv:List (Option Int)
def oV:Option Int→V
 | none=>.non
 | some e=>.int e
def oD:Option Int→Dt
 | none=>.non
 | some e=>.int e
def SAt (K:PySem.W.Frag) (H:Hp) (t:Addr) (S:Sta):Prop:=∃ (pv:V) (tn tm tg:Addr),H t=some (.tup [pv,.ref tn,.int S.g,.ref tm,.int S.b,.ref tg])∧dY H pv S.pl∧jq K H tn S.n∧H tm=some (.tup (S.ms.map V.int))∧H tg=some (.tup (S.gv.map oV))
def fN (H H':Hp):Prop:=∀ q o,H q=some o→(∀ C dx fs,o≠.ins C dx fs)→(∀ xs,o≠.lst xs)→H' q=some o
theorem fN.of {H H':Hp} (s:aF H H'):fN H H':=fun q o h _ _=>s q o h
theorem fN.trans {H H1 H2:Hp} (a:fN H H1) (b:fN H1 H2):fN H H2:=fun q o h n1 n2=>b q o (a q o h n1 n2) n1 n2
theorem fN.ts {H H':Hp} (s:fN H H'):cS H H':=fun q xs h=>s q _ h (fun _ _ _ z=>nomatch z) (fun _ z=>nomatch z)
theorem fN.sqT {K:PySem.W.Frag} {H H':Hp} {a:Addr} {xs:List V} (s:fN H H') (h:SqT K H a xs):SqT K H' a xs:=by
 rcases h with (h | ⟨o,h⟩) | h
 ·exact .inl (.inl (s _ _ h (fun _ _ _ z=>nomatch z) (fun _ z=>nomatch z)))
 ·exact .inl (.inr ⟨o,s _ _ h (fun _ _ _ z=>nomatch z) (fun _ z=>nomatch z)⟩)
 ·exact .inr h
theorem Kv {C CS CH:Addr} {H H':Hp} {d:Hd} {ls:Lns} {pl:Option (Int×Int)} (k:bP C CS CH H d ls pl) (f:Fr2 d.p d.l H H'):fN H H':=fun q o h n1 n2=>by
 obtain ⟨⟨dx,sv,hp,_⟩,hl,_⟩:=k
 exact f q _ h (fun z=>by rw [z,hp] at h;exact n1 _ _ _ (Option.some.inj h).symm) (fun z=>by rw [z,hl] at h;exact n2 _ (Option.some.inj h).symm)
theorem SAt.ns {K:PySem.W.Frag} {H H':Hp} {t:Addr} {S:Sta} (h:SAt K H t S) (s:fN H H'):SAt K H' t S:=by
 obtain ⟨pv,tn,tm,tg,h1,h2,⟨v,h3,h4⟩,h5,h6⟩:=h
 refine ⟨pv,tn,tm,tg,s.ts _ _ h1,h2.ts s.ts,⟨v,s.sqT h3,?_⟩,s.ts _ _ h5,s.ts _ _ h6⟩
 rcases h4 with h4 | ⟨a,sl,f,e,z,ev,ha⟩
 ·exact .inl h4
 ·exact .inr ⟨a,sl,f,e,z,ev,s.ts _ _ ha⟩
theorem SAt.same {K:PySem.W.Frag} {H H':Hp} {t:Addr} {S:Sta} (h:SAt K H t S) (s:aF H H'):SAt K H' t S:=h.ns (.of s)
def plD:Option (Int×Int)→Dt
 | none=>.non
 | some (m,k)=>.tup [.int m,.int k]
def stD (S:Sta):Dt:=.tup [plD S.pl,ntD S.n,.int S.g,.tup (S.ms.map Dt.int),.int S.b,.tup (S.gv.map oD)]
theorem dY.at {K:PySem.W.Frag} {H:Hp} {v:V} {pl:Option (Int×Int)} (h:dY H v pl):At K H v (plD pl):=by
 rcases h with ⟨rfl,rfl⟩ | ⟨t,m,k,rfl,rfl,h⟩
 ·exact .non
 ·exact .tup (SqT.of h) (.cons (.int _) (.cons (.int _) .nil))
theorem mD {K:PySem.W.Frag} {H:Hp}:∀ (ns:List Int),Ats K H (ns.map V.int) (ns.map Dt.int)
 | []=>.nil
 | n::ns=>.cons (.int n) (mD ns)
theorem l5 {K:PySem.W.Frag} {H:Hp}:∀ (ns:List (Option Int)),Ats K H (ns.map oV) (ns.map oD)
 | []=>.nil
 | none::ns=>.cons .non (l5 ns)
 | some e::ns=>.cons (.int e) (l5 ns)
theorem SAt.at {K:PySem.W.Frag} {H:Hp} {t:Addr} {S:Sta} (h:SAt K H t S):At K H (.ref t) (stD S):=by
 obtain ⟨pv,tn,tm,tg,h1,h2,h3,h5,h6⟩:=h
 exact .tup (SqT.of h1) (.cons h2.at (.cons h3.at (.cons (.int _) (.cons (.tup (SqT.of h5) (mD _)) (.cons (.int _) (.cons (.tup (SqT.of h6) (l5 _)) .nil))))))
theorem ko:∀ ns:List Int,deps (ns.map Dt.int)=0
 | []=>rfl
 | n::ns=>by rw [List.map_cons,deps,ko ns];rfl
theorem kj:∀ ns:List (Option Int),deps (ns.map oD)=0
 | []=>rfl
 | none::ns=>by rw [List.map_cons,deps,kj ns];rfl
 | some e::ns=>by rw [List.map_cons,deps,kj ns];rfl
theorem gS (S:Sta):dep (stD S)≤100:=by
 have h1:dep (plD S.pl)≤1:=by
  cases S.pl with
  | none=>exact Nat.zero_le _
  | some p=>simp [plD,dep,deps]
 have h2:dep (ntD S.n)≤2:=by
  unfold ntD
  cases S.n.ar with
  | none=>simp [dep,deps]
  | some p=>simp [dep,deps]
 unfold stD
 simp only [dep,deps,ko,kj]
 omega
def mE (ms:List Int) (m:Int):List Int:=ms.filter (fun x=>decide (x < m))++[m]++ms.filter (fun x=>decide (m < x))
theorem Cg (ms:List Int) (m x:Int):x∈mE ms m↔x∈ms++[m]:=by
 unfold mE
 simp only [List.mem_append,List.mem_filter,decide_eq_true_eq,List.mem_singleton]
 constructor
 ·rintro ((⟨h,_⟩ | h) | ⟨h,_⟩)
  ·exact .inl h
  ·exact .inr h
  ·exact .inl h
 ·rintro (h | h)
  ·rcases Int.lt_trichotomy x m with c | c | c
   ·exact .inl (.inl ⟨h,c⟩)
   ·exact .inl (.inr c)
   ·exact .inr ⟨h,c⟩
  ·exact .inl (.inr h)
theorem sH {ms:List Int} {m:Int} (h:ms.Pairwise (· < ·)):(mE ms m).Pairwise (· < ·):=by
 unfold mE
 rw [List.pairwise_append]
 refine ⟨?_,h.sublist List.filter_sublist,fun a ha b hb=>?_⟩
 ·rw [List.pairwise_append]
  refine ⟨h.sublist List.filter_sublist,List.pairwise_singleton _ _,fun a ha b hb=>?_⟩
  rw [List.mem_singleton.mp hb]
  simpa using (List.mem_filter.mp ha).2
 ·have hb':m < b:=by simpa using (List.mem_filter.mp hb).2
  rcases List.mem_append.mp ha with ha | ha
  ·have:a < m:=by simpa using (List.mem_filter.mp ha).2
   omega
  ·rw [List.mem_singleton.mp ha];exact hb'
theorem Ci (ms:List Int) (m:Int):(mE ms m).length≤ms.length+1:=by
 unfold mE
 rw [List.length_append,List.length_append,List.length_singleton]
 have:(ms.filter (fun x=>decide (x < m))).length+(ms.filter (fun x=>decide (m < x))).length≤ms.length:=by
  induction ms with
  | nil=>simp
  | cons x xs ih=>
   rw [List.filter_cons,List.filter_cons,List.length_cons]
   by_cases c1:x < m
   ·rw [if_pos (decide_eq_true c1),if_neg (by simp;omega),List.length_cons];omega
   ·by_cases c2:m < x
    ·rw [if_neg (by simp;omega),if_pos (decide_eq_true c2),List.length_cons];omega
    ·rw [if_neg (by simp;omega),if_neg (by simp;omega)];omega
 omega
theorem JB {xs ys:List Int} (hx:xs.Pairwise (· < ·)) (hy:ys.Pairwise (· < ·)) (h:∀ z,z∈xs↔z∈ys):xs=ys:=by
 have nx:xs.Nodup:=hx.imp fun {a b} (z:a < b)=>Int.ne_of_lt z
 have ny:ys.Nodup:=hy.imp fun {a b} (z:a < b)=>Int.ne_of_lt z
 exact lT ((List.perm_ext_iff_of_nodup nx ny).mpr h) (hx.imp fun {a b} (z:a < b)=>Int.le_of_lt z) (hy.imp fun {a b} (z:a < b)=>Int.le_of_lt z)
theorem n6 {ms ys:List Int} {m:Int} (h:ms.Pairwise (· < ·)) (s:qH (ms++[m]) ys):ys=mE ms m:=
 JB s.lt (sH h) fun z=>(s.mem z).trans (Cg ms m z).symm
def p5:Option Int→Int→Int
 | none,e=>e
 | some o,e=>min o e
def jM (gv:List (Option Int)) (i:Nat) (e:Int):List (Option Int):=gv.set i (some (p5 (gv[i]?.getD none) e))
theorem CI (gv:List (Option Int)) (i:Nat) (e:Int):(jM gv i e).length=gv.length:=by unfold jM;rw [List.length_set]
theorem xJ {gv:List (Option Int)} {i:Nat} (e:Int) (h:i < gv.length):jM gv i e=gv.take i++[some (p5 (gv[i]?.getD none) e)]++gv.drop (i+1):=by
 unfold jM
 rw [List.set_eq_take_append_cons_drop,if_pos h,List.append_assoc];rfl
def gX (xs:List Ln):Int:=((xs.filter j8).map p9).foldl max 0
theorem vp (ls:Lns):gmx ls=gX (ls.map (·.2)):=by
 have:gts ls=((ls.map (·.2)).filter j8).map p9:=by
  induction ls with
  | nil=>rfl
  | cons x xs ih=>
   unfold gts at ih ⊢
   have e1:isT x=j8 x.2:=by unfold isT j8;cases x.2 <;> rfl
   have e2:gOf x=p9 x.2:=by unfold gOf p9;cases x.2 <;> rfl
   rw [List.map_cons,List.filter_cons,List.filter_cons,e1]
   by_cases c:j8 x.2=true
   ·rw [if_pos c,if_pos c,List.map_cons,List.map_cons,e2,ih]
   ·rw [if_neg c,if_neg c,ih]
 unfold gmx gX
 rw [this]
theorem Jk (xs ys:List Ln):gX (xs++ys)=max (gX xs) (gX ys):=by
 unfold gX
 rw [List.filter_append,List.map_append,List.foldl_append]
 have key:∀ (T:List Int) (z:Int),T.foldl max (max z 0)=max (max z 0) (T.foldl max 0):=by
  intro T
  induction T with
  | nil=>intro z;simp only [List.foldl_nil];omega
  | cons t T ih=>
   intro z
   rw [List.foldl_cons,List.foldl_cons]
   have a:=ih (max (max z 0) t)
   have b:=ih t
   rw [show max (max (max z 0) t) 0=max (max z 0) t by omega] at a
   rw [a,show max 0 t=max t 0 by omega,b]
   omega
 obtain ⟨k1,_,_⟩:=ji ((xs.filter j8).map p9) 0
 have:=key ((ys.filter j8).map p9) (((xs.filter j8).map p9).foldl max 0)
 rw [show max (((xs.filter j8).map p9).foldl max 0) 0=((xs.filter j8).map p9).foldl max 0 by omega] at this
 exact this
theorem E5 (ls ls2:Lns):gmx (ls++ls2)=max (gmx ls) (gX (ls2.map (·.2))):=by
 rw [vp,vp,List.map_append,Jk]
theorem HS (ls ls2:Lns):nt (ls++ls2)=(ls2.map (·.2)).foldl Nt.step (nt ls):=by
 rw [Gq,Gq,List.map_append]
 unfold ntX
 rw [List.foldl_append]
def msF (ms:List Int):Op→Ou→List Int
 | .make _,.int m=>mE ms m
 | _,_=>ms
def bF (b:Int):Op→Int
 | .hear x=>max b x
 | _=>b
def gvF (gv:List (Option Int)):Op→Ou→List (Option Int)
 | .give,.pr a e=>jM gv (a - 1).toNat e
 | _,_=>gv
def nxS (S:Sta) (op:Op) (r:Rs):Sta:=⟨r.2.2,r.2.1.foldl Nt.step S.n,max S.g (gX r.2.1),msF S.ms op r.1,bF S.b op,gvF S.gv op r.1⟩
def zW (o:Option Int) (mo:Int):Bool:=match o with
 | some e=>decide (e≤mo)
 | none=>false
def C4 (ms:List Int) (o:Option Int) (mo b m:Int):Option Str:=if m∈ms then some "twice" else if (ms.any fun x=>decide (m < x))=true then some "fallen" else if zW o mo=true then some "astray" else if mo < b then some "below" else none
def mX (d:Hd) (S:Sta) (m:Int):Option Str:=C4 S.ms ((S.gv[(S.n.g - 1).toNat]?).getD none) (m / d.c / d.s) S.b m
def mkF (d:Hd) (S:Sta) (r:Int):Option Int:=match (opF d S.n S.g S.pl (.make r)).1 with
 | .int m=>some m
 | _=>none
def nM (d:Hd) (S:Sta):Op→Option Str
 | .make r=>match mkF d S r with
  | some m=>mX d S m
  | none=>none
 | _=>none
structure jQ (S:Sta):Prop where
 k0:∀ m k,S.pl=some (m,k)→0≤k
 n:nN S.n
 asc:S.ms.Pairwise (· < ·)
 gl:S.n.ar.isSome=true→S.n.g≤(S.gv.length:Int)
 far:∀ sl f e,S.n.ar=some (sl,f,e)→0≤sl∧0≤f
end Law
namespace L4
open PySem PySem.Spec PyProof.Rows L2 L3
theorem DE {X:Cx} {K:PySem.W.Frag} (h:X.K=K):SlR X (Bq K):=h▸gg
end L4
namespace Law
open PySem PySem.Spec PyProof.Rows L2 L3 L4
theorem zK (n:Nt) (ls:Lns):f7 n ls=(ls.map (·.2)).foldl Nt.step n:=by unfold f7;rw [List.foldl_map]
theorem kO {K:PySem.W.Frag} {p:Addr} {xs:List V} {i:Nat} {k:Int} {H:Hp} {Q:VK} (s:H p=some (.tup xs)) (hk:k=(i:Nat)) (hi:i < xs.length) (h:∀ b H',H' b=some (.tup (xs.take i))→aF H H'→Q (.ref b) H'):Bq K (.ref p) none (some k) H Q:=by
 subst hk
 have e1:HT.sIx xs.length xs.length (some (i:Int))=i:=by rw [HT.wX,Nat.min_eq_left (Nat.le_of_lt hi)]
 refine Gy ((Led.start H (fun _=>False)).more (aH p xs) s) (by walk_at "mem") (fun z=>by rw [e1] at z;omega) fun b H' nb L sm=>h b H' ?_ sm
 have:=L.tup (r:=b) (by walk_at "mem")
 rw [this]
 unfold vD
 rw [e1,HT.rK,List.drop_zero,Nat.sub_zero]
theorem sP {K:PySem.W.Frag} {p:Addr} {xs:List V} {i:Nat} {k:Int} {H:Hp} {Q:VK} (s:H p=some (.tup xs)) (hk:k=(i:Nat)) (h0 : 0 < i) (hi:i≤xs.length) (h:∀ b H',H' b=some (.tup (xs.drop i))→aF H H'→Q (.ref b) H'):Bq K (.ref p) (some k) none H Q:=by
 subst hk
 have e1:HT.sIx xs.length 0 (some (i:Int))=i:=by rw [HT.wX,Nat.min_eq_left hi]
 refine Gy ((Led.start H (fun _=>False)).more (aH p xs) s) (by walk_at "mem") (fun z=>by rw [e1] at z;omega) fun b H' nb L sm=>h b H' ?_ sm
 have:=L.tup (r:=b) (by walk_at "mem")
 rw [this]
 unfold vD
 rw [e1,HT.rK,List.take_of_length_le (by rw [List.length_drop];omega)]
theorem gB {K:PySem.W.Frag} {a b:Addr} {xs ys:List V} {H:Hp} {Q:VK} (h1:H a=some (.tup xs)) (h2:H b=some (.tup ys)) (hz:xs.length+ys.length≤900) (h:∀ t H',H' t=some (.tup (xs++ys))→aF H H'→Q (.ref t) H'):Bv K (.ref a) (.ref b) H Q:=
 vv (((Led.start H (fun _=>False)).more (aH a xs) h1).more (aH b ys) h2) (by walk_at "mem") (by walk_at "mem") (Nat.le_of_lt (small1000 (by omega))) fun t H' L sm=>h t H' (L.tup (by walk_at "mem")) sm
theorem mj {d:Hd} {n:Nt} {g r:Int} {pl:Option (Int×Int)} (h:bS (opF d n g pl (.make r)).1=false):∃ m,(opF d n g pl (.make r)).1 = .int m:=by
 simp only [opF] at h ⊢
 split at h
 ·cases h
 ·split at h
  ·cases h
  ·rename_i sl f e ha
   split at h
   ·cases h
   ·rename_i c1
    rw [if_neg c1]
    split at h
    ·cases h
    ·rename_i c2
     rw [if_neg c2]
     split at h
     ·cases h
     ·rename_i c3
      rw [if_neg c3]
      exact ⟨_,rfl⟩
theorem xF {d:Hd} {n:Nt} {g:Int} {pl:Option (Int×Int)} (h:bS (opF d n g pl .give).1=false):∃ m k sl f e,pl=some (m,k)∧n.ar=some (sl,f,e)∧(opF d n g pl .give).1 = .pr n.g (cR f m k n.hd):=by
 simp only [opF] at h ⊢
 split at h
 ·cases h
 ·rename_i m k
  split at h
  ·cases h
  ·rename_i sl f e ha
   split at h
   ·cases h
   ·rename_i c
    exact ⟨m,k,sl,f,e,rfl,ha,by rw [if_neg c]⟩
theorem rR {op:Op} (o1:¬ ∃ r,op = .make r) (o2:¬ ∃ b,op = .hear b) (o3:¬ op = .give):∃ (wd:Str) (rest:List V),opT op = .str wd::rest∧¬ wd = "make" ∧ ¬ wd = "hear" ∧ ¬ wd = "back" ∧ (∀ ms o,msF ms op o=ms)∧(∀ b,bF b op=b)∧∀ gv o,gvF gv op o=gv:=by
 cases op with
 | make r=>exact absurd ⟨r,rfl⟩ o1
 | hear b=>exact absurd ⟨b,rfl⟩ o2
 | give=>exact absurd rfl o3
 | take gr sl f e=>exact ⟨_,_,rfl,by decide +kernel,by decide +kernel,by decide +kernel,fun _ _=>rfl,fun _=>rfl,fun _ _=>rfl⟩
 | write r=>exact ⟨_,_,rfl,by decide +kernel,by decide +kernel,by decide +kernel,fun _ _=>rfl,fun _=>rfl,fun _ _=>rfl⟩
 | fall=>exact ⟨_,_,rfl,by decide +kernel,by decide +kernel,by decide +kernel,fun _ _=>rfl,fun _=>rfl,fun _ _=>rfl⟩
 | rise=>exact ⟨_,_,rfl,by decide +kernel,by decide +kernel,by decide +kernel,fun _ _=>rfl,fun _=>rfl,fun _ _=>rfl⟩
theorem HQ {o:Option Int}:oV o = .non↔o=none:=by cases o <;> simp [oV]
section
variable {P:Program} {w:World} {K:PySem.W.Frag} {mg:Str→Option Value} {base:Heap} {CX:CXT} {C CS CM CH CD CU CA CN CW CT CR:Addr}
theorem yE:ay ["note", "lines", "line"] ["note", "lines"] (ak (top 62)):=by walk_at "s"
def rf (K:PySem.W.Frag):Sp:=fun vs H Q _=>∃ (tn a:Addr) (n:Nt) (ls:Lns),vs=[.ref tn,.ref a]∧jq K H tn n∧nN n∧H a=some (.lst (lnV ls))∧dw H ls∧cN ls∧∀ t H',jq K H' t (f7 n ls)→aF H H'→Q (.ref t) H'
theorem yZ (D:Dat K mg "with_lines" "with_lines" (top 62) ["note", "lines"]) (NE:bh CX) (f9:Cal P w K mg base CX "read_on" 3 ["told", "line"] (jv K)):Cal P w K mg base CX "with_lines" 4 ["note", "lines"] (rf K):=by
 have S:=yE
 walk_at "d"
 ·obtain ⟨tn,a,n,ls,rfl,_⟩:=h
  rfl
 obtain ⟨tn,a,n,ls,rfl,hn0,hnk,hl,hL,hg,q⟩:=h
 refine ⟨_,(ai (ig PassesOwn.never rfl (eK (pv 1)) (bg (i:=2) S.nd rfl (by first | exact Or.inl rfl | exact Or.inr rfl)) (aj (aK (i:=0) S.nd rfl (by first | exact Or.inl rfl | exact Or.inr rfl) (aI f9 (hr.mono (by first | decide | omega)) NE.pass (aa (pv 0) (aa (pv 2) af))))))
   (aj (au (pv 0)))),?_⟩
 try dsimp only [aZ]
 walk_at "go"
 refine gA (SqL.of hl) ?_
 refine mL (lnV ls) (fun i σ H'=>∃ (t:Addr) (u2:Option V),σ=[some (.ref t),some (.ref a),u2]∧jq K H' t (f7 n (ls.take i))∧aF H H') ⟨tn,_,rfl,hn0,aF.refl _⟩ (fun i σ H' _ ⟨_,_,_,_,sm⟩=>sm.seq (SqL.of hl)) ?_ ?_
 ·rintro i v σ HG hv ⟨t,u2,rfl,hn,sm⟩
  obtain ⟨x,hx,rfl⟩:=lK hv
  have xm:=List.mem_of_getElem? hx
  try dsimp only [bO]
  walk_at "go"
  refine ⟨t,x.1,_,x.2,rfl,hn,iD hnk fun y hy=>hg y (List.mem_of_mem_take hy),(hL x xm).same sm,hg x xm,fun t2 H2 hn2 s2=>?_⟩
  walk_at "go"
  exact ⟨t2,_,rfl,by rw [mP hx];exact hn2,sm.trans s2⟩
 ·rintro σ HG ⟨t,u2,rfl,hn,sm⟩
  rw [gq,List.take_length] at hn
  walk_at "go"
  exact q _ _ hn sm
theorem A1:ay ["marks", "mark"] ["marks", "mark"] (ak (top 63)):=by walk_at "s"
def wK:Sp:=fun vs H Q _=>∃ (t:Addr) (ms:List Int) (m:Int),vs=[.ref t,.int m]∧H t=some (.tup (ms.map V.int))∧ms.Pairwise (· < ·)∧ms.length≤60∧∀ u H',H' u=some (.tup ((mE ms m).map V.int))→aF H H'→Q (.ref u) H'
theorem BH (D:Dat K mg "with_mark" "with_mark" (top 63) ["marks", "mark"]) (BT:Bt mg):Cal P w K mg base CX "with_mark" 1 ["marks", "mark"] wK:=by
 have S:=A1
 walk_at "d"
 ·obtain ⟨t,ms,m,rfl,_⟩:=h
  rfl
 obtain ⟨t,ms,m,rfl,ht,asc,hl,q⟩:=h
 refine ⟨_,(aj (au (cO jO rfl BT.tuple_ L3.dj (aa (kM rfl rfl rfl BT.sorted BT.set_ (aQ gp (pv 0) (aS (aa (pv 1) af)))) af)))),?_⟩
 try dsimp only [aZ]
 have L:=(Led.start H (fun _=>False)).more (aH t _) ht
 walk_at "go"
 refine mG ?_
 walk_at "go"
 refine vv L' (by walk_at "mem") (by walk_at "mem") (by rw [List.length_map];exact Nat.le_of_lt (small1000 (by simp;omega))) fun tc H2 M s2=>?_
 have htc:H2 tc=some (.tup ((ms++[m]).map V.int)):=by
  have:=M.tup (r:=tc) (by walk_at "mem")
  rw [List.map_append];exact this
 refine kP (SqT.of htc) (by rw [List.length_append,List.length_singleton];omega) fun l ys H3 nl hs hle hl s3=>?_
 have e:=n6 asc hs
 subst e
 have sA:=(L'.same.trans s2).trans s3
 clear L L' M
 walk_at "go"
 refine iB (Led.start H3 (fun _=>False)) (SqL.of hl) fun u H4 nu N s4=>?_
 walk_at "go"
 exact q u H4 (N.tup (by walk_at "mem")) (sA.trans s4)
theorem DK:ay ["given", "grant", "end", "old", "least"] ["given", "grant", "end"] (ak (top 64)):=by walk_at "s"
def AE:Sp:=fun vs H Q _=>∃ (t:Addr) (gv:List (Option Int)) (i:Nat) (e:Int),vs=[.ref t,.int ((i:Int)+1),.int e]∧H t=some (.tup (gv.map oV))∧i < gv.length∧gv.length≤10∧∀ u H',H' u=some (.tup ((jM gv i e).map oV))→aF H H'→Q (.ref u) H'
theorem Ek (D:Dat K mg "with_end" "with_end" (top 64) ["given", "grant", "end"]) (BT:Bt mg):Cal P w K mg base CX "with_end" 1 ["given", "grant", "end"] AE:=by
 have S:=DK
 walk_at "d"
 ·obtain ⟨t,gv,i,e,rfl,_⟩:=h
  rfl
 obtain ⟨t,gv,i,e,rfl,ht,hi,hl,q⟩:=h
 refine ⟨_,(ai (aK (i:=3) S.nd rfl (by first | exact Or.inl rfl | exact Or.inr rfl) (aq ao (pv 0) (aQ iz (pv 1) ah) (fun _ _=>rfl)))
   (ai (aK (i:=4) S.nd rfl (by first | exact Or.inl rfl | exact Or.inr rfl) (bZ (cy (dh (pv 3))) (pv 2) (bq (xQ rfl) rfl BT.min L3.qC (aa (pv 3) (aa (pv 2) af)))))
   (aj (au (aQ gp (aQ gp (dg gg (pv 0) eH (eF (aQ iz (pv 1) ah))) (aS (aa (pv 4) af))) (dg gg (pv 0) (eF (pv 1)) eH)))))),?_⟩
 try dsimp only [aZ]
 have L:=(Led.start H (fun _=>False)).more (aH t _) ht
 obtain ⟨o,eo⟩:∃ o,gv[i]?=some o:=⟨_,List.getElem?_eq_getElem hi⟩
 walk_at "go"
 refine cA (SqT.of ht) (v:=oV o) (by rw [show (i:Int)+1 - 1=(i:Int) by omega];exact eV (by rw [List.getElem?_map,eo];rfl)) ?_
 walk_at "go"
 have eL:jM gv i e=gv.take i++[some (p5 o e)]++gv.drop (i+1):=by rw [xJ e hi,eo];rfl
 clear L
 refine bD (fun c=>?_) (fun c=>?_)
 ·have c':=HQ.mp c
  subst c'
  walk_at "go"
  refine kO (i:=i) ht (by omega) (by rw [List.length_map];exact hi) fun t1 H1 h1 s1=>?_
  have L:=Led.start H1 (fun _=>False)
  walk_at "go"
  have sx:=L'.same
  refine gB (sx _ _ h1) (L'.tup (by walk_at "mem")) (by rw [List.length_take,List.length_map,List.length_singleton];omega) fun t2 H2 h2 s2=>?_
  clear L L'
  walk_at "go"
  refine sP (i:=i+1) (s2 _ _ (sx _ _ (s1 _ _ ht))) (by omega) (by omega) (by rw [List.length_map];omega) fun t3 H3 h3 s3=>?_
  refine gB (s3 _ _ h2) h3 (by rw [List.length_append,List.length_take,List.length_drop,List.length_map,List.length_singleton];omega) fun t4 H4 h4 s4=>?_
  walk_at "go"
  exact q t4 H4 (by rw [h4,eL,List.map_append,List.map_append,List.map_take,List.map_drop];rfl) ((((s1.trans sx).trans s2).trans s3).trans s4)
 ·obtain ⟨o',rfl⟩:∃ z,o=some z:=by
   cases o with
   | none=>exact absurd rfl c
   | some z=>exact ⟨z,rfl⟩
  walk_at "go"
  show D7 [V.int o',V.int e] H _
  walk_at "go"
  refine kO (i:=i) ht (by omega) (by rw [List.length_map];exact hi) fun t1 H1 h1 s1=>?_
  have L:=Led.start H1 (fun _=>False)
  walk_at "go"
  have sx:=L'.same
  refine gB (sx _ _ h1) (L'.tup (by walk_at "mem")) (by rw [List.length_take,List.length_map,List.length_singleton];omega) fun t2 H2 h2 s2=>?_
  clear L L'
  walk_at "go"
  refine sP (i:=i+1) (s2 _ _ (sx _ _ (s1 _ _ ht))) (by omega) (by omega) (by rw [List.length_map];omega) fun t3 H3 h3 s3=>?_
  refine gB (s3 _ _ h2) h3 (by rw [List.length_append,List.length_take,List.length_drop,List.length_map,List.length_singleton];omega) fun t4 H4 h4 s4=>?_
  walk_at "go"
  exact q t4 H4 (by rw [h4,eL,List.map_append,List.map_append,List.map_take,List.map_drop];rfl) ((((s1.trans sx).trans s2).trans s3).trans s4)
theorem G1:ay ["self", "state", "deed"] ["self", "state", "deed"] (ak (inClass (top 65) 4)):=by walk_at "s"
def AK (K:PySem.W.Frag) (C CS CM:Addr):Sp:=fun vs H Q _=>∃ (x:Sm) (as:List Ar) (d:Hd) (t u:Addr) (S:Sta) (op:Op),vs=[.ref x.p,.ref t,.ref u]∧SmW C CS CM H x as d∧SAt K H t S∧jQ S∧H u=some (.tup (opT op))∧kE as op∧(bS (opF d S.n S.g S.pl op).1=true→∀ H',aF H H'→Q .non H')∧SfH d S.n S.g S.pl op H Q
theorem Hz (D:cC K CM "step_or_none" "Small.step_or_none" (inClass (top 65) 4) ["self", "state", "deed"]) (SC:SmC K CM) (BT:Bt mg) (NE:bh (CX1 P w)) (gw:mg "RiseError" = some (.ref CR)) (ET:∀ c∈ers CD CU CA CN CW CT,PySem.W.exmOne K (.ref c) (.ref CR)=some true) (qI:bB P w K mg base (CX1 P w) CM "step" 6 ["self", "stand", "deed"] (AG K C CS CM CD CU CA CN CW CT)):bB P w K mg base (CX1 P w) CM "step_or_none" 8 ["self", "state", "deed"] (AK K C CS CM):=by
 have S:=G1
 refine eT D S (fun vs H Q E h=>?_) (fun f cdv A outer s H vs Q E hr h=>?_)
 ·obtain ⟨x,as,d,t,u,S,op,rfl,_⟩:=h
  rfl
 obtain ⟨x,as,d,t,u,St,op,rfl,hW,hS,ok,hu,ho,qe,q⟩:=h
 refine ⟨_,(aj (w9 rfl rfl rfl gw BD (fun _ _=>(aj (au (l0 qI (hr.mono (by first | decide | omega)) aP (pv 0) (aa (dg (DE (K:=K) rfl) (pv 1) eH (eF ah)) (aa (pv 2) af)))))) (fun _=>(aj (au cz))))),?_⟩
 try dsimp only [aZ]
 obtain ⟨pv,tn,tm,tg,h1,h2,h3,h5,h6⟩:=id hS
 walk_at "go"
 obtain ⟨dx,hx⟩:=hW.1.1
 refine bu hx DC ?_
 walk_at "go"
 refine kO (i:=3) h1 rfl (by simp) fun t3 H1 ht3 s1=>?_
 walk_at "go"
 refine ⟨x,as,d,t3,u,St.pl,St.n,St.g,op,rfl,hW.same s1,⟨pv,tn,ht3,h2.same s1,h3.same s1⟩,ok.k0,ok.n,s1 _ _ hu,ho,fun z c dx' H' hc sm _=>?_,fun z t' H' ht' sm=>?_⟩
 ·refine iC (ET c hc) ?_
  walk_at "go"
  exact qe z H' (s1.trans sm)
 ·walk_at "go"
  exact q z t' H' ht' (s1.trans sm)
theorem Bj:ay ["self", "state", "deed", "step", "note", "taken", "made", "bound", "given", "behind"] ["self", "state", "deed"] (ak (inClass (top 65) 5)):=by walk_at "s"
def wV (K:PySem.W.Frag) (C CS CM:Addr):Sp:=fun vs H Q _=>∃ (x:Sm) (as:List Ar) (d:Hd) (t u:Addr) (S:Sta) (op:Op),vs=[.ref x.p,.ref t,.ref u]∧SmW C CS CM H x as d∧SAt K H t S∧jQ S∧S.ms.length≤60∧S.gv.length≤10∧H u=some (.tup (opT op))∧kE as op∧(bS (opF d S.n S.g S.pl op).1=true→∀ H',aF H H'→Q .non H') ∧
 (bS (opF d S.n S.g S.pl op).1=false→eqD (stD (nxS S op (opF d S.n S.g S.pl op))) (stD S)=true→∀ H',aF H H'→Q .non H') ∧
 (bS (opF d S.n S.g S.pl op).1=false→eqD (stD (nxS S op (opF d S.n S.g S.pl op))) (stD S)=false→∀ z H',SAt K H' z (nxS S op (opF d S.n S.g S.pl op))→aF H H'→Q (.ref z) H')
theorem B3 (D:cC K CM "after" "Small.after" (inClass (top 65) 5) ["self", "state", "deed"]) (BT:Bt mg) (NE:bh (CX1 P w)) (cM:bB P w K mg base (CX1 P w) CM "step_or_none" 8 ["self", "state", "deed"] (AK K C CS CM)) (qo:Cal P w K mg base (CX1 P w) "with_lines" 4 ["note", "lines"] (rf K)) (bE:Cal P w K mg base (CX1 P w) "greatest_taken" 3 ["lines"] (eZ K))
  (tF:Cal P w K mg base (CX1 P w) "with_mark" 1 ["marks", "mark"] wK) (vI:Cal P w K mg base (CX1 P w) "with_end" 1 ["given", "grant", "end"] AE):bB P w K mg base (CX1 P w) CM "after" 9 ["self", "state", "deed"] (wV K C CS CM):=by
 have S:=Bj
 refine eT D S (fun vs H Q E h=>?_) (fun f cdv A outer s H vs Q E hr h=>?_)
 ·obtain ⟨x,as,d,t,u,S,op,rfl,_⟩:=h
  rfl
 obtain ⟨x,as,d,t,u,St,op,rfl,hW,hS,ok,hm60,hg10,hu,ho,qe,q1,q2⟩:=h
 refine ⟨_,(ai (aK (i:=3) S.nd rfl (by first | exact Or.inl rfl | exact Or.inr rfl) (iy cM (hr.mono (by first | decide | omega)) NE.pass (pv 0) (aa (pv 1) (aa (pv 2) af))))
   (ai (aX (cy (dh (pv 3))) (aj (au cz)) aE)
   (ai (aK (i:=4) S.nd rfl (by first | exact Or.inl rfl | exact Or.inr rfl) (aI qo (hr.mono (by first | decide | omega)) NE.pass (aa (aq ao (pv 1) ah (fun _ _=>rfl)) (aa (aq ao (pv 3) ah (fun _ _=>rfl)) af))))
   (ai (aK (i:=5) S.nd rfl (by first | exact Or.inl rfl | exact Or.inr rfl) (bq (oF rfl) rfl BT.max L3.dX (aa (aq ao (pv 1) ah (fun _ _=>rfl)) (aa (aI bE (hr.mono (by first | decide | omega)) NE.pass (aa (aq ao (pv 3) ah (fun _ _=>rfl)) af)) af))))
   (ai (aK (i:=6) S.nd rfl (by first | exact Or.inl rfl | exact Or.inr rfl) (bZ (aG bQ (aq ao (pv 2) ah (fun _ _=>rfl)) aL (aM _)) (aI tF (hr.mono (by first | decide | omega)) NE.pass (aa (aq ao (pv 1) ah (fun _ _=>rfl)) (aa (aq ao (pv 3) ah (fun _ _=>rfl)) af))) (aq ao (pv 1) ah (fun _ _=>rfl))))
   (ai (aK (i:=7) S.nd rfl (by first | exact Or.inl rfl | exact Or.inr rfl) (bZ (aG bQ (aq ao (pv 2) ah (fun _ _=>rfl)) aL (aM _)) (bq (oF rfl) rfl BT.max L3.dX (aa (aq ao (pv 1) ah (fun _ _=>rfl)) (aa (aq ao (pv 2) ah (fun _ _=>rfl)) af))) (aq ao (pv 1) ah (fun _ _=>rfl))))
   (ai (aK (i:=8) S.nd rfl (by first | exact Or.inl rfl | exact Or.inr rfl) (bZ (aG bQ (aq ao (pv 2) ah (fun _ _=>rfl)) aL (aM _)) (aI vI (hr.mono (by first | decide | omega)) NE.pass (aa (aq ao (pv 1) ah (fun _ _=>rfl)) (aa (aq ao (aq ao (pv 3) ah (fun _ _=>rfl)) ah (fun _ _=>rfl)) (aa (aq ao (aq ao (pv 3) ah (fun _ _=>rfl)) ah (fun _ _=>rfl)) af)))) (aq ao (pv 1) ah (fun _ _=>rfl))))
   (ai (aK (i:=9) S.nd rfl (by first | exact Or.inl rfl | exact Or.inr rfl) (aS (aa (aq ao (pv 3) ah (fun _ _=>rfl)) (aa (pv 4) (aa (pv 5) (aa (pv 6) (aa (pv 7) (aa (pv 8) af))))))))
   (aj (au (bZ (aG (BF (hr.mono (Nat.zero_le _))) (pv 9) (pv 1) (aM _)) cz (pv 9)))))))))))),?_⟩
 try dsimp only [aZ]
 obtain ⟨dx,hx⟩:=hW.1.1
 walk_at "go"
 refine bu hx AW ?_
 walk_at "go"
 refine ⟨x,as,d,t,u,St,op,rfl,hW,hS,ok,hu,ho,fun z H1 s1=>?_,fun z ts H1 hts s1=>?_⟩
 ·walk_at "go"
  exact qe z H1 s1
 obtain ⟨v,l,pv2,ls,t1,t2,t3,t4,t5,t6,t7,t8⟩:=hts
 obtain ⟨pv,tn,tm,tg,h1,h2,h3,h5,h6⟩:=id (hS.same s1)
 have L:=((((Led.start H1 (fun _=>False)).more (aH t _) h1).more (aH ts _) t1).more (aH u _) (s1 _ _ hu))
 walk_at "go"
 refine aV (fun z=>nomatch z) ?_
 walk_at "go"
 refine ⟨tn,l,St.n,ls,rfl,h3,ok.n,t2,t3,t7,fun tn2 H2 hn2 s2=>?_⟩
 clear L
 have L:=((((Led.start H2 (fun _=>False)).more (aH t _) (s2 _ _ h1)).more (aH ts _) (s2 _ _ t1)).more (aH u _) (s2 _ _ (s1 _ _ hu)))
 walk_at "go"
 refine ⟨l,ls,rfl,SqL.of (s2 _ _ t2),t3.same s2,t7,by omega,fun H3 s3=>?_⟩
 have eN:∀ op':Op,(nxS St op' (opF d St.n St.g St.pl op)).n=f7 St.n ls:=fun op'=>by rw [zK,t4];rfl
 have eG:(gts ls).foldl max 0=gX (opF d St.n St.g St.pl op).2.1:=by rw [← t4,← vp];rfl
 clear L
 have L:=((((Led.start H3 (fun _=>False)).more (aH t _) (s3 _ _ (s2 _ _ h1))).more (aH ts _) (s3 _ _ (s2 _ _ t1))).more (aH u _) (s3 _ _ (s2 _ _ (s1 _ _ hu))))
 by_cases o1:∃ r,op = .make r
 ·obtain ⟨r,rfl⟩:=o1
  obtain ⟨m,em⟩:=mj z
  rw [em] at t5
  cases t5
  walk_at "go"
  refine ⟨tm,St.ms,m,rfl,s3 _ _ (s2 _ _ h5),ok.asc,hm60,fun tm2 H4 hm2 s4=>?_⟩
  clear L
  have L:=((((Led.start H4 (fun _=>False)).more (aH t _) (s4 _ _ (s3 _ _ (s2 _ _ h1)))).more (aH ts _) (s4 _ _ (s3 _ _ (s2 _ _ t1)))).more (aH u _) (s4 _ _ (s3 _ _ (s2 _ _ (s1 _ _ hu)))))
  walk_at "go"
  refine aV (by decide +kernel) ?_
  walk_at "go"
  refine aV (by decide +kernel) ?_
  walk_at "go"
  walk_at "go"
  obtain ⟨tb,etb⟩:∃ z,z=t':=⟨_,rfl⟩
  subst etb
  have hb:=L'.tup (r:=tb) (by walk_at "mem")
  have sb:=L'.same
  have hN:SAt K _ tb (nxS St (.make r) (opF d St.n St.g St.pl (.make r))):=⟨pv2,tn2,tm2,tg,by rw [eG] at hb;exact hb,(t6.same ((s2.trans s3).trans s4)).same sb,by rw [eN];exact ((hn2.same s3).same s4).same sb,by rw [show (nxS St (.make r) (opF d St.n St.g St.pl (.make r))).ms=mE St.ms m from (by show msF St.ms (.make r) _=_;rw [em];rfl)];exact sb _ _ (hm2),by rw [show (nxS St (.make r) (opF d St.n St.g St.pl (.make r))).gv=St.gv from rfl];exact sb _ _ (s4 _ _ (s3 _ _ (s2 _ _ h6)))⟩
  have hS9:SAt K _ t St:=hS.same ((((s1.trans s2).trans s3).trans s4).trans sb)
  refine oE hN.at hS9.at (gS _) ?_
  cases eb:eqD (stD (nxS St (.make r) (opF d St.n St.g St.pl (.make r)))) (stD St) with
  | true=>
   walk_at "go"
   exact q1 z eb _ ((((s1.trans s2).trans s3).trans s4).trans sb)
  | false=>
   walk_at "go"
   exact q2 z eb _ _ hN ((((s1.trans s2).trans s3).trans s4).trans sb)
 by_cases o2:∃ b,op = .hear b
 ·obtain ⟨b,rfl⟩:=o2
  walk_at "go"
  refine aV (by decide +kernel) ?_
  walk_at "go"
  refine aV (by decide +kernel) ?_
  walk_at "go"
  walk_at "go"
  obtain ⟨tb,etb⟩:∃ z,z=t':=⟨_,rfl⟩
  subst etb
  have hb:=L'.tup (r:=tb) (by walk_at "mem")
  have sb:=L'.same
  have hN:SAt K _ tb (nxS St (.hear b) (opF d St.n St.g St.pl (.hear b))):=⟨pv2,tn2,tm,tg,by rw [eG] at hb;exact hb,(t6.same ((s2.trans s3).trans (aF.refl _))).same sb,by rw [eN];exact ((hn2.same s3).same (aF.refl _)).same sb,by rw [show (nxS St (.hear b) (opF d St.n St.g St.pl (.hear b))).ms=St.ms from rfl];exact sb _ _ (s3 _ _ (s2 _ _ h5)),by rw [show (nxS St (.hear b) (opF d St.n St.g St.pl (.hear b))).gv=St.gv from rfl];exact sb _ _ (s3 _ _ (s2 _ _ h6))⟩
  have hS9:SAt K _ t St:=hS.same ((((s1.trans s2).trans s3).trans (aF.refl _)).trans sb)
  refine oE hN.at hS9.at (gS _) ?_
  cases eb:eqD (stD (nxS St (.hear b) (opF d St.n St.g St.pl (.hear b)))) (stD St) with
  | true=>
   walk_at "go"
   exact q1 z eb _ ((((s1.trans s2).trans s3).trans (aF.refl _)).trans sb)
  | false=>
   walk_at "go"
   exact q2 z eb _ _ hN ((((s1.trans s2).trans s3).trans (aF.refl _)).trans sb)
 by_cases o3:op = .give
 ·subst o3
  obtain ⟨m1,k1,sl1,f1,e1,epl,ear,em⟩:=xF z
  rw [em] at t5
  obtain ⟨tv,rfl,htv⟩:=t5
  have g1:=ok.n.yes (by rw [ear];rfl)
  have g2:=ok.gl (by rw [ear];rfl)
  obtain ⟨i,ei⟩:∃ i,(St.n.g - 1).toNat=i:=⟨_,rfl⟩
  have L:=L.more (aH tv _) (s3 _ _ (s2 _ _ htv))
  walk_at "go"
  refine aV (by decide +kernel) ?_
  walk_at "go"
  refine aV (by decide +kernel) ?_
  walk_at "go"
  rw [show St.n.g=(i:Int)+1 by omega]
  walk_at "go"
  refine ⟨tg,St.gv,i,_,rfl,s3 _ _ (s2 _ _ h6),by omega,hg10,fun tg2 H4 hg2 s4=>?_⟩
  clear L
  have L:=((((Led.start H4 (fun _=>False)).more (aH t _) (s4 _ _ (s3 _ _ (s2 _ _ h1)))).more (aH ts _) (s4 _ _ (s3 _ _ (s2 _ _ t1)))).more (aH u _) (s4 _ _ (s3 _ _ (s2 _ _ (s1 _ _ hu)))))
  walk_at "go"
  obtain ⟨tb,etb⟩:∃ z,z=t':=⟨_,rfl⟩
  subst etb
  have hb:=L'.tup (r:=tb) (by walk_at "mem")
  have sb:=L'.same
  have hN:SAt K _ tb (nxS St .give (opF d St.n St.g St.pl .give)):=⟨pv2,tn2,tm,tg2,by rw [eG] at hb;exact hb,(t6.same ((s2.trans s3).trans s4)).same sb,by rw [eN];exact ((hn2.same s3).same s4).same sb,by rw [show (nxS St .give (opF d St.n St.g St.pl .give)).ms=St.ms from rfl];exact sb _ _ (s4 _ _ (s3 _ _ (s2 _ _ h5))),by rw [show (nxS St .give (opF d St.n St.g St.pl .give)).gv=jM St.gv i (cR f1 m1 k1 St.n.hd) from (by show gvF St.gv .give _=_;rw [em];show jM _ _ _=_;rw [ei])];exact sb _ _ (hg2)⟩
  have hS9:SAt K _ t St:=hS.same ((((s1.trans s2).trans s3).trans s4).trans sb)
  refine oE hN.at hS9.at (gS _) ?_
  cases eb:eqD (stD (nxS St .give (opF d St.n St.g St.pl .give))) (stD St) with
  | true=>
   walk_at "go"
   exact q1 z eb _ ((((s1.trans s2).trans s3).trans s4).trans sb)
  | false=>
   walk_at "go"
   exact q2 z eb _ _ hN ((((s1.trans s2).trans s3).trans s4).trans sb)
 ·obtain ⟨wd,rest,eop,n1,n2,n3,em,eb,eg⟩:=rR o1 o2 o3
  clear L
  have hu3:H3 u=some (.tup (.str wd::rest)):=by
   have:=s3 _ _ (s2 _ _ (s1 _ _ hu))
   rw [eop] at this;exact this
  have L:=((Led.start H3 (fun _=>False)).more (aH t _) (s3 _ _ (s2 _ _ h1))).more (aH ts _) (s3 _ _ (s2 _ _ t1))
  walk_at "go"
  refine cA (SqT.of hu3) eU ?_
  walk_at "go"
  refine cA (SqT.of hu3) eU ?_
  walk_at "go"
  refine cA (SqT.of hu3) eU ?_
  walk_at "go"
  obtain ⟨tb,etb⟩:∃ z,z=t':=⟨_,rfl⟩
  subst etb
  have hb:=L'.tup (r:=tb) (by walk_at "mem")
  have sb:=L'.same
  have hN:SAt K _ tb (nxS St op (opF d St.n St.g St.pl op)):=⟨pv2,tn2,tm,tg,by rw [eG] at hb;rw [show (nxS St op (opF d St.n St.g St.pl op)).b=St.b from eb _];exact hb,(t6.same ((s2.trans s3).trans (aF.refl _))).same sb,by rw [eN];exact ((hn2.same s3).same (aF.refl _)).same sb,by rw [show (nxS St op (opF d St.n St.g St.pl op)).ms=St.ms from em _ _];exact sb _ _ (s3 _ _ (s2 _ _ h5)),by rw [show (nxS St op (opF d St.n St.g St.pl op)).gv=St.gv from eg _ _];exact sb _ _ (s3 _ _ (s2 _ _ h6))⟩
  have hS9:SAt K _ t St:=hS.same ((((s1.trans s2).trans s3).trans (aF.refl _)).trans sb)
  refine oE hN.at hS9.at (gS _) ?_
  cases eb:eqD (stD (nxS St op (opF d St.n St.g St.pl op))) (stD St) with
  | true=>
   walk_at "go"
   exact q1 z eb _ ((((s1.trans s2).trans s3).trans (aF.refl _)).trans sb)
  | false=>
   walk_at "go"
   exact q2 z eb _ _ hN ((((s1.trans s2).trans s3).trans (aF.refl _)).trans sb)
end
theorem Gz {K:PySem.W.Frag} {H:Hp} {Q:VK} {p:Addr} {m:Int} {ms:List Int} (s:SqT K H p (ms.map V.int)) (h:Q (.bl (decide (m∈ms))) H):rIn K false (.int m) (.ref p) H Q:=
 ⟨p,_,rfl,.inr s,rfl,Cw ms,by rw [if_neg Bool.false_ne_true,ES];exact h⟩
theorem zu {c s m sl k:Int} (hc : 1≤c) (hs : 1≤s) (hm : 0≤m) (hsl : 0≤sl) (hk : 0≤k) : 0≤mk c s m sl k:=by
 unfold mk
 have h1 : 0≤m * s:=Int.mul_nonneg hm (by omega)
 have h2 : 0≤(m * s+sl) * c:=Int.mul_nonneg (by omega) (by omega)
 omega
def bV:Option Str→V
 | none=>.non
 | some z=>.str z
theorem B7 {d:Hd} {S:Sta} {r m:Int} (h:mkF d S r=some m):(opF d S.n S.g S.pl (.make r)).1 = .int m:=by
 unfold mkF at h
 split at h
 ·rename_i m' e
  cases h
  exact e
 ·cases h
theorem mq {d:Hd} {n:Nt} {g r:Int} {pl:Option (Int×Int)} {M:Int} (h:(opF d n g pl (.make r)).1 = .int M):∃ m k sl f e,pl=some (m,k)∧n.ar=some (sl,f,e)∧¬ e≤due m f r∧¬ r+d.far < due m f r∧¬ (("ahead" : Str)∈d.ws∧n.hd≤due m f r)∧M=mk d.c d.s (due m f r) sl (cnt m f r k):=by
 simp only [opF] at h
 split at h
 ·cases h
 ·rename_i m k
  split at h
  ·cases h
  ·rename_i sl f e ha
   split at h
   ·cases h
   ·rename_i c1
    split at h
    ·cases h
    ·rename_i c2
     split at h
     ·cases h
     ·rename_i c3
      cases h
      exact ⟨m,k,sl,f,e,rfl,ha,c1,c2,c3,rfl⟩
section
variable {P:Program} {w:World} {K:PySem.W.Frag} {mg:Str→Option Value} {base:Heap} {CX:CXT} {C CS CM CH CD CU CA CN CW CT CR:Addr}
theorem G6:ay ["self", "state", "deed", "step", "mark", "moment", "end"] ["self", "state", "deed"] (ak (inClass (top 65) 6)):=by walk_at "s"
def Gg (K:PySem.W.Frag) (C CS CM:Addr):Sp:=fun vs H Q _=>∃ (x:Sm) (as:List Ar) (d:Hd) (t u:Addr) (S:Sta) (op:Op),vs=[.ref x.p,.ref t,.ref u]∧SmW C CS CM H x as d∧SAt K H t S∧jQ S∧S.ms.length≤60∧H u=some (.tup (opT op))∧kE as op∧∀ H',aF H H'→Q (bV (nM d S op)) H'
theorem HP (D:cC K CM "bad" "Small.bad" (inClass (top 65) 6) ["self", "state", "deed"]) (SM:SmC K CM) (SS:StC K CS) (BT:Bt mg) (NE:bh (CX1 P w)) (cM:bB P w K mg base (CX1 P w) CM "step_or_none" 8 ["self", "state", "deed"] (AK K C CS CM)) (jk:Cal P w K mg base (CX1 P w) "parts_of" 1 ["shape", "mark"] (pq C)) (cB:Cal P w K mg base (CX1 P w) "grant_in" 1 ["stand"] (iU K)):bB P w K mg base (CX1 P w) CM "bad" 9 ["self", "state", "deed"] (Gg K C CS CM):=by
 have S:=G6
 refine eT D S (fun vs H Q E h=>?_) (fun f cdv A outer s H vs Q E hr h=>?_)
 ·obtain ⟨x,as,d,t,u,S,op,rfl,_⟩:=h
  rfl
 obtain ⟨x,as,d,t,u,St,op,rfl,hW,hS,ok,hm60,hu,ho,q⟩:=h
 refine ⟨_,(ai (aK (i:=3) S.nd rfl (by first | exact Or.inl rfl | exact Or.inr rfl) (bZ (aG bQ (aq ao (pv 2) ah (fun _ _=>rfl)) aL (aM _)) (iy cM (hr.mono (by first | decide | omega)) NE.pass (pv 0) (aa (pv 1) (aa (pv 2) af))) cz))
   (ai (aX (cy (dh (pv 3))) (aj (au cz)) aE)
   (ai (aK (i:=4) S.nd rfl (by first | exact Or.inl rfl | exact Or.inr rfl) (aq ao (pv 3) ah (fun _ _=>rfl)))
   (ai (aK (i:=5) S.nd rfl (by first | exact Or.inl rfl | exact Or.inr rfl) (aq ao (aI jk (hr.mono (by first | decide | omega)) NE.pass (aa (bw (bw (pv 0) rfl) rfl) (aa (pv 4) af))) ah (fun _ _=>rfl)))
   (ai (aK (i:=6) S.nd rfl (by first | exact Or.inl rfl | exact Or.inr rfl) (aq ao (aq ao (pv 1) ah (fun _ _=>rfl)) (aQ iz (aI cB (hr.mono (by first | decide | omega)) NE.pass (aa (dg gg (pv 1) eH (eF ah)) af)) ah) (fun _ _=>rfl)))
   (ai (aX (aG fW (pv 4) (aq ao (pv 1) ah (fun _ _=>rfl)) (by with_unfolding_all rfl)) (aj (au aL)) aE)
   (ai (aX (b8 (bq (CP rfl) rfl BT.any L3.Jy (aa (iV (g:=(bO 0)) rfl (Hq (aq ao (pv 1) ah (fun _ _=>rfl))) (kC (own:=["made"]) (cap:=[4]) (ak (inClass (top 65) 6)).names ["self", "state", "deed", "step", "mark", "moment", "end"] rfl rfl rfl (by decide +kernel)) (fun _ _ _ _=>(bg (i:=0) (show (qE ["self", "state", "deed", "step", "mark", "moment", "end"] ["made"] [4]).Nodup by decide +kernel) rfl (by first | exact Or.inl rfl | exact Or.inr rfl))) (fun _ _ _ _=>iu) (fun _ _ _ _=>(eS oi (pv 1) (pv 0) (aM _)))) af))) (aj (au aL)) aE)
   (ai (aX (PW.pt (fO (cy (gj (pv 6))) (dH (aG l6 (pv 5) (pv 6) (aM _))))) (aj (au aL)) aE)
   (aj (au (bZ (aG oi (pv 5) (aq ao (pv 1) ah (fun _ _=>rfl)) (aM _)) aL cz))))))))))),?_⟩
 try dsimp only [aZ]
 obtain ⟨dx,hx⟩:=hW.1.1
 by_cases hop:∃ r,op = .make r
 rotate_left
 ·have eb:nM d St op=none:=by
   cases op with
   | make r=>exact absurd ⟨r,rfl⟩ hop
   | _=>rfl
  rw [eb] at q
  obtain ⟨wd,rest,eop,nwd⟩:∃ (wd:Str) (rest:List V),opT op = .str wd::rest∧wd ≠ "make" := by
   cases op with
   | make r=>exact absurd ⟨r,rfl⟩ hop
   | take gr sl f e=>exact ⟨_,_,rfl,by decide +kernel⟩
   | hear b=>exact ⟨_,_,rfl,by decide +kernel⟩
   | write r=>exact ⟨_,_,rfl,by decide +kernel⟩
   | fall=>exact ⟨_,_,rfl,by decide +kernel⟩
   | rise=>exact ⟨_,_,rfl,by decide +kernel⟩
   | give=>exact ⟨_,_,rfl,by decide +kernel⟩
  rw [eop] at hu
  walk_at "go"
  refine cA (SqT.of hu) eU ?_
  walk_at "go"
  exact q H (aF.refl _)
 obtain ⟨r,rfl⟩:=hop
 have L:=(Led.start H (fun _=>False)).more (aH u _) hu
 walk_at "go"
 refine bu hx AW ?_
 walk_at "go"
 refine ⟨x,as,d,t,u,St,.make r,rfl,hW,hS,ok,hu,ho,fun z H1 s1=>?_,fun z ts H1 hts s1=>?_⟩
 ·walk_at "go"
  have eb:nM d St (.make r)=none:=by
   have:mkF d St r=none:=by
    unfold mkF
    split
    ·rename_i e;rw [e] at z;cases z
    ·rfl
   show (match mkF d St r with | some m=>mX d St m | none=>none)=none
   rw [this]
  rw [eb] at q
  exact q H1 s1
 obtain ⟨M,eM⟩:=mj z
 obtain ⟨m,k,sl,f,e,epl,ear,c1,c2,c3,eMk⟩:=mq eM
 have eb:nM d St (.make r)=mX d St M:=by
  have:mkF d St r=some M:=by unfold mkF;rw [eM]
  show (match mkF d St r with | some m=>mX d St m | none=>none)=_
  rw [this]
 rw [eb] at q
 obtain ⟨v,l,pv2,ls,t1,t2,t3,t4,t5,t6,t7,t8⟩:=hts
 rw [eM] at t5
 cases t5
 obtain ⟨pv,tn,tm,tg,h1,h2,h3,h5,h6⟩:=id (hS.same s1)
 obtain ⟨dx1,hx1⟩:=(hW.same s1).1.1
 obtain ⟨⟨dy,tr,ms,hst,htr,pm⟩,hsh,hN⟩:=(hW.same s1).2.2
 clear L
 have L:=((((Led.start H1 (fun _=>False)).more (aH t _) h1).more (aH ts _) t1).more (aH u _) (s1 _ _ hu))
 walk_at "go"
 refine aV (fun z=>nomatch z) ?_
 walk_at "go"
 refine ⟨x.p,CM,dx1,_,_,rfl,hx1,SM.cl,SM.n1,lU _ _ _ _,?_⟩
 walk_at "go"
 refine ⟨x.ps,CS,dy,_,_,rfl,hst,SS.cl,SS.n1,nW _ _ _ _ _,?_⟩
 have fa:=ok.far sl f e ear
 have kk:=ok.k0 m k epl
 have hM0 : 0≤M:=by
  rw [eMk]
  refine zu hN.c1 hN.s1 ?_ fa.1 ?_
  ·unfold due;omega
  ·unfold cnt;split <;> omega
 walk_at "go"
 refine ⟨d.sp,d.c,d.s,M,rfl,hN,hsh,hM0,fun tp H2 ntp htp s2=>?_⟩
 clear L
 have L:=((((Led.start H2 (fun _=>False)).more (aH t _) (s2 _ _ h1)).more (aH ts _) (s2 _ _ t1)).more (aH tp _) htp)
 walk_at "go"
 refine kO (i:=3) (s2 _ _ h1) rfl (by simp) fun t3' H3 ht3 s3=>?_
 walk_at "go"
 refine ⟨t3',St.pl,St.n,St.g,rfl,⟨pv,tn,ht3,(h2.same s2).same s3,(h3.same s2).same s3⟩,?_⟩
 have g1:=ok.n.yes (by rw [ear];rfl)
 have g2:=ok.gl (by rw [ear];rfl)
 obtain ⟨i,ei⟩:∃ i,(St.n.g - 1).toNat=i:=⟨_,rfl⟩
 have hi:i < St.gv.length:=by omega
 obtain ⟨o,eo⟩:∃ o,St.gv[i]?=some o:=⟨_,List.getElem?_eq_getElem hi⟩
 have s23:=s2.trans s3
 clear L
 have L:=((Led.start H3 (fun _=>False)).more (aH t _) (s23 _ _ h1)).more (aH tm _) (s23 _ _ h5)
 walk_at "go"
 refine cA (SqT.of (s23 _ _ h6)) (v:=oV o) (by rw [show St.n.g - 1=(i:Int) by omega];exact eV (by rw [List.getElem?_map,eo];rfl)) ?_
 walk_at "go"
 refine Gz (SqT.of (s23 _ _ h5)) ?_
 walk_at "go"
 have sA:=s1.trans s23
 have eB:mX d St M=C4 St.ms o (M / d.c / d.s) St.b M:=by
  unfold mX
  rw [ei,eo];rfl
 rw [eB] at q
 unfold C4 at q
 refine bD (fun b1=>?_) (fun b1=>?_)
 ·walk_at "go"
  rw [if_pos b1] at q
  exact q H3 sA
 rw [if_neg b1] at q
 walk_at "go"
 refine Fl (St.ms.map V.int) (fun i ys H'=>ys=((St.ms.take i).map fun x=>decide (M < x)).map V.bl∧H'=H3) ⟨rfl,rfl⟩ (fun i ys H' hi ⟨e,e2⟩=>⟨e2▸SqT.of (s23 _ _ h5),by rw [e,List.length_map,List.length_map,List.length_take];exact Nat.le_of_lt (small1000 (by omega))⟩) ?_ ?_
 ·rintro j y ys H' hy ⟨rfl,rfl⟩
  rw [List.getElem?_map] at hy
  cases en:St.ms[j]? with
  | none=>rw [en] at hy;cases hy
  | some n=>
   rw [en] at hy
   cases hy
   try dsimp only [bO]
   walk_at "go"
   exact ⟨by rw [List.take_add_one,en,Option.toList,List.map_append,List.map_append];rfl,rfl⟩
 rintro ys H' ⟨rfl,rfl⟩ lc nlc
 rw [List.length_map,List.take_length]
 have sB:=sA.trans (dc nlc (.lst ((St.ms.map fun x=>decide (M < x)).map V.bl)))
 have L:=(Led.start (upd H' lc (.lst ((St.ms.map fun x=>decide (M < x)).map V.bl))) (fun _=>False)).more (aH t _) (dc nlc _ _ _ (s23 _ _ h1))
 walk_at "go"
 refine Jh (SqL.of aB) ?_
 have Mj:(St.ms.map fun x=>decide (M < x)).any id=St.ms.any fun x=>decide (M < x):=by rw [List.any_map];rfl
 rw [Mj]
 cases ea:(St.ms.any fun x=>decide (M < x)) with
 | true=>
  rw [if_pos ea] at q
  walk_at "go"
  exact q _ sB
 | false=>
  rw [if_neg (by rw [ea];exact Bool.false_ne_true)] at q
  walk_at "go"
  cases o with
  | none=>
   rw [if_neg (show ¬ zW none (M / d.c / d.s)=true from Bool.false_ne_true)] at q
   refine mJ (show oV none=V.non from rfl) ?_
   walk_at "go"
   refine bD (fun b2=>?_) (fun b2=>?_)
   ·walk_at "go"
    rw [if_pos b2] at q
    exact q _ sB
   ·walk_at "go"
    rw [if_neg b2] at q
    exact q _ sB
  | some e9=>
   refine kg (show ¬ oV (some e9)=V.non from fun z=>nomatch z) ?_
   walk_at "go"
   show rI0 _ (V.int _) (V.int e9) _ _
   walk_at "go"
   refine bD (fun b3=>?_) (fun b3=>?_)
   ·walk_at "go"
    rw [if_pos (show zW (some e9) (M / d.c / d.s)=true from decide_eq_true b3)] at q
    exact q _ sB
   rw [if_neg (show ¬ zW (some e9) (M / d.c / d.s)=true from fun z=>b3 (of_decide_eq_true z))] at q
   walk_at "go"
   refine bD (fun b2=>?_) (fun b2=>?_)
   ·walk_at "go"
    rw [if_pos b2] at q
    exact q _ sB
   ·walk_at "go"
    rw [if_neg b2] at q
    exact q _ sB
end
def w5:List Str:=["spoken", "once", "ends", "apart", "ahead"]
theorem As:w5.Nodup:=by unfold w5;decide +kernel
theorem GP:∀ z∈w5,z∈i0:=by
 intro z hz
 unfold w5 at hz
 unfold i0
 simp only [List.mem_cons,List.not_mem_nil,or_false] at hz ⊢
 rcases hz with rfl | rfl | rfl | rfl | rfl <;> simp
theorem jI {PP:Addr→Prop} {H0 H:Hp} {l l':List (Addr×Ob)} {fs:List Pr} {p:Addr} {b b':Int} (L:Led PP H0 H l fs) (m:Put p (cu b) (cu b') l l') (h:b≤b'):Led PP H0 H l' fs:=
 L.weak m fun _ _ ⟨a,x,c,e,r0,r1,r2,r3⟩=>⟨a,x,c,e,r0,r1,r2,by omega⟩
theorem qc {H0 H:Hp} {p q:Addr} {b:Int} {l:List (Addr×Ob)} {fs:List Pr} (L:Led (fun x=>x=p) H0 H ((p,cu b)::l) fs) (n:H q=none):H0 q=none:=
 (L.fresh n).2.resolve_left fun z=>(L.fresh n).1 _ (.head _) z.symm
theorem G8 {ws:List Str} {i:Nat} (h:ws.Sublist (w5.take i)):RuN ws:=
 ⟨fun z hz=>GP z (List.mem_of_mem_take (h.mem hz)),(h.trans (List.take_sublist _ _)).nodup As⟩
section
variable {P:Program} {w:World} {K:PySem.W.Frag} {mg:Str→Option Value} {base:Heap} {CX:CXT} {C CS CM:Addr}
theorem yN:ay ["_law_hand_here", "_law_rules_here", "_law_word"] ["_law_hand_here"] (ak (top 71)):=by walk_at "s"
def lR:Sp:=fun vs H Q _=>∃ (p:Addr) (b:Int),vs=[.ref p]∧cD H p b∧b≤1000000∧∀ (l:Addr) (ws:List Str) (H':Hp),RuN ws→H l=none→H' l=some (.lst (ws.map V.str))→cD H' p (b+8192)→Oth p H H'→Q (.ref l) H'
theorem zh (D:Dat K mg "_law_rules" "_law_rules" (top 71) ["_law_hand_here"]) (NE:bh CX) (aO:Cal P w K mg base CX "_law_pick" 11 ["_law_hand_here", "_law_many"] jT):Cal P w K mg base CX "_law_rules" 12 ["_law_hand_here"] lR:=by
 have S:=yN
 walk_at "d"
 ·obtain ⟨p,b,rfl,_⟩:=h
  rfl
 obtain ⟨p,b,rfl,hh,hb,q⟩:=h
 refine ⟨_,(ai (aX (aG bQ (aI aO (hr.mono (by first | decide | omega)) NE.pass (aa (pv 0) (aa ah af))) ah (aM _)) (aj (au (b9 (aa aL (aa aL (aa aL (aa aL (aa aL af)))))))) aE)
   (ai (aK (i:=1) S.nd rfl (by first | exact Or.inl rfl | exact Or.inr rfl) (b9 af))
   (ai (ig PassesOwn.never rfl (eK (b9 (aa aL (aa aL (aa aL (aa aL (aa aL af))))))) (bg (i:=2) S.nd rfl (by first | exact Or.inl rfl | exact Or.inr rfl)) (aj (aX (aG jB (aI aO (hr.mono (by first | decide | omega)) NE.pass (aa (pv 0) (aa ah af))) ah (aM _)) (aj (bT (xo PySem.F.plainAttrs_list PySem.F.slot_list_append PySem.F.type_list_append j7 (pv 1) (aa (pv 2) af)))) aE)))
   (aj (au (pv 1)))))),?_⟩
 try dsimp only [aZ]
 have L:=jF hh
 walk_at "go"
 refine bH L .head (by decide) (by decide) (by omega) fun r1 H1 a1 a2 L c1=>?_
 walk_at "go"
 refine bD (fun c=>?_) (fun c=>?_)
 ·walk_at "go"
  refine q l' i0 _ ⟨fun _ h=>h,by unfold i0;decide +kernel⟩ (qc L n') (L'.eo .head) ((cu.at (L'.at_ (p,cu _) (by walk_at "mem"))).mono (by omega)) L'.fr
 have M:=L
 clear L
 walk_at "go"
 rename_i lr Hr nr Lr sr _
 have nlr:=qc M nr
 have N:=L'
 clear L' Lr
 obtain ⟨wl,ewl⟩:∃ z,z=l':=⟨_,rfl⟩
 subst ewl
 refine mL (w5.map V.str) (fun i σ H'=>∃ (u2:Option V) (ws:List Str),σ=[some (.ref p),some (.ref lr),u2]∧i≤5∧ws.Sublist (w5.take i)∧Led (fun x=>x=p) H H' [(wl,Eo (.lst (w5.map V.str))),(lr,Eo (.lst (ws.map V.str))),(p,cu (b+1024+1024 * (i:Int)))] [])
  ⟨_,[],rfl,by omega,List.Sublist.refl _,jI N (by walk_at "put") (by omega)⟩ (fun i σ H' _ ⟨_,_,_,_,_,L⟩=>SqL.of (L.eo .head)) ?_ ?_
 ·rintro i v σ HG hv ⟨u2,ws,rfl,hi,hl,L⟩
  rw [List.getElem?_map] at hv
  cases hw:w5[i]? with
  | none=>rw [hw] at hv;cases hv
  | some wo=>
   rw [hw] at hv
   cases Option.some.inj hv
   have hi5:i < 5:=(List.getElem?_eq_some_iff.mp hw).1
   have hwl:(ws.map V.str).length≤5:=by
    have:=hl.length_le
    rw [List.length_take] at this
    rw [List.length_map];omega
   have hl1:(ws++[wo]).Sublist (w5.take (i+1)):=by rw [take_snoc hw];exact hl.append (List.Sublist.refl _)
   have hl2:ws.Sublist (w5.take (i+1)):=by rw [take_snoc hw];exact hl.trans (List.sublist_append_left _ _)
   clear N M
   try dsimp only [bO]
   walk_at "go"
   refine bH L (by walk_at "put") (by decide) (by decide) (by omega) fun r2 H2 b1 b2 L _=>?_
   walk_at "go"
   refine bD (fun z=>?_) (fun z=>?_)
   ·walk_at "go"
    exact ⟨_,ws++[wo],rfl,by omega,hl1,by rw [List.map_append];exact jI L' (by walk_at "put") (by omega)⟩
   ·walk_at "go"
    exact ⟨_,ws,rfl,by omega,hl2,jI L (by walk_at "put") (by omega)⟩
 ·rintro σ HG ⟨u2,ws,rfl,hi,hl,L⟩
  walk_at "go"
  have e5:(w5.map V.str).length=5:=rfl
  exact q lr ws _ (G8 hl) nlr (L.eo (p:=lr) (by walk_at "put")) ((cu.at (L.at_ (p,cu _) (by walk_at "mem"))).mono (by rw [e5];omega)) L.fr
end
structure Nm where
 t:Addr
 c:Int
 s:Int
 far:Int
 room:Int
 lr:Addr
 la:Addr
 m:Nat
def tQ (H:Hp) (n:Nm) (xs:List V):Prop:=H n.t=some (.tup [.int n.c,.int n.s,.int n.far,.int n.room,.ref n.lr,.ref n.la,.int n.m])∧H n.la=some (.lst xs)
theorem tQ.same {H H':Hp} {n:Nm} {xs:List V} (h:tQ H n xs) (s:aF H H'):tQ H' n xs:=⟨s _ _ h.1,s _ _ h.2⟩
def ya (as:List Ar):Prop:=∀ r∈as,0≤r.x∧0≤r.y∧r.y < r.z
structure WdS (C CS CM:Addr) (H:Hp) (x:Sm) (n:Nm) (as:List Ar) (d:Hd):Prop where
 w:SmW C CS CM H x as d
 na:tQ H n (arV as)
 r:H n.lr=some (.lst (d.ws.map V.str))
 c:n.c=d.c
 s:n.s=d.s
 far:n.far=d.far
 room:n.room=d.room
 ps:x.ps=d.ps
 m1 : 1≤n.m
 m:n.m≤10
 l1 : 1≤as.length
 l2:as.length≤2
 ok:ya as
 ru:RuN d.ws
 f0 : 0≤d.far
 r1 : 1≤d.room
theorem WdS.same {C CS CM:Addr} {H H':Hp} {x:Sm} {n:Nm} {as:List Ar} {d:Hd} (h:WdS C CS CM H x n as d) (s:aF H H'):WdS C CS CM H' x n as d:={ h with w:=h.w.same s,na:=h.na.same s,r:=s _ _ h.r }
theorem C5 {as:List Ar} {r:Ar}:arV (as++[r])=arV as++[V.ref r.a]:=by unfold arV;rw [List.map_append];rfl
theorem xV (as:List Ar):(arV as).length=as.length:=List.length_map _
def zY (as:List Ar):Pr:=⟨fun H=>i8 H as,fun t h=>fun r hr=>t _ _ (h r hr)⟩
section
variable {P:Program} {w:World} {K:PySem.W.Frag} {mg:Str→Option Value} {base:Heap} {CX:CXT} {C CS CM:Addr}
theorem uq {PP:Addr→Prop} {H0 H:Hp} {l l':List (Addr×Ob)} {fs:List Pr} {p:Addr} {Q:VK} {E:XK} {b:Int} (L:Led PP H0 H l fs) (m:Put p (cu b) (cu (b+8192)) l l') (hb:b≤1000000)
  (q:∀ lr ws H',RuN ws→Led PP H0 H' ((lr,Eo (.lst (ws.map V.str)))::l') fs→Q (.ref lr) H'):lR [.ref p] H Q E:=
 have hh:=cu.at (L.at_ _ m.mem)
 ⟨p,b,rfl,hh,hb,fun lr ws H' hw n hl hh' o=>q lr ws H' hw (L.setAdd m (hh.ts o) hh'.ob n ⟨_,hl,rfl⟩)⟩
theorem yO:ay ["_law_hand_here", "_law_slots", "_law_counts", "_law_areas", "_law_k", "_law_slot", "_law_first", "_law_rules_here", "_law_far", "_law_room", "_law_moments", "_law_settings"] ["_law_hand_here"] (ak (top 72)):=by walk_at "s"
def rm (C CS CM:Addr):Sp:=fun vs H Q _=>∃ (p:Addr) (b:Int),vs=[.ref p]∧cD H p b∧b≤100000∧∀ (t:Addr) (x:Sm) (n:Nm) (as:List Ar) (d:Hd) (H':Hp),H' t=some (.tup [.ref x.p,.ref n.t])→WdS C CS CM H' x n as d→Oth p H H'→Q (.ref t) H'
theorem zj (D:Dat K mg "_law_large" "_law_large" (top 72) ["_law_hand_here"]) (BT:Bt mg) (NE:bh CX) (aO:Cal P w K mg base CX "_law_pick" 11 ["_law_hand_here", "_law_many"] jT) (qy:Cal P w K mg base CX "_law_rules" 12 ["_law_hand_here"] lR) (jC:Mak P w K mg base CX "Shape" C 4 ["self", "counts", "slots"] (lB C)) (fm:Mak P w K mg base CX "Settings" CS 4 ["self", "shape", "far", "room", "term", "rules"] (gf CS)) (pY:Mak P w K mg base CX "Small" CM 2 ["self", "settings", "areas", "moments"] (AI CM)):Cal P w K mg base CX "_law_large" 13 ["_law_hand_here"] (rm C CS CM):=by
 have S:=yO
 walk_at "d"
 ·obtain ⟨p,b,rfl,_⟩:=h
  rfl
 obtain ⟨p,b,rfl,hh,hb,q⟩:=h
 refine ⟨_,(ai (aK (i:=1) S.nd rfl (by first | exact Or.inl rfl | exact Or.inr rfl) (aQ bL ah (aI aO (hr.mono (by first | decide | omega)) NE.pass (aa (pv 0) (aa ah af)))))
   (ai (aK (i:=2) S.nd rfl (by first | exact Or.inl rfl | exact Or.inr rfl) (aQ bL ah (aI aO (hr.mono (by first | decide | omega)) NE.pass (aa (pv 0) (aa ah af)))))
   (ai (aK (i:=3) S.nd rfl (by first | exact Or.inl rfl | exact Or.inr rfl) (b9 af))
   (ai (ig PassesOwn.never rfl (oh rfl BT.range (aa (aQ bL ah (aI aO (hr.mono (by first | decide | omega)) NE.pass (aa (pv 0) (aa ah af)))) af)) (bg (i:=4) S.nd rfl (by first | exact Or.inl rfl | exact Or.inr rfl)) (ai (aK (i:=5) S.nd rfl (by first | exact Or.inl rfl | exact Or.inr rfl) (aI aO (hr.mono (by first | decide | omega)) NE.pass (aa (pv 0) (aa (pv 1) af))))
    (ai (aK (i:=6) S.nd rfl (by first | exact Or.inl rfl | exact Or.inr rfl) (aI aO (hr.mono (by first | decide | omega)) NE.pass (aa (pv 0) (aa ah af))))
    (aj (bT (xo PySem.F.plainAttrs_list PySem.F.slot_list_append PySem.F.type_list_append j7 (pv 3) (aa (aS (aa (pv 5) (aa (pv 6) (aa (aQ bL (aQ bL (pv 6) ah) (aI aO (hr.mono (by first | decide | omega)) NE.pass (aa (pv 0) (aa ah af)))) af)))) af)))))))
   (ai (aK (i:=7) S.nd rfl (by first | exact Or.inl rfl | exact Or.inr rfl) (aI qy (hr.mono (by first | decide | omega)) NE.pass (aa (pv 0) af)))
   (ai (aK (i:=8) S.nd rfl (by first | exact Or.inl rfl | exact Or.inr rfl) (aI aO (hr.mono (by first | decide | omega)) NE.pass (aa (pv 0) (aa ah af))))
   (ai (aK (i:=9) S.nd rfl (by first | exact Or.inl rfl | exact Or.inr rfl) (aQ bL ah (aI aO (hr.mono (by first | decide | omega)) NE.pass (aa (pv 0) (aa ah af)))))
   (ai (aK (i:=10) S.nd rfl (by first | exact Or.inl rfl | exact Or.inr rfl) (aQ bL ah (aI aO (hr.mono (by first | decide | omega)) NE.pass (aa (pv 0) (aa ah af)))))
   (ai (aK (i:=11) S.nd rfl (by first | exact Or.inl rfl | exact Or.inr rfl) (By fm (hr.mono (by first | decide | omega)) NE.pass (aa (By jC (hr.mono (by first | decide | omega)) NE.pass (aa (pv 2) (aa (pv 1) af))) (aa (pv 8) (aa (pv 9) (aa (aQ bL ah (aI aO (hr.mono (by first | decide | omega)) NE.pass (aa (pv 0) (aa ah af)))) (aa (pv 7) af)))))))
   (aj (au (aS (aa (By pY (hr.mono (by first | decide | omega)) NE.pass (aa (pv 11) (aa (pv 3) (aa (pv 10) af)))) (aa (aS (aa (pv 2) (aa (pv 1) (aa (pv 8) (aa (pv 9) (aa (pv 7) (aa (pv 3) (aa (pv 10) af)))))))) af)))))))))))))),?_⟩
 try dsimp only [aZ]
 have L:=jF hh
 walk_at "go"
 refine bH L .head (by decide) (by decide) (by omega) fun sl H1 a0 a1 L _=>?_
 walk_at "go"
 refine bH L .head (by decide) (by decide) (by omega) fun co H2 b0 b1 L _=>?_
 walk_at "go"
 obtain ⟨la,ela⟩:∃ z,z=l':=⟨_,rfl⟩
 subst ela
 have MA:H la=none:=qc L n'
 refine bH L' (by walk_at "put") (by decide) (by decide) (by omega) fun nn H3 c0 c1 L _=>?_
 clear L'
 walk_at "go"
 generalize hN:(1+nn).toNat=N
 have hN1 : 1≤N:=by omega
 have hN2:N≤2:=by omega
 have M:=L.more (zY []) (fun _ h=>by simp at h)
 clear L
 refine Ct (fun i σ H'=>∃ (u4 u5 u6:Option V) (as:List Ar),σ=[some (.ref p),some (.int (1+sl)),some (.int (1+co)),some (.ref la),u4,u5,u6,none,none,none,none,none]∧as.length=i∧ya as∧Led (fun x=>x=p) H H' [(la,Eo (.lst (arV as))),(p,cu (b+3072+3072 * (i:Int)))] [zY as])
  ⟨_,_,_,[],rfl,rfl,(fun _ h=>by simp at h),jI M (by walk_at "put") (by omega)⟩ ?_ ?_
 ·rintro i σ HG hi ⟨u4,u5,u6,as,rfl,hlen,hok,L⟩
  have hal:=xV as
  clear M
  try dsimp only [bO]
  walk_at "go"
  refine bH L (by walk_at "put") (by omega) (by omega) (by omega) fun sl2 H4 d0 d1 L _=>?_
  walk_at "go"
  refine bH L (by walk_at "put") (by decide) (by decide) (by omega) fun fi H5 e0 e1 L _=>?_
  walk_at "go"
  refine bH L (by walk_at "put") (by decide) (by decide) (by omega) fun wi H6 f0 f1 L _=>?_
  walk_at "go"
  obtain ⟨ta,eta⟩:∃ z,z=t':=⟨_,rfl⟩
  subst eta
  have hta:=L'.tup (r:=ta) (by walk_at "mem")
  have hA:i8 _ as:=L'.fact (f:=zY as) (by walk_at "mem")
  refine ⟨_,_,_,as++[⟨ta,sl2,fi,fi+1+wi⟩],rfl,by rw [List.length_append,List.length_singleton,hlen],(fun r hr=>(List.mem_append.mp hr).elim (hok r) fun g=>by rw [List.mem_singleton.mp g];exact ⟨d0,e0,by show fi < fi+1+wi;omega⟩),?_⟩
  rw [C5]
  refine jI ((L'.more (zY (as++[⟨ta,sl2,fi,fi+1+wi⟩])) fun r hr=>(List.mem_append.mp hr).elim (hA r) (fun g=>by rw [List.mem_singleton.mp g];exact hta)).less [zY (as++[⟨ta,sl2,fi,fi+1+wi⟩])] (fun f hf=>by rw [List.mem_singleton.mp hf];exact .head _)) (by walk_at "put") (by omega)
 rintro σ HG ⟨u4,u5,u6,as,rfl,hlen,hok,L⟩
 have hal:=xV as
 clear M
 walk_at "go"
 refine uq L (by walk_at "put") (by omega) fun lr ws H4 hw L=>?_
 walk_at "go"
 refine bH L (by walk_at "put") (by decide) (by decide) (by omega) fun fa H5 d0 d1 L _=>?_
 walk_at "go"
 refine bH L (by walk_at "put") (by decide) (by decide) (by omega) fun ro H6 e0 e1 L _=>?_
 walk_at "go"
 refine bH L (by walk_at "put") (by decide) (by decide) (by omega) fun mo H7 f0 f1 L _=>?_
 obtain ⟨mn,emn⟩:=Int.eq_ofNat_of_zero_le (show 0≤1+mo by omega)
 walk_at "go"
 have nS:ShN (1+co) (1+sl):=⟨by omega,by omega,by omega,by omega⟩
 refine yf L nS fun xs H8 _ L _=>?_
 walk_at "go"
 refine bH L (by walk_at "put") (by decide) (by decide) (by omega) fun te H9 g0 g1 L _=>?_
 walk_at "go"
 refine oZ (l:=[]) (fs:=[]) (PP:=fun _=>False) (H0:=H9) ⟨by omega,by omega,by omega,by omega,by omega,by omega⟩ (L.eo (p:=lr) (by walk_at "put")) hw fun ps H10 nps hst s10=>?_
 have L:=L.keep s10
 walk_at "go"
 refine ye (L.eo (p:=la) (by walk_at "put")) (by omega) fun x H11 nx nlb ex em hx s11=>?_
 have Mz:H x.lb=none:=(L.fresh nlb).2.resolve_left fun z=>(L.fresh nlb).1 (p,cu _) (by walk_at "mem") z.symm
 have L:=L.keep s11
 walk_at "go"
 rename_i tn Ht nt Lt st su
 have sF:=st.trans su
 obtain ⟨dy,tr,ms,hps,htr,pm⟩:=hst
 obtain ⟨o,eo,dz,rfl⟩:=L'.at_ (xs,C8 C (1+co) (1+sl)) (by walk_at "mem")
 refine q t' x ⟨tn,1+co,1+sl,fa,1+ro,lr,la,mn⟩ as ⟨0,0,ps,xs, "",1+co,1+sl,fa,1+ro,1+te,ws⟩ _ (L'.tup (r:=t') (by walk_at "mem")) ⟨⟨hx.same sF,L'.fact (f:=zY as) (by walk_at "mem"),⟨dy,tr,ms,?_,(s11.trans sF) _ _ htr,pm⟩,⟨dz,eo⟩,nS⟩,⟨?_,L'.eo (p:=la) (by walk_at "put")⟩,L'.eo (p:=lr) (by walk_at "put"),rfl,rfl,rfl,rfl,ex,?_,?_,by omega,by omega,hok,hw,d0,by show 1≤1+ro;omega⟩ L'.fr
 ·rw [ex];exact (s11.trans sF) _ _ hps
 ·show H' tn=some (.tup [.int (1+co),.int (1+sl),.int fa,.int (1+ro),.ref lr,.ref la,.int (mn:Int)])
  rw [← emn];exact L'.tup (by walk_at "mem")
 ·show 1≤mn
  omega
 ·show mn≤10
  omega
end
def Dg (n:Nm) (as:List Ar) (op:Op):Prop:=kE as op∧(∀ r,op = .make r→0≤r∧r < n.m)∧(∀ b,op = .hear b→0≤b)∧(∀ r,op = .write r→0≤r)
section
variable {P:Program} {w:World} {K:PySem.W.Frag} {mg:Str→Option Value} {base:Heap} {CX:CXT} {C CS CM CH CD CU CA CN CW CT CR:Addr}
theorem Bd:ay ["_law_hand_here", "_law_numbers", "_law_up", "_law_way"] ["_law_hand_here", "_law_numbers", "_law_up"] (ak (top 73)):=by walk_at "s"
def wO:Sp:=fun vs H Q _=>∃ (p:Addr) (b:Int) (n:Nm) (as:List Ar) (up:Bool),vs=[.ref p,.ref n.t,.bl up]∧cD H p b∧b≤100000∧tQ H n (arV as)∧n.la≠p∧n.t≠p∧1≤n.m∧n.m≤10∧1≤as.length∧as.length≤10∧∀ t op H',H' t=some (.tup (opT op))→Dg n as op→Oth p H H'→Q (.ref t) H'
theorem BW (D:Dat K mg "_law_deed" "_law_deed" (top 73) ["_law_hand_here", "_law_numbers", "_law_up"]) (BT:Bt mg) (NE:bh CX) (aO:Cal P w K mg base CX "_law_pick" 11 ["_law_hand_here", "_law_many"] jT):Cal P w K mg base CX "_law_deed" 12 ["_law_hand_here", "_law_numbers", "_law_up"] wO:=by
 have S:=Bd
 walk_at "d"
 ·obtain ⟨p,b,n,as,up,rfl,_⟩:=h
  rfl
 obtain ⟨p,b,n,as,up,rfl,hh,hb,⟨hn,hla⟩,nla,nt,m1,m10,l1,l10,q⟩:=h
 refine ⟨_,(ai (aX (PW.pt (fO (cU (b8 (pv 2))) (dH (aG jB (aI aO (hr.mono (by first | decide | omega)) NE.pass (aa (pv 0) (aa ah af))) ah (aM _))))) (aj (au (aS (aa aL af)))) aE)
   (ai (aK (i:=3) S.nd rfl (by first | exact Or.inl rfl | exact Or.inr rfl) (aI aO (hr.mono (by first | decide | omega)) NE.pass (aa (pv 0) (aa ah af))))
   (ai (aX (aG oi (pv 3) ah (aM _)) (aj (au (aS (aa aL (aa (aI aO (hr.mono (by first | decide | omega)) NE.pass (aa (pv 0) (aa (aq ao (pv 1) ah (fun _ _=>rfl)) af))) af))))) aE)
   (ai (aX (aG oi (pv 3) ah (aM _)) (aj (au (aS (aa aL (aa (aI aO (hr.mono (by first | decide | omega)) NE.pass (aa (pv 0) (aa (aq ao (pv 1) ah (fun _ _=>rfl)) af))) af))))) aE)
   (ai (aX (aG bQ (pv 3) ah (aM _)) (aj (au (aS (aa aL (aa (aQ bL ah (aI aO (hr.mono (by first | decide | omega)) NE.pass (aa (pv 0) (aa (bq tH rfl BT.len L3.kB (aa (aq ao (pv 1) ah (fun _ _=>rfl)) af)) af)))) af))))) aE)
   (ai (aX (aG bQ (pv 3) ah (aM _)) (aj (au (aS (aa aL (aa (aQ bL ah (aI aO (hr.mono (by first | decide | omega)) NE.pass (aa (pv 0) (aa (aq ao (pv 1) ah (fun _ _=>rfl)) af)))) af))))) aE)
   (aj (au (aq cI (b9 (aa (aS (aa aL af)) (aa (aS (aa aL af)) (aa (aS (aa aL af)) af)))) (aI aO (hr.mono (by first | decide | omega)) NE.pass (aa (pv 0) (aa ah af))) (fun _ _=>rfl)))))))))),?_⟩
 try dsimp only [aZ]
 have hal:(arV as).length=as.length:=List.length_map _
 refine bJ (fun σ' Hy=>σ'=[some (.ref p),some (.ref n.t),some (.bl up),none]∧cD Hy p (b+1024)∧Oth p H Hy) (fun nx kk=>?_) ?_
 ·walk_at "go"
  cases up with
  | true=>
   walk_at "go"
   exact kk _ _ ⟨rfl,hh.mono (by omega),Oth.refl _ _⟩
  | false=>
   have L:=jF hh
   walk_at "go"
   refine bH L .head (by decide) (by decide) (by omega) fun r1 H1 a0 a1 L _=>?_
   walk_at "go"
   refine bD (fun c=>?_) (fun c=>?_)
   ·walk_at "go"
    exact q t' .rise _ (L'.tup (by walk_at "mem")) ⟨trivial,(fun _ z=>nomatch z),(fun _ z=>nomatch z),(fun _ z=>nomatch z)⟩ L'.fr
   ·walk_at "go"
    exact kk _ _ ⟨rfl,cu.at (L.at_ (p,cu _) (by walk_at "mem")),L.fr⟩
 rintro σ' H1 ⟨rfl,h1,o1⟩
 have hn1:=o1 _ _ hn nt
 have L7:=o1 _ _ hla nla
 have L:=(jF h1).more (aH n.t _) hn1
 walk_at "go"
 refine bH L .head (by decide) (by decide) (by omega) fun wy H2 a0 a1 L _=>?_
 have M:=L
 clear L
 have L:=M
 have o2:Oth p H H2:=o1.trans M.fr
 have Ij:H2 n.la=some (.lst (arV as)):=M.fr _ _ L7 nla
 walk_at "go"
 refine bD (fun c1=>?_) (fun c1=>?_)
 ·walk_at "go"
  refine bH L .head (by omega) (by omega) (by omega) fun r H3 b0 b1 L _=>?_
  walk_at "go"
  exact q t' (.write r) _ (L'.tup (by walk_at "mem")) ⟨trivial,(fun _ z=>nomatch z),(fun _ z=>nomatch z),(fun _ z=>by cases z;exact b0)⟩ (o1.trans L'.fr)
 walk_at "go"
 refine bD (fun c2=>?_) (fun c2=>?_)
 ·walk_at "go"
  refine bH L .head (by omega) (by omega) (by omega) fun r H3 b0 b1 L _=>?_
  walk_at "go"
  exact q t' (.make r) _ (L'.tup (by walk_at "mem")) ⟨trivial,(fun _ z=>by cases z;exact ⟨b0,b1⟩),(fun _ z=>nomatch z),(fun _ z=>nomatch z)⟩ (o1.trans L'.fr)
 walk_at "go"
 refine bD (fun c3=>?_) (fun c3=>?_)
 ·walk_at "go"
  refine lM (SqL.of Ij) ?_
  walk_at "go"
  rw [hal]
  walk_at "go"
  refine bH L .head (by omega) (by omega) (by omega) fun r H3 b0 b1 L _=>?_
  walk_at "go"
  obtain ⟨i,rfl⟩:=Int.eq_ofNat_of_zero_le b0
  have hi:i < as.length:=by omega
  refine q t' (.take (1+(i:Int)) as[i].x as[i].y as[i].z) _ (L'.tup (by walk_at "mem")) ⟨⟨i,as[i],by omega,List.getElem?_eq_getElem hi,rfl,rfl,rfl⟩,(fun _ z=>nomatch z),(fun _ z=>nomatch z),(fun _ z=>nomatch z)⟩ (o1.trans L'.fr)
 walk_at "go"
 refine bD (fun c4=>?_) (fun c4=>?_)
 ·walk_at "go"
  refine bH L .head (by omega) (by omega) (by omega) fun r H3 b0 b1 L _=>?_
  walk_at "go"
  exact q t' (.hear (1+r)) _ (L'.tup (by walk_at "mem")) ⟨trivial,(fun _ z=>nomatch z),(fun _ z=>by cases z;omega),(fun _ z=>nomatch z)⟩ (o1.trans L'.fr)
 walk_at "go"
 refine bH L' (by walk_at "put") (by decide) (by decide) (by omega) fun r H3 b0 b1 L _=>?_
 have hl:=L.eo (by walk_at "put")
 have no:∀ (op:Op),(op = .give∨op = .fall∨op = .rise)→Dg n as op:=fun op h=>by
  rcases h with rfl | rfl | rfl <;> exact ⟨trivial,(fun _ z=>nomatch z),(fun _ z=>nomatch z),(fun _ z=>nomatch z)⟩
 obtain rfl | rfl | rfl:r=0∨r=1∨r=2:=by omega
 ·refine j9 (SqL.of hl) rfl ?_
  exact q _ .give _ (L.tup (by walk_at "mem")) (no _ (.inl rfl)) (o1.trans L.fr)
 ·refine j9 (SqL.of hl) rfl ?_
  exact q _ .fall _ (L.tup (by walk_at "mem")) (no _ (.inr (.inl rfl))) (o1.trans L.fr)
 ·refine j9 (SqL.of hl) rfl ?_
  exact q _ .rise _ (L.tup (by walk_at "mem")) (no _ (.inr (.inr rfl))) (o1.trans L.fr)
end
structure NmS (H:Hp) (n:Nm) (as:List Ar) (d:Hd):Prop where
 na:tQ H n (arV as)
 r:H n.lr=some (.lst (d.ws.map V.str))
 c:n.c=d.c
 s:n.s=d.s
 far:n.far=d.far
 sh:ShN d.c d.s
theorem NmS.same {H H':Hp} {n:Nm} {as:List Ar} {d:Hd} (h:NmS H n as d) (s:aF H H'):NmS H' n as d:={ h with na:=h.na.same s,r:=s _ _ h.r }
theorem se {d:Hd} {S:Sta} {r:Int} (h:bS (opF d S.n S.g S.pl (.make r)).1=true):mkF d S r=none:=by
 unfold mkF
 split
 ·rename_i e;rw [e] at h;cases h
 ·rfl
theorem HW {d:Hd} {S:Sta} {r m k sl f e:Int} (h1:S.pl=some (m,k)) (h2:S.n.ar=some (sl,f,e)):mkF d S r=if e≤due m f r then none else if r+d.far < due m f r then none else if ("ahead" : Str)∈d.ws∧S.n.hd≤due m f r then none else some (mk d.c d.s (due m f r) sl (cnt m f r k)):=by
 unfold mkF
 simp only [opF]
 rw [h1,h2]
 dsimp only
 by_cases c1:e≤due m f r
 ·rw [if_pos c1,if_pos c1]
 rw [if_neg c1,if_neg c1]
 by_cases c2:r+d.far < due m f r
 ·rw [if_pos c2,if_pos c2]
 rw [if_neg c2,if_neg c2]
 by_cases c3:("ahead" : Str)∈d.ws∧S.n.hd≤due m f r
 ·rw [if_pos c3,if_pos c3]
 rw [if_neg c3,if_neg c3]
section
variable {P:Program} {w:World} {K:PySem.W.Frag} {mg:Str→Option Value} {base:Heap} {CX:CXT} {C CS CM CH CD CU CA CN CW CT CR:Addr}
theorem Bb:ay ["_law_numbers", "_law_state_here", "_law_reading", "_law_counts", "_law_slots", "_law_far", "_law_room", "_law_rules_here", "_law_place", "_law_note", "_law_slot", "_law_first", "_law_end", "_law_moment", "_law_count"] ["_law_numbers", "_law_state_here", "_law_reading"] (ak (top 74)):=by walk_at "s"
def wN (K:PySem.W.Frag):Sp:=fun vs H Q _=>∃ (n:Nm) (as:List Ar) (d:Hd) (t:Addr) (S:Sta) (r:Int),vs=[.ref n.t,.ref t,.int r]∧NmS H n as d∧SAt K H t S∧∀ H',aF H H'→Q (oV (mkF d S r)) H'
theorem BU (D:Dat K mg "_law_mark" "_law_mark" (top 74) ["_law_numbers", "_law_state_here", "_law_reading"]) (BT:Bt mg) (NE:bh CX):Cal P w K mg base CX "_law_mark" 1 ["_law_numbers", "_law_state_here", "_law_reading"] (wN K):=by
 have S:=Bb
 walk_at "d"
 ·obtain ⟨n,as,d,t,S,r,rfl,_⟩:=h
  rfl
 obtain ⟨n,as,d,t,St,r,rfl,hN,hS,q⟩:=h
 refine ⟨_,(ai (fj (dg gg (pv 0) eH (eF ah)) (iw rfl (bz (bg (i:=3) S.nd rfl (by first | exact Or.inl rfl | exact Or.inr rfl)) (bz (bg (i:=4) S.nd rfl (by first | exact Or.inl rfl | exact Or.inr rfl)) (bz (bg (i:=5) S.nd rfl (by first | exact Or.inl rfl | exact Or.inr rfl)) (bz (bg (i:=6) S.nd rfl (by first | exact Or.inl rfl | exact Or.inr rfl)) (bz (bg (i:=7) S.nd rfl (by first | exact Or.inl rfl | exact Or.inr rfl)) fH)))))))
   (ai (fj (dg gg (pv 1) eH (eF ah)) (iw rfl (bz (bg (i:=8) S.nd rfl (by first | exact Or.inl rfl | exact Or.inr rfl)) (bz (bg (i:=9) S.nd rfl (by first | exact Or.inl rfl | exact Or.inr rfl)) fH))))
   (ai (aX (PW.pt (kL (cy (dh (pv 8))) (jW (cy (dh (aq ao (pv 9) ah (fun _ _=>rfl))))))) (aj (au cz)) aE)
   (ai (fj (aq ao (pv 9) ah (fun _ _=>rfl)) (iw rfl (bz (bg (i:=10) S.nd rfl (by first | exact Or.inl rfl | exact Or.inr rfl)) (bz (bg (i:=11) S.nd rfl (by first | exact Or.inl rfl | exact Or.inr rfl)) (bz (bg (i:=12) S.nd rfl (by first | exact Or.inl rfl | exact Or.inr rfl)) fH)))))
   (ai (aK (i:=13) S.nd rfl (by first | exact Or.inl rfl | exact Or.inr rfl) (bq (vK rfl) rfl BT.max L3.dX (aa (aq ao (pv 8) ah (fun _ _=>rfl)) (aa (pv 2) (aa (pv 11) af)))))
   (ai (aX (PW.pt (kL (aG l6 (pv 13) (pv 12) (aM _)) (kL (aG jB (pv 13) (aQ bL (pv 2) (pv 5)) (aM _)) (jW (PW.pt (fO (aG fW aL (pv 7) (by with_unfolding_all rfl)) (dH (aG l6 (pv 13) (aq ao (pv 9) ah (fun _ _=>rfl)) (aM _))))))))) (aj (au cz)) aE)
   (ai (aK (i:=14) S.nd rfl (by first | exact Or.inl rfl | exact Or.inr rfl) (aq ao (pv 8) ah (fun _ _=>rfl)))
   (ai (aX (aG jB (pv 13) (aq ao (pv 8) ah (fun _ _=>rfl)) (aM _)) (aj (aK (i:=14) S.nd rfl (by first | exact Or.inl rfl | exact Or.inr rfl) ah)) aE)
   (aj (au (aQ bL (aQ pS (aQ bL (aQ pS (pv 13) (pv 4)) (pv 10)) (pv 3)) (pv 14)))))))))))),?_⟩
 try dsimp only [aZ]
 obtain ⟨pv,tn,tm,tg,h1,h2,h3,h5,h6⟩:=id hS
 have ec:=hN.c
 have es:=hN.s
 have ef:=hN.far
 have sh:=hN.sh
 have c1':=sh.c1
 have c2':=sh.c2
 have s1':=sh.s1
 have s2':=sh.s2
 refine bJ (fun σ' Hy=>σ'=[some (.ref n.t),some (.ref t),some (.int r),some (.int d.c),some (.int d.s),some (.int d.far),some (.int n.room),some (.ref n.lr),none,none,none,none,none,none,none]∧aF H Hy) (fun nx kk=>?_) ?_
 ·walk_at "go"
  refine kO (i:=5) hN.na.1 rfl (by simp) fun t5 H1 ht5 s1=>?_
  have LU:H1 t5=some (.tup [.int d.c,.int d.s,.int d.far,.int n.room,.ref n.lr]):=by rw [← ec,← es,← ef];exact ht5
  have L:=(Led.start H1 (fun _=>False)).more (aH t5 _) LU
  walk_at "go"
  exact kk _ _ ⟨rfl,s1⟩
 rintro σ' H1 ⟨rfl,s1⟩
 refine bJ (fun σ' Hy=>σ'=[some (.ref n.t),some (.ref t),some (.int r),some (.int d.c),some (.int d.s),some (.int d.far),some (.int n.room),some (.ref n.lr),some pv,some (.ref tn),none,none,none,none,none]∧aF H Hy) (fun nx kk=>?_) ?_
 ·walk_at "go"
  refine kO (i:=2) (s1 _ _ h1) rfl (by simp) fun t2 H2 ht2 s2=>?_
  have LV:H2 t2=some (.tup [pv,.ref tn]):=ht2
  have L:=(Led.start H2 (fun _=>False)).more (aH t2 _) LV
  walk_at "go"
  exact kk _ _ ⟨rfl,s1.trans s2⟩
 rintro σ' H2 ⟨rfl,sA⟩
 clear s1 H1
 obtain ⟨av,hn,hav⟩:=h3
 refine bJ (fun σ' Hy=>σ'=[some (.ref n.t),some (.ref t),some (.int r),some (.int d.c),some (.int d.s),some (.int d.far),some (.int n.room),some (.ref n.lr),some pv,some (.ref tn),none,none,none,none,none]∧aF H Hy∧pv≠.non∧av≠.non) (fun nx kk=>?_) ?_
 ·walk_at "go"
  refine bD (fun c=>?_) (fun c=>?_)
  ·walk_at "go"
   have epl:St.pl=none:=by
    rcases h2 with ⟨e1,e2⟩ | ⟨tp,m,k,e1,e2,_⟩
    ·exact e1
    ·rw [e2] at c;cases c
   have e:mkF d St r=none:=se (by rw [epl];rfl)
   rw [e] at q
   exact q H2 sA
  walk_at "go"
  refine cA (fh sA hn) rfl ?_
  walk_at "go"
  refine bD (fun c9=>?_) (fun c9=>?_)
  ·walk_at "go"
   have ear:St.n.ar=none:=by
    rcases hav with ⟨e1,e2⟩ | ⟨a,sl,f,e,e1,e2,_⟩
    ·exact e1
    ·rw [e2] at c9;cases c9
   have e:mkF d St r=none:=by
    rcases h2 with ⟨e1,e2⟩ | ⟨tp,m,k,epl,rfl,htp⟩
    ·exact absurd e2 c
    ·exact se (by rw [epl];simp only [opF];rw [ear];rfl)
   rw [e] at q
   exact q H2 sA
  ·walk_at "go"
   exact kk _ _ ⟨rfl,sA,c,c9⟩
 rintro σ' H3 ⟨rfl,sB,npv,nav⟩
 clear sA H2
 rcases h2 with ⟨_,e2⟩ | ⟨tp,m,k,epl,rfl,htp⟩
 ·exact absurd e2 npv
 rcases hav with ⟨_,e2⟩ | ⟨a,sl,f,e,ear,rfl,ha⟩
 ·exact absurd e2 nav
 rw [HW epl ear] at q
 refine bJ (fun σ' Hy=>σ'=[some (.ref n.t),some (.ref t),some (.int r),some (.int d.c),some (.int d.s),some (.int d.far),some (.int n.room),some (.ref n.lr),some (.ref tp),some (.ref tn),some (.int sl),some (.int f),some (.int e),none,none]∧aF H Hy) (fun nx kk=>?_) ?_
 ·have L:=(Led.start H3 (fun _=>False)).more (aH a _) (sB _ _ ha)
  walk_at "go"
  refine cA (fh sB hn) rfl ?_
  walk_at "go"
  exact kk _ _ ⟨rfl,sB⟩
 rintro σ' H4 ⟨rfl,sC⟩
 clear sB H3
 have L:=(Led.start H4 (fun _=>False)).more (aH tp _) (sC _ _ htp)
 refine bJ (fun σ' Hy=>σ'=[some (.ref n.t),some (.ref t),some (.int r),some (.int d.c),some (.int d.s),some (.int d.far),some (.int n.room),some (.ref n.lr),some (.ref tp),some (.ref tn),some (.int sl),some (.int f),some (.int e),some (.int (due m f r)),none]∧Hy=H4) (fun nx kk=>?_) ?_
 ·walk_at "go"
  exact kk _ _ ⟨rfl,rfl⟩
 rintro σ' HX ⟨rfl,rfl⟩
 refine bJ (fun σ' Hy=>σ'=[some (.ref n.t),some (.ref t),some (.int r),some (.int d.c),some (.int d.s),some (.int d.far),some (.int n.room),some (.ref n.lr),some (.ref tp),some (.ref tn),some (.int sl),some (.int f),some (.int e),some (.int (due m f r)),none]∧Hy=HX∧¬ e≤due m f r∧¬ r+d.far < due m f r∧¬ (("ahead" : Str)∈d.ws∧St.n.hd≤due m f r)) (fun nx kk=>?_) ?_
 ·walk_at "go"
  refine bD (fun c1=>?_) (fun c1=>?_)
  ·walk_at "go"
   rw [if_pos c1] at q
   exact q _ sC
  rw [if_neg c1] at q
  walk_at "go"
  refine bD (fun c2=>?_) (fun c2=>?_)
  ·walk_at "go"
   rw [if_pos c2] at q
   exact q _ sC
  rw [if_neg c2] at q
  walk_at "go"
  refine IZ (SqL.of (sC _ _ hN.r)) ?_
  walk_at "go"
  refine bD (fun c3=>?_) (fun c3=>?_)
  ·walk_at "go"
   refine cA (fh sC hn) rfl ?_
   walk_at "go"
   refine bD (fun c4=>?_) (fun c4=>?_)
   ·walk_at "go"
    rw [if_pos ⟨c3,c4⟩] at q
    exact q _ sC
   ·walk_at "go"
    exact kk _ _ ⟨rfl,rfl,c1,c2,fun z=>c4 z.2⟩
  ·walk_at "go"
   exact kk _ _ ⟨rfl,rfl,c1,c2,fun z=>c3 z.1⟩
 rintro σ' HX ⟨rfl,rfl,c1,c2,c3⟩
 rw [if_neg c1,if_neg c2,if_neg c3] at q
 refine bJ (fun σ' Hy=>σ'=[some (.ref n.t),some (.ref t),some (.int r),some (.int d.c),some (.int d.s),some (.int d.far),some (.int n.room),some (.ref n.lr),some (.ref tp),some (.ref tn),some (.int sl),some (.int f),some (.int e),some (.int (due m f r)),some (.int k)]∧Hy=HX) (fun nx kk=>?_) ?_
 ·walk_at "go"
  exact kk _ _ ⟨rfl,rfl⟩
 rintro σ' HX ⟨rfl,rfl⟩
 refine bJ (fun σ' Hy=>σ'=[some (.ref n.t),some (.ref t),some (.int r),some (.int d.c),some (.int d.s),some (.int d.far),some (.int n.room),some (.ref n.lr),some (.ref tp),some (.ref tn),some (.int sl),some (.int f),some (.int e),some (.int (due m f r)),some (.int (cnt m f r k))]∧Hy=HX) (fun nx kk=>?_) ?_
 ·walk_at "go"
  refine bD (fun c5=>?_) (fun c5=>?_)
  ·walk_at "go"
   exact kk _ _ ⟨by rw [show cnt m f r k=0 from if_neg (by omega)];rfl,rfl⟩
  ·walk_at "go"
   exact kk _ _ ⟨by rw [show cnt m f r k=k from if_pos (by unfold due at c5 ⊢;omega)],rfl⟩
 rintro σ' HX ⟨rfl,rfl⟩
 walk_at "go"
 refine Cq (show wA _ _ from .inr ⟨by omega,by omega⟩) ?_
 walk_at "go"
 refine Cq (show wA _ _ from .inr ⟨by omega,by omega⟩) ?_
 walk_at "go"
 exact q _ sC
end
end Law
namespace L4
open PySem PySem.Spec PyProof.Rows L2 L3
def Gm (K:PySem.W.Frag):RL:=fun vs H Q=>D9 K vs H Q∨Bs K vs H Q
section
variable {X:Cx}
theorem zR:cK X (.builtin "isinstance") (Gm X.K):=by
 intro pins s σ H xs us Q I r h
 rcases h with h | h
 ·exact tE pins s σ H xs us Q I r h
 ·exact zP pins s σ H xs us Q I r h
theorem lH {e:Expr} {te:TE} {c:Str} {T:String} {p p' pos:Pos} (hm:X.mg "isinstance" = none) (hc:X.mg c=none) (hv:bootBuiltins c=some (.type T)) (he:PE X e te) (hg:Gl X "isinstance" := by rfl) (hg':Gl X c:=by rfl) (hn:c ≠ "__name__" := by decide) (hd:(c == ("__debug__" : Str))=false:=by decide)
  (hs:starEach [e,.Name c p'] X.env=(false,eval e X.env)::starEach [.Name c p'] X.env:=by rfl) (hs2:starEach [.Name c p'] X.env=(false,eval (.Name c p') X.env)::starEach [] X.env:=by rfl) (hpl:(backTo pos (starEach [.Name c p'] X.env)).any (·.1)=false:=by rfl) :
  PE X (.Call (.Name "isinstance" p) [e,.Name c p'] [] pos) (tCB (Gm X.K) (kK te (kK (tC (.ty T)) qW))):=
 bq zR hg hm fQ (aa he (aa (lI hg' hc hv rfl hn hd) af hs2) hs) (by decide) (by decide) hs hpl
end
end L4
namespace Law
open PySem PySem.Spec PyProof.Rows L2 L3 L4
def C3 (n:Nat):Sta:=⟨some (0,0),Nt.nil,0,[],0,List.replicate n none⟩
theorem G9 (n:Nat):(List.replicate n (none:Option Int)).map oV=List.replicate n V.non:=by rw [List.map_replicate];rfl
section
variable {P:Program} {w:World} {K:PySem.W.Frag} {mg:Str→Option Value} {base:Heap} {CX:CXT} {C CS CM CH CD CU CA CN CW CT CR:Addr}
theorem yP:ay ["_law_numbers"] ["_law_numbers"] (ak (top 76)):=by walk_at "s"
def rq (K:PySem.W.Frag):Sp:=fun vs H Q _=>∃ (n:Nm) (xs:List V),vs=[.ref n.t]∧tQ H n xs∧xs.length≤10∧∀ t H',SAt K H' t (C3 xs.length)→aF H H'→Q (.ref t) H'
theorem zk (D:Dat K mg "_law_begin" "_law_begin" (top 76) ["_law_numbers"]) (BT:Bt mg):Cal P w K mg base CX "_law_begin" 1 ["_law_numbers"] (rq K):=by
 have S:=yP
 walk_at "d"
 ·obtain ⟨n,xs,rfl,_⟩:=h
  rfl
 obtain ⟨n,xs,rfl,hn,hlen,q⟩:=h
 refine ⟨_,(aj (au (aS (aa (aS (aa ah (aa ah af))) (aa (aS (aa ah (aa cz (aa ah (aa ah af))))) (aa ah (aa (aS af) (aa ah (aa (cO jO rfl BT.tuple_ L3.dj (aa (iV (g:=(bO 0)) rfl (eK (aq ao (pv 0) ah (fun _ _=>rfl))) (kC (own:=["_law_area"]) (cap:=[]) (ak (top 76)).names ["_law_numbers"] rfl rfl rfl (by decide +kernel)) (fun _ _ _ _=>(bg (i:=0) (show (qE ["_law_numbers"] ["_law_area"] []).Nodup by decide +kernel) rfl (by first | exact Or.inl rfl | exact Or.inr rfl))) (fun _ _ _ _=>iu) (fun _ _ _ _=>cz)) af)) af))))))))),?_⟩
 try dsimp only [aZ]
 have L:=(Led.start H (fun _=>False)).more (aH n.t [_,_,_,_,_,_,_]) hn.1
 walk_at "go"
 rename_i t1 Ha na La sa t2 Hb nb Lb sb _
 obtain ⟨t3,et3⟩:∃ z,z=t':=⟨_,rfl⟩
 subst et3
 have M:=L'
 have hla:=M.same _ _ hn.2
 clear L La Lb L'
 refine gA (SqL.of hla) ?_
 refine lN xs (fun i ys HJ=>HJ=H'∧ys=List.replicate i V.non) ⟨rfl,rfl⟩ (fun i ys HJ hi ⟨e,ey⟩=>⟨by rw [e];exact SqL.of hla,Nat.le_of_lt (small1000 (by rw [ey,List.length_replicate];omega))⟩) ?_ ?_
 ·rintro i v ys HJ hv ⟨rfl,rfl⟩
  exact ⟨rfl,by rw [List.replicate_succ']⟩
 rintro ys HJ ⟨rfl,rfl⟩ l nl
 have N:=M.EJ (a:=Eo (.lst (List.replicate xs.length V.non))) nl rfl
 clear M
 walk_at "go"
 refine iB N (SqL.of (N.eo .head)) fun t4 H4 n4 L s4=>?_
 walk_at "go"
 refine q t' _ ⟨_,t2,t3,t4,L'.tup (r:=t') (by walk_at "mem"),.inr ⟨t1,0,0,rfl,rfl,L'.tup (by walk_at "mem")⟩,⟨.non,SqT.of (L'.tup (by walk_at "mem")),.inl ⟨rfl,rfl⟩⟩,L'.tup (by walk_at "mem"),?_⟩ L'.same
 show _=some (HO.tup ((List.replicate xs.length (none:Option Int)).map oV))
 rw [G9]
 exact L'.tup (by walk_at "mem")
theorem Bc:ay ["_law_found", "_law_due", "_law_part", "_law_other"] ["_law_found", "_law_due"] (ak (top 77)):=by walk_at "s"
def AS (K:PySem.W.Frag):Sp:=fun vs H Q _=>∃ (t u:Addr) (S:Sta),vs=[.ref t,.ref u]∧SAt K H t S∧SAt K H u S∧∀ H',aF H H'→Q (.bl true) H'
theorem BV (D:Dat K mg "_law_is_state" "_law_is_state" (top 77) ["_law_found", "_law_due"]) (BT:Bt mg):Cal P w K mg base CX "_law_is_state" 1 ["_law_found", "_law_due"] (AS K):=by
 have S:=Bc
 walk_at "d"
 ·obtain ⟨t,u,S,rfl,_⟩:=h
  rfl
 obtain ⟨t,u,St,rfl,ht,hu,q⟩:=h
 refine ⟨_,(ai (aX (PW.pt (kL (cU (b8 (lH BT.isinstance BT.tuple_ L3.dj (pv 0)))) (kL (aG xq (bq tH rfl BT.len L3.kB (aa (pv 0) af)) ah (aM _)) (jW (aG (BE (hr.mono (Nat.zero_le _))) (pv 0) (pv 1) (aM _)))))) (aj (au dZ)) aE)
   (ai (ig PassesOwn.never rfl (Ho false false rfl BT.zip_ (aa (pv 0) (aa (pv 1) af))) (iw rfl (bz (bg (i:=2) S.nd rfl (by first | exact Or.inl rfl | exact Or.inr rfl)) (bz (bg (i:=3) S.nd rfl (by first | exact Or.inl rfl | exact Or.inr rfl)) fH))) (aj (aX (PW.pt (kL (aG xq (lH BT.isinstance BT.tuple_ L3.dj (pv 2)) (lH BT.isinstance BT.tuple_ L3.dj (pv 3)) (aM _)) (jW (b8 (lH BT.isinstance BT.bool_ L3.xS (pv 2)))))) (aj (au dZ)) aE)))
   (aj (au dZ)))),?_⟩
 try dsimp only [aZ]
 obtain ⟨pv,tn,tm,tg,a0,a1,⟨av,a2,_⟩,a3,a4⟩:=id ht
 obtain ⟨pw,un,um,ug,b0,b1,⟨bv,b2,_⟩,b3,b4⟩:=id hu
 walk_at "go"
 refine .inl (fu (.tup a0) rfl ?_)
 walk_at "go"
 refine xG (SqT.of a0) ?_
 walk_at "go"
 refine IM (d:=stD St) ht.at hu.at (gS St) ?_
 walk_at "go"
 refine Iw (k1:=false) (k2:=false) (SqT.of a0) (SqT.of b0) ?_
 refine Ja [pv,.ref tn,.int St.g,.ref tm,.int St.b,.ref tg] [pw,.ref un,.int St.g,.ref um,.int St.b,.ref ug] (fun i σ H'=>∃ v1 v2:Option V,σ=[some (.ref t),some (.ref u),v1,v2]∧aF H H') ⟨none,none,rfl,aF.refl H⟩ (fun i σ H' _ _ ⟨_,_,_,sm⟩=>⟨SqT.of (sm _ _ a0),SqT.of (sm _ _ b0)⟩) ?_ ?_
 ·rintro i x y T σ H' hx hy ⟨v1,v2,rfl,sm⟩ nT
  have smT:=sm.trans (dc nT (HO.tup [x,y]))
  refine ⟨T,_,rfl,SqT.of aB,rfl,?_⟩
  generalize upd H' T (.tup [x,y])=HT' at smT ⊢
  have hc:(∃ p xs p' ys,x = .ref p∧SqT K HT' p xs∧y = .ref p'∧SqT K HT' p' ys)∨(∃ j,x = .int j∧y = .int j)∨(x = .non∧y = .non):=by
   have hi:i < 6:=(List.getElem?_eq_some_iff.mp hx).1
   obtain rfl | rfl | rfl | rfl | rfl | rfl:i=0∨i=1∨i=2∨i=3∨i=4∨i=5:=by omega
   all_goals (cases hx;cases hy)
   ·rcases a1 with ⟨e1,rfl⟩ | ⟨tp,m,k,e1,rfl,g1⟩
    ·rcases b1 with ⟨_,rfl⟩ | ⟨_,_,_,e2,_⟩
     ·exact .inr (.inr ⟨rfl,rfl⟩)
     ·rw [e1] at e2;cases e2
    ·rcases b1 with ⟨e2,_⟩ | ⟨up,_,_,e2,rfl,g2⟩
     ·rw [e1] at e2;cases e2
     ·exact .inl ⟨_,_,_,_,rfl,SqT.of (smT _ _ g1),rfl,SqT.of (smT _ _ g2)⟩
   ·exact .inl ⟨_,_,_,_,rfl,fh smT a2,rfl,fh smT b2⟩
   ·exact .inr (.inl ⟨_,rfl,rfl⟩)
   ·exact .inl ⟨_,_,_,_,rfl,SqT.of (smT _ _ a3),rfl,SqT.of (smT _ _ b3)⟩
   ·exact .inr (.inl ⟨_,rfl,rfl⟩)
   ·exact .inl ⟨_,_,_,_,rfl,SqT.of (smT _ _ a4),rfl,SqT.of (smT _ _ b4)⟩
  walk_at "go"
  rcases hc with ⟨p,xs,p',ys,rfl,h1,rfl,h2⟩ | ⟨j,rfl,rfl⟩ | ⟨rfl,rfl⟩
  ·refine .inr (vt (b:=true) h1 rfl ?_)
   walk_at "go"
   refine .inr (vt (b:=true) h2 rfl ?_)
   walk_at "go"
   refine .inr (vt (b:=false) h1 rfl ?_)
   walk_at "go"
   exact ⟨_,_,rfl,smT⟩
  ·refine .inl (fu (.int j) rfl ?_)
   walk_at "go"
   refine .inl (fu (.int j) rfl ?_)
   walk_at "go"
   refine .inl (fu (.int j) rfl ?_)
   walk_at "go"
   exact ⟨_,_,rfl,smT⟩
  ·refine .inl (fu .non rfl ?_)
   walk_at "go"
   refine .inl (fu .non rfl ?_)
   walk_at "go"
   refine .inl (fu .non rfl ?_)
   walk_at "go"
   exact ⟨_,_,rfl,smT⟩
 ·rintro σ H' ⟨v1,v2,rfl,sm⟩
  walk_at "go"
  exact q _ sm
end
theorem Jf {p r:Addr} {xs ys:List V} {H:Hp} {Q:VK} (h1:H p=some (.lst xs)) (h2:H r=some (.lst ys)) (hz:xs.length+ys.length≤sizeLine) (h:∀ b H',H b=none→H' b=some (.lst (xs++ys))→aF H H'→Q (.ref b) H'):Km (.ref p) (.ref r) H Q:=
 ⟨p,r,xs,ys,rfl,rfl,h1,h2,hz,fun b nb=>h b _ nb aB (ck nb)⟩
section
variable {P:Program} {w:World} {K:PySem.W.Frag} {mg:Str→Option Value} {base:Heap} {CX:CXT} {C CS CM CH CD CU CA CN CW CT CR:Addr}
theorem DX:ay ["_law_numbers", "_law_state_here", "_law_deed_here", "_law_mark_here", "_law_moment", "_law_end"] ["_law_numbers", "_law_state_here", "_law_deed_here"] (ak (top 75)):=by walk_at "s"
def uy (K:PySem.W.Frag):Sp:=fun vs H Q _=>∃ (n:Nm) (as:List Ar) (d:Hd) (t u:Addr) (S:Sta) (op:Op),vs=[.ref n.t,.ref t,.ref u]∧NmS H n as d∧SAt K H t S∧jQ S∧S.ms.length≤60∧H u=some (.tup (opT op))∧∀ H',aF H H'→Q (bV (nM d S op)) H'
theorem EA (D:Dat K mg "_law_bad" "_law_bad" (top 75) ["_law_numbers", "_law_state_here", "_law_deed_here"]) (BT:Bt mg) (NE:bh CX) (tL:Cal P w K mg base CX "_law_mark" 1 ["_law_numbers", "_law_state_here", "_law_reading"] (wN K)):Cal P w K mg base CX "_law_bad" 2 ["_law_numbers", "_law_state_here", "_law_deed_here"] (uy K):=by
 have S:=DX
 walk_at "d"
 ·obtain ⟨n,as,d,t,u,S,op,rfl,_⟩:=h
  rfl
 obtain ⟨n,as,d,t,u,St,op,rfl,hN,hS,ok,hm60,hu,q⟩:=h
 refine ⟨_,(ai (aK (i:=3) S.nd rfl (by first | exact Or.inl rfl | exact Or.inr rfl) cz)
   (ai (aX (aG bQ (aq ao (pv 2) ah (fun _ _=>rfl)) aL (aM _)) (aj (aK (i:=3) S.nd rfl (by first | exact Or.inl rfl | exact Or.inr rfl) (aI tL (hr.mono (by first | decide | omega)) NE.pass (aa (pv 0) (aa (pv 1) (aa (aq ao (pv 2) ah (fun _ _=>rfl)) af)))))) aE)
   (ai (aX (cy (dh (pv 3))) (aj (au cz)) aE)
   (ai (aK (i:=4) S.nd rfl (by first | exact Or.inl rfl | exact Or.inr rfl) (aQ dJ (aQ dJ (pv 3) (aq ao (pv 0) ah (fun _ _=>rfl))) (aq ao (pv 0) ah (fun _ _=>rfl))))
   (ai (aK (i:=5) S.nd rfl (by first | exact Or.inl rfl | exact Or.inr rfl) (aq ao (aq ao (pv 1) ah (fun _ _=>rfl)) (aQ iz (aq ao (aq ao (pv 1) ah (fun _ _=>rfl)) ah (fun _ _=>rfl)) ah) (fun _ _=>rfl)))
   (ai (aX (aG fW (pv 3) (aq ao (pv 1) ah (fun _ _=>rfl)) (by with_unfolding_all rfl)) (aj (au aL)) aE)
   (ai (aX (PW.pt (fO (aG (BE (hr.mono (Nat.zero_le _))) (aq ao (pv 1) ah (fun _ _=>rfl)) (aS af) (aM _)) (dH (aG jB (bq (Js rfl) rfl BT.max L3.dX (aa (aq ao (pv 1) ah (fun _ _=>rfl)) af)) (pv 3) (aM _))))) (aj (au aL)) aE)
   (ai (aX (PW.pt (fO (cy (gj (pv 5))) (dH (aG rS (pv 5) (pv 4) (aM _))))) (aj (au aL)) aE)
   (aj (au (aq cI (b9 (aa cz (aa aL af))) (cO Jv rfl BT.int_ L3.C2 (aa (eS oi (pv 4) (aq ao (pv 1) ah (fun _ _=>rfl)) (aM _)) af)) (fun _ _=>rfl)))))))))))),?_⟩
 try dsimp only [aZ]
 by_cases hop:∃ r,op = .make r
 rotate_left
 ·have eb:nM d St op=none:=by
   cases op with
   | make r=>exact absurd ⟨r,rfl⟩ hop
   | _=>rfl
  rw [eb] at q
  obtain ⟨wd,rest,eop,nwd⟩:∃ (wd:Str) (rest:List V),opT op = .str wd::rest∧wd ≠ "make" := by
   cases op with
   | make r=>exact absurd ⟨r,rfl⟩ hop
   | take gr sl f e=>exact ⟨_,_,rfl,by decide +kernel⟩
   | hear b=>exact ⟨_,_,rfl,by decide +kernel⟩
   | write r=>exact ⟨_,_,rfl,by decide +kernel⟩
   | fall=>exact ⟨_,_,rfl,by decide +kernel⟩
   | rise=>exact ⟨_,_,rfl,by decide +kernel⟩
   | give=>exact ⟨_,_,rfl,by decide +kernel⟩
  rw [eop] at hu
  walk_at "go"
  refine cA (SqT.of hu) eU ?_
  walk_at "go"
  exact q H (aF.refl _)
 obtain ⟨r,rfl⟩:=hop
 have L:=(Led.start H (fun _=>False)).more (aH u _) hu
 walk_at "go"
 refine ⟨n,as,d,t,St,r,rfl,hN,hS,fun H1 s1=>?_⟩
 clear L
 cases em:mkF d St r with
 | none=>
  walk_at "go"
  have eb:nM d St (.make r)=none:=by
   show (match mkF d St r with | some m=>mX d St m | none=>none)=none
   rw [em]
  rw [eb] at q
  exact q H1 s1
 | some M=>
  have eb:nM d St (.make r)=mX d St M:=by
   show (match mkF d St r with | some m=>mX d St m | none=>none)=_
   rw [em]
  rw [eb] at q
  obtain ⟨m,k,sl,f,e,epl,ear,c1,c2,c3,eMk⟩:=mq (B7 em)
  obtain ⟨pv,tn,tm,tg,h1,h2,h3,h5,h6⟩:=id (hS.same s1)
  have hN1:=hN.same s1
  have L:=((Led.start H1 (fun _=>False)).more (aH t _) h1).more (aH n.t _) hN1.na.1
  walk_at "go"
  have sh:=hN.sh
  have ec:=hN.c
  have es:=hN.s
  have c1':=sh.c1
  have c2':=sh.c2
  have s1':=sh.s1
  have s2':=sh.s2
  have g1:=ok.n.yes (by rw [ear];rfl)
  have g2:=ok.gl (by rw [ear];rfl)
  obtain ⟨i,ei⟩:∃ i,(St.n.g - 1).toNat=i:=⟨_,rfl⟩
  have hi:i < St.gv.length:=by omega
  obtain ⟨o,eo⟩:∃ o,St.gv[i]?=some o:=⟨_,List.getElem?_eq_getElem hi⟩
  have eB:mX d St M=C4 St.ms o (M / d.c / d.s) St.b M:=by
   unfold mX
   rw [ei,eo];rfl
  rw [eB] at q
  unfold C4 at q
  obtain ⟨av,hn,hav⟩:=h3
  refine aV (fun z=>nomatch z) ?_
  refine bJ (fun σ' Hy=>σ'=[some (.ref n.t),some (.ref t),some (.ref u),some (.int M),none,none]∧Hy=H1) (fun nx kk=>?_) ?_
  ·walk_at "go"
   exact kk _ _ ⟨rfl,rfl⟩
  rintro σ' HX ⟨rfl,rfl⟩
  refine bJ (fun σ' Hy=>σ'=[some (.ref n.t),some (.ref t),some (.ref u),some (.int M),some (.int (M / d.c / d.s)),none]∧Hy=HX) (fun nx kk=>?_) ?_
  ·walk_at "go"
   exact kk _ _ ⟨by rw [ec,es];rfl,rfl⟩
  rintro σ' HX ⟨rfl,rfl⟩
  refine bJ (fun σ' Hy=>σ'=[some (.ref n.t),some (.ref t),some (.ref u),some (.int M),some (.int (M / d.c / d.s)),some (oV o)]∧Hy=HX) (fun nx kk=>?_) ?_
  ·walk_at "go"
   refine cA (SqT.of h6) (v:=oV o) (by rw [show St.n.g - 1=(i:Int) by omega];exact eV (by rw [List.getElem?_map,eo];rfl)) ?_
   walk_at "go"
   exact kk _ _ ⟨rfl,rfl⟩
  rintro σ' HX ⟨rfl,rfl⟩
  refine bJ (fun σ' Hy=>σ'=[some (.ref n.t),some (.ref t),some (.ref u),some (.int M),some (.int (M / d.c / d.s)),some (oV o)]∧Hy=HX∧¬ M∈St.ms) (fun nx kk=>?_) ?_
  ·walk_at "go"
   refine Gz (SqT.of h5) ?_
   walk_at "go"
   refine bD (fun b1=>?_) (fun b1=>?_)
   ·walk_at "go"
    rw [if_pos b1] at q
    exact q _ s1
   ·walk_at "go"
    exact kk _ _ ⟨rfl,rfl,b1⟩
  rintro σ' HX ⟨rfl,rfl,b1⟩
  rw [if_neg b1] at q
  refine bJ (fun σ' Hy=>σ'=[some (.ref n.t),some (.ref t),some (.ref u),some (.int M),some (.int (M / d.c / d.s)),some (oV o)]∧aF HX Hy∧(St.ms.any fun x=>decide (M < x))=false) (fun nx kk=>?_) ?_
  ·walk_at "go"
   have sx:=L'.same
   refine K0 (d:=.tup (St.ms.map Dt.int)) (e:=.tup []) (.tup (SqT.of (sx _ _ h5)) (mD _)) (.tup (SqT.of (L'.tup (by walk_at "mem"))) .nil) (by simp only [dep,ko];omega) ?_
   clear L
   by_cases e0:St.ms=[]
   ·rw [e0]
    walk_at "go"
    exact kk _ _ ⟨rfl,sx,by rw [e0];rfl⟩
   ·rw [show eqD (.tup (St.ms.map Dt.int)) (.tup [])=false from by cases hms:St.ms with | nil=>exact absurd hms e0 | cons x xs=>rfl]
    walk_at "go"
    refine IS (SqT.of (sx _ _ h5)) (List.length_pos_iff.mpr e0) fun Mx hMx hall=>?_
    walk_at "go"
    refine bD (fun b2=>?_) (fun b2=>?_)
    ·walk_at "go"
     rw [if_pos (List.any_eq_true.mpr ⟨Mx,hMx,decide_eq_true b2⟩)] at q
     exact q _ (s1.trans sx)
    ·walk_at "go"
     exact kk _ _ ⟨rfl,sx,List.any_eq_false.mpr fun y hy=>by
      have:=hall y hy
      simp only [decide_eq_true_eq]
      omega⟩
  rintro σ' H5 ⟨rfl,s5,b2⟩
  rw [if_neg (by rw [b2];exact Bool.false_ne_true)] at q
  have sE:=s1.trans s5
  refine bJ (fun σ' Hy=>σ'=[some (.ref n.t),some (.ref t),some (.ref u),some (.int M),some (.int (M / d.c / d.s)),some (oV o)]∧Hy=H5∧¬ zW o (M / d.c / d.s)=true) (fun nx kk=>?_) ?_
  ·walk_at "go"
   cases o with
   | none=>
    refine mJ (show oV none=V.non from rfl) ?_
    walk_at "go"
    exact kk _ _ ⟨rfl,rfl,Bool.false_ne_true⟩
   | some e9=>
    refine kg (show ¬ oV (some e9)=V.non from fun z=>nomatch z) ?_
    walk_at "go"
    show rI0 _ (V.int e9) (V.int _) _ _
    walk_at "go"
    refine bD (fun b3=>?_) (fun b3=>?_)
    ·walk_at "go"
     rw [if_pos (show zW (some e9) (M / d.c / d.s)=true from decide_eq_true b3)] at q
     exact q _ sE
    ·walk_at "go"
     exact kk _ _ ⟨rfl,rfl,fun z=>b3 (of_decide_eq_true z)⟩
  rintro σ' HX ⟨rfl,rfl,b3⟩
  rw [if_neg b3] at q
  have L:=(Led.start HX (fun _=>False)).more (aH t _) (s5 _ _ h1)
  walk_at "go"
  have hl:=L'.eo (by walk_at "put")
  have sF:=sE.trans L'.same
  by_cases b4:M / d.c / d.s < St.b
  ·rw [if_pos b4] at q
   rw [if_pos (decide_eq_true b4)]
   refine j9 (SqL.of hl) rfl ?_
   exact q _ sF
  ·rw [if_neg b4] at q
   rw [if_neg (by rw [decide_eq_false b4];exact Bool.false_ne_true)]
   refine j9 (SqL.of hl) rfl ?_
   exact q _ sF
theorem yL:ay ["_law_small", "_law_numbers", "_law_state_here", "_law_other", "_law_deed_here", "_law_found", "_law_due"] ["_law_small", "_law_numbers", "_law_state_here", "_law_other"] (ak (top 82)):=by walk_at "s"
def rg (K:PySem.W.Frag) (C CS CM:Addr):Sp:=fun vs H Q _=>∃ (x:Sm) (n:Nm) (as:List Ar) (d:Hd) (t u:Addr) (S:Sta) (op:Op),vs=[.ref x.p,.ref n.t,.ref t,.ref u]∧SmW C CS CM H x as d∧NmS H n as d∧n.m≤10∧SAt K H t S∧jQ S∧S.ms.length≤60∧H u=some (.tup (opT op))∧kE as op∧∀ H',aF H H'→Q (.bl true) H'
theorem zf (D:Dat K mg "_law_words" "_law_words" (top 82) ["_law_small", "_law_numbers", "_law_state_here", "_law_other"]) (BT:Bt mg) (NE:bh CX) (jm:Cal P w K mg base CX "_law_bad" 2 ["_law_numbers", "_law_state_here", "_law_deed_here"] (uy K)) (tR:bB P w K mg base CX CM "bad" 9 ["self", "state", "deed"] (Gg K C CS CM)):Cal P w K mg base CX "_law_words" 10 ["_law_small", "_law_numbers", "_law_state_here", "_law_other"] (rg K C CS CM):=by
 have S:=yL
 walk_at "d"
 ·obtain ⟨x,n,as,d,t,u,S,op,rfl,_⟩:=h
  rfl
 obtain ⟨x,n,as,d,t,u,St,op,rfl,hW,hN,hm10,hS,ok,hm60,hu,ho,q⟩:=h
 refine ⟨_,(ai (ig PassesOwn.never rfl (eK (aQ Hw (iV (g:=(bO 0)) rfl (oh rfl BT.range (aa (aq ao (pv 1) ah (fun _ _=>rfl)) af)) (kC (own:=["_law_reading"]) (cap:=[]) (ak (top 82)).names ["_law_small", "_law_numbers", "_law_state_here", "_law_other", "_law_deed_here", "_law_found", "_law_due"] rfl rfl rfl (by decide +kernel)) (fun _ _ _ _=>(bg (i:=0) (show (qE ["_law_small", "_law_numbers", "_law_state_here", "_law_other", "_law_deed_here", "_law_found", "_law_due"] ["_law_reading"] []).Nodup by decide +kernel) rfl (by first | exact Or.inl rfl | exact Or.inr rfl))) (fun _ _ _ _=>iu) (fun _ _ _ _=>(aS (aa aL (aa (pv 0) af))))) (b9 (aa (pv 3) af)))) (bg (i:=4) S.nd rfl (by first | exact Or.inl rfl | exact Or.inr rfl)) (ai (aK (i:=5) S.nd rfl (by first | exact Or.inl rfl | exact Or.inr rfl) (iy tR (hr.mono (by first | decide | omega)) NE.pass (pv 0) (aa (pv 2) (aa (pv 4) af))))
    (ai (aK (i:=6) S.nd rfl (by first | exact Or.inl rfl | exact Or.inr rfl) (aI jm (hr.mono (by first | decide | omega)) NE.pass (aa (pv 1) (aa (pv 2) (aa (pv 4) af)))))
    (ai (aX (PW.pt (fO (cy (dh (pv 6))) (dH (cy (gj (pv 5)))))) (aj (au dZ)) aE)
    (aj (aX (PW.pt (fO (cy (gj (pv 6))) (dH (PW.pt (kL (cU (b8 (pR BT.isinstance BT.str_ L3.C0 (pv 5)))) (jW (aG xq (pv 5) (pv 6) (aM _)))))))) (aj (au dZ)) aE))))))
   (aj (au dZ))),?_⟩
 try dsimp only [aZ]
 have L:=(Led.start H (fun _=>False)).more (aH n.t _) hN.na.1
 walk_at "go"
 clear L
 refine Fo (fun i ys H'=>aF H H'∧ys.length=i∧∀ v∈ys,∃ a op',v = .ref a∧H' a=some (.tup (opT op'))∧kE as op') ⟨aF.refl _,rfl,(fun _ h=>by simp at h)⟩ (fun i ys H' hi ⟨_,ey,_⟩=>Nat.le_of_lt (small1000 (by omega))) ?_ ?_
 ·rintro i ys H' hi ⟨sm,ey,hall⟩
  have L:=Led.start H' (fun _=>False)
  try dsimp only [bO]
  walk_at "go"
  refine ⟨sm.trans L'.same,by rw [List.length_append,ey];rfl,fun v hv=>?_⟩
  rcases List.mem_append.mp hv with hv | hv
  ·obtain ⟨a,op',e1,e2,e3⟩:=hall v hv
   exact ⟨a,op',e1,L'.same _ _ e2,e3⟩
  ·rw [List.mem_singleton.mp hv]
   exact ⟨_,.make (0+(i:Int)),rfl,L'.tup (by walk_at "mem"),trivial⟩
 rintro ys HY ⟨sY,ey,hall⟩ l nl
 have sl:=dc nl (HO.lst ys)
 have hl:(upd HY l (.lst ys)) l=some (.lst ys):=aB
 generalize upd HY l (.lst ys)=H1 at *
 have L:=Led.start H1 (fun _=>False)
 walk_at "go"
 have s2:=L'.same
 refine Jf (s2 _ _ hl) (L'.eo .head) (Nat.le_of_lt (small1000 (by rw [ey];simp only [List.length_singleton];omega))) fun l3 H3 n3 hl3 s3=>?_
 have sA:=((sY.trans sl).trans s2).trans s3
 have KH:∀ v∈ys++[V.ref u],∃ a op',v = .ref a∧H3 a=some (.tup (opT op'))∧kE as op':=fun v hv=>by
  rcases List.mem_append.mp hv with hv | hv
  ·obtain ⟨a,op',e1,e2,e3⟩:=hall v hv
   exact ⟨a,op',e1,s3 _ _ (s2 _ _ (sl _ _ e2)),e3⟩
  ·rw [List.mem_singleton.mp hv]
   exact ⟨u,op,rfl,sA _ _ hu,ho⟩
 clear L L'
 walk_at "go"
 refine gA (SqL.of hl3) ?_
 refine mL (ys++[V.ref u]) (fun i σ HJ=>∃ v4 v5 v6:Option V,σ=[some (.ref x.p),some (.ref n.t),some (.ref t),some (.ref u),v4,v5,v6]∧aF H3 HJ) ⟨_,_,_,rfl,aF.refl _⟩ (fun i σ HJ _ ⟨_,_,_,_,sJ⟩=>SqL.of (sJ _ _ hl3)) ?_ ?_
 ·rintro j v σ HJ hv ⟨v4,v5,v6,rfl,sJ⟩
  obtain ⟨a,op',rfl,ha,hok'⟩:=KH v (List.mem_of_getElem? hv)
  have sK:=sA.trans sJ
  try dsimp only [bO]
  obtain ⟨dx,hx⟩:=(hW.same sK).1.1
  walk_at "go"
  refine bu hx GZ ?_
  walk_at "go"
  refine ⟨x,as,d,t,a,St,op',rfl,hW.same sK,hS.same sK,ok,hm60,sJ _ _ ha,hok',fun H4 s4=>?_⟩
  walk_at "go"
  refine ⟨n,as,d,t,a,St,op',rfl,hN.same (sK.trans s4),hS.same (sK.trans s4),ok,hm60,s4 _ _ (sJ _ _ ha),fun H5 s5=>?_⟩
  cases nM d St op' with
  | none=>
   dsimp only [bV]
   try dsimp only [bO]
   walk_at "go"
   exact ⟨_,_,_,rfl,(sJ.trans s4).trans s5⟩
  | some z=>
   dsimp only [bV]
   try dsimp only [bO]
   walk_at "go"
   refine aV (fun z=>nomatch z) ?_
   walk_at "go"
   refine kg (fun z=>nomatch z) ?_
   walk_at "go"
   refine fu (b:=true) (T:="str") (.str _) rfl ?_
   walk_at "go"
   exact ⟨_,_,_,rfl,(sJ.trans s4).trans s5⟩
 ·rintro σ HJ ⟨v4,v5,v6,rfl,sJ⟩
  walk_at "go"
  exact q _ (sA.trans sJ)
end
section
variable {P:Program} {w:World} {K:PySem.W.Frag} {mg:Str→Option Value} {base:Heap} {CX:CXT} {C CS CM CH CD CU CA CN CW CT CR:Addr}
theorem Ba:ay ["_law_small", "_law_state_here", "_law_deed_here", "_law_due", "_law_found"] ["_law_small", "_law_state_here", "_law_deed_here", "_law_due"] (ak (top 81)):=by walk_at "s"
def mW (d:Hd) (S:Sta) (op:Op):Sta:=if bS (opF d S.n S.g S.pl op).1=true then S else nxS S op (opF d S.n S.g S.pl op)
def wM (K:PySem.W.Frag) (C CS CM:Addr):Sp:=fun vs H Q _=>∃ (x:Sm) (as:List Ar) (d:Hd) (t u v:Addr) (S:Sta) (op:Op),vs=[.ref x.p,.ref t,.ref u,.ref v]∧SmW C CS CM H x as d∧SAt K H t S∧jQ S∧S.ms.length≤60∧S.gv.length≤10∧H u=some (.tup (opT op))∧kE as op∧SAt K H v (mW d S op)∧∀ H',aF H H'→Q (.bl true) H'
theorem BS (D:Dat K mg "_law_told" "_law_told" (top 81) ["_law_small", "_law_state_here", "_law_deed_here", "_law_due"]) (BT:Bt mg) (NE:bh CX) (nO:bB P w K mg base CX CM "after" 9 ["self", "state", "deed"] (wV K C CS CM)) (kZ:Cal P w K mg base CX "_law_is_state" 1 ["_law_found", "_law_due"] (AS K)):Cal P w K mg base CX "_law_told" 10 ["_law_small", "_law_state_here", "_law_deed_here", "_law_due"] (wM K C CS CM):=by
 have S:=Ba
 walk_at "d"
 ·obtain ⟨x,as,d,t,u,v,S,op,rfl,_⟩:=h
  rfl
 obtain ⟨x,as,d,t,u,v,St,op,rfl,hW,hS,ok,hm60,hg10,hu,ho,hv,q⟩:=h
 refine ⟨_,(ai (aK (i:=4) S.nd rfl (by first | exact Or.inl rfl | exact Or.inr rfl) (iy nO (hr.mono (by first | decide | omega)) NE.pass (pv 0) (aa (pv 1) (aa (pv 2) af))))
   (ai (aX (aG (BF (hr.mono (Nat.zero_le _))) (pv 3) (pv 1) (aM _)) (aj (au (BC (dh (pv 4))))) aE)
   (aj (au (aI kZ (hr.mono (by first | decide | omega)) NE.pass (aa (pv 4) (aa (pv 3) af))))))),?_⟩
 try dsimp only [aZ]
 obtain ⟨dx,hx⟩:=hW.1.1
 walk_at "go"
 refine bu hx AX ?_
 walk_at "go"
 unfold mW at hv
 refine ⟨x,as,d,t,u,St,op,rfl,hW,hS,ok,hm60,hg10,hu,ho,fun z H1 s1=>?_,fun z eb H1 s1=>?_,fun z eb r H1 hr1 s1=>?_⟩
 ·rw [if_pos z] at hv
  walk_at "go"
  refine Jb (hv.same s1).at (hS.same s1).at (gS _) ?_
  walk_at "go"
  exact q H1 s1
 ·rw [if_neg (by rw [z];exact Bool.false_ne_true)] at hv
  walk_at "go"
  refine oE (hv.same s1).at (hS.same s1).at (gS _) ?_
  rw [eb]
  walk_at "go"
  exact q H1 s1
 ·rw [if_neg (by rw [z];exact Bool.false_ne_true)] at hv
  walk_at "go"
  refine oE (hv.same s1).at (hS.same s1).at (gS _) ?_
  rw [eb]
  walk_at "go"
  refine ⟨r,v,_,rfl,hr1,hv.same s1,fun H2 s2=>?_⟩
  walk_at "go"
  exact q H2 (s1.trans s2)
end
def ng (H:Hp) (t:Addr) (S:Sta):Prop:=∃ tm tg,H t=some (.tup [.ref tm,.int S.b,.ref tg])∧H tm=some (.tup (S.ms.map V.int))∧H tg=some (.tup (S.gv.map oV))
theorem ng.same {H H':Hp} {t:Addr} {S:Sta} (h:ng H t S) (s:aF H H'):ng H' t S:=by
 obtain ⟨tm,tg,h1,h2,h3⟩:=h
 exact ⟨tm,tg,s _ _ h1,s _ _ h2,s _ _ h3⟩
theorem ng.ts {H H':Hp} {t:Addr} {S:Sta} (h:ng H t S) (s:cS H H'):ng H' t S:=by
 obtain ⟨tm,tg,h1,h2,h3⟩:=h
 exact ⟨tm,tg,s _ _ h1,s _ _ h2,s _ _ h3⟩
section
variable {P:Program} {w:World} {K:PySem.W.Frag} {mg:Str→Option Value} {base:Heap} {CX:CXT} {C CS CM CH CD CU CA CN CW CT CR:Addr}
theorem yM:ay ["_law_hand_here", "_law_so_here", "_law_note"] ["_law_hand_here", "_law_so_here"] (ak (top 80)):=by walk_at "s"
def rj (K:PySem.W.Frag) (C CS CH:Addr):Sp:=fun vs H Q _=>∃ (d:Hd) (ls:Lns) (pl:Option (Int×Int)) (t:Addr) (S:Sta),vs=[.ref d.p,.ref t]∧bP C CS CH H d ls pl∧cX ls pl∧ng H t S∧S.pl=pl∧S.n=nt ls∧S.g=gmx ls∧∀ u H',SAt K H' u S→aF H H'→Q (.ref u) H'
theorem zg (D:Dat K mg "_law_state" "_law_state" (top 80) ["_law_hand_here", "_law_so_here"]) (BT:Bt mg) (NE:bh CX) (iK:bB P w K mg base CX CH "note" 1 ["self"] (ux C CS CH)) (gI:bB P w K mg base CX CH "place" 1 ["self"] (pe C CS CH)) (b7:Cal P w K mg base CX "read_note" 4 ["lines"] (iS K)) (bE:Cal P w K mg base CX "greatest_taken" 3 ["lines"] (eZ K)):Cal P w K mg base CX "_law_state" 5 ["_law_hand_here", "_law_so_here"] (rj K C CS CH):=by
 have S:=yM
 walk_at "d"
 ·obtain ⟨d,ls,pl,t,S,rfl,_⟩:=h
  rfl
 obtain ⟨d,ls,pl,t,St,rfl,hd,hok,hso,e1,e2,e3,q⟩:=h
 refine ⟨_,(ai (aK (i:=2) S.nd rfl (by first | exact Or.inl rfl | exact Or.inr rfl) (fP iK (hr.mono (by first | decide | omega)) NE.pass (pv 0)))
   (aj (au (aQ gp (aS (aa (fP gI (hr.mono (by first | decide | omega)) NE.pass (pv 0)) (aa (aI b7 (hr.mono (by first | decide | omega)) NE.pass (aa (pv 2) af)) (aa (aI bE (hr.mono (by first | decide | omega)) NE.pass (aa (pv 2) af)) af)))) (pv 1))))),?_⟩
 try dsimp only [aZ]
 obtain ⟨⟨dx,sv,hp,hpl⟩,hl,hL,hss⟩:=id hd
 walk_at "go"
 refine bu hp Ip ?_
 walk_at "go"
 refine ⟨d,ls,pl,rfl,hd,fun b H1 nb hb s1=>?_⟩
 walk_at "go"
 refine bu (s1 _ _ hp) EZ ?_
 walk_at "go"
 refine ⟨d,ls,pl,rfl,hd.same s1,fun pv hpv=>?_⟩
 walk_at "go"
 refine ⟨b,ls,rfl,SqL.of hb,hL.same s1,hok.good,fun tn H2 hn s2=>?_⟩
 walk_at "go"
 refine ⟨b,ls,rfl,SqL.of (s2 _ _ hb),(hL.same s1).same s2,hok.good,by have:=hok.len;omega,fun H3 s3=>?_⟩
 have L:=Led.start H3 (fun _=>False)
 walk_at "go"
 have s4:=L'.same
 obtain ⟨tm,tg,o1,o2,o3⟩:=hso.same (((s1.trans s2).trans s3).trans s4)
 refine gB (L'.tup (by walk_at "mem")) o1 (by simp) fun u H5 hu s5=>?_
 walk_at "go"
 refine q u H5 ⟨pv,tn,tm,tg,by rw [hu,e3];rfl,?_,?_,s5 _ _ o2,s5 _ _ o3⟩ ((((s1.trans s2).trans s3).trans s4).trans s5)
 ·rw [e1];exact hpv.same (((s2.trans s3).trans s4).trans s5)
 ·rw [e2];exact hn.same ((s3.trans s4).trans s5)
end
section
variable {P:Program} {w:World} {K:PySem.W.Frag} {mg:Str→Option Value} {base:Heap} {CX:CXT} {C CS CM CH CD CU CA CN CW CT CR:Addr}
theorem G4:ay ["_law_so_here", "_law_deed_here", "_law_done", "_law_told_here", "_law_marks", "_law_bound", "_law_given", "_law_at", "_law_least"] ["_law_so_here", "_law_deed_here", "_law_done", "_law_told_here"] (ak (top 79)):=by walk_at "s"
def Gf:Sp:=fun vs H Q _=>∃ (d:Hd) (t u:Addr) (S:Sta) (op:Op) (v:V),vs=[.ref t,.ref u,.bl (!bS (opF d S.n S.g S.pl op).1),v]∧ng H t S∧H u=some (.tup (opT op))∧jQ S∧S.ms.length≤60∧S.gv.length≤10∧(bS (opF d S.n S.g S.pl op).1=false→((∃ r,op = .make r)∨op = .give)→lu H v (opF d S.n S.g S.pl op).1)∧∀ t' H',ng H' t' (mW d S op)→aF H H'→Q (.ref t') H'
theorem HL (D:Dat K mg "_law_so" "_law_so" (top 79) ["_law_so_here", "_law_deed_here", "_law_done", "_law_told_here"]) (BT:Bt mg) (NE:bh CX):Cal P w K mg base CX "_law_so" 1 ["_law_so_here", "_law_deed_here", "_law_done", "_law_told_here"] Gf:=by
 have S:=G4
 walk_at "d"
 ·obtain ⟨d,t,u,S,op,v,rfl,_⟩:=h
  rfl
 obtain ⟨d,t,u,St,op,v,rfl,hso,hu,ok,hm60,hg10,hv,q⟩:=h
 refine ⟨_,(ai (fj (pv 0) (iw rfl (bz (bg (i:=4) S.nd rfl (by first | exact Or.inl rfl | exact Or.inr rfl)) (bz (bg (i:=5) S.nd rfl (by first | exact Or.inl rfl | exact Or.inr rfl)) (bz (bg (i:=6) S.nd rfl (by first | exact Or.inl rfl | exact Or.inr rfl)) fH)))))
   (ai (aX (cU (b8 (pv 2))) (aj (au (pv 0))) aE)
   (ai (aX (aG bQ (aq ao (pv 1) ah (fun _ _=>rfl)) aL (aM _)) (aj (au (aS (aa (cO jO rfl BT.tuple_ L3.dj (aa (kM rfl rfl rfl BT.sorted BT.set_ (aQ gp (pv 4) (aS (aa (pv 3) af)))) af)) (aa (pv 5) (aa (pv 6) af)))))) aE)
   (ai (aX (aG bQ (aq ao (pv 1) ah (fun _ _=>rfl)) aL (aM _)) (aj (au (aS (aa (pv 4) (aa (bq (oF rfl) rfl BT.max L3.dX (aa (pv 5) (aa (aq ao (pv 1) ah (fun _ _=>rfl)) af))) (aa (pv 6) af)))))) aE)
   (ai (aX (aG bQ (aq ao (pv 1) ah (fun _ _=>rfl)) aL (aM _)) (ai (aK (i:=7) S.nd rfl (by first | exact Or.inl rfl | exact Or.inr rfl) (aQ iz (aq ao (pv 3) ah (fun _ _=>rfl)) ah))
    (ai (aK (i:=8) S.nd rfl (by first | exact Or.inl rfl | exact Or.inr rfl) (aq ao (pv 3) ah (fun _ _=>rfl)))
    (ai (aX (cy (gj (aq ao (pv 6) (pv 7) (fun _ _=>rfl)))) (aj (aK (i:=8) S.nd rfl (by first | exact Or.inl rfl | exact Or.inr rfl) (bq (xQ rfl) rfl BT.min L3.qC (aa (pv 8) (aa (aq ao (pv 6) (pv 7) (fun _ _=>rfl)) af))))) aE)
    (aj (au (aS (aa (pv 4) (aa (pv 5) (aa (aQ gp (aQ gp (dg gg (pv 6) eH (eF (pv 7))) (aS (aa (pv 8) af))) (dg gg (pv 6) (eF (aQ bL (pv 7) ah)) eH)) af))))))))) aE)
   (aj (au (pv 0)))))))),?_⟩
 try dsimp only [aZ]
 obtain ⟨tm,tg,o1,o2,o3⟩:=id hso
 have L:=(Led.start H (fun _=>False)).more (aH t _) o1
 refine bJ (fun σ' Hy=>σ'=[some (.ref t),some (.ref u),some (.bl (!bS (opF d St.n St.g St.pl op).1)),some v,some (.ref tm),some (.int St.b),some (.ref tg),none,none]∧Hy=H) (fun nx kk=>?_) ?_
 ·walk_at "go"
  exact kk _ _ ⟨rfl,rfl⟩
 rintro σ' HX ⟨rfl,rfl⟩
 cases z:bS (opF d St.n St.g St.pl op).1 with
 | true=>
  have eb:mW d St op=St:=if_pos z
  rw [eb] at q
  rw [Bool.not_true]
  walk_at "go"
  exact q t HX hso (aF.refl _)
 | false=>
  have eb:mW d St op=nxS St op (opF d St.n St.g St.pl op):=if_neg (by rw [z];exact Bool.false_ne_true)
  rw [eb] at q
  rw [Bool.not_false]
  by_cases p1:∃ r,op = .make r
  ·obtain ⟨r,rfl⟩:=p1
   obtain ⟨m,em⟩:=mj z
   have hv':=hv z (.inl ⟨r,rfl⟩)
   rw [em] at hv'
   cases hv'
   have L:=L.more (aH u _) hu
   walk_at "go"
   refine mG ?_
   have L:=(Led.start HX (fun _=>False)).more (aH tm _) o2
   walk_at "go"
   refine vv L' (by walk_at "mem") (by walk_at "mem") (by rw [List.length_map];exact Nat.le_of_lt (small1000 (by simp;omega))) fun tc H2 M s2=>?_
   have htc:H2 tc=some (.tup ((St.ms++[m]).map V.int)):=by
    have:=M.tup (r:=tc) (by walk_at "mem")
    rw [List.map_append];exact this
   refine kP (SqT.of htc) (by rw [List.length_append,List.length_singleton];omega) fun l ys H3 nl hs hle hl s3=>?_
   have e:=n6 ok.asc hs
   subst e
   have sA:=(L'.same.trans s2).trans s3
   clear L L' M
   walk_at "go"
   refine iB (Led.start H3 (fun _=>False)) (SqL.of hl) fun u2 H4 nu N s4=>?_
   have hu2:=N.tup (r:=u2) (by walk_at "mem")
   clear N
   have L:=Led.start H4 (fun _=>False)
   walk_at "go"
   have sB:=(sA.trans s4).trans L'.same
   exact q t' _ ⟨u2,tg,L'.tup (by walk_at "mem"),by rw [show (nxS St (.make r) (opF d St.n St.g St.pl (.make r))).ms=mE St.ms m from (by show msF St.ms (.make r) _=_;rw [em];rfl)];exact L'.same _ _ hu2,sB _ _ o3⟩ sB
  by_cases p2:∃ b,op = .hear b
  ·obtain ⟨b,rfl⟩:=p2
   have L:=L.more (aH u _) hu
   walk_at "go"
   refine aV (by decide +kernel) ?_
   walk_at "go"
   have sB:=L'.same
   refine q t' _ ⟨tm,tg,?_,sB _ _ o2,sB _ _ o3⟩ sB
   have:=L'.tup (r:=t') (by walk_at "mem")
   rw [this]
   show _=some (HO.tup [.ref tm,.int (max St.b b),.ref tg])
   congr 4
  by_cases p3:op = .give
  ·subst p3
   obtain ⟨m1,k1,sl1,f1,e1,epl,ear,em⟩:=xF z
   have hv':=hv z (.inr rfl)
   rw [em] at hv'
   obtain ⟨tv,rfl,htv⟩:=hv'
   have g1:=ok.n.yes (by rw [ear];rfl)
   have g2:=ok.gl (by rw [ear];rfl)
   obtain ⟨i,ei⟩:∃ i,(St.n.g - 1).toNat=i:=⟨_,rfl⟩
   have hi:i < St.gv.length:=by omega
   obtain ⟨o,eo⟩:∃ o,St.gv[i]?=some o:=⟨_,List.getElem?_eq_getElem hi⟩
   have L:=(L.more (aH u _) hu).more (aH tv _) htv
   generalize hE:cR f1 m1 k1 St.n.hd=ge at *
   have eL:jM St.gv i ge=St.gv.take i++[some (p5 o ge)]++St.gv.drop (i+1):=by rw [xJ ge hi,eo];rfl
   walk_at "go"
   refine aV (by decide +kernel) ?_
   walk_at "go"
   refine aV (by decide +kernel) ?_
   walk_at "go"
   refine cA (SqT.of o3) (v:=oV o) (by rw [show St.n.g - 1=(i:Int) by omega];exact eV (by rw [List.getElem?_map,eo];rfl)) ?_
   walk_at "go"
   cases o with
   | none=>
    refine mJ (show oV none=V.non from rfl) ?_
    walk_at "go"
    refine kO (i:=i) o3 (by omega) (by rw [List.length_map];exact hi) fun t1 H1 h1 s1=>?_
    clear L
    have L:=Led.start H1 (fun _=>False)
    walk_at "go"
    have sx:=L'.same
    refine gB (sx _ _ h1) (L'.tup (by walk_at "mem")) (by rw [List.length_take,List.length_map,List.length_singleton];omega) fun t2 H2 h2 s2=>?_
    clear L L'
    walk_at "go"
    refine sP (i:=i+1) (s2 _ _ (sx _ _ (s1 _ _ o3))) (by omega) (by omega) (by rw [List.length_map];omega) fun t3 H3 h3 s3=>?_
    refine gB (s3 _ _ h2) h3 (by rw [List.length_append,List.length_take,List.length_drop,List.length_map,List.length_singleton];omega) fun t4 H4 h4 s4=>?_
    have L:=Led.start H4 (fun _=>False)
    walk_at "go"
    have sB:=((((s1.trans sx).trans s2).trans s3).trans s4).trans L'.same
    refine q t' _ ⟨tm,t4,L'.tup (by walk_at "mem"),sB _ _ o2,?_⟩ sB
    rw [show (nxS St .give (opF d St.n St.g St.pl .give)).gv=jM St.gv i ge from (by show gvF St.gv .give _=_;rw [em];show jM _ _ _=_;rw [ei])]
    rw [L'.same _ _ h4,eL,List.map_append,List.map_append,List.map_take,List.map_drop]
    rfl
   | some o9=>
    refine kg (show ¬ oV (some o9)=V.non from fun z=>nomatch z) ?_
    walk_at "go"
    refine cA (SqT.of o3) (v:=oV (some o9)) (by rw [show St.n.g - 1=(i:Int) by omega];exact eV (by rw [List.getElem?_map,eo];rfl)) ?_
    walk_at "go"
    show D7 [V.int ge,V.int o9] _ _
    walk_at "go"
    refine kO (i:=i) o3 (by omega) (by rw [List.length_map];exact hi) fun t1 H1 h1 s1=>?_
    clear L
    have L:=Led.start H1 (fun _=>False)
    walk_at "go"
    have sx:=L'.same
    refine gB (sx _ _ h1) (L'.tup (by walk_at "mem")) (by rw [List.length_take,List.length_map,List.length_singleton];omega) fun t2 H2 h2 s2=>?_
    clear L L'
    walk_at "go"
    refine sP (i:=i+1) (s2 _ _ (sx _ _ (s1 _ _ o3))) (by omega) (by omega) (by rw [List.length_map];omega) fun t3 H3 h3 s3=>?_
    refine gB (s3 _ _ h2) h3 (by rw [List.length_append,List.length_take,List.length_drop,List.length_map,List.length_singleton];omega) fun t4 H4 h4 s4=>?_
    have L:=Led.start H4 (fun _=>False)
    walk_at "go"
    have sB:=((((s1.trans sx).trans s2).trans s3).trans s4).trans L'.same
    refine q t' _ ⟨tm,t4,L'.tup (by walk_at "mem"),sB _ _ o2,?_⟩ sB
    rw [show (nxS St .give (opF d St.n St.g St.pl .give)).gv=jM St.gv i ge from (by show gvF St.gv .give _=_;rw [em];show jM _ _ _=_;rw [ei])]
    rw [L'.same _ _ h4,eL,List.map_append,List.map_append,List.map_take,List.map_drop]
    rw [show min ge o9=min o9 ge by omega]
    rfl
  ·obtain ⟨wd,rest,eop,n1,n2,n3,em,eb2,eg⟩:=rR p1 p2 p3
   rw [eop] at hu
   walk_at "go"
   refine cA (SqT.of hu) eU ?_
   walk_at "go"
   refine cA (SqT.of hu) eU ?_
   walk_at "go"
   refine cA (SqT.of hu) eU ?_
   walk_at "go"
   refine q t HX ⟨tm,tg,?_,?_,?_⟩ (aF.refl _)
   ·rw [show (nxS St op (opF d St.n St.g St.pl op)).b=St.b from eb2 _];exact o1
   ·rw [show (nxS St op (opF d St.n St.g St.pl op)).ms=St.ms from em _ _];exact o2
   ·rw [show (nxS St op (opF d St.n St.g St.pl op)).gv=St.gv from eg _ _];exact o3
end
end Law
namespace L4
open PySem PySem.Spec PyProof.Rows L2 L3
theorem Ce {X:Cx} {K:PySem.W.Frag} (h:X.K=K):IxR X (Hi K):=h▸cI
end L4
namespace Law
open PySem PySem.Spec PyProof.Rows L2 L3 L4
structure JR (C CS CH:Addr) (d:Hd) (ls:Lns) (pl:Option (Int×Int)) (op:Op) (H H':Hp) (v:V) (ls2:Lns) (pl2:Option (Int×Int)):Prop where
 e:opF d (nt ls) (gmx ls) pl op=((opF d (nt ls) (gmx ls) pl op).1,ls2.map (·.2),pl2)
 v:bS (opF d (nt ls) (gmx ls) pl op).1=false→((∃ r,op = .make r)∨op = .give)→lu H' v (opF d (nt ls) (gmx ls) pl op).1
 h:bP C CS CH H' d (ls++ls2) pl2
 o:cX (ls++ls2) pl2
 l:ls2.length≤1
 f:Fr2 d.p d.l H H'
section
variable {P:Program} {w:World} {K:PySem.W.Frag} {mg:Str→Option Value} {base:Heap} {C CS CM CH CD CU CA CN CW CT CR:Addr}
theorem yQ:ay ["_law_hand_here", "_law_numbers", "_law_deed_here", "_law_told_here"] ["_law_hand_here", "_law_numbers", "_law_deed_here"] (ak (top 78)):=by walk_at "s"
def rz (C CS CH:Addr):Sp:=fun vs H Q _=>∃ (d:Hd) (ls:Lns) (pl:Option (Int×Int)) (n:Nm) (as:List Ar) (u:Addr) (op:Op),vs=[.ref d.p,.ref n.t,.ref u]∧bP C CS CH H d ls pl∧cX ls pl∧ls.length≤97∧tQ H n (arV as)∧i8 H as∧H u=some (.tup (opT op))∧kE as op∧∀ t v ls2 pl2 H',H' t=some (.tup [.bl (!bS (opF d (nt ls) (gmx ls) pl op).1),v])→JR C CS CH d ls pl op H H' v ls2 pl2→Q (.ref t) H'
theorem gE {C CS CH:Addr} {d:Hd} {ls:Lns} {pl:Option (Int×Int)} {op:Op} {H H':Hp} {j:Nat} {v:V} (hd:bP C CS CH H d ls pl) (hok:cX ls pl) (e:opF d (nt ls) (gmx ls) pl op=(.err j,[],pl)) (s:aF H H'):JR C CS CH d ls pl op H H' v [] pl:=by
 refine ⟨by rw [e];rfl,(fun z=>by rw [e] at z;cases z),C6 (hd.same s),ok0 hok hok.k0,Nat.zero_le _,Fr2.of s⟩
theorem jn {C CS CH:Addr} {d:Hd} {ls ls2:Lns} {pl pl2:Option (Int×Int)} {op:Op} {H H1 H':Hp} {o:Ou} {v:V} (e:opF d (nt ls) (gmx ls) pl op=(o,ls2.map (·.2),pl2)) (hv:((∃ r,op = .make r)∨op = .give)→lu H1 v o) (hd:bP C CS CH H1 d (ls++ls2) pl2) (hok:cX (ls++ls2) pl2) (hl:ls2.length≤1) (f:Fr2 d.p d.l H H1) (s:aF H1 H'):JR C CS CH d ls pl op H H' v ls2 pl2:=by
 refine ⟨by rw [e],fun _ z=>by rw [e];exact (hv z).ts (gc s),hd.same s,hok,hl,f.trans (Fr2.of s)⟩
theorem jd {H:Hp} {v:V} {o:Ou} (h:lu H v o):bS o=false:=by
 cases o with
 | err j=>exact h.elim
 | _=>rfl
theorem zl (D:Dat K mg "_law_asked" "_law_asked" (top 78) ["_law_hand_here", "_law_numbers", "_law_deed_here"]) (BT:Bt mg) (NE:bh (CX1 P w)) (gw:mg "RiseError" = some (.ref CR)) (ET:∀ c∈ers CD CU CA CN CW CT,PySem.W.exmOne K (.ref c) (.ref CR)=some true) (iI:bB P w K mg base (CX1 P w) CH "take" 6 ["self", "grant", "area"] (o6 C CS CH CD)) (gH:bB P w K mg base (CX1 P w) CH "write" 6 ["self", "reading"] (lA C CS CH CD CA CN CW))
  (iL:bB P w K mg base (CX1 P w) CH "make" 6 ["self", "reading"] (lC C CS CH CD CA CN CW CT)) (iM:bB P w K mg base (CX1 P w) CH "hear" 6 ["self", "bound"] (pA C CS CH CD)) (dG:bB P w K mg base (CX1 P w) CH "give_back" 6 ["self"] (lD C CS CH CD CA CN)) (iN:bB P w K mg base (CX1 P w) CH "fall" 6 ["self"] (pF C CS CH CD)) (iJ:bB P w K mg base (CX1 P w) CH "rise" 6 ["self"] (o7 C CS CH CU)):Cal P w K mg base (CX1 P w) "_law_asked" 8 ["_law_hand_here", "_law_numbers", "_law_deed_here"] (rz C CS CH):=by
 have S:=yQ
 walk_at "d"
 ·obtain ⟨d,ls,pl,n,as,u,op,rfl,_⟩:=h
  rfl
 obtain ⟨d,ls,pl,n,as,u,op,rfl,hd,hok,hl,hn,hA,hu,ho,q⟩:=h
 refine ⟨_,(ai (aK (i:=3) S.nd rfl (by first | exact Or.inl rfl | exact Or.inr rfl) cz)
   (ai (w9 rfl rfl rfl gw BD (fun _ _=>(aj (aX (aG bQ (aq (cH (K:=K) rfl) (pv 2) ah (fun _ _=>rfl)) aL (aM _)) (aj (aK (i:=3) S.nd rfl (by first | exact Or.inl rfl | exact Or.inr rfl) (l0 iI (hr.mono (by first | decide | omega)) aP (pv 0) (aa (aq (cH (K:=K) rfl) (pv 2) ah (fun _ _=>rfl)) (aa (aq (Ce (K:=K) rfl) (aq (cH (K:=K) rfl) (pv 1) ah (fun _ _=>rfl)) (aQ iz (aq (cH (K:=K) rfl) (pv 2) ah (fun _ _=>rfl)) ah) (fun _ _=>rfl)) af))))) (aj (aX (aG bQ (aq (cH (K:=K) rfl) (pv 2) ah (fun _ _=>rfl)) aL (aM _)) (aj (bT (l0 gH (hr.mono (by first | decide | omega)) aP (pv 0) (aa (aq (cH (K:=K) rfl) (pv 2) ah (fun _ _=>rfl)) af)))) (aj (aX (aG bQ (aq (cH (K:=K) rfl) (pv 2) ah (fun _ _=>rfl)) aL (aM _)) (aj (aK (i:=3) S.nd rfl (by first | exact Or.inl rfl | exact Or.inr rfl) (l0 iL (hr.mono (by first | decide | omega)) aP (pv 0) (aa (aq (cH (K:=K) rfl) (pv 2) ah (fun _ _=>rfl)) af)))) (aj (aX (aG bQ (aq (cH (K:=K) rfl) (pv 2) ah (fun _ _=>rfl)) aL (aM _)) (aj (bT (l0 iM (hr.mono (by first | decide | omega)) aP (pv 0) (aa (aq (cH (K:=K) rfl) (pv 2) ah (fun _ _=>rfl)) af)))) (aj (aX (aG bQ (aq (cH (K:=K) rfl) (pv 2) ah (fun _ _=>rfl)) aL (aM _)) (aj (aK (i:=3) S.nd rfl (by first | exact Or.inl rfl | exact Or.inr rfl) (pQ dG (hr.mono (by first | decide | omega)) aP (pv 0)))) (aj (aX (aG bQ (aq (cH (K:=K) rfl) (pv 2) ah (fun _ _=>rfl)) aL (aM _)) (aj (bT (pQ iN (hr.mono (by first | decide | omega)) aP (pv 0)))) (aj (bT (pQ iJ (hr.mono (by first | decide | omega)) aP (pv 0))))))))))))))))) (fun _=>(aj (au (aS (aa dZ (aa cz af)))))))
   (aj (au (aS (aa dZ (aa (pv 3) af))))))),?_⟩
 try dsimp only [aZ]
 obtain ⟨⟨dx,sv,hp,hpl⟩,hlst,hL,hss⟩:=id hd
 have L:=((Led.start H (fun _=>False)).more (aH u _) hu).more (aH n.t _) hn.1
 cases op with
 | take gr sl f e=>
  obtain ⟨i,r,rfl,hi,rfl,rfl,rfl⟩:=ho
  walk_at "go"
  refine bu hp Im ?_
  walk_at "go"
  refine j9 (SqL.of hn.2) (v:=.ref r.a) (by rw [show (i:Int)+1 - 1=(i:Int) by omega];exact eV (xW hi)) ?_
  walk_at "go"
  refine yd (CU:=CU) (CA:=CA) (CN:=CN) (CW:=CW) (CT:=CT) hd hok hl (by omega) (hA r (List.mem_of_getElem? hi)) (fun j c dx' H' hj ho2 sm _=>?_) (fun v o ls2 pl2 H1 e0 hv hd1 hok1 hl2 f1=>?_)
  ·refine iC (ET c (List.mem_of_getElem? hj)) ?_
   clear L
   have L:=Led.start H' (fun _=>False)
   walk_at "go"
   exact q _ .non [] pl _ (by rw [show bS (opF d (nt ls) (gmx ls) pl (.take ((i:Int)+1) r.x r.y r.z)).1=true by rw [ho2];rfl];exact L'.tup (by walk_at "mem")) (gE hd hok ho2 (sm.trans L'.same))
  ·clear L
   have L:=Led.start H1 (fun _=>False)
   try dsimp only [bO]
   walk_at "go"
   exact q _ v ls2 pl2 _ (by rw [show bS (opF d (nt ls) (gmx ls) pl (.take ((i:Int)+1) r.x r.y r.z)).1=false by rw [e0];exact jd hv];exact L'.tup (by walk_at "mem")) (jn e0 (fun _=>hv) hd1 hok1 hl2 f1 L'.same)
 | write r=>
  walk_at "go"
  refine aV (by decide +kernel) ?_
  walk_at "go"
  refine bu hp EY ?_
  walk_at "go"
  refine uh (CU:=CU) (CT:=CT) hd hok hl (fun j c dx' H' hj ho2 sm _=>?_) (fun v o ls2 pl2 H1 e0 hv hd1 hok1 hl2 f1=>?_)
  ·refine iC (ET c (List.mem_of_getElem? hj)) ?_
   clear L
   have L:=Led.start H' (fun _=>False)
   walk_at "go"
   exact q _ .non [] pl _ (by rw [show bS (opF d (nt ls) (gmx ls) pl (.write r)).1=true by rw [ho2];rfl];exact L'.tup (by walk_at "mem")) (gE hd hok ho2 (sm.trans L'.same))
  ·clear L
   have L:=Led.start H1 (fun _=>False)
   try dsimp only [bO]
   walk_at "go"
   exact q _ .non ls2 pl2 _ (by rw [show bS (opF d (nt ls) (gmx ls) pl (.write r)).1=false by rw [e0];exact jd hv];exact L'.tup (by walk_at "mem")) (jn e0 (fun z=>by rcases z with ⟨_,z⟩ | z <;> cases z) hd1 hok1 hl2 f1 L'.same)
 | make r=>
  walk_at "go"
  refine aV (by decide +kernel) ?_
  walk_at "go"
  refine aV (by decide +kernel) ?_
  walk_at "go"
  refine bu hp Iq ?_
  walk_at "go"
  refine yj (CU:=CU) hd hok (fun j c dx' H' hj ho2 sm _=>?_) (fun v o ls2 pl2 H1 e0 hv hd1 hok1 hl2 f1=>?_)
  ·refine iC (ET c (List.mem_of_getElem? hj)) ?_
   clear L
   have L:=Led.start H' (fun _=>False)
   walk_at "go"
   exact q _ .non [] pl _ (by rw [show bS (opF d (nt ls) (gmx ls) pl (.make r)).1=true by rw [ho2];rfl];exact L'.tup (by walk_at "mem")) (gE hd hok ho2 (sm.trans L'.same))
  ·clear L
   have L:=Led.start H1 (fun _=>False)
   try dsimp only [bO]
   walk_at "go"
   exact q _ v ls2 pl2 _ (by rw [show bS (opF d (nt ls) (gmx ls) pl (.make r)).1=false by rw [e0];exact jd hv];exact L'.tup (by walk_at "mem")) (jn e0 (fun _=>hv) hd1 hok1 hl2 f1 L'.same)
 | hear b=>
  walk_at "go"
  refine aV (by decide +kernel) ?_
  walk_at "go"
  refine aV (by decide +kernel) ?_
  walk_at "go"
  refine aV (by decide +kernel) ?_
  walk_at "go"
  refine bu hp Ir ?_
  walk_at "go"
  refine ym (CU:=CU) (CA:=CA) (CN:=CN) (CW:=CW) (CT:=CT) hd hok hl (fun j c dx' H' hj ho2 sm _=>?_) (fun v o ls2 pl2 H1 e0 hv hd1 hok1 hl2 f1=>?_)
  ·refine iC (ET c (List.mem_of_getElem? hj)) ?_
   clear L
   have L:=Led.start H' (fun _=>False)
   walk_at "go"
   exact q _ .non [] pl _ (by rw [show bS (opF d (nt ls) (gmx ls) pl (.hear b)).1=true by rw [ho2];rfl];exact L'.tup (by walk_at "mem")) (gE hd hok ho2 (sm.trans L'.same))
  ·clear L
   have L:=Led.start H1 (fun _=>False)
   try dsimp only [bO]
   walk_at "go"
   exact q _ .non ls2 pl2 _ (by rw [show bS (opF d (nt ls) (gmx ls) pl (.hear b)).1=false by rw [e0];exact jd hv];exact L'.tup (by walk_at "mem")) (jn e0 (fun z=>by rcases z with ⟨_,z⟩ | z <;> cases z) hd1 hok1 hl2 f1 L'.same)
 | give=>
  walk_at "go"
  refine aV (by decide +kernel) ?_
  walk_at "go"
  refine aV (by decide +kernel) ?_
  walk_at "go"
  refine aV (by decide +kernel) ?_
  walk_at "go"
  refine aV (by decide +kernel) ?_
  walk_at "go"
  refine bu hp E2 ?_
  walk_at "go"
  refine yp (CU:=CU) (CW:=CW) (CT:=CT) hd hok hl (fun j c dx' H' hj ho2 sm _=>?_) (fun v o ls2 pl2 H1 e0 hv hd1 hok1 hl2 f1=>?_)
  ·refine iC (ET c (List.mem_of_getElem? hj)) ?_
   clear L
   have L:=Led.start H' (fun _=>False)
   walk_at "go"
   exact q _ .non [] pl _ (by rw [show bS (opF d (nt ls) (gmx ls) pl .give).1=true by rw [ho2];rfl];exact L'.tup (by walk_at "mem")) (gE hd hok ho2 (sm.trans L'.same))
  ·clear L
   have L:=Led.start H1 (fun _=>False)
   try dsimp only [bO]
   walk_at "go"
   exact q _ v ls2 pl2 _ (by rw [show bS (opF d (nt ls) (gmx ls) pl .give).1=false by rw [e0];exact jd hv];exact L'.tup (by walk_at "mem")) (jn e0 (fun _=>hv) hd1 hok1 hl2 f1 L'.same)
 | fall=>
  walk_at "go"
  refine aV (by decide +kernel) ?_
  walk_at "go"
  refine aV (by decide +kernel) ?_
  walk_at "go"
  refine aV (by decide +kernel) ?_
  walk_at "go"
  refine aV (by decide +kernel) ?_
  walk_at "go"
  refine aV (by decide +kernel) ?_
  walk_at "go"
  refine bu hp Iu ?_
  walk_at "go"
  refine yr (CU:=CU) (CA:=CA) (CN:=CN) (CW:=CW) (CT:=CT) hd hok (fun j c dx' H' hj ho2 sm _=>?_) (fun v o ls2 pl2 H1 e0 hv hd1 hok1 hl2 f1=>?_)
  ·refine iC (ET c (List.mem_of_getElem? hj)) ?_
   clear L
   have L:=Led.start H' (fun _=>False)
   walk_at "go"
   exact q _ .non [] pl _ (by rw [show bS (opF d (nt ls) (gmx ls) pl .fall).1=true by rw [ho2];rfl];exact L'.tup (by walk_at "mem")) (gE hd hok ho2 (sm.trans L'.same))
  ·clear L
   have L:=Led.start H1 (fun _=>False)
   try dsimp only [bO]
   walk_at "go"
   exact q _ .non ls2 pl2 _ (by rw [show bS (opF d (nt ls) (gmx ls) pl .fall).1=false by rw [e0];exact jd hv];exact L'.tup (by walk_at "mem")) (jn e0 (fun z=>by rcases z with ⟨_,z⟩ | z <;> cases z) hd1 hok1 hl2 f1 L'.same)
 | rise=>
  walk_at "go"
  refine aV (by decide +kernel) ?_
  walk_at "go"
  refine aV (by decide +kernel) ?_
  walk_at "go"
  refine aV (by decide +kernel) ?_
  walk_at "go"
  refine aV (by decide +kernel) ?_
  walk_at "go"
  refine aV (by decide +kernel) ?_
  walk_at "go"
  refine aV (by decide +kernel) ?_
  walk_at "go"
  refine bu hp Io ?_
  walk_at "go"
  refine yh (CD:=CD) (CA:=CA) (CN:=CN) (CW:=CW) (CT:=CT) hd hok (fun j c dx' H' hj ho2 sm _=>?_) (fun v o ls2 pl2 H1 e0 hv hd1 hok1 hl2 f1=>?_)
  ·refine iC (ET c (List.mem_of_getElem? hj)) ?_
   clear L
   have L:=Led.start H' (fun _=>False)
   walk_at "go"
   exact q _ .non [] pl _ (by rw [show bS (opF d (nt ls) (gmx ls) pl .rise).1=true by rw [ho2];rfl];exact L'.tup (by walk_at "mem")) (gE hd hok ho2 (sm.trans L'.same))
  ·clear L
   have L:=Led.start H1 (fun _=>False)
   try dsimp only [bO]
   walk_at "go"
   exact q _ .non ls2 pl2 _ (by rw [show bS (opF d (nt ls) (gmx ls) pl .rise).1=false by rw [e0];exact jd hv];exact L'.tup (by walk_at "mem")) (jn e0 (fun z=>by rcases z with ⟨_,z⟩ | z <;> cases z) hd1 hok1 hl2 f1 L'.same)
end
theorem Ei {d:Hd} {n:Nt} {g:Int} {pl:Option (Int×Int)} {op:Op} (h:bS (opF d n g pl op).1=true):(opF d n g pl op).2=([],pl):=by
 cases pl with
 | none=>
  cases op with
  | rise=>cases h
  | _=>rfl
 | some p=>
  obtain ⟨m,k⟩:=p
  cases op with
  | fall=>cases h
  | rise=>rfl
  | take gr sl f e=>
   simp only [opF] at h
   split at h <;> cases h
  | hear b=>cases h
  | write r=>
   cases ha:n.ar with
   | none=>simp only [opF,ha]
   | some y=>
    obtain ⟨sl,f,e⟩:=y
    simp only [opF,ha] at h ⊢
    by_cases c1:e≤due m f r
    ·rw [if_pos c1]
    ·rw [if_neg c1] at h ⊢
     by_cases c2:r+d.far < due m f r
     ·rw [if_pos c2]
     ·rw [if_neg c2] at h;cases h
  | make r=>
   cases ha:n.ar with
   | none=>simp only [opF,ha]
   | some y=>
    obtain ⟨sl,f,e⟩:=y
    simp only [opF,ha] at h ⊢
    by_cases c1:e≤due m f r
    ·rw [if_pos c1]
    ·rw [if_neg c1] at h ⊢
     by_cases c2:r+d.far < due m f r
     ·rw [if_pos c2]
     ·rw [if_neg c2] at h ⊢
      by_cases c3:("ahead" : Str)∈d.ws∧n.hd≤due m f r
      ·rw [if_pos c3]
      ·rw [if_neg c3] at h;cases h
  | give=>
   cases ha:n.ar with
   | none=>simp only [opF,ha]
   | some y=>
    obtain ⟨sl,f,e⟩:=y
    simp only [opF,ha] at h ⊢
    by_cases c1:cR f m k n.hd≥e
    ·rw [if_pos c1]
    ·rw [if_neg c1] at h;cases h
theorem yY {d:Hd} {n:Nt} {g:Int} {pl:Option (Int×Int)} {op:Op}:∀ ln∈(opF d n g pl op).2.1,(∃ gr sl f e,ln = .took gr sl f e∧op = .take gr sl f e)∨j8 ln=false:=by
 intro ln h
 cases op with
 | take gr sl f e=>
  simp only [opF] at h
  split at h
  ·simp at h
  ·split at h
   ·simp at h
   ·exact .inl ⟨gr,sl,f,e,List.mem_singleton.mp h,rfl⟩
 | hear b=>
  simp only [opF] at h
  split at h
  ·simp at h
  ·dsimp only at h
   split at h
   ·exact .inr (by rw [List.mem_singleton.mp h];rfl)
   ·simp at h
 | write r=>
  simp only [opF] at h
  split at h
  ·simp at h
  ·split at h
   ·simp at h
   ·split at h
    ·simp at h
    ·split at h
     ·simp at h
     ·dsimp only at h
      split at h
      ·exact .inr (by rw [List.mem_singleton.mp h];rfl)
      ·simp at h
 | make r=>
  simp only [opF] at h
  split at h
  ·simp at h
  ·split at h
   ·simp at h
   ·split at h
    ·simp at h
    ·split at h
     ·simp at h
     ·split at h <;> simp at h
 | fall=>
  simp only [opF] at h
  split at h <;> simp at h
 | rise=>
  simp only [opF] at h
  split at h <;> simp at h
 | give=>
  simp only [opF] at h
  split at h
  ·simp at h
  ·split at h
   ·simp at h
   ·split at h
    ·simp at h
    ·dsimp only at h
     split at h
     ·exact .inr (by rw [List.mem_singleton.mp h];rfl)
     ·simp at h
def GN (L:Int) (n:Nt):Prop:=∀ sl f e,n.ar=some (sl,f,e)→n.g≤L∧0≤sl∧0≤f
theorem E4 {L:Int} {n:Nt} {ln:Ln} (h:GN L n) (k:(∃ gr sl f e,ln = .took gr sl f e∧gr≤L∧0≤sl∧0≤f)∨j8 ln=false):GN L (n.step ln):=by
 intro sl f e hs
 rcases k with ⟨gr,sl',f',e',rfl,k1,k2,k3⟩ | k
 ·cases hs
  exact ⟨k1,k2,k3⟩
 ·cases ln with
  | took a b c dd=>cases k
  | held m=>exact h sl f e hs
  | heard m=>exact h sl f e hs
  | ends g' e'=>
   rw [jR] at hs ⊢
   by_cases c:g'=n.g
   ·rw [if_pos c] at hs ⊢
    obtain ⟨⟨x1,x2,x3⟩,y1,y2⟩:=Option.map_eq_some_iff.mp hs
    cases y2
    exact h _ _ _ y1
   ·rw [if_neg c] at hs ⊢
    exact h sl f e hs
theorem xE {L:Int}:∀ {xs:List Ln} {n:Nt},GN L n→(∀ ln∈xs,(∃ gr sl f e,ln = .took gr sl f e∧gr≤L∧0≤sl∧0≤f)∨j8 ln=false)→GN L (xs.foldl Nt.step n)
 | [],n,h,_=>h
 | x::xs,n,h,k=>xE (xs:=xs) (E4 h (k x List.mem_cons_self)) fun y hy=>k y (List.mem_cons_of_mem _ hy)
theorem KI {as:List Ar} {d:Hd} {n:Nt} {g:Int} {pl:Option (Int×Int)} {op:Op} (h:GN as.length n) (ho:kE as op) (ha:ya as):GN as.length ((opF d n g pl op).2.1.foldl Nt.step n):=by
 refine xE h fun ln hl=>?_
 rcases yY ln hl with ⟨gr,sl,f,e,e1,e2⟩ | k
 ·subst e2
  obtain ⟨i,r,e3,hi,rfl,rfl,rfl⟩:=ho
  have:=(List.getElem?_eq_some_iff.mp hi).1
  have hr:=ha r (List.mem_of_getElem? hi)
  exact .inl ⟨_,_,_,_,e1,by omega,hr.1,hr.2.1⟩
 ·exact .inr k
structure StH (as:List Ar) (S:Sta) (ls:Lns) (pl:Option (Int×Int)) (i:Nat):Prop where
 ep:S.pl=pl
 en:S.n=nt ls
 eg:S.g=gmx ls
 asc:S.ms.Pairwise (· < ·)
 ml:S.ms.length≤i
 gl:S.gv.length=as.length
 gn:GN as.length S.n
 ok:cX ls pl
 ll:ls.length≤i
theorem StH.sta {as:List Ar} {S:Sta} {ls:Lns} {pl:Option (Int×Int)} {i:Nat} (h:StH as S ls pl i):jQ S where
 k0:=by rw [h.ep];exact h.ok.k0
 n:=by rw [h.en];exact iD uT h.ok.good
 asc:=h.asc
 gl:=fun z=>by
  cases e:S.n.ar with
  | none=>rw [e] at z;cases z
  | some x=>rw [h.gl];exact (h.gn x.1 x.2.1 x.2.2 e).1
 far:=fun sl f e z=>(h.gn sl f e z).2
theorem StH.next {as:List Ar} {S:Sta} {ls ls2:Lns} {pl pl2:Option (Int×Int)} {i:Nat} {d:Hd} {op:Op} (h:StH as S ls pl i) (ho:kE as op) (ha:ya as) (e:opF d (nt ls) (gmx ls) pl op=((opF d (nt ls) (gmx ls) pl op).1,ls2.map (·.2),pl2)) (hok:cX (ls++ls2) pl2) (hl:ls2.length≤1):StH as (mW d S op) (ls++ls2) pl2 (i+1):=by
 have eO:opF d S.n S.g S.pl op=opF d (nt ls) (gmx ls) pl op:=by rw [h.ep,h.en,h.eg]
 cases z:bS (opF d S.n S.g S.pl op).1 with
 | true=>
  have eb:mW d S op=S:=if_pos z
  have e2:=Ei (by rw [← eO];exact z)
  rw [e] at e2
  injection e2 with e3 e4
  have e5:ls2=[]:=List.map_eq_nil_iff.mp e3
  subst e5
  have e6:pl2=pl:=e4
  subst e6
  rw [eb]
  rw [List.append_nil] at hok ⊢
  exact ⟨h.ep,h.en,h.eg,h.asc,Nat.le_succ_of_le h.ml,h.gl,h.gn,hok,Nat.le_succ_of_le h.ll⟩
 | false=>
  have eb:mW d S op=nxS S op (opF d S.n S.g S.pl op):=if_neg (by rw [z];exact Bool.false_ne_true)
  rw [eb]
  have eL:(opF d S.n S.g S.pl op).2.1=ls2.map (·.2):=by rw [eO,e]
  refine ⟨?_,?_,?_,?_,?_,?_,?_,hok,?_⟩
  ·show (opF d S.n S.g S.pl op).2.2=pl2
   rw [eO,e]
  ·show (opF d S.n S.g S.pl op).2.1.foldl Nt.step S.n=nt (ls++ls2)
   rw [eL,HS,h.en]
  ·show max S.g (gX (opF d S.n S.g S.pl op).2.1)=gmx (ls++ls2)
   rw [eL,E5,h.eg]
  ·show (msF S.ms op (opF d S.n S.g S.pl op).1).Pairwise (· < ·)
   unfold msF
   split
   ·exact sH h.asc
   ·exact h.asc
  ·show (msF S.ms op (opF d S.n S.g S.pl op).1).length≤i+1
   have:=h.ml
   unfold msF
   split
   ·rename_i r m _
    have:=Ci S.ms m
    omega
   ·omega
  ·show (gvF S.gv op (opF d S.n S.g S.pl op).1).length=as.length
   unfold gvF
   split
   ·rw [CI];exact h.gl
   ·exact h.gl
  ·exact KI h.gn ho ha
  ·rw [List.length_append]
   have:=h.ll
   omega
theorem bP.lst {C CS CH:Addr} {H H':Hp} {d:Hd} {ls:Lns} {pl:Option (Int×Int)} {p:Addr} {zs:List V} (h:bP C CS CH H d ls pl) (hp:H p=some (.lst zs)) (nl:d.l≠p) (o:Oth p H H'):bP C CS CH H' d ls pl:=by
 obtain ⟨⟨dx,sv,hp',hpl⟩,hl,hL,⟨dy,tr,ms,h1,h2,pm⟩,⟨dz,h3⟩,hn⟩:=h
 have ne:∀ q u,H q=some u→(∀ xs,u≠.lst xs)→q≠p:=fun q u h1 h2 z=>by rw [z,hp] at h1;cases h1;exact h2 _ rfl
 have ts:cS H H':=fun q xs h=>o q _ h (ne _ _ h fun _ z=>nomatch z)
 exact ⟨⟨dx,sv,o _ _ hp' (ne _ _ hp' fun _ z=>nomatch z),hpl.ts ts⟩,o _ _ hl nl,hL.ts ts,⟨dy,tr,ms,o _ _ h1 (ne _ _ h1 fun _ z=>nomatch z),ts _ _ h2,pm⟩,⟨dz,o _ _ h3 (ne _ _ h3 fun _ z=>nomatch z)⟩,hn⟩
def xX (K:PySem.W.Frag) (H:Hp) (as:List Ar) (d:Hd) (v:V):Prop:=∃ (a t u w:Addr) (S:Sta) (op:Op),v = .ref a∧H a=some (.tup [.ref t,.ref u,.ref w])∧SAt K H t S∧H u=some (.tup (opT op))∧kE as op∧jQ S∧S.ms.length≤60∧S.gv.length≤10∧SAt K H w (mW d S op)
theorem xX.ns {K:PySem.W.Frag} {H H':Hp} {as:List Ar} {d:Hd} {v:V} (h:xX K H as d v) (s:fN H H'):xX K H' as d v:=by
 obtain ⟨a,t,u,w,S,op,h1,h2,h3,h4,h5,h6,h7,h8,h9⟩:=h
 exact ⟨a,t,u,w,S,op,h1,s.ts _ _ h2,h3.ns s,s.ts _ _ h4,h5,h6,h7,h8,h9.ns s⟩
theorem EM {H:Hp} {p:Addr} {xs:List V} (h:H p=some (.lst xs)):Led (·=p) H H [(p,Eo (.lst xs))] []:=
 ⟨fun x hx=>by rw [List.mem_singleton.mp hx];exact ⟨_,h,rfl⟩,by simp,fun x hx=>.inl (by rw [List.mem_singleton.mp hx]),fun _ _ h _=>h,fun _ h=>by simp at h⟩
theorem none_of {H H':Hp} {p:Addr} (s:aF H H') (h:H' p=none):H p=none:=by
 cases e:H p with
 | none=>rfl
 | some o=>rw [s _ _ e] at h;cases h
theorem StH.weak {as:List Ar} {S:Sta} {ls:Lns} {pl:Option (Int×Int)} {i:Nat} (h:StH as S ls pl i):StH as S ls pl (i+1):={ h with ml:=Nat.le_succ_of_le h.ml,ll:=Nat.le_succ_of_le h.ll }
section
variable {P:Program} {w:World} {K:PySem.W.Frag} {mg:Str→Option Value} {base:Heap} {C CS CM CH CD CU CA CN CW CT CR:Addr}
theorem G5:ay ["_law_script", "_law_small", "_law_numbers", "_law_hand_here", "_law_state_here", "_law_so_here", "_law_rows", "_law_k", "_law_deed_here", "_law_done", "_law_told_here", "_law_due", "_law_ahead"] ["_law_script"] (ak (top 83)):=by walk_at "s"
def Ge (K:PySem.W.Frag):Sp:=fun vs H Q _=>∃ (a:Addr) (ns:List Int),vs=[.ref a]∧SqL K H a (ns.map V.int)∧ns.length≤63∧∀ H',Q (.bl true) H'
theorem HN {f:Addr} {fd:FuncData} (F:Fun K "law" "law" (top 83) f fd) (BT:Bt mg) (NE:bh (CX1 P w)) (SM:SmC K CM) (fM:Cal P w K mg base (CX1 P w) "_law_hand" 1 ["_law_script", "_law_k"] (pB K)) (qz:Cal P w K mg base (CX1 P w) "_law_large" 13 ["_law_hand_here"] (rm C CS CM)) (jD:Dd P w K mg base (CX1 P w) "Hand" CH 5 ["self", "name", "settings", "lines"] (iT CH)) (qA:Cal P w K mg base (CX1 P w) "_law_begin" 1 ["_law_numbers"] (rq K))
  (tM:Cal P w K mg base (CX1 P w) "_law_deed" 12 ["_law_hand_here", "_law_numbers", "_law_up"] wO) (gJ:bB P w K mg base (CX1 P w) CH "is_up" 1 ["self"] (uz C CS CH)) (jP:Cal P w K mg base (CX1 P w) "_law_words" 10 ["_law_small", "_law_numbers", "_law_state_here", "_law_other"] (rg K C CS CM)) (jm:Cal P w K mg base (CX1 P w) "_law_bad" 2 ["_law_numbers", "_law_state_here", "_law_deed_here"] (uy K)) (qB:Cal P w K mg base (CX1 P w) "_law_asked" 8 ["_law_hand_here", "_law_numbers", "_law_deed_here"] (rz C CS CH))
  (zV:Cal P w K mg base (CX1 P w) "_law_so" 1 ["_law_so_here", "_law_deed_here", "_law_done", "_law_told_here"] Gf) (qv:Cal P w K mg base (CX1 P w) "_law_state" 5 ["_law_hand_here", "_law_so_here"] (rj K C CS CH)) (kQ:Cal P w K mg base (CX1 P w) "_law_told" 10 ["_law_small", "_law_state_here", "_law_deed_here", "_law_due"] (wM K C CS CM)):fF P w K mg base (CX1 P w) 15 f fd ["_law_script"] (Ge K):=by
 have S:=G5
 refine mO F S (fun vs H Q E h=>?_) (fun f cdv A outer s H vs Q E hr h=>?_)
 ·obtain ⟨a,ns,rfl,_⟩:=h
  rfl
 obtain ⟨a,ns,rfl,hS,h63,q⟩:=h
 refine ⟨_,(@ai _ _ _ _ _ (@fj _ _ _ _ _ _ (@aI _ _ _ _ _ _ _ _ _ _ _ _ qz (hr.mono (by first | decide | omega)) NE.pass (@aa _ _ _ _ _ (@aI _ _ _ _ _ _ _ _ _ _ _ _ fM (hr.mono (by first | decide | omega)) NE.pass (@aa _ _ _ _ _ (@pv _ 0 _ _ (by rfl) (by first | exact Or.inl rfl | exact Or.inr (Or.inl rfl) | exact Or.inr (Or.inr rfl)) (by decide) (by decide)) (@aa _ _ _ _ _ (@ah _ _ _ _) (@af _) (by rfl)) (by rfl)) (by rfl) (by decide) (by rfl) (by rfl)) (@af _) (by rfl)) (by rfl) (by decide) (by rfl) (by rfl)) (@iw _ _ _ _ _ _ rfl (@bz _ _ _ _ _ (@bg _ _ 1 _ S.nd rfl (by first | exact Or.inl rfl | exact Or.inr rfl) (by first | exact .inl rfl | exact .inr rfl | assumption)) (@bz _ _ _ _ _ (@bg _ _ 2 _ S.nd rfl (by first | exact Or.inl rfl | exact Or.inr rfl) (by first | exact .inl rfl | exact .inr rfl | assumption)) (@fH _) (by rfl)) (by rfl)) (by rfl) (by rfl)) (by rfl) (by rfl) (by rfl)) (@ai _ _ _ _ _ (@aK _ _ 3 _ _ _ _ S.nd rfl (by first | exact Or.inl rfl | exact Or.inr rfl) (Hv jD (hr.mono (by first | decide | omega)) NE.pass (@aa _ _ _ _ _ (@aL _ _ _ _) (@aa _ _ _ _ _ (@bw _ _ _ _ _ (@pv _ 1 _ _ (by rfl) (by first | exact Or.inl rfl | exact Or.inr (Or.inl rfl) | exact Or.inr (Or.inr rfl)) (by decide) (by decide)) rfl) (@af _) (by rfl)) (by rfl))) (by rfl) (by first | exact .inl rfl | exact .inr rfl | assumption)) (@ai _ _ _ _ _ (@aK _ _ 4 _ _ _ _ S.nd rfl (by first | exact Or.inl rfl | exact Or.inr rfl) (@aI _ _ _ _ _ _ _ _ _ _ _ _ qA (hr.mono (by first | decide | omega)) NE.pass (@aa _ _ _ _ _ (@pv _ 2 _ _ (by rfl) (by first | exact Or.inl rfl | exact Or.inr (Or.inl rfl) | exact Or.inr (Or.inr rfl)) (by decide) (by decide)) (@af _) (by rfl)) (by rfl) (by decide) (by rfl) (by rfl)) (by rfl) (by first | exact .inl rfl | exact .inr rfl | assumption)) (@ai _ _ _ _ _ (@aK _ _ 5 _ _ _ _ S.nd rfl (by first | exact Or.inl rfl | exact Or.inr rfl) (@dg _ _ _ _ _ _ _ _ _ _ (@gg _) (@pv _ 4 _ _ (by rfl) (by first | exact Or.inl rfl | exact Or.inr (Or.inl rfl) | exact Or.inr (Or.inr rfl)) (by decide) (by decide)) (@eF _ _ _ (@ah _ _ _ _)) (@eH _)) (by rfl) (by first | exact .inl rfl | exact .inr rfl | assumption)) (@ai _ _ _ _ _ (@aK _ _ 6 _ _ _ _ S.nd rfl (by first | exact Or.inl rfl | exact Or.inr rfl) (@b9 _ _ _ _ (@af _)) (by rfl) (by first | exact .inl rfl | exact .inr rfl | assumption)) (@ai _ _ _ _ _ (@ig _ _ _ _ _ _ _ _ PassesOwn.never rfl (@yW _ _ _ _ _ _ _ rfl BT.range (@aa _ _ _ _ _ (@ah _ _ _ _) (@aa _ _ _ _ _ (@bq _ _ _ _ _ _ _ _ _ (@xQ _ rfl) rfl BT.min L3.qC (@aa _ _ _ _ _ (@bq _ _ _ _ _ _ _ _ _ (@tH _) rfl BT.len L3.kB (@aa _ _ _ _ _ (@pv _ 0 _ _ (by rfl) (by first | exact Or.inl rfl | exact Or.inr (Or.inl rfl) | exact Or.inr (Or.inr rfl)) (by decide) (by decide)) (@af _) (by rfl)) (by decide) (by decide) (by rfl) (by rfl)) (@aa _ _ _ _ _ (@ah _ _ _ _) (@af _) (by rfl)) (by rfl)) (by decide) (by decide) (by rfl) (by rfl)) (@af _) (by rfl)) (by rfl)) (by rfl) (by rfl)) (@bg _ _ 7 _ S.nd rfl (by first | exact Or.inl rfl | exact Or.inr rfl) (by first | exact .inl rfl | exact .inr rfl | assumption)) (@ai _ _ _ _ _ (@aK _ _ 8 _ _ _ _ S.nd rfl (by first | exact Or.inl rfl | exact Or.inr rfl) (@aI _ _ _ _ _ _ _ _ _ _ _ _ tM (hr.mono (by first | decide | omega)) NE.pass (@aa _ _ _ _ _ (@aI _ _ _ _ _ _ _ _ _ _ _ _ fM (hr.mono (by first | decide | omega)) NE.pass (@aa _ _ _ _ _ (@pv _ 0 _ _ (by rfl) (by first | exact Or.inl rfl | exact Or.inr (Or.inl rfl) | exact Or.inr (Or.inr rfl)) (by decide) (by decide)) (@aa _ _ _ _ _ (@pv _ 7 _ _ (by rfl) (by first | exact Or.inl rfl | exact Or.inr (Or.inl rfl) | exact Or.inr (Or.inr rfl)) (by decide) (by decide)) (@af _) (by rfl)) (by rfl)) (by rfl) (by decide) (by rfl) (by rfl)) (@aa _ _ _ _ _ (@pv _ 2 _ _ (by rfl) (by first | exact Or.inl rfl | exact Or.inr (Or.inl rfl) | exact Or.inr (Or.inr rfl)) (by decide) (by decide)) (@aa _ _ _ _ _ (@fP _ _ _ _ _ _ _ _ _ _ _ _ _ gJ (hr.mono (by first | decide | omega)) NE.pass (@pv _ 3 _ _ (by rfl) (by first | exact Or.inl rfl | exact Or.inr (Or.inl rfl) | exact Or.inr (Or.inr rfl)) (by decide) (by decide)) (by rfl)) (@af _) (by rfl)) (by rfl)) (by rfl)) (by rfl) (by decide) (by rfl) (by rfl)) (by rfl) (by first | exact .inl rfl | exact .inr rfl | assumption)) (@ai _ _ _ _ _ (@aX _ _ _ _ _ _ _ _ (@cU _ _ _ _ (@b8 _ _ _ (@aI _ _ _ _ _ _ _ _ _ _ _ _ jP (hr.mono (by first | decide | omega)) NE.pass (@aa _ _ _ _ _ (@pv _ 1 _ _ (by rfl) (by first | exact Or.inl rfl | exact Or.inr (Or.inl rfl) | exact Or.inr (Or.inr rfl)) (by decide) (by decide)) (@aa _ _ _ _ _ (@pv _ 2 _ _ (by rfl) (by first | exact Or.inl rfl | exact Or.inr (Or.inl rfl) | exact Or.inr (Or.inr rfl)) (by decide) (by decide)) (@aa _ _ _ _ _ (@pv _ 4 _ _ (by rfl) (by first | exact Or.inl rfl | exact Or.inr (Or.inl rfl) | exact Or.inr (Or.inr rfl)) (by decide) (by decide)) (@aa _ _ _ _ _ (@pv _ 8 _ _ (by rfl) (by first | exact Or.inl rfl | exact Or.inr (Or.inl rfl) | exact Or.inr (Or.inr rfl)) (by decide) (by decide)) (@af _) (by rfl)) (by rfl)) (by rfl)) (by rfl)) (by rfl) (by decide) (by rfl) (by rfl)) (by intro _;rfl))) (@aj _ _ _ (@au _ _ _ _ (@dZ _ _ _ _))) (@aE _)) (@aj _ _ _ (@aX _ _ _ _ _ _ _ _ (@cy _ _ _ _ _ _ (@dh _ _ _ _ _ (@aI _ _ _ _ _ _ _ _ _ _ _ _ jm (hr.mono (by first | decide | omega)) NE.pass (@aa _ _ _ _ _ (@pv _ 2 _ _ (by rfl) (by first | exact Or.inl rfl | exact Or.inr (Or.inl rfl) | exact Or.inr (Or.inr rfl)) (by decide) (by decide)) (@aa _ _ _ _ _ (@pv _ 4 _ _ (by rfl) (by first | exact Or.inl rfl | exact Or.inr (Or.inl rfl) | exact Or.inr (Or.inr rfl)) (by decide) (by decide)) (@aa _ _ _ _ _ (@pv _ 8 _ _ (by rfl) (by first | exact Or.inl rfl | exact Or.inr (Or.inl rfl) | exact Or.inr (Or.inr rfl)) (by decide) (by decide)) (@af _) (by rfl)) (by rfl)) (by rfl)) (by rfl) (by decide) (by rfl) (by rfl))) (by first | exact l8 _ (by decide) (by decide) | rfl)) (@ai _ _ _ _ _ (@fj _ _ _ _ _ _ (@aI _ _ _ _ _ _ _ _ _ _ _ _ qB (hr.mono (by first | decide | omega)) NE.pass (@aa _ _ _ _ _ (@pv _ 3 _ _ (by rfl) (by first | exact Or.inl rfl | exact Or.inr (Or.inl rfl) | exact Or.inr (Or.inr rfl)) (by decide) (by decide)) (@aa _ _ _ _ _ (@pv _ 2 _ _ (by rfl) (by first | exact Or.inl rfl | exact Or.inr (Or.inl rfl) | exact Or.inr (Or.inr rfl)) (by decide) (by decide)) (@aa _ _ _ _ _ (@pv _ 8 _ _ (by rfl) (by first | exact Or.inl rfl | exact Or.inr (Or.inl rfl) | exact Or.inr (Or.inr rfl)) (by decide) (by decide)) (@af _) (by rfl)) (by rfl)) (by rfl)) (by rfl) (by decide) (by rfl) (by rfl)) (@iw _ _ _ _ _ _ rfl (@bz _ _ _ _ _ (@bg _ _ 9 _ S.nd rfl (by first | exact Or.inl rfl | exact Or.inr rfl) (by first | exact .inl rfl | exact .inr rfl | assumption)) (@bz _ _ _ _ _ (@bg _ _ 10 _ S.nd rfl (by first | exact Or.inl rfl | exact Or.inr rfl) (by first | exact .inl rfl | exact .inr rfl | assumption)) (@fH _) (by rfl)) (by rfl)) (by rfl) (by rfl)) (by rfl) (by rfl) (by rfl)) (@ai _ _ _ _ _ (@aK _ _ 5 _ _ _ _ S.nd rfl (by first | exact Or.inl rfl | exact Or.inr rfl) (@aI _ _ _ _ _ _ _ _ _ _ _ _ zV (hr.mono (by first | decide | omega)) NE.pass (@aa _ _ _ _ _ (@pv _ 5 _ _ (by rfl) (by first | exact Or.inl rfl | exact Or.inr (Or.inl rfl) | exact Or.inr (Or.inr rfl)) (by decide) (by decide)) (@aa _ _ _ _ _ (@pv _ 8 _ _ (by rfl) (by first | exact Or.inl rfl | exact Or.inr (Or.inl rfl) | exact Or.inr (Or.inr rfl)) (by decide) (by decide)) (@aa _ _ _ _ _ (@pv _ 9 _ _ (by rfl) (by first | exact Or.inl rfl | exact Or.inr (Or.inl rfl) | exact Or.inr (Or.inr rfl)) (by decide) (by decide)) (@aa _ _ _ _ _ (@pv _ 10 _ _ (by rfl) (by first | exact Or.inl rfl | exact Or.inr (Or.inl rfl) | exact Or.inr (Or.inr rfl)) (by decide) (by decide)) (@af _) (by rfl)) (by rfl)) (by rfl)) (by rfl)) (by rfl) (by decide) (by rfl) (by rfl)) (by rfl) (by first | exact .inl rfl | exact .inr rfl | assumption)) (@ai _ _ _ _ _ (@aK _ _ 11 _ _ _ _ S.nd rfl (by first | exact Or.inl rfl | exact Or.inr rfl) (@aI _ _ _ _ _ _ _ _ _ _ _ _ qv (hr.mono (by first | decide | omega)) NE.pass (@aa _ _ _ _ _ (@pv _ 3 _ _ (by rfl) (by first | exact Or.inl rfl | exact Or.inr (Or.inl rfl) | exact Or.inr (Or.inr rfl)) (by decide) (by decide)) (@aa _ _ _ _ _ (@pv _ 5 _ _ (by rfl) (by first | exact Or.inl rfl | exact Or.inr (Or.inl rfl) | exact Or.inr (Or.inr rfl)) (by decide) (by decide)) (@af _) (by rfl)) (by rfl)) (by rfl) (by decide) (by rfl) (by rfl)) (by rfl) (by first | exact .inl rfl | exact .inr rfl | assumption)) (@ai _ _ _ _ _ (@aX _ _ _ _ _ _ _ _ (@cU _ _ _ _ (@b8 _ _ _ (@aI _ _ _ _ _ _ _ _ _ _ _ _ kQ (hr.mono (by first | decide | omega)) NE.pass (@aa _ _ _ _ _ (@pv _ 1 _ _ (by rfl) (by first | exact Or.inl rfl | exact Or.inr (Or.inl rfl) | exact Or.inr (Or.inr rfl)) (by decide) (by decide)) (@aa _ _ _ _ _ (@pv _ 4 _ _ (by rfl) (by first | exact Or.inl rfl | exact Or.inr (Or.inl rfl) | exact Or.inr (Or.inr rfl)) (by decide) (by decide)) (@aa _ _ _ _ _ (@pv _ 8 _ _ (by rfl) (by first | exact Or.inl rfl | exact Or.inr (Or.inl rfl) | exact Or.inr (Or.inr rfl)) (by decide) (by decide)) (@aa _ _ _ _ _ (@pv _ 11 _ _ (by rfl) (by first | exact Or.inl rfl | exact Or.inr (Or.inl rfl) | exact Or.inr (Or.inr rfl)) (by decide) (by decide)) (@af _) (by rfl)) (by rfl)) (by rfl)) (by rfl)) (by rfl) (by decide) (by rfl) (by rfl)) (by intro _;rfl))) (@aj _ _ _ (@au _ _ _ _ (@dZ _ _ _ _))) (@aE _)) (@ai _ _ _ _ _ (@bT _ _ _ _ (@xo _ _ _ _ _ _ _ _ _ _ _ _ PySem.F.plainAttrs_list PySem.F.slot_list_append PySem.F.type_list_append (@j7 _) (@pv _ 6 _ _ (by rfl) (by first | exact Or.inl rfl | exact Or.inr (Or.inl rfl) | exact Or.inr (Or.inr rfl)) (by decide) (by decide)) (@aa _ _ _ _ _ (@aS _ _ _ _ _ (@aa _ _ _ _ _ (@pv _ 4 _ _ (by rfl) (by first | exact Or.inl rfl | exact Or.inr (Or.inl rfl) | exact Or.inr (Or.inr rfl)) (by decide) (by decide)) (@aa _ _ _ _ _ (@pv _ 8 _ _ (by rfl) (by first | exact Or.inl rfl | exact Or.inr (Or.inl rfl) | exact Or.inr (Or.inr rfl)) (by decide) (by decide)) (@aa _ _ _ _ _ (@pv _ 11 _ _ (by rfl) (by first | exact Or.inl rfl | exact Or.inr (Or.inl rfl) | exact Or.inr (Or.inr rfl)) (by decide) (by decide)) (@af _) (by rfl)) (by rfl)) (by rfl))) (@af _) (by rfl)) (by rfl) (by rfl) (by rfl) (by rfl) (by rfl)) (by rfl)) (@aj _ _ _ (@aK _ _ 4 _ _ _ _ S.nd rfl (by first | exact Or.inl rfl | exact Or.inr rfl) (@pv _ 11 _ _ (by rfl) (by first | exact Or.inl rfl | exact Or.inr (Or.inl rfl) | exact Or.inr (Or.inr rfl)) (by decide) (by decide)) (by rfl) (by first | exact .inl rfl | exact .inr rfl | assumption)))))))) (@aE _))))) (by intro _;rfl)) (@ai _ _ _ _ _ (@ig _ _ _ _ _ _ _ _ PassesOwn.never rfl (@eK _ _ _ _ (@pv _ 6 _ _ (by rfl) (by first | exact Or.inl rfl | exact Or.inr (Or.inl rfl) | exact Or.inr (Or.inr rfl)) (by decide) (by decide))) (@iw _ _ _ _ _ _ rfl (@bz _ _ _ _ _ (@bg _ _ 12 _ S.nd rfl (by first | exact Or.inl rfl | exact Or.inr rfl) (by first | exact .inl rfl | exact .inr rfl | assumption)) (@bz _ _ _ _ _ (@bg _ _ 8 _ S.nd rfl (by first | exact Or.inl rfl | exact Or.inr rfl) (by first | exact .inl rfl | exact .inr rfl | assumption)) (@bz _ _ _ _ _ (@bg _ _ 11 _ S.nd rfl (by first | exact Or.inl rfl | exact Or.inr rfl) (by first | exact .inl rfl | exact .inr rfl | assumption)) (@fH _) (by rfl)) (by rfl)) (by rfl)) (by rfl) (by rfl)) (@aj _ _ _ (@aX _ _ _ _ _ _ _ _ (@cU _ _ _ _ (@b8 _ _ _ (@aI _ _ _ _ _ _ _ _ _ _ _ _ kQ (hr.mono (by first | decide | omega)) NE.pass (@aa _ _ _ _ _ (@pv _ 1 _ _ (by rfl) (by first | exact Or.inl rfl | exact Or.inr (Or.inl rfl) | exact Or.inr (Or.inr rfl)) (by decide) (by decide)) (@aa _ _ _ _ _ (@pv _ 12 _ _ (by rfl) (by first | exact Or.inl rfl | exact Or.inr (Or.inl rfl) | exact Or.inr (Or.inr rfl)) (by decide) (by decide)) (@aa _ _ _ _ _ (@pv _ 8 _ _ (by rfl) (by first | exact Or.inl rfl | exact Or.inr (Or.inl rfl) | exact Or.inr (Or.inr rfl)) (by decide) (by decide)) (@aa _ _ _ _ _ (@pv _ 11 _ _ (by rfl) (by first | exact Or.inl rfl | exact Or.inr (Or.inl rfl) | exact Or.inr (Or.inr rfl)) (by decide) (by decide)) (@af _) (by rfl)) (by rfl)) (by rfl)) (by rfl)) (by rfl) (by decide) (by rfl) (by rfl)) (by intro _;rfl))) (@aj _ _ _ (@au _ _ _ _ (@dZ _ _ _ _))) (@aE _))) (by intro _;rfl)) (@aj _ _ _ (@au _ _ _ _ (@aI _ _ _ _ _ _ _ _ _ _ _ _ jP (hr.mono (by first | decide | omega)) NE.pass (@aa _ _ _ _ _ (@pv _ 1 _ _ (by rfl) (by first | exact Or.inl rfl | exact Or.inr (Or.inl rfl) | exact Or.inr (Or.inr rfl)) (by decide) (by decide)) (@aa _ _ _ _ _ (@pv _ 2 _ _ (by rfl) (by first | exact Or.inl rfl | exact Or.inr (Or.inl rfl) | exact Or.inr (Or.inr rfl)) (by decide) (by decide)) (@aa _ _ _ _ _ (@pv _ 4 _ _ (by rfl) (by first | exact Or.inl rfl | exact Or.inr (Or.inl rfl) | exact Or.inr (Or.inr rfl)) (by decide) (by decide)) (@aa _ _ _ _ _ (@aS _ _ _ _ _ (@aa _ _ _ _ _ (@aL _ _ _ _) (@af _) (by rfl))) (@af _) (by rfl)) (by rfl)) (by rfl)) (by rfl)) (by rfl) (by decide) (by rfl) (by rfl))))))))))),?_⟩
 have L:=Led.start H (fun _=>False)
 dsimp only [aZ]
 walk_at "go"
 refine qU L hS h63 (by decide) fun p0 H1 n0 L s1=>?_
 have h1:=cu.at (L.at_ (p0,cu _) (by walk_at "mem"))
 clear L
 try dsimp only [bO]
 walk_at "go"
 refine ⟨p0,_,rfl,h1,by decide,fun t x n as d0 H2 ht hw o2=>?_⟩
 have s2:aF H H2:=o2.same s1 n0
 have L:=(Led.start H2 (fun _=>False)).more (aH t _) ht
 walk_at "go"
 refine Ff ?_
 obtain ⟨dx,hx⟩:=hw.w.1.1
 walk_at "go"
 refine ⟨x.p,CM,dx,_,_,rfl,hx,SM.cl,SM.n1,lU _ _ _ _,?_⟩
 walk_at "go"
 refine uo (v:=.non) (ls:=[]) (.inl ⟨rfl,rfl⟩) (fun _ h=>(by simp at h)) (fun _ h=>(by simp at h)) (by decide) hw.w.2.2 fun xp l H3 nx nl hd3 s3=>?_
 obtain ⟨d,ed⟩:∃ z,z=(⟨xp,l,x.ps,d0.sp, "ann",d0.c,d0.s,d0.far,d0.room,d0.term,d0.ws⟩:Hd):=⟨_,rfl⟩
 have hwd:WdS C CS CM H2 x n as d:=by
  rw [ed]
  exact ⟨hw.w,hw.na,hw.r,hw.c,hw.s,hw.far,hw.room,rfl,hw.m1,hw.m,hw.l1,hw.l2,hw.ok,hw.ru,hw.f0,hw.r1⟩
 have exp:xp=d.p:=by rw [ed]
 have el:l=d.l:=by rw [ed]
 rw [← ed] at hd3
 subst exp el
 clear hw L
 have hal:(arV as).length=as.length:=List.length_map _
 have l2:=hwd.l2
 have m10:=hwd.m
 have L:=Led.start H3 (fun _=>False)
 walk_at "go"
 refine ⟨n,arV as,rfl,(hwd.same s3).na,by omega,fun st H4 hst s4=>?_⟩
 rw [hal] at hst
 obtain ⟨pv,tn,tm,tg,b1,b2,b3,b4,b5⟩:=id hst
 clear L
 walk_at "go"
 refine sP (i:=3) b1 rfl (by decide) (by simp) fun so H5 hso s5=>?_
 have L:=Led.start H5 (fun _=>False)
 walk_at "go"
 obtain ⟨r,er⟩:∃ z,z=l':=⟨_,rfl⟩
 subst er
 have hr5:=L'.eo (p:=r) .head
 have s6:=L'.same
 have nr:H5 r=none:=n'
 have s25:=(s3.trans s4).trans s5
 have nr2:H2 r=none:=none_of s25 nr
 have nlr:d.l≠r:=fun z=>by
  have e:=s5 _ _ (s4 _ _ hd3.2.1)
  rw [z,nr] at e;cases e
 obtain ⟨H6,eH6⟩:∃ z,z=H':=⟨_,rfl⟩
 subst eH6
 clear L L'
 have Ll:StH as (C3 as.length) [] (some (0,0)) 0:=⟨rfl,rfl,rfl,List.Pairwise.nil,Nat.le_refl _,List.length_replicate,(fun _ _ _ z=>nomatch z),⟨fun _ h=>(by simp at h),xx (Int.le_refl 0),by decide⟩,Nat.le_refl _⟩
 obtain ⟨IV,eIV⟩:∃ IV:Nat→L2.St→Hp→Prop,IV=fun i σ Hx=>∃ (st so:Addr) (u7 u8 u9 u10 u11:Option V) (S:Sta) (ls:Lns) (pl:Option (Int×Int)) (rv:List V),σ=[some (.ref a),some (.ref x.p),some (.ref n.t),some (.ref d.p),some (.ref st),some (.ref so),some (.ref r),u7,u8,u9,u10,u11,none]∧aF H2 Hx∧bP C CS CH Hx d ls pl∧StH as S ls pl i∧SAt K Hx st S∧ng Hx so S∧Hx r=some (.lst rv)∧rv.length≤i∧∀ v∈rv,xX K Hx as d v:=⟨_,rfl⟩
 have sA6:=s25.trans s6
 have hd6:bP C CS CH H6 d [] (some (0,0)):=((hd3.same s4).same s5).same s6
 have LX:SAt K H6 st (C3 as.length):=(hst.same s5).same s6
 have LZ:ng H6 so (C3 as.length):=⟨tm,tg,s6 _ _ hso,s6 _ _ (s5 _ _ b4),s6 _ _ (s5 _ _ b5)⟩
 walk_at "go"
 refine lM ((s2.trans sA6).seq hS) ?_
 rw [List.length_map]
 walk_at "go"
 refine Ct IV ?_ ?_ ?_
 ·rw [eIV]
  exact ⟨st,so,_,_,_,_,_,C3 as.length,[],some (0,0),[],rfl,sA6,hd6,Ll,LX,LZ,hr5,Nat.le_refl _,fun _ h=>by simp at h⟩
 ·intro i σ HG hi hIV
  rw [eIV] at hIV
  obtain ⟨st,so,u7,u8,u9,u10,u11,St,ls,pl,rv,rfl,sG,hd,hSt,hs,hso,hr,hrl,hrows⟩:=hIV
  have Ma:i < 50:=by omega
  have sSc:=(s2.trans sG).seq hS
  have L:=Led.start HG (fun _=>False)
  try dsimp only [bO]
  walk_at "go"
  refine qU L sSc h63 (by omega) fun p H7 np L s7=>?_
  have h7:=cu.at (L.at_ (p,cu _) (by walk_at "mem"))
  clear L
  have hw7:=hwd.same (sG.trans s7)
  obtain ⟨⟨dxh,sv,hp7,_⟩,_⟩:=id (hd.same s7)
  walk_at "go"
  refine bu hp7 E1 ?_
  walk_at "go"
  refine ⟨d,ls,pl,rfl,hd.same s7,?_⟩
  walk_at "go"
  have old:∀ q o,HG q=some o→q≠p:=fun q o e z=>by rw [z,np] at e;cases e
  refine ⟨p,_,n,as,pl.isSome,rfl,h7,by decide,hw7.na,old _ _ (sG _ _ hwd.na.2),old _ _ (sG _ _ hwd.na.1),hwd.m1,hwd.m,hwd.l1,by omega,fun u op H8 hu hdo o8=>?_⟩
  have s8:aF HG H8:=o8.same s7 np
  have hw8:=hwd.same (sG.trans s8)
  have nm8:NmS H8 n as d:=⟨hw8.na,hw8.r,hw8.c,hw8.s,hw8.far,hw8.w.2.2.2.2⟩
  have ve:St.ms.length≤60:=by have:=hSt.ml;omega
  have Iv:St.gv.length≤10:=by have:=hSt.gl;omega
  try dsimp only [bO]
  walk_at "go"
  refine ⟨x,n,as,d,st,u,St,op,rfl,hw8.w,nm8,hwd.m,hs.same s8,hSt.sta,ve,hu,hdo.1,fun H9 s9=>?_⟩
  walk_at "go"
  refine ⟨n,as,d,st,u,St,op,rfl,nm8.same s9,(hs.same s8).same s9,hSt.sta,ve,s9 _ _ hu,fun H10 s10=>?_⟩
  have sX:=(s8.trans s9).trans s10
  cases hb:nM d St op with
  | some z=>
   walk_at "go"
   rw [eIV]
   exact ⟨st,so,_,_,_,_,_,St,ls,pl,rv,rfl,sG.trans sX,hd.same sX,hSt.weak,hs.same sX,hso.same sX,sX _ _ hr,Nat.le_succ_of_le hrl,fun v hv=>(hrows v hv).ns (.of sX)⟩
  | none=>
   walk_at "go"
   refine mK rfl ?_
   walk_at "go"
   have hwX:=hwd.same (sG.trans sX)
   refine ⟨d,ls,pl,n,as,u,op,rfl,hd.same sX,hSt.ok,by have:=hSt.ll;omega,hwX.na,hwX.w.2.1,s10 _ _ (s9 _ _ hu),hdo.1,fun tt v ls2 pl2 H11 htt AA=>?_⟩
   have eO:opF d St.n St.g St.pl op=opF d (nt ls) (gmx ls) pl op:=by rw [hSt.ep,hSt.en,hSt.eg]
   rw [← eO] at htt
   have nsF:=Kv (hd.same sX) AA.f
   have s2F:aF H2 H11:=fun q o e=>AA.f q o (sX _ _ (sG _ _ e)) (fun z=>by rw [z,nx] at e;cases e) (fun z=>by rw [z,nl] at e;cases e)
   have hrF:H11 r=some (.lst rv):=AA.f _ _ (sX _ _ hr) (fun z=>by
    obtain ⟨⟨dxq,svq,hpq,_⟩,_⟩:=hd
    rw [← z,hr] at hpq;cases hpq) (Ne.symm nlr)
   have Ih:H11 u=some (.tup (opT op)):=nsF.ts _ _ (s10 _ _ (s9 _ _ hu))
   have L:=(Led.start H11 (fun _=>False)).more (aH tt _) htt
   walk_at "go"
   refine ⟨d,so,u,St,op,v,rfl,(hso.same sX).ts nsF.ts,Ih,hSt.sta,ve,Iv,fun z1 z2=>by rw [eO] at z1 ⊢;exact AA.v z1 z2,fun so2 H12 hso2 s12=>?_⟩
   clear L
   have nxt:=hSt.next hdo.1 hwd.ok AA.e AA.o AA.l
   walk_at "go"
   refine ⟨d,ls++ls2,pl2,so2,mW d St op,rfl,AA.h.same s12,AA.o,hso2,nxt.ep,nxt.en,nxt.eg,fun du H13 hdu s13=>?_⟩
   have wY:=s12.trans s13
   have LR:=hwd.same (s2F.trans wY)
   have Gw:SAt K H13 st St:=((hs.same sX).ns nsF).same wY
   walk_at "go"
   refine ⟨x,as,d,st,u,du,St,op,rfl,LR.w,Gw,hSt.sta,ve,Iv,wY _ _ Ih,hdo.1,hdu,fun H14 s14=>?_⟩
   have rL:=wY.trans s14
   have Ii:=rL _ _ hrF
   have L:=EM Ii
   have rvl:rv.length≤60:=by omega
   walk_at "go"
   have oR:Oth r H14 H':=L'.fr
   have nsR:fN H14 H':=fun q o h n1 n2=>oR q _ h (fun z=>by rw [z,Ii] at h;exact n2 _ (Option.some.inj h).symm)
   have L8:=L'.eo .head
   have LW:=L'.tup (r:=t') (by walk_at "mem")
   show IV (i+1) _ H'
   rw [eIV]
   refine ⟨du,so2,_,_,_,_,_,mW d St op,ls++ls2,pl2,rv++[V.ref t'],rfl,fun q o e=>oR q o (rL _ _ (s2F _ _ e)) (fun z=>by rw [z,nr2] at e;cases e),(AA.h.same rL).lst Ii nlr oR,nxt,(hdu.same s14).ns nsR,(hso2.same (s13.trans s14)).ts nsR.ts,L8,by rw [List.length_append,List.length_singleton];omega,fun v hv=>?_⟩
   rcases List.mem_append.mp hv with hv | hv
   ·exact ((((hrows v hv).ns (.of sX)).ns nsF).ns (.of rL)).ns nsR
   ·rw [List.mem_singleton.mp hv]
    exact ⟨t',st,u,du,St,op,rfl,LW,(Gw.same s14).ns nsR,nsR.ts _ _ (rL _ _ Ih),hdo.1,hSt.sta,ve,Iv,(hdu.same s14).ns nsR⟩
 ·intro σ HG hIV
  rw [eIV] at hIV
  obtain ⟨st,so,u7,u8,u9,u10,u11,St,ls,pl,rv,rfl,sG,hd,hSt,hs,hso,hr,hrl,hrows⟩:=hIV
  have Ma:(min (ns.length:Int) 51 - 1).toNat≤50:=by omega
  walk_at "go"
  refine gA (SqL.of hr) ?_
  refine mL rv (fun j σ HJ=>∃ (v8 v11 v12:Option V),σ=[some (.ref a),some (.ref x.p),some (.ref n.t),some (.ref d.p),some (.ref st),some (.ref so),some (.ref r),u7,v8,u9,u10,v11,v12]∧aF HG HJ) ⟨_,_,_,rfl,aF.refl _⟩ (fun j σ HJ _ ⟨_,_,_,_,sJ⟩=>SqL.of (sJ _ _ hr)) ?_ ?_
  ·rintro j v σ HJ hv ⟨v8,v11,v12,rfl,sJ⟩
   obtain ⟨ra,rt,ru,rw',RS,rop,rfl,k1,k2,k3,k4,k5,k6,k7,k8⟩:=hrows v (List.mem_of_getElem? hv)
   have L:=(Led.start HJ (fun _=>False)).more (aH ra _) (sJ _ _ k1)
   try dsimp only [bO]
   walk_at "go"
   refine ⟨x,as,d,rt,ru,rw',RS,rop,rfl,(hwd.same (sG.trans sJ)).w,k2.same sJ,k5,k6,k7,sJ _ _ k3,k4,k8.same sJ,fun HK sK=>?_⟩
   walk_at "go"
   exact ⟨_,_,_,rfl,sJ.trans sK⟩
  ·rintro σ HJ ⟨v8,v11,v12,rfl,sJ⟩
   have sGJ:=sG.trans sJ
   have hwJ:=hwd.same sGJ
   have L:=Led.start HJ (fun _=>False)
   walk_at "go"
   have sL:=L'.same
   have hwL:=hwJ.same sL
   have ve:St.ms.length≤60:=by have:=hSt.ml;omega
   refine ⟨x,n,as,d,st,_,St,.fall,rfl,hwL.w,⟨hwL.na,hwL.r,hwL.c,hwL.s,hwL.far,hwL.w.2.2.2.2⟩,hwd.m,(hs.same sJ).same sL,hSt.sta,ve,L'.tup (by walk_at "mem"),trivial,fun HZ sZ=>?_⟩
   walk_at "go"
   exact q _
end
open PySem.W in
theorem Av {K:Frag} {h:Heap} {mg:Str→Option Value} {x:Str} {a:Addr} {dd:Option Addr} {its:Array Value} {n:Nat} {sl:Array (Option Value)} {xs:List V} (X:K.In h) (G:h.Ns mainGlobals mg)
  (n1:nsIn K mainGlobals x=some (some (.ref a))) (n2:K.lookup a=some ⟨.type "tuple",dd,.seq its n,sl⟩) (n3:Vals xs its.toList) (hz:its.size≤sizeLine):∃ aN,GlV mg x (.ref aN)∧∀ H,SqT K H aN xs:=
 ⟨a,⟨_,mg_of X G n1,rfl⟩,fun _=>.inr ⟨_,its,n,n2,rfl,rfl,hz,n3⟩⟩
end Law
open PySem PySem.W PyProof.Rows
local macro_rules | `(tactic| walk_at "dat")=>`(tactic| (dsimp only [L2.KOf];refine' L3.dat_mk KX G ?a ?l ?c ?k ?b;(case a=>k_is);(case l=>k_is);(case c=>k_is);(case k=>k_is);(case b=>first | exact (fun _ _ _ _ _ _ us hl=>match us,hl with | [_],_=>rfl) | exact (fun _ _ _ _ _ _ us hl=>match us,hl with | [_,_],_=>rfl) | exact (fun _ _ _ _ _ _ us hl=>match us,hl with | [_,_,_],_=>rfl) | exact (fun _ _ _ _ _ _ us hl=>match us,hl with | [_,_,_,_],_=>rfl) | exact (fun _ _ _ _ _ _ us hl=>match us,hl with | [_,_,_,_,_],_=>rfl))))
namespace PySem.W.Fast
def tw6946959697113660987 : Unit := ()
def tw1130558016401305903 : Unit := ()
def tw5660345454096798847 : Unit := ()
def tw9441717770935122176 : Unit := ()
def tw5007478462366389506 : Unit := ()
def tw15290332833871843693 : Unit := ()
def tw5237140590516826215 : Unit := ()
def tw17585234628693677818 : Unit := ()
def tw3861047816358239668 : Unit := ()
def tw17612516431688880005 : Unit := ()
def tw4070681938371520339 : Unit := ()
def tw17376846228408157179 : Unit := ()
def tw5536351924397020985 : Unit := ()
def tw13961148846693954967 : Unit := ()
def tw10456947126380409110 : Unit := ()
def tw15261893845072995294 : Unit := ()
def tw7372166370761870546 : Unit := ()
def tw7579802194435011378 : Unit := ()
def tw15051401425275841954 : Unit := ()
def tw4936257432083435286 : Unit := ()
def tw2174946908139610043 : Unit := ()
def tw14118695363570754083 : Unit := ()
def tw6619418130089707549 : Unit := ()
def tw7928406262107996058 : Unit := ()
def tw5471916408702012015 : Unit := ()
def tw8393007425587809485 : Unit := ()
def tw2688130957467168557 : Unit := ()
def tw12462151047348619420 : Unit := ()
def tw5456041823579565634 : Unit := ()
def tw17630000859509631090 : Unit := ()
def tw5488816473574691090 : Unit := ()
def tw2280138778770663893 : Unit := ()
def tw14997811191682975710 : Unit := ()
def tw10268828625833511754 : Unit := ()
def tw13012262461410843987 : Unit := ()
def tw7591270629176783505 : Unit := ()
def tw5316484041988831937 : Unit := ()
def tw3648517546945723041 : Unit := ()
def tw788206598470069392 : Unit := ()
def tw2999840820927896523 : Unit := ()
def tw4416849787007719168 : Unit := ()
def tw5995593535895042209 : Unit := ()
def tw12463545550149230634 : Unit := ()
def tw3215815869983222075 : Unit := ()
def tw15902183912569246161 : Unit := ()
def tw12555552013284673779 : Unit := ()
def tw5227462361753461883 : Unit := ()
def tw13951519872969844363 : Unit := ()
def tw846259311689706133 : Unit := ()
def tw10451770478188685640 : Unit := ()
def tw374373816852499036 : Unit := ()
def tw4485831503647276218 : Unit := ()
def tw4994564430224108487 : Unit := ()
def tw5548264011475611087 : Unit := ()
def tw5861218824183314562 : Unit := ()
def tw16808138330024469099 : Unit := ()
def tw8410757833536379163 : Unit := ()
def tw11128760748492668112 : Unit := ()
def tw12755560052536080403 : Unit := ()
def tw8098401040470267083 : Unit := ()
def tw17241010979344291732 : Unit := ()
def tw9144765075554720640 : Unit := ()
def tw8120839277248175758 : Unit := ()
def tw16903321097219488520 : Unit := ()
def tw8546870517594177722 : Unit := ()
def tw16355173232522143035 : Unit := ()
def tw7910424677010813527 : Unit := ()
def tw1278503183037143649 : Unit := ()
def tw6398843903363149026 : Unit := ()
def tw4170906085901266367 : Unit := ()
def tw12599633380857068622 : Unit := ()
def tw12821782430016431212 : Unit := ()
def tw14563097753627390139 : Unit := ()
def tw275130101828931214 : Unit := ()
def tw2036023791668821174 : Unit := ()
def tw18321684505432945085 : Unit := ()
def tw4444282128309073564 : Unit := ()
def tw9024438228006043374 : Unit := ()
def tw11963914629666264500 : Unit := ()
def tw9130993635240544388 : Unit := ()
def tw15544827059905928607 : Unit := ()
def tw15364802424809807635 : Unit := ()
def tw9176863049885504161 : Unit := ()
def tw2623726293414154977 : Unit := ()
def tw13688350388832330846 : Unit := ()
def tw8855115276638707470 : Unit := ()
def tw3118518657291093801 : Unit := ()
def tw4370402019848902345 : Unit := ()
def tw33856294381278944 : Unit := ()
def tw5880575314988702025 : Unit := ()
def tw12759916093176438937 : Unit := ()
def tw11997082367182908488 : Unit := ()
def tw2506269645536394399 : Unit := ()
def tw16323597643722909511 : Unit := ()
def tw16359522116051687419 : Unit := ()
def tw15973925410608100630 : Unit := ()
def tw5229348308164055418 : Unit := ()
def tw14191406278361264301 : Unit := ()
def tw3370843778634008343 : Unit := ()
def tw7761651003039972966 : Unit := ()
def tw2789572323478226129 : Unit := ()
def tw13551915651986850768 : Unit := ()
def tw8688005700236006725 : Unit := ()
def tw6202899940240776736 : Unit := ()
def tw12410639985140132351 : Unit := ()
def tw1799908381959958933 : Unit := ()
def tw16368554252255612180 : Unit := ()
def tw6151881880062544059 : Unit := ()
def tw6020221007979152237 : Unit := ()
def tw4332539169599862329 : Unit := ()
def tw15728961618154126028 : Unit := ()
def tw14113471479491453029 : Unit := ()
def tw16967839611973597589 : Unit := ()
def tw6929269858427191682 : Unit := ()
def tw6062737669239647130 : Unit := ()
def tw9720031696293928270 : Unit := ()
def tw14263303614433918300 : Unit := ()
def tw16486822488282794893 : Unit := ()
def tw15729154452372181575 : Unit := ()
def tw10267288272629517050 : Unit := ()
def tw975929464506688835 : Unit := ()
def tw336755865568812841 : Unit := ()
def tw5775615713723160506 : Unit := ()
def tw15416039674280888868 : Unit := ()
def tw18041419849665511668 : Unit := ()
def tw4079751558151062072 : Unit := ()
def tw12688347605000727178 : Unit := ()
end PySem.W.Fast
set_option maxHeartbeats 0 in
theorem PySem.Challenge.cw_risemarks_k82_after_as_a_hand_holds : PySem.Challenge.rw_risemarks_k82_after_as_a_hand.Holds := by
 w_on;o_law;k_head;(case hw=>w_witness2)
 k_fill
 refine L4.Aq (l:=PySem.Challenge.rw_risemarks_k82_after_as_a_hand) (n:=63) (k:=15) (x:="_law_script") (CX:=L4.CX1) (sp:=Law.Ge) rfl (by decide) rfl ⟨rfl,by decide,by decide⟩ (fun w h Y=>PySem.W.kIn_of Y) ?F ?S ?C
 case S=>exact fun K H a ns hl hO hS=>⟨a,ns,rfl,hS,hl,fun _=>rfl⟩
 case C=>exact fun P w H s e s' z=>L4.vd _ _ _ _ _ z
 case F=>
  intro w mg fa h KX G hmg
  have BT:L3.Bt mg:=by
   refine' ⟨?_,?_,?_,?_,?_,?_,?_,?_,?_,?_,?_,?_,?_,?_,?_,?_,?_,?_⟩ <;> refine' PySem.W.mg_none_of KX G ?_ <;> k_is
  have wc:L3.Dat (L2.KOf KX) mg "is_whole" "is_whole" (Law.top 13) ["thing"]:=by walk_at "dat"
  have ly:L3.Dat (L2.KOf KX) mg "is_whole_from" "is_whole_from" (Law.top 14) ["thing", "least"]:=by walk_at "dat"
  have Af:L3.Dat (L2.KOf KX) mg "is_side" "is_side" (Law.top 15) ["thing"]:=by walk_at "dat"
  have Ad:L3.Dat (L2.KOf KX) mg "mark_of" "mark_of" (Law.top 17) ["shape", "moment", "slot", "count"]:=by walk_at "dat"
  have v9:L3.Dat (L2.KOf KX) mg "parts_of" "parts_of" (Law.top 18) ["shape", "mark"]:=by walk_at "dat"
  have Ae:L3.Dat (L2.KOf KX) mg "is_span" "is_span" (Law.top 40) ["thing", "least"]:=by walk_at "dat"
  have Ag:L3.Dat (L2.KOf KX) mg "is_rule" "is_rule" (Law.top 41) ["thing"]:=by walk_at "dat"
  have tY:L3.Dat (L2.KOf KX) mg "are_rules" "are_rules" (Law.top 42) ["thing"]:=by walk_at "dat"
  have wg:L3.Dat (L2.KOf KX) mg "has_rule" "has_rule" (Law.top 44) ["settings", "word"]:=by walk_at "dat"
  have Aa:L3.Dat (L2.KOf KX) mg "slot_of" "slot_of" (Law.top 20) ["area"]:=by walk_at "dat"
  have wk:L3.Dat (L2.KOf KX) mg "first_of" "first_of" (Law.top 21) ["area"]:=by walk_at "dat"
  have Dm:L3.Dat (L2.KOf KX) mg "end_of" "end_of" (Law.top 22) ["area"]:=by walk_at "dat"
  have wm:L3.Dat (L2.KOf KX) mg "ended_at" "ended_at" (Law.top 23) ["area", "end"]:=by walk_at "dat"
  have Ab:L3.Dat (L2.KOf KX) mg "read_on" "read_on" (Law.top 26) ["told", "line"]:=by walk_at "dat"
  have tV:L3.Dat (L2.KOf KX) mg "read_note" "read_note" (Law.top 27) ["lines"]:=by walk_at "dat"
  have vZ:L3.Dat (L2.KOf KX) mg "tooks_of" "tooks_of" (Law.top 29) ["lines"]:=by walk_at "dat"
  have kH:L3.Dat (L2.KOf KX) mg "greatest_taken" "greatest_taken" (Law.top 30) ["lines"]:=by walk_at "dat"
  have wu:L3.Dat (L2.KOf KX) mg "bound_of" "bound_of" (Law.top 32) ["place"]:=by walk_at "dat"
  have Dj:L3.Dat (L2.KOf KX) mg "raised" "raised" (Law.top 33) ["place", "bound"]:=by walk_at "dat"
  have qK:L3.Dat (L2.KOf KX) mg "next_place" "next_place" (Law.top 34) ["shape", "place"]:=by walk_at "dat"
  have tX:L3.Dat (L2.KOf KX) mg "moment_at" "moment_at" (Law.top 35) ["area", "place", "reading"]:=by walk_at "dat"
  have JP:L3.Dat (L2.KOf KX) mg "made" "made" (Law.top 36) ["shape", "far", "area", "place", "reading"]:=by walk_at "dat"
  have wj:L3.Dat (L2.KOf KX) mg "grant_in" "grant_in" (Law.top 46) ["stand"]:=by walk_at "dat"
  have Al:L3.Dat (L2.KOf KX) mg "area_in" "area_in" (Law.top 47) ["stand"]:=by walk_at "dat"
  have Ah:L3.Dat (L2.KOf KX) mg "held_in" "held_in" (Law.top 48) ["stand"]:=by walk_at "dat"
  have we:L3.Dat (L2.KOf KX) mg "heard_in" "heard_in" (Law.top 49) ["stand"]:=by walk_at "dat"
  have v7:L3.Dat (L2.KOf KX) mg "start_by" "start_by" (Law.top 50) ["note"]:=by walk_at "dat"
  have Ac:L3.Dat (L2.KOf KX) mg "need_up" "need_up" (Law.top 51) ["place"]:=by walk_at "dat"
  have tW:L3.Dat (L2.KOf KX) mg "need_area" "need_area" (Law.top 52) ["area"]:=by walk_at "dat"
  have Aj:L3.Dat (L2.KOf KX) mg "falling" "falling" (Law.top 53) ["stand"]:=by walk_at "dat"
  have Di:L3.Dat (L2.KOf KX) mg "rising" "rising" (Law.top 54) ["stand"]:=by walk_at "dat"
  have Dh:L3.Dat (L2.KOf KX) mg "taking" "taking" (Law.top 55) ["settings", "stand", "grant", "area"]:=by walk_at "dat"
  have Ai:L3.Dat (L2.KOf KX) mg "hearing" "hearing" (Law.top 59) ["settings", "stand", "bound"]:=by walk_at "dat"
  have Dl:L3.Dat (L2.KOf KX) mg "giving" "giving" (Law.top 60) ["settings", "stand"]:=by walk_at "dat"
  have kG:L3.Dat (L2.KOf KX) mg "mark_and_place" "mark_and_place" (Law.top 56) ["settings", "stand", "reading"]:=by walk_at "dat"
  have z9:L3.Dat (L2.KOf KX) mg "writing" "writing" (Law.top 57) ["settings", "stand", "reading"]:=by walk_at "dat"
  have Dk:L3.Dat (L2.KOf KX) mg "making" "making" (Law.top 58) ["settings", "stand", "reading"]:=by walk_at "dat"
  have Ak:L3.Dat (L2.KOf KX) mg "area_of" "area_of" (Law.top 28) ["lines"]:=by walk_at "dat"
  have uc:L3.Dat (L2.KOf KX) mg "_law_hand" "_law_hand" (Law.top 69) ["_law_script", "_law_k"]:=by walk_at "dat"
  have t9:L3.Dat (L2.KOf KX) mg "_law_pick" "_law_pick" (Law.top 70) ["_law_hand_here", "_law_many"]:=by walk_at "dat"
  have qJ:L3.Dat (L2.KOf KX) mg "with_lines" "with_lines" (Law.top 62) ["note", "lines"]:=by walk_at "dat"
  have tU:L3.Dat (L2.KOf KX) mg "with_mark" "with_mark" (Law.top 63) ["marks", "mark"]:=by walk_at "dat"
  have vY:L3.Dat (L2.KOf KX) mg "with_end" "with_end" (Law.top 64) ["given", "grant", "end"]:=by walk_at "dat"
  have qN:L3.Dat (L2.KOf KX) mg "_law_rules" "_law_rules" (Law.top 71) ["_law_hand_here"]:=by walk_at "dat"
  have qO:L3.Dat (L2.KOf KX) mg "_law_large" "_law_large" (Law.top 72) ["_law_hand_here"]:=by walk_at "dat"
  have ud:L3.Dat (L2.KOf KX) mg "_law_deed" "_law_deed" (Law.top 73) ["_law_hand_here", "_law_numbers", "_law_up"]:=by walk_at "dat"
  have ua:L3.Dat (L2.KOf KX) mg "_law_mark" "_law_mark" (Law.top 74) ["_law_numbers", "_law_state_here", "_law_reading"]:=by walk_at "dat"
  have wz:L3.Dat (L2.KOf KX) mg "_law_bad" "_law_bad" (Law.top 75) ["_law_numbers", "_law_state_here", "_law_deed_here"]:=by walk_at "dat"
  have qP:L3.Dat (L2.KOf KX) mg "_law_begin" "_law_begin" (Law.top 76) ["_law_numbers"]:=by walk_at "dat"
  have lz:L3.Dat (L2.KOf KX) mg "_law_is_state" "_law_is_state" (Law.top 77) ["_law_found", "_law_due"]:=by walk_at "dat"
  have qQ:L3.Dat (L2.KOf KX) mg "_law_asked" "_law_asked" (Law.top 78) ["_law_hand_here", "_law_numbers", "_law_deed_here"]:=by walk_at "dat"
  have Am:L3.Dat (L2.KOf KX) mg "_law_so" "_law_so" (Law.top 79) ["_law_so_here", "_law_deed_here", "_law_done", "_law_told_here"]:=by walk_at "dat"
  have qM:L3.Dat (L2.KOf KX) mg "_law_state" "_law_state" (Law.top 80) ["_law_hand_here", "_law_so_here"]:=by walk_at "dat"
  have tZ:L3.Dat (L2.KOf KX) mg "_law_told" "_law_told" (Law.top 81) ["_law_small", "_law_state_here", "_law_deed_here", "_law_due"]:=by walk_at "dat"
  have qL:L3.Dat (L2.KOf KX) mg "_law_words" "_law_words" (Law.top 82) ["_law_small", "_law_numbers", "_law_state_here", "_law_other"]:=by walk_at "dat"
  have LA:L3.Dat (L2.KOf KX) mg "law" "law" (Law.top 83) ["_law_script"]:=by walk_at "dat"
  obtain ⟨C,D_Shape,nc,ns⟩:∃ C,L3.nQ (L2.KOf KX) mg "Shape" "Shape.__init__" C (L2.inClass (Law.top 16) 0) ["self", "counts", "slots"]∧L2.aY (L2.KOf KX) C "counts" ∧ L2.aY (L2.KOf KX) C "slots" := by
   dsimp only [L2.KOf]
   refine' ⟨_,L3.xP KX G ?aC ?a ?i ?l ?c ?k ?pg ?hd ?po ?sa ?mk ?kc ?b,?n1,?n2⟩
   (case aC=>k_is);(case a=>k_is);(case i=>k_is);(case l=>k_is);(case c=>k_is);(case k=>k_is);(case pg=>k_is);(case hd=>k_is);(case po=>k_is);(case sa=>k_is);(case mk=>k_is);(case kc=>k_is)
   (case n1=>unfold L2.aY;k_is);(case n2=>unfold L2.aY;k_is)
   (case b=>exact fun _ _ _ _ _ _ us hl=>match us,hl with | [_,_,_],_=>rfl)
  have SC:Law.ShC (L2.KOf KX) C:=⟨D_Shape.cls,nc,ns⟩
  have vA:L3.GlV mg "GREATEST_SIDE" (.int 1000):=by
   refine' ⟨_,PySem.W.mg_of KX G ?_,?_⟩
   rotate_left
   ·k_is
   ·exact ⟨_,rfl⟩
  have vz:L3.GlV mg "GREATEST_SPAN" (.int 1000000000000):=by
   refine' ⟨_,PySem.W.mg_of KX G ?_,?_⟩
   rotate_left
   ·k_is
   ·exact ⟨_,rfl⟩
  obtain ⟨CS,D_Settings,n1,n2,n3,n4,n5⟩:∃ C,L4.oU (L2.KOf KX) mg "Settings" "Settings.__init__" C (L2.inClass (Law.top 43) 0) ["self", "shape", "far", "room", "term", "rules"]∧L2.aY (L2.KOf KX) C "shape" ∧ L2.aY (L2.KOf KX) C "far" ∧ L2.aY (L2.KOf KX) C "room" ∧ L2.aY (L2.KOf KX) C "term" ∧ L2.aY (L2.KOf KX) C "rules" := by
   dsimp only [L2.KOf]
   refine' ⟨_,L4.CL KX G ?aC ?a ?i ?l ?tl ?c ?pg ?hd ?po ?sa ?mk ?kc ?b,?n1,?n2,?n3,?n4,?n5⟩
   (case aC=>k_is);(case a=>k_is);(case i=>k_is);(case l=>k_is);(case tl=>k_is);(case c=>k_is);(case pg=>k_is);(case hd=>k_is);(case po=>k_is);(case sa=>k_is);(case mk=>k_is);(case kc=>k_is)
   (case n1=>unfold L2.aY;k_is);(case n2=>unfold L2.aY;k_is);(case n3=>unfold L2.aY;k_is);(case n4=>unfold L2.aY;k_is);(case n5=>unfold L2.aY;k_is)
   (case b=>exact fun _ _ _ _ _ _ _ us hl=>match us,hl with | [_,_,_,_,_,_],_=>⟨_,rfl,rfl⟩)
  have SS:Law.StC (L2.KOf KX) CS:=⟨D_Settings.cl,n1,n2,n3,n4,n5⟩
  obtain ⟨aR,fL,hR⟩:∃ aR,L3.GlV mg "RULES" (.ref aR)∧∀ H,L2.SqT (L2.KOf KX) H aR (Law.i0.map L2.V.str):=by
   dsimp only [L2.KOf]
   refine' Law.Av KX G ?n1 ?n2 ?n3 ?n4
   (case n1=>k_is);(case n2=>k_is);(case n3=>exact .cons ⟨_,rfl⟩ (.cons ⟨_,rfl⟩ (.cons ⟨_,rfl⟩ (.cons ⟨_,rfl⟩ (.cons ⟨_,rfl⟩ .nil)))));(case n4=>exact Nat.le_of_lt (L2.small1000 (by decide)))
  obtain ⟨aN,f6,hN⟩:∃ aN,L3.GlV mg "NOTHING" (.ref aN)∧∀ H,L2.SqT (L2.KOf KX) H aN [.int 0,.non,.int 0,.int 0]:=by
   dsimp only [L2.KOf]
   refine' Law.Av KX G ?n1 ?n2 ?n3 ?n4
   (case n1=>k_is);(case n2=>k_is);(case n3=>exact .cons ⟨_,rfl⟩ (.cons rfl (.cons ⟨_,rfl⟩ (.cons ⟨_,rfl⟩ .nil))));(case n4=>exact Nat.le_of_lt (L2.small1000 (by decide)))
  obtain ⟨CH,D_Hand,n1,n2,n3,n4,HM⟩:∃ C,L4.oW (L2.KOf KX) mg "Hand" "Hand.__init__" C (L2.inClass (Law.top 67) 0) ["self", "name", "settings", "lines"]∧L2.aY (L2.KOf KX) C "name" ∧ L2.aY (L2.KOf KX) C "settings" ∧ L2.aY (L2.KOf KX) C "lines" ∧ L2.aY (L2.KOf KX) C "spot" ∧ Law.Lx (L2.KOf KX) mg C:=by
   dsimp only [L2.KOf]
   refine' ⟨_,L4.CO KX G ?aC ?a ?i ?l ?tl ?c ?pg ?hd ?po ?sa ?mk ?kc ?b ?b1,?n1,?n2,?n3,?n4,⟨L4.bY ⟨?pg,?hd,?po,?sa⟩ ?is_up_a ?is_up_i ?is_up_l ?is_up_c ?is_up_k ?is_up_b,L4.bY ⟨?pg,?hd,?po,?sa⟩ ?place_a ?place_i ?place_l ?place_c ?place_k ?place_b,L4.bY ⟨?pg,?hd,?po,?sa⟩ ?note_a ?note_i ?note_l ?note_c ?note_k ?note_b,L4.bY ⟨?pg,?hd,?po,?sa⟩ ?area_a ?area_i ?area_l ?area_c ?area_k ?area_b,L4.bY ⟨?pg,?hd,?po,?sa⟩ ?stand_a ?stand_i ?stand_l ?stand_c ?stand_k ?stand_b,L4.bY ⟨?pg,?hd,?po,?sa⟩ ?go_a ?go_i ?go_l ?go_c ?go_k ?go_b,L4.bY ⟨?pg,?hd,?po,?sa⟩ ?fall_a ?fall_i ?fall_l ?fall_c ?fall_k ?fall_b,L4.bY ⟨?pg,?hd,?po,?sa⟩ ?rise_a ?rise_i ?rise_l ?rise_c ?rise_k ?rise_b,L4.bY ⟨?pg,?hd,?po,?sa⟩ ?take_a ?take_i ?take_l ?take_c ?take_k ?take_b,L4.bY ⟨?pg,?hd,?po,?sa⟩ ?write_a ?write_i ?write_l ?write_c ?write_k ?write_b,L4.bY ⟨?pg,?hd,?po,?sa⟩ ?make_a ?make_i ?make_l ?make_c ?make_k ?make_b,L4.bY ⟨?pg,?hd,?po,?sa⟩ ?hear_a ?hear_i ?hear_l ?hear_c ?hear_k ?hear_b,L4.bY ⟨?pg,?hd,?po,?sa⟩ ?tell_a ?tell_i ?tell_l ?tell_c ?tell_k ?tell_b,L4.bY ⟨?pg,?hd,?po,?sa⟩ ?give_back_a ?give_back_i ?give_back_l ?give_back_c ?give_back_k ?give_back_b⟩⟩
   (case aC=>k_is);(case a=>k_is);(case i=>k_is);(case l=>k_is);(case tl=>k_is);(case c=>k_is);(case pg=>k_is);(case hd=>k_is);(case po=>k_is);(case sa=>k_is);(case mk=>k_is);(case kc=>k_is)
   (case n1=>unfold L2.aY;k_is);(case n2=>unfold L2.aY;k_is);(case n3=>unfold L2.aY;k_is);(case n4=>unfold L2.aY;k_is)
   (case b=>exact fun _ _ _ _ _ _ _ us hl=>match us,hl with | [_,_,_,_],_=>⟨_,rfl,rfl⟩)
   (case b1=>exact fun _ _ _ _ _ _ _ us hl=>match us,hl with | [_,_,_],_=>⟨_,rfl,rfl⟩)
   (case is_up_a=>k_is);(case is_up_i=>k_is);(case is_up_l=>k_is);(case is_up_c=>k_is);(case is_up_k=>k_is);(case is_up_b=>exact fun _ _ _ _ _ _ us hl=>match us,hl with | [_],_=>rfl)
   (case place_a=>k_is);(case place_i=>k_is);(case place_l=>k_is);(case place_c=>k_is);(case place_k=>k_is);(case place_b=>exact fun _ _ _ _ _ _ us hl=>match us,hl with | [_],_=>rfl)
   (case note_a=>k_is);(case note_i=>k_is);(case note_l=>k_is);(case note_c=>k_is);(case note_k=>k_is);(case note_b=>exact fun _ _ _ _ _ _ us hl=>match us,hl with | [_],_=>rfl)
   (case area_a=>k_is);(case area_i=>k_is);(case area_l=>k_is);(case area_c=>k_is);(case area_k=>k_is);(case area_b=>exact fun _ _ _ _ _ _ us hl=>match us,hl with | [_],_=>rfl)
   (case stand_a=>k_is);(case stand_i=>k_is);(case stand_l=>k_is);(case stand_c=>k_is);(case stand_k=>k_is);(case stand_b=>exact fun _ _ _ _ _ _ us hl=>match us,hl with | [_],_=>rfl)
   (case go_a=>k_is);(case go_i=>k_is);(case go_l=>k_is);(case go_c=>k_is);(case go_k=>k_is);(case go_b=>exact fun _ _ _ _ _ _ us hl=>match us,hl with | [_,_],_=>rfl)
   (case fall_a=>k_is);(case fall_i=>k_is);(case fall_l=>k_is);(case fall_c=>k_is);(case fall_k=>k_is);(case fall_b=>exact fun _ _ _ _ _ _ us hl=>match us,hl with | [_],_=>rfl)
   (case rise_a=>k_is);(case rise_i=>k_is);(case rise_l=>k_is);(case rise_c=>k_is);(case rise_k=>k_is);(case rise_b=>exact fun _ _ _ _ _ _ us hl=>match us,hl with | [_],_=>rfl)
   (case take_a=>k_is);(case take_i=>k_is);(case take_l=>k_is);(case take_c=>k_is);(case take_k=>k_is);(case take_b=>exact fun _ _ _ _ _ _ us hl=>match us,hl with | [_,_,_],_=>rfl)
   (case write_a=>k_is);(case write_i=>k_is);(case write_l=>k_is);(case write_c=>k_is);(case write_k=>k_is);(case write_b=>exact fun _ _ _ _ _ _ us hl=>match us,hl with | [_,_],_=>rfl)
   (case make_a=>k_is);(case make_i=>k_is);(case make_l=>k_is);(case make_c=>k_is);(case make_k=>k_is);(case make_b=>exact fun _ _ _ _ _ _ us hl=>match us,hl with | [_,_],_=>rfl)
   (case hear_a=>k_is);(case hear_i=>k_is);(case hear_l=>k_is);(case hear_c=>k_is);(case hear_k=>k_is);(case hear_b=>exact fun _ _ _ _ _ _ us hl=>match us,hl with | [_,_],_=>rfl)
   (case tell_a=>k_is);(case tell_i=>k_is);(case tell_l=>k_is);(case tell_c=>k_is);(case tell_k=>k_is);(case tell_b=>exact fun _ _ _ _ _ _ us hl=>match us,hl with | [_],_=>rfl)
   (case give_back_a=>k_is);(case give_back_i=>k_is);(case give_back_l=>k_is);(case give_back_c=>k_is);(case give_back_k=>k_is);(case give_back_b=>exact fun _ _ _ _ _ _ us hl=>match us,hl with | [_],_=>rfl)
  have HC:Law.HdC (L2.KOf KX) CH:=⟨D_Hand.cl,n1,n2,n3,n4⟩
  obtain ⟨CM,D_Small,n1,n2,n3,n4,MST,MSN,MSA,MSB⟩:∃ C,L3.nQ (L2.KOf KX) mg "Small" "Small.__init__" C (L2.inClass (Law.top 65) 0) ["self", "settings", "areas", "moments"]∧L2.aY (L2.KOf KX) C "settings" ∧ L2.aY (L2.KOf KX) C "areas" ∧ L2.aY (L2.KOf KX) C "moments" ∧ L2.aY (L2.KOf KX) C "ground" ∧ L3.cC (L2.KOf KX) C "step" "Small.step" (L2.inClass (Law.top 65) 3) ["self", "stand", "deed"]∧L3.cC (L2.KOf KX) C "step_or_none" "Small.step_or_none" (L2.inClass (Law.top 65) 4) ["self", "state", "deed"]∧L3.cC (L2.KOf KX) C "after" "Small.after" (L2.inClass (Law.top 65) 5) ["self", "state", "deed"]∧L3.cC (L2.KOf KX) C "bad" "Small.bad" (L2.inClass (Law.top 65) 6) ["self", "state", "deed"]:=by
   dsimp only [L2.KOf]
   refine' ⟨_,L3.xP KX G ?aC ?a ?i ?l ?c ?k ?pg ?hd ?po ?sa ?mk ?kc ?b,?n1,?n2,?n3,?n4,L4.bY ⟨?pg,?hd,?po,?sa⟩ ?step_a ?step_i ?step_l ?step_c ?step_k ?step_b,L4.bY ⟨?pg,?hd,?po,?sa⟩ ?step_or_none_a ?step_or_none_i ?step_or_none_l ?step_or_none_c ?step_or_none_k ?step_or_none_b,L4.bY ⟨?pg,?hd,?po,?sa⟩ ?after_a ?after_i ?after_l ?after_c ?after_k ?after_b,L4.bY ⟨?pg,?hd,?po,?sa⟩ ?bad_a ?bad_i ?bad_l ?bad_c ?bad_k ?bad_b⟩
   (case aC=>k_is);(case a=>k_is);(case i=>k_is);(case l=>k_is);(case c=>k_is);(case k=>k_is);(case pg=>k_is);(case hd=>k_is);(case po=>k_is);(case sa=>k_is);(case mk=>k_is);(case kc=>k_is)
   (case n1=>unfold L2.aY;k_is);(case n2=>unfold L2.aY;k_is);(case n3=>unfold L2.aY;k_is);(case n4=>unfold L2.aY;k_is)
   (case b=>exact fun _ _ _ _ _ _ us hl=>match us,hl with | [_,_,_,_],_=>rfl)
   (case step_a=>k_is);(case step_i=>k_is);(case step_l=>k_is);(case step_c=>k_is);(case step_k=>k_is);(case step_b=>exact fun _ _ _ _ _ _ us hl=>match us,hl with | [_,_,_],_=>rfl)
   (case step_or_none_a=>k_is);(case step_or_none_i=>k_is);(case step_or_none_l=>k_is);(case step_or_none_c=>k_is);(case step_or_none_k=>k_is);(case step_or_none_b=>exact fun _ _ _ _ _ _ us hl=>match us,hl with | [_,_,_],_=>rfl)
   (case after_a=>k_is);(case after_i=>k_is);(case after_l=>k_is);(case after_c=>k_is);(case after_k=>k_is);(case after_b=>exact fun _ _ _ _ _ _ us hl=>match us,hl with | [_,_,_],_=>rfl)
   (case bad_a=>k_is);(case bad_i=>k_is);(case bad_l=>k_is);(case bad_c=>k_is);(case bad_k=>k_is);(case bad_b=>exact fun _ _ _ _ _ _ us hl=>match us,hl with | [_,_,_],_=>rfl)
  have SM:Law.SmC (L2.KOf KX) CM:=⟨D_Small.cls,n1,n2,n3,n4⟩
  obtain ⟨CD,CU,CA,CN,CW,CT,CR,ER,RR⟩:∃ CD CU CA CN CW CT CR:PySem.Addr,Law.JO (L2.KOf KX) mg CD CU CA CN CW CT CR∧True:=by
   dsimp only [L2.KOf]
   refine' Law.EU (R:=fun CD CU CA CN CW CT CR=>True) KX G (Law.Cy KX G ?aW ?g6 ?g7 ?v1 ?v2 ?v3 ?v4 ?v5 ?v8 ?r0 ?s1 ?s3 ?s4 ?s5 ?s6 ?i1 ?i2 ?i3 ?i4 ?i5 ?i6 ?b ?x1) (Law.Cy KX G ?aT ?g6 ?g7 ?w1 ?w2 ?w3 ?w4 ?w5 ?w8 ?r0 ?t1 ?t3 ?t4 ?t5 ?t6 ?j1 ?j2 ?j3 ?j4 ?j5 ?j6 ?bb ?y1) ?tw ?tt ?aD ?aU ?aA ?aN ?aW ?aT ?aR ?d1 ?d2 ?d3 ?u1 ?u2 ?u3 ?c1 ?c2 ?c3 ?n1 ?n2 ?n3 ?r1 ?r2 ?r3 ?m1 ?m2 ?m3 ?m4 ?m5 ?m6 ?hR
   (case aD=>k_is);(case aU=>k_is);(case aA=>k_is);(case aN=>k_is);(case aW=>k_is);(case aT=>k_is);(case aR=>k_is)
   (case g6=>k_is);(case g7=>k_is)
   (case v1=>k_is);(case v2=>k_is);(case v3=>k_is);(case v4=>k_is);(case v5=>k_is);(case v8=>k_is)
   (case w1=>k_is);(case w2=>k_is);(case w3=>k_is);(case w4=>k_is);(case w5=>k_is);(case w8=>k_is)
   (case s1=>k_is);(case s3=>k_is);(case s4=>rfl);(case s5=>rfl);(case s6=>rfl)
   (case t1=>k_is);(case t3=>k_is);(case t4=>rfl);(case t5=>rfl);(case t6=>rfl)
   (case r0=>k_exc);(case r1=>k_is);(case r2=>k_is);(case r3=>k_is)
   (case i1=>k_is);(case i2=>k_is);(case i3=>k_is);(case i4=>k_is);(case i5=>k_is);(case i6=>k_is)
   (case j1=>k_is);(case j2=>k_is);(case j3=>k_is);(case j4=>k_is);(case j5=>k_is);(case j6=>k_is)
   (case b=>exact fun _ _ _ _ _ _ us hl=>match us,hl with | [_,_],_=>rfl)
   (case bb=>exact fun _ _ _ _ _ _ us hl=>match us,hl with | [_,_],_=>rfl)
   (case x1=>k_is);(case y1=>k_is);(case tw=>k_is);(case tt=>k_is)
   (case d1=>k_exc);(case d2=>k_is);(case d3=>k_is);(case u1=>k_exc);(case u2=>k_is);(case u3=>k_is);(case c1=>k_exc);(case c2=>k_is);(case c3=>k_is);(case n1=>k_exc);(case n2=>k_is);(case n3=>k_is)
   (case m1=>kts_exm);(case m2=>kts_exm);(case m3=>kts_exm);(case m4=>kts_exm);(case m5=>kts_exm);(case m6=>kts_exm)
   case hR=>
    exact trivial
  have HD:Law.Ly (L2.KOf KX) mg:=⟨wc,ly,Af,Ad,v9,Ae,Ag,tY,wg,Aa,wk,Dm,wm,Ab,tV,vZ,kH,wu,Dj,qK,tX,JP,wj,Al,Ah,we,v7,Ac,tW,Aj,Di,Dh,Ai,Dl,kG,z9,Dk,Ak,uc,t9⟩
  obtain ⟨f,fd,F,b,m⟩:=LA.ex
  have e:=hmg.symm.trans m
  cases e
  obtain ⟨oc,od,kV,doc,pm,an,cdv,ct,osl,rfl,lk,hcd⟩:=id F.ex
  refine ⟨PySem.W.fnOf "law" "law" (L2.bC (Law.top 83)) (L2.bf (Law.top 83)) (L2.ak (Law.top 83)) .none kV doc pm an cdv ct,fun s u=>.of_eq rfl,fun base kb nb=>?_⟩
  have NE:=@L4.vd PySem.Challenge.rw_risemarks_k82_after_as_a_hand.prog w
  have HH:=Law.EX (P:=PySem.Challenge.rw_risemarks_k82_after_as_a_hand.prog) (w:=w) (base:=base) BT NE HD HM ER D_Shape SC D_Settings SS D_Hand HC vA vz fL hR f6 hN
  have Mm:=Law.yZ qJ NE HH.f9
  have Ml:=Law.BH (P:=PySem.Challenge.rw_risemarks_k82_after_as_a_hand.prog) (w:=w) (base:=base) (CX:=L4.CX1 PySem.Challenge.rw_risemarks_k82_after_as_a_hand.prog w) tU BT
  have Mn:=Law.Ek (P:=PySem.Challenge.rw_risemarks_k82_after_as_a_hand.prog) (w:=w) (base:=base) (CX:=L4.CX1 PySem.Challenge.rw_risemarks_k82_after_as_a_hand.prog w) vY BT
  have JG:=Law.pT MST SM NE HH.dN HH.cY HH.dQ HH.c6 HH.dR HH.c7 HH.dO
  have GO:=Law.Hz MSN SM BT NE ER.hR ER.et JG
  have F0:=Law.B3 MSA BT NE GO Mm HH.bE Ml Mn
  have Lw:=Law.HP MSB SM SS BT NE GO HH.jk HH.cB
  have pY:=Law.za (P:=PySem.Challenge.rw_risemarks_k82_after_as_a_hand.prog) (w:=w) (base:=base) (CX:=L4.CX1 PySem.Challenge.rw_risemarks_k82_after_as_a_hand.prog w) D_Small SM BT
  have FH:=Law.zj qO BT NE HH.aO (Law.zh qN NE HH.aO) HH.jC HH.fm pY
  have Jx:=Law.BW ud BT NE HH.aO
  have vL:=Law.BU (P:=PySem.Challenge.rw_risemarks_k82_after_as_a_hand.prog) (w:=w) (base:=base) (CX:=L4.CX1 PySem.Challenge.rw_risemarks_k82_after_as_a_hand.prog w) ua BT NE
  have GJ:=Law.EA wz BT NE vL
  have Fz:=Law.zf qL BT NE GJ Lw
  have FI:=Law.zk (P:=PySem.Challenge.rw_risemarks_k82_after_as_a_hand.prog) (w:=w) (base:=base) (CX:=L4.CX1 PySem.Challenge.rw_risemarks_k82_after_as_a_hand.prog w) qP BT
  have Ju:=Law.BV (P:=PySem.Challenge.rw_risemarks_k82_after_as_a_hand.prog) (w:=w) (base:=base) (CX:=L4.CX1 PySem.Challenge.rw_risemarks_k82_after_as_a_hand.prog w) lz BT
  have Jp:=Law.BS tZ BT NE F0 Ju
  have FD:=Law.zg qM BT NE HH.iK HH.gI HH.b7 HH.bE
  have Mp:=Law.HL (P:=PySem.Challenge.rw_risemarks_k82_after_as_a_hand.prog) (w:=w) (base:=base) (CX:=L4.CX1 PySem.Challenge.rw_risemarks_k82_after_as_a_hand.prog w) Am BT NE
  have FJ:=Law.zl qQ BT NE ER.hR ER.et HH.iI HH.gH HH.iL HH.iM HH.dG HH.iN HH.iJ
  exact Law.HN F BT NE SM HH.fM FH HH.jD FI Jx HH.gJ Fz GJ FJ Mp FD Jp
end
