import PyProof.Rows.All
import Wide.All
import OpenK.AllK
import Wide.FinOn
import PyProof.EqAt
import PyProof.EqKinds
import PyProof.TupleCall
import Lean
import PySem.Challenge.RW_risemarks_k38_whole_marks_rise
section
set_option Elab.async false
set_option linter.all false
set_option maxRecDepth 100000
set_option maxHeartbeats 4000000
namespace L2
open PySem PySem.Spec PyProof.Rows
abbrev Key:=Sum Int Str
def oz:Key→Value→Bool
  | .inl k,v=>Value.isInt k v
  | .inr x,v=>Value.isStrOf x v
def KS (w:World):Key→Int
  | .inl k=>hashInt k
  | .inr x=>hashStr w x
theorem cA:∀ {k:Key} {v:Value},oz k v=true→(∃ i t,k=Sum.inl i∧v=Value.int i t)∨(∃ x t,k=Sum.inr x∧v=Value.str x t)
  | .inl i,v,h=>by
    obtain ⟨t,e⟩:=Value.isInt_shape (k:=i) (v:=v) h
    exact .inl ⟨i,t,rfl,e⟩
  | .inr x,v,h=>by
    obtain ⟨t,e⟩:=Value.isStrOf_shape (x:=x) (v:=v) h
    exact .inr ⟨x,t,rfl,e⟩
theorem yU (i:Int) (t:Tok):oz (.inl i) (.int i t)=true:=by simp [oz,Value.isInt]
theorem yT (x:Str) (t:Tok):oz (.inr x) (.str x t)=true:=by simp [oz,Value.isStrOf]
theorem GO (a b:Int):decide ((Sum.inl a:Key)=Sum.inl b)=(a == b):=by
  by_cases e:a=b
  · subst e;simp
  · have h:¬ (Sum.inl a:Key)=Sum.inl b:=fun q=>e (Sum.inl.inj q)
    rw [decide_eq_false h]
    exact (beq_eq_false_iff_ne.mpr e).symm
theorem GK (a b:Str):decide ((Sum.inr a:Key)=Sum.inr b)=decide (a=b):=by
  by_cases e:a=b
  · subst e;simp
  · have h:¬ (Sum.inr a:Key)=Sum.inr b:=fun q=>e (Sum.inr.inj q)
    rw [decide_eq_false h,decide_eq_false e]
theorem GN (a:Int) (b:Str):decide ((Sum.inl a:Key)=Sum.inr b)=false:=decide_eq_false (fun q=>nomatch q)
theorem GL (a:Str) (b:Int):decide ((Sum.inr a:Key)=Sum.inl b)=false:=decide_eq_false (fun q=>nomatch q)
def cM (prog:Program) (w:World):PySem.KeyKind prog w Key where
  is:=oz
  hash:=KS w
  inj:=fun v a b ha hb=>by
    rcases cA ha with ⟨i,t,rfl,rfl⟩ | ⟨x,t,rfl,rfl⟩
    · rcases cA hb with ⟨j,u,rfl,e⟩ | ⟨y,u,rfl,e⟩
      · injection e with e1 _;rw [e1]
      · exact nomatch e
    · rcases cA hb with ⟨j,u,rfl,e⟩ | ⟨y,u,rfl,e⟩
      · exact nomatch e
      · injection e with e1 _;rw [e1]
  byValue:=fun k v h=>by
    rcases cA h with ⟨i,t,rfl,rfl⟩ | ⟨x,t,rfl,rfl⟩ <;> rfl
  pyHash:=fun hv h=>by
    rcases cA hv with ⟨i,t,rfl,rfl⟩ | ⟨x,t,rfl,rfl⟩
    · exact wpAny_pyHash_int h
    · exact wpAny_pyHash_str h
  eqBool:=fun hu hv h=>by
    rcases cA hu with ⟨i,t,rfl,rfl⟩ | ⟨x,t,rfl,rfl⟩
    · rcases cA hv with ⟨j,u,rfl,rfl⟩ | ⟨y,u,rfl,rfl⟩
      · rw [GO] at h;exact wpAny_eqBool_int h
      · rw [GN] at h;exact SeqAt.EqAt.int_str i t y u _ _ _ _ h
    · rcases cA hv with ⟨j,u,rfl,rfl⟩ | ⟨y,u,rfl,rfl⟩
      · rw [GL] at h;exact SeqAt.EqAt.str_int x t j u _ _ _ _ h
      · rw [GK] at h;exact wpAny_eqBool_str h
  «strs»:=fun k x t v h=>by
    rcases cA h with ⟨i,u,rfl,e⟩ | ⟨y,u,rfl,e⟩
    · exact nomatch e
    · injection e with e1 _
      subst e1
      cases v <;> rfl
theorem sQ (prog:Program) (w:World) (i:Int) (t:Tok):(cM prog w).is (.inl i) (.int i t)=true:=yU i t
theorem sP (prog:Program) (w:World) (x:Str) (t:Tok):(cM prog w).is (.inr x) (.str x t)=true:=yT x t
inductive V where
  | non | bl (b:Bool) | int (i:Int) | str (x:Str) | byt (b:Array UInt8) | flt (b:UInt64) | ref (a:Addr) | ty (n:String)
  deriving DecidableEq
def RelV:V→Value→Prop
  | .non,u=>u=Value.none
  | .bl b,u=>u=Value.bool b
  | .int i,u=>∃ t,u=Value.int i t
  | .str x,u=>∃ t,u=Value.str x t
  | .byt b,u=>∃ t,u=Value.bytes b t
  | .flt b,u=>∃ t,u=Value.float b t
  | .ref a,u=>u=Value.ref a
  | .ty n,u=>u=Value.type n
abbrev Vals:List V→List Value→Prop:=Paired RelV
theorem Vals.length {xs:List V} {us:List Value} (r:Vals xs us):xs.length=us.length:=Paired.length r
theorem Vals.get:∀ {xs:List V} {us:List Value} {i:Nat} {x:V},Vals xs us→xs[i]?=some x→∃ u,us[i]?=some u∧RelV x u
  | _,_,_,_,.nil,e=>by simp at e
  | _,_,0,_,.cons r _,e=>by simp at e;subst e;exact ⟨_,rfl,r⟩
  | _,_,i+1,x,.cons _ t,e=>by
    obtain ⟨u,h1,h2⟩:=Vals.get (i:=i) (x:=x) t (by simpa using e)
    exact ⟨u,by simpa using h1,h2⟩
theorem Vals.set {x:V} {u:Value} (r:RelV x u):∀ {xs:List V} {us:List Value} (i:Nat),Vals xs us→Vals (xs.set i x) (us.set i u)
  | _,_,_,.nil=>.nil
  | _,_,0,.cons _ t=>.cons r t
  | _,_,i+1,.cons q t=>.cons q (Vals.set r i t)
theorem Vals.append:∀ {xs ys:List V} {us ws:List Value},Vals xs us→Vals ys ws→Vals (xs++ys) (us++ws)
  | _,_,_,_,.nil,s=>s
  | _,_,_,_,.cons r t,s=>.cons r (Vals.append t s)
theorem Vals.take:∀ {xs:List V} {us:List Value} (n:Nat),Vals xs us→Vals (xs.take n) (us.take n)
  | _,_,0,_=>.nil
  | _,_,_+1,.nil=>.nil
  | _,_,n+1,.cons r t=>.cons r (Vals.take n t)
theorem Vals.drop:∀ {xs:List V} {us:List Value} (n:Nat),Vals xs us→Vals (xs.drop n) (us.drop n)
  | _,_,0,r=>r
  | _,_,_+1,.nil=>.nil
  | _,_,n+1,.cons _ t=>Vals.drop n t
def gq:Option V→Option Value→Prop
  | some v,some u=>RelV v u
  | none,none=>True
  | _,_=>False
def KV {κ : Type}:List (κ×V)→List (κ×Value)→Prop:=Paired fun (p : κ×V) (q : κ×Value)=>p.1=q.1∧RelV p.2 q.2
def kV:Key→V
  | .inl i=>.int i
  | .inr x=>.str x
inductive HO where
    | lst (xs:List V)
    | tup (xs:List V)
    | dK (kvs:List (Key×V)) | dT (kvs:List (List Key×V))
    | set (S:Int→Bool) (n:Nat)
    | ins (C dx:Addr) (fs:List (Str×V))
    | own (x:Addr)
    | xd (fs:List (Str×V))
    | met (f x:Addr)
    | rng (lo hi:Int)
    | frz (o:Obj) (u:HO)
    | tbl (ps:Array Value)
    | ext (φ : Heap→Prop)
abbrev Hp:=Addr→Option HO
def upd (H:Hp) (a:Addr) (o:HO):Hp:=fun b=>if b=a then some o else H b
theorem aB {H:Hp} {a:Addr} {o:HO}:upd H a o a=some o:=by unfold upd;rw [if_pos rfl]
theorem au {H:Hp} {a b:Addr} {o:HO} (h:b≠a):upd H a o b=H b:=by unfold upd;rw [if_neg h]
theorem eV {H:Hp} {a:Addr} {o u:HO}:upd (upd H a o) a u=upd H a u:=by
  funext b;unfold upd;split <;> rfl
theorem Jp {H:Hp} {a b:Addr} {o u:HO} (h:H a=some o) (h':H b=some u) (d:o≠u):a≠b:=by
  intro e;subst e;rw [h] at h';exact d (Option.some.inj h')
theorem aq {H:Hp} {a b:Addr} {o:HO} (h:H a=some o) (h':H b=none):a≠b:=by
  intro e;subst e;rw [h] at h';cases h'
section
variable (P:Program) (w:World)
def bJ (H:Hp) (h:Heap) (a:Addr):HO→Prop
  | .lst xs=>xs.length≤sizeLine∧∃ (its:List Value) (n:Nat),Vals xs its∧h.get? a=some { cls:=.type "list",data:=.seq its.toArray n }
  | .tup xs=>xs.length≤sizeLine∧∃ its:List Value,Vals xs its∧IsTup h a its.toArray
  | .dK kvs=>kvs.length≤sizeLine∧(a == sysModules)=false∧∃ vs,KV kvs vs∧h.DictOf (cM P w) a vs
  | .dT kvs=>kvs.length≤sizeLine∧(a == sysModules)=false∧∃ xs:List (List Key×Addr×Value),
      Paired (fun (p:List Key×V) (q:List Key×Addr×Value)=>p.1=q.1∧H q.2.1=some (.tup (p.1.map kV))∧RelV p.2 q.2.2) kvs xs ∧
      ∃ o es ep,h.get? a=some o∧o.ExactDict∧o.data = .dict es ep∧es.toList=xs.map (entryOfKey (tupleKind (cM P w)))∧(xs.map (·.1)).Nodup
  | .set S n=>h.SetOf (intKind P w) a S n
  | .ins C dx fs=>H dx=some (.own a)∧fs.length≤1000∧dx≠a∧h.get? a=some (PySem.W.instObj C dx) ∧
      ∃ mA,h.Ns1 dx mA∧(∀ f,gq (fs.lookup f) (mA f))∧PySem.Within mA (fs.map (·.1))
  | .own _=>∃ o,h.get? a=some o
  | .xd fs=>∃ mA,h.Ns1 a mA∧∀ f,gq (fs.lookup f) (mA f)
  | .rng lo hi=>∃ t u v,h.get? a=some { cls:=.type "range",data:=.fields #[.int lo t,.int hi u,.int 1 v] }
  | .frz o u=>h.get? a=some o∧bJ H h a u
  | .tbl ps=>h.get? a=some { cls:=.none,data:=.fields ps }
  | .met f x=>h.get? a=some (PySem.W.methodObj (.ref f) (.ref x))
  | .ext φ=>φ h∧(∃ o,h.get? a=some o)∧∀ h1 h2:Heap,φ h1→(∀ o,h1.get? a=some o→h2.get? a=some o)→φ h2
def HOk (H:Hp) (h:Heap):Prop:=∀ a o,H a=some o→bJ P w H h a o
end
section
variable {P:Program} {w:World} {H H':Hp} {h h':Heap} {a:Addr} {o:HO}
theorem bJ.lt (x:bJ P w H h a o):a < h.objs.size:=by
  cases o with
  | lst xs=>obtain ⟨_,_,_,_,e⟩:=x;exact Heap.lt_size e
  | tup xs=>obtain ⟨_,_,_,p⟩:=x;exact p.lt
  | dK kvs=>obtain ⟨_,_,_,_,o,_,_,e,_⟩:=x;exact Heap.lt_size e
  | dT kvs=>obtain ⟨_,_,_,_,o,_,_,e,_⟩:=x;exact Heap.lt_size e
  | set S n=>obtain ⟨o,_,_,_,e,_⟩:=x;exact Heap.lt_size e
  | ins C dx fs=>obtain ⟨_,_,_,e,_⟩:=x;exact Heap.lt_size e
  | own y=>obtain ⟨_,e⟩:=x;exact Heap.lt_size e
  | xd fs=>obtain ⟨_,⟨_,_,_,e,_⟩,_⟩:=x;exact Heap.lt_size e
  | rng lo hi=>obtain ⟨_,_,_,e⟩:=x;exact Heap.lt_size e
  | frz ob u=>obtain ⟨e,_⟩:=x;exact Heap.lt_size e
  | tbl ps=>exact Heap.lt_size (show h.get? a=some _ from x)
  | met f y=>exact Heap.lt_size (show h.get? a=some _ from x)
  | ext φ=>obtain ⟨_,⟨_,e⟩,_⟩:=x;exact Heap.lt_size e
theorem Paired.GH {α β : Type} {F G : α→β→Prop}:∀ {l₁ : List α} {l₂ : List β},Paired F l₁ l₂→(∀ a b,F a b→G a b)→Paired G l₁ l₂
  | _,_,.nil,_=>.nil
  | _,_,.cons r t,f=>.cons (f _ _ r) (Paired.GH t f)
theorem bJ.stay (x:bJ P w H h a o) (k:∀ b u,(b=a∨H b=some (.own a))→h.get? b=some u→h'.get? b=some u)
    (ho:∀ b,H b=some (.own a)→H' b=some (.own a)) (ht:∀ b xs,H b=some (.tup xs)→H' b=some (.tup xs)):bJ P w H' h' a o:=by
  induction o with
  | lst xs=>obtain ⟨z,its,n,r,e⟩:=x;exact ⟨z,its,n,r,k _ _ (.inl rfl) e⟩
  | tup xs=>obtain ⟨z,its,r,ob,e,c⟩:=x;exact ⟨z,its,r,ob,k _ _ (.inl rfl) e,c⟩
  | dK kvs=>obtain ⟨z,y,vs,r,ob,es,ep,e,c⟩:=x;exact ⟨z,y,vs,r,ob,es,ep,k _ _ (.inl rfl) e,c⟩
  | dT kvs=>
    obtain ⟨z,y,xs,r,ob,es,ep,e,c⟩:=x
    exact ⟨z,y,xs,Paired.GH r fun p q z=>⟨z.1,ht _ _ z.2.1,z.2.2⟩,ob,es,ep,k _ _ (.inl rfl) e,c⟩
  | set S n=>obtain ⟨ob,es,ep,t,e,c⟩:=x;exact ⟨ob,es,ep,t,k _ _ (.inl rfl) e,c⟩
  | ins C dx fs=>
    obtain ⟨d,z,ne,e,mA,⟨od,es,ep,e2,c⟩,r⟩:=x
    exact ⟨ho _ d,z,ne,k _ _ (.inl rfl) e,mA,⟨od,es,ep,k _ _ (.inr d) e2,c⟩,r⟩
  | own y=>obtain ⟨ob,e⟩:=x;exact ⟨ob,k _ _ (.inl rfl) e⟩
  | xd fs=>obtain ⟨mA,⟨od,es,ep,e,c⟩,r⟩:=x;exact ⟨mA,⟨od,es,ep,k _ _ (.inl rfl) e,c⟩,r⟩
  | rng lo hi=>obtain ⟨t,u,v,e⟩:=x;exact ⟨t,u,v,k _ _ (.inl rfl) e⟩
  | frz ob u ih=>obtain ⟨e,q⟩:=x;exact ⟨k _ _ (.inl rfl) e,ih q⟩
  | tbl ps=>
    have e:h.get? a=some { cls:=.none,data:=.fields ps }:=x
    show h'.get? a=some { cls:=.none,data:=.fields ps }
    exact k a _ (.inl rfl) e
  | met f y=>
    have e:h.get? a=some (PySem.W.methodObj (.ref f) (.ref y)):=x
    show h'.get? a=some (PySem.W.methodObj (.ref f) (.ref y))
    exact k a _ (.inl rfl) e
  | ext φ=>obtain ⟨p,⟨o,e⟩,st⟩:=x;exact ⟨st _ _ p fun o q=>k _ _ (.inl rfl) q,⟨o,k _ _ (.inl rfl) e⟩,st⟩
theorem HOk.lt (x:HOk P w H h) (e:H a=some o):a < h.objs.size:=(x a o e).lt
theorem HOk.fresh (x:HOk P w H h) (e:h.objs.size≤a):H a=none:=by
  cases q:H a with
  | none=>rfl
  | some u=>exact absurd (Nat.lt_of_lt_of_le (x.lt q) e) (Nat.lt_irrefl _)
theorem HOk.kept (x:HOk P w H h) (k:∀ b u,h.get? b=some u→h'.get? b=some u):HOk P w H h':=fun a o e=>
  (x a o e).stay (fun b u _ q=>k b u q) (fun _ q=>q) fun _ _ q=>q
theorem HOk.laid (x:HOk P w H h) (k:∀ b u,h.get? b=some u→h'.get? b=some u) (hp:h.objs.size≤a) (new:bJ P w (upd H a o) h' a o):HOk P w (upd H a o) h':=fun b u e=>by
  have hn:=x.fresh hp
  by_cases hb:b=a
  · subst hb;rw [aB] at e;cases e;exact new
  · rw [au hb] at e
    exact (x b u e).stay (fun c v _ q=>k c v q) (fun c q=>by rw [au (aq q hn)];exact q) fun c xs q=>by rw [au (aq q hn)];exact q
end
def Rd (H:Hp) (a:Addr) (u:HO):Prop:=H a=some u∨∃ o,H a=some (.frz o u)
theorem Rd.ok {P:Program} {w:World} {H:Hp} {h:Heap} {a:Addr} {u:HO} (r:Rd H a u) (x:HOk P w H h):bJ P w H h a u:=by
  rcases r with r | ⟨o,r⟩
  · exact x a u r
  · obtain ⟨_,q⟩:=x a _ r
    exact q
def Mut:Option HO→Prop
  | some (.lst _)=>True
  | some (.dK _)=>True
  | some (.dT _)=>True
  | some (.set _ _)=>True
  | some (.ins _ _ _)=>True
  | some (.ext _)=>True
  | _=>False
section
variable {P:Program} {w:World} {H:Hp} {h h':Heap} {x e:Addr} {o':HO}
theorem HOk.write (ok:HOk P w H h) (mu:Mut (H x)) (he:e=x∨H e=some (.own x)) (k:∀ b u,b≠e→h.get? b=some u→h'.get? b=some u) (heo:∃ u,h'.get? e=some u)
    (new:bJ P w (upd H x o') h' x o'):HOk P w (upd H x o') h':=fun b u q=>by
  have Jl:∀ c y,H c=some (.own y)→c≠x:=fun c y r z=>by subst z;rw [r] at mu;exact mu
  have KH:∀ c xs,H c=some (.tup xs)→c≠x:=fun c xs r z=>by subst z;rw [r] at mu;exact mu
  by_cases hb:b=x
  · subst hb;rw [aB] at q;cases q;exact new
  · rw [au hb] at q
    by_cases hbe:b=e
    · have q':H b=some (.own x):=by
        rcases he with z | z
        · exact absurd (hbe.trans z) hb
        · rw [hbe];exact z
      rw [q] at q';cases q'
      obtain ⟨v,hv⟩:=heo
      exact ⟨v,by rw [hbe];exact hv⟩
    · refine (ok b u q).stay (fun c v hc r=>k c v ?_ r) (fun c r=>by rw [au (Jl c b r)];exact r) fun c xs r=>by rw [au (KH c xs r)];exact r
      rcases hc with rfl | hc
      · exact hbe
      · rintro rfl
        rcases he with z | z
        · exact Jl c b hc z
        · rw [hc] at z;cases z;exact hb rfl
end
structure Un (fs ex:List Addr) (H H':Hp) (h h':Heap):Prop where
  keep:∀ b o,h.get? b=some o→H b=none→b∉fs→b∉ex→h'.get? b=some o
  slot:∀ b o,h.get? b=some o→H b=none→b∈fs→b∉ex→∃ sl,h'.get? b=some { o with slots:=sl }
  free:∀ b o,h.get? b=some o→H b=none→b∉ex→H' b=none
  there:∀ b o,h.get? b=some o→b∉ex→∃ o',h'.get? b=some o'
  tups:∀ b xs,H b=some (.tup xs)→H' b=some (.tup xs)
  ji:∀ b o u,H b=some (.frz o u)→H' b=some (.frz o u)
  i7:∀ b ps,H b=some (.tbl ps)→∃ more,H' b=some (.tbl (ps++more))
section
variable {fs fs' ex ex':List Addr} {H H1 H2:Hp} {h h1 h2 h':Heap} {a x e:Addr} {o:HO}
theorem Un.any (u:Un fs ex H H1 h h1) {b:Addr} {ob:Obj} (q:h.get? b=some ob) (n:H b=none) (hx:b∉ex):∃ sl,h1.get? b=some { ob with slots:=sl }:=by
  by_cases hb:b∈fs
  · exact u.slot b ob q n hb hx
  · exact ⟨ob.slots,u.keep b ob q n hb hx⟩
theorem Un.trans (a:Un fs ex H H1 h h1) (b:Un fs ex H1 H2 h1 h2):Un fs ex H H2 h h2 where
  keep:=fun c ob q n hc hx=>b.keep c ob (a.keep c ob q n hc hx) (a.free c ob q n hx) hc hx
  slot:=fun c ob q n hc hx=>by
    obtain ⟨sl,e1⟩:=a.slot c ob q n hc hx
    obtain ⟨sl',e2⟩:=b.slot c _ e1 (a.free c ob q n hx) hc hx
    exact ⟨sl',e2⟩
  free:=fun c ob q n hx=>by
    obtain ⟨o',e1⟩:=a.there c ob q hx
    exact b.free c o' e1 (a.free c ob q n hx) hx
  there:=fun c ob q hx=>by
    obtain ⟨o',e1⟩:=a.there c ob q hx
    exact b.there c o' e1 hx
  tups:=fun c xs q=>b.tups c xs (a.tups c xs q)
  ji:=fun c ob xs q=>b.ji c ob xs (a.ji c ob xs q)
  i7:=fun c ps q=>by
    obtain ⟨m1,e1⟩:=a.i7 c ps q
    obtain ⟨m2,e2⟩:=b.i7 c _ e1
    exact ⟨m1++m2,by rw [e2,Array.append_assoc]⟩
theorem Un.kept (k:∀ b u,h.get? b=some u→h'.get? b=some u):Un fs ex H H h h':=
  ⟨fun b ob q _ _ _=>k b ob q,fun b ob q _ _ _=>⟨ob.slots,k b ob q⟩,fun _ _ _ n _=>n,fun b ob q _=>⟨ob,k b ob q⟩,fun _ _ q=>q,fun _ _ _ q=>q,fun _ ps q=>⟨#[],by rw [q];simp⟩⟩
theorem Un.refl:Un fs ex H H h h:=Un.kept fun _ _ q=>q
theorem Un.laid (k:∀ b u,h.get? b=some u→h'.get? b=some u) (hp:h.objs.size≤a) (hn:H a=none):Un fs ex H (upd H a o) h h' where
  keep:=fun b u q _ _ _=>k b u q
  slot:=fun b u q _ _ _=>⟨u.slots,k b u q⟩
  free:=fun b u q n _=>by rw [au (Nat.ne_of_lt (Nat.lt_of_lt_of_le (Heap.lt_size q) hp))];exact n
  there:=fun b u q _=>⟨u,k b u q⟩
  tups:=fun b xs q=>by rw [au (aq q hn)];exact q
  ji:=fun b u xs q=>by rw [au (aq q hn)];exact q
  i7:=fun b ps q=>⟨#[],by rw [au (aq q hn),q];simp⟩
theorem Un.write (mu:Mut (H x)) (he:e=x∨H e=some (.own x)) (k:∀ b u,b≠e→h.get? b=some u→h'.get? b=some u) (heo:∃ u,h'.get? e=some u):Un fs ex H (upd H x o) h h':=by
  have hx:∀ b,H b=none→b≠x:=fun b n z=>by subst z;rw [n] at mu;exact mu
  have hb:∀ b,H b=none→b≠e:=fun b n z=>by
    subst z
    rcases he with r | r
    · exact hx b n r
    · rw [n] at r;cases r
  have hm:∀ b u,H b=some u→¬ Mut (some u)→b≠x:=fun b u q nm z=>by subst z;rw [q] at mu;exact nm mu
  refine ⟨fun b u q n _ _=>k b u (hb b n) q,fun b u q n _ _=>⟨u.slots,k b u (hb b n) q⟩,fun b u q n _=>by rw [au (hx b n)];exact n,fun b u q _=>?_,
    fun b xs q=>by rw [au (hm b _ q fun z=>z)];exact q,fun b u xs q=>by rw [au (hm b _ q fun z=>z)];exact q,fun b ps q=>⟨#[],by rw [au (hm b _ q fun z=>z),q];simp⟩⟩
  by_cases hbe:b=e
  · subst hbe;exact heo
  · exact ⟨u,k b u hbe q⟩
end
def trk (h:Heap) (H:Hp):List Addr:=(List.range h.objs.size).filter fun a=>(H a).isSome
def nq (h:Heap) (H:Hp):Heap:=PySem.W.hideAll h (trk h H)
theorem yY (h:Heap) (H:Hp):(nq h H).objs.size=h.objs.size:=PySem.W.hideAll_size _ _
theorem Bq {h:Heap} {H:Hp} {b:Addr} {o:Obj} (e:h.get? b=some o) (n:H b=none):(nq h H).get? b=some o:=
  PySem.W.hideAll_get _ e fun hm=>by
    have q:(H b).isSome=true:=(List.mem_filter.mp hm).2
    rw [n] at q;simp at q
theorem DY {h:Heap} {H:Hp} {b:Addr} {o:Obj} (e:(nq h H).get? b=some o):h.get? b=some o∧H b=none:=by
  have e':h.get? b=some o:=PySem.W.of_hideAll (trk h H) e
  refine ⟨e',?_⟩
  cases q:H b with
  | none=>rfl
  | some x=>
    have hm:b∈trk h H:=List.mem_filter.mpr ⟨List.mem_range.mpr (Heap.lt_size e'),by simp [q]⟩
    have z:(nq h H).get? b=none:=PySem.W.hideAll_none (trk h H) hm
    rw [z] at e;cases e
def jN (g h:Heap) (L:Addr):List (Addr×Obj):=(List.range h.objs.size).filterMap fun a=>if a=L∨(g.get? a).isSome=true then none else (h.get? a).map fun o=>(a,o)
theorem sR {g h:Heap} {L a:Addr} {o:Obj} (h1:a≠L) (h2:g.get? a=none) (h3:h.get? a=some o):(a,o)∈jN g h L:=
  List.mem_filterMap.mpr ⟨a,List.mem_range.mpr (Heap.lt_size h3),by simp [h1,h2,h3]⟩
theorem lJ {g h:Heap} {L:Addr} {p:Addr×Obj} (hp:p∈jN g h L):p.1≠L∧g.get? p.1=none∧h.get? p.1=some p.2:=by
  obtain ⟨b,_,e⟩:=List.mem_filterMap.mp hp
  split at e
  · cases e
  · rename_i hn
    cases q:h.get? b with
    | none=>rw [q] at e;simp at e
    | some u=>
      rw [q] at e
      simp only [Option.map_some,Option.some.injEq] at e
      subst e
      refine ⟨fun z=>hn (.inl z),?_,q⟩
      show g.get? b=none
      cases r:g.get? b with
      | none=>rfl
      | some v=>exact (hn (.inr (by simp [r]))).elim
theorem Bd {g h:Heap} {L:Addr}:News g L h (jN g h L):=fun p hp=>let ⟨a,b,c⟩:=lJ hp;⟨c,a,b⟩
structure Mod (K:PySem.W.Frag) (mg:Str→Option Value) (base:Heap):Prop where
  kin:K.In base
  glob:base.Ns mainGlobals mg
  blt:∃ mb,base.Ns builtinsNs mb∧∀ x:Str,x ≠ "__name__" → mb x=bootBuiltins x
  nolimit:base.NoLimit
structure Cx where
  prog:Program
  w:World
  K:PySem.W.Frag
  mg:Str→Option Value
  base:Heap
  A:Around
  N:List Str
  s₀ : Shared
  H₀ : Hp
  env:Env
  outer:List Env
  stack:List Env
  ex:List Addr
  fn:Str→Bool
  calm:Bool
  pn:List (Addr×Obj)
  xe:Value→Shared→Prop
def frs (l:List Env):List Addr:=l.filterMap (·.frame)
abbrev Cx.fs (X:Cx):List Addr:=frs X.outer
def Vis (sc:Scope) (x:Str):Prop:=sc.names.lookup x=some .local∨sc.names.lookup x=some .cell∨sc.names.lookup x=some .free
def Loc (sc:Scope) (x:Str):Prop:=sc.names.lookup x=some .local∨sc.names.lookup x=some .cell
def Look (env:Env) (h:Heap) (m:Str→Option Value) (x:Str) (u:Value):Prop:=
  (env.kindOf x=some .local∧m x=some u)∨((env.kindOf x=some .cell∨env.kindOf x=some .free)∧∃ c,env.cells.lookup x=some c∧h.IsCell c (some u))
structure Cx.Ok (X:Cx):Prop where
  mod:Mod X.K X.mg X.base
  kind:X.env.scope.kind = .function
  glob:X.env.globals=mainGlobals
  blt:X.env.builtins=builtinsNs
  above:X.s₀.heap.objs.size≤X.env.locals
  inj:∀ x y c,X.env.cells.lookup x=some c→X.env.cells.lookup y=some c→x=y
  has:∀ x,(X.env.kindOf x=some .cell∨X.env.kindOf x=some .free)→∃ c,X.env.cells.lookup x=some c
  cab:∀ x c,X.fn x=true→X.env.cells.lookup x=some c→X.s₀.heap.objs.size≤c
  hd:X.calm=true→X.A.handled=none
  frames:X.A.frames=some X.stack
  stk:X.stack=X.outer∨(X.stack=X.env::X.outer∧X.env.frame=some X.env.locals)
  exf:∀ b∈X.ex,b≠X.env.locals∧∀ x c,X.env.cells.lookup x=some c→c≠b
  bs:∀ b o,X.base.get? b=some o→X.s₀.heap.get? b=some o∧X.H₀ b=none
  bsz:X.base.objs.size≤X.s₀.heap.objs.size
  noex:∀ b o,X.base.get? b=some o→b∉X.ex
  exfs:∀ b∈X.ex,b∉X.fs
  g8:X.s₀.heap.FunFrames X.base X.outer
  frf:∀ b∈X.fs,X.H₀ b=none
structure Inv (X:Cx) (pins:List (Addr×Obj)) (σ : List (Option V)) (H:Hp) (s:Shared):Prop where
  ok:X.Ok
  os:s.os=X.s₀.os
  bare:AllBare s.gens
  base:Un X.fs X.ex X.H₀ H X.s₀.heap s.heap
  loc:∃ m,s.heap.Ns X.env.locals m∧∀ (i:Nat) (x:Str) (v:V),X.N[i]?=some x→σ[i]?=some (some v)→Vis X.env.scope x→∃ u,RelV v u∧Look X.env s.heap m x u
  cell:∀ x c,X.env.cells.lookup x=some c→∃ v,s.heap.IsCell c v
  free:H X.env.locals=none
  freeC:∀ x c,X.env.cells.lookup x=some c→H c=none
  pin:∀ p∈X.pn++pins,s.heap.get? p.1=some p.2∧H p.1=none∧p.1≠X.env.locals∧p.1∉X.fs∧∀ v,p.2.data≠.cell v
  hok:HOk X.prog X.w H s.heap
  len : σ.length=X.N.length
section
variable {X:Cx} {pins:List (Addr×Obj)} {σ : List (Option V)} {H H':Hp} {s:Shared} {h':Heap}
theorem Cx.Ok.KO (ok:X.Ok) {b:Addr} {o:Obj} (e:X.base.get? b=some o):b∉X.fs:=fun hb=>by
  have:=(ok.g8.mem hb).1
  rw [e] at this;cases this
theorem Inv.bs (I:Inv X pins σ H s):∀ b o,X.base.get? b=some o→s.heap.get? b=some o∧H b=none:=fun b o e=>
  ⟨I.base.keep b o (I.ok.bs b o e).1 (I.ok.bs b o e).2 (I.ok.KO e) (I.ok.noex b o e),I.base.free b o (I.ok.bs b o e).1 (I.ok.bs b o e).2 (I.ok.noex b o e)⟩
theorem Inv.bk (I:Inv X pins σ H s):∀ b o,X.base.get? b=some o→s.heap.get? b=some o:=fun b o e=>(I.bs b o e).1
theorem Inv.mod (I:Inv X pins σ H s):Mod X.K X.mg X.base:=I.ok.mod
theorem Inv.kIn (I:Inv X pins σ H s):X.K.In s.heap:=I.ok.mod.kin.keeps I.bk
theorem Inv.fr (I:Inv X pins σ H s):∃ m,Fr X.base X.env.locals s.heap m:=
  let ⟨m,hn,_⟩:=I.loc
  ⟨m,hn,I.bk,Nat.le_trans I.ok.bsz I.ok.above⟩
theorem Inv.lt (I:Inv X pins σ H s):X.env.locals < s.heap.objs.size:=let ⟨_,hn,_⟩:=I.loc;hn.lt
theorem Inv.sz (I:Inv X pins σ H s):X.s₀.heap.objs.size≤s.heap.objs.size:=Nat.le_trans I.ok.above (Nat.le_of_lt I.lt)
theorem Inv.Jm (I:Inv X pins σ H s) {a:Addr} (h:s.heap.objs.size≤a):a∉X.fs:=fun hb=>by
  obtain ⟨_,o,ho,_⟩:=I.ok.g8.mem hb
  exact absurd (Nat.lt_of_lt_of_le (Heap.lt_size ho) (Nat.le_trans I.sz h)) (Nat.lt_irrefl _)
theorem Inv.cne (I:Inv X pins σ H s):∀ x c,X.env.cells.lookup x=some c→c≠X.env.locals:=fun x c e z=>by
  obtain ⟨v,o,ho,hd⟩:=I.cell x c e
  obtain ⟨m,⟨o',es,ep,ho',hd',_⟩,_⟩:=I.loc
  rw [z,ho'] at ho;cases ho;rw [hd'] at hd;cases hd
theorem Inv.g8 (I:Inv X pins σ H s):s.heap.FunFrames X.base X.outer:=by
  have all:∀ (l:List Env),(∀ b∈frs l,b∈X.fs)→X.s₀.heap.FunFrames X.base l→s.heap.FunFrames X.base l:=by
    intro l
    induction l with
    | nil=>intro _ _;trivial
    | cons env r ih=>
      intro hs hl
      obtain ⟨hk,⟨L,o,hf,hn,ho,hd⟩,hr⟩:=hl
      have hL:L∈X.fs:=hs L (by unfold frs;rw [List.filterMap_cons,hf];exact List.mem_cons_self)
      obtain ⟨sl,e⟩:=I.base.slot L o ho (I.ok.frf L hL) hL fun z=>I.ok.exfs L z hL
      exact ⟨hk,⟨L,_,hf,hn,e,hd⟩,ih (fun b hb=>hs b (by unfold frs;rw [List.filterMap_cons,hf];exact List.mem_cons_of_mem _ hb)) hr⟩
  exact all X.outer (fun _ hb=>hb) I.ok.g8
theorem Inv.stack (I:Inv X pins σ H s):s.heap.FunFrames X.base X.stack:=by
  rcases I.ok.stk with e | ⟨e,hf⟩
  · rw [e];exact I.g8
  · rw [e]
    obtain ⟨m,hn,_⟩:=I.loc
    refine .cons (by rw [I.ok.kind];decide) hf hn ?_ I.g8
    exact Heap.get?_none_of_le (Nat.le_trans I.ok.bsz I.ok.above)
theorem Inv.o7 (I:Inv X pins σ H s):∀ b∈frs X.stack,b∈X.env.locals::X.fs:=fun b hb=>by
  rcases I.ok.stk with e | ⟨e,hf⟩
  · rw [e] at hb;exact List.mem_cons_of_mem _ hb
  · rw [e] at hb
    unfold frs at hb
    rw [List.filterMap_cons,hf] at hb
    exact hb
theorem Inv.o8 (I:Inv X pins σ H s):∀ b∈frs X.stack,H b=none:=fun b hb=>by
  rcases List.mem_cons.mp (I.o7 b hb) with e | hb
  · rw [e];exact I.free
  · obtain ⟨_,o,ho,_⟩:=I.ok.g8.mem hb
    exact I.base.free b o ho (I.ok.frf b hb) fun z=>I.ok.exfs b z hb
theorem Inv.step {g':Array GenState} {t':Nat} {d':Drawn} {ch:List Addr} (I:Inv X pins σ H s)
    (hch:∀ b∈ch,(b∈X.ex∨X.s₀.heap.objs.size≤b)∧b≠X.env.locals∧(∀ x c,X.env.cells.lookup x=some c→c≠b)∧∀ p∈X.pn++pins,p.1≠b)
    (keep:∀ b o,b≠X.env.locals→b∉X.fs→b∉ch→s.heap.get? b=some o→H b=none→h'.get? b=some o)
    (slot:∀ b o,b≠X.env.locals→b∈X.fs→b∉ch→s.heap.get? b=some o→H b=none→∃ sl,h'.get? b=some { o with slots:=sl }) (free:∀ b o,b∉ch→s.heap.get? b=some o→H b=none→H' b=none)
    (there:∀ b o,b∉ch→s.heap.get? b=some o→∃ o',h'.get? b=some o')
    (tups:∀ b xs,H b=some (.tup xs)→H' b=some (.tup xs)) (ji:∀ b o u,H b=some (.frz o u)→H' b=some (.frz o u)) (i7:∀ b ps,H b=some (.tbl ps)→∃ more,H' b=some (.tbl (ps++more)))
    (ns:∀ m,s.heap.Ns X.env.locals m→h'.Ns X.env.locals m) (hok:HOk X.prog X.w H' h') (hg:AllBare g') :
    Inv X pins σ H' { s with heap:=h',gens:=g',drawn:=d',toks:=t' }:=by
  have neL:∀ b o,X.s₀.heap.get? b=some o→b≠X.env.locals:=fun b o e=>Nat.ne_of_lt (Nat.lt_of_lt_of_le (Heap.lt_size e) I.ok.above)
  have neC:∀ b o,X.s₀.heap.get? b=some o→b∉X.ex→b∉ch:=fun b o e hx hb=>by
    rcases (hch b hb).1 with z | z
    · exact hx z
    · exact absurd (Nat.lt_of_lt_of_le (Heap.lt_size e) z) (Nat.lt_irrefl _)
  have cellK:∀ x c,X.env.cells.lookup x=some c→∀ v,s.heap.IsCell c v→h'.IsCell c v:=fun x c e v ⟨o,ho,hd⟩=>by
    have nch:c∉ch:=fun z=>(hch c z).2.2.1 x c e rfl
    by_cases hc:c∈X.fs
    · obtain ⟨sl,q⟩:=slot c o (I.cne x c e) hc nch ho (I.freeC x c e)
      exact ⟨_,q,hd⟩
    · exact ⟨o,keep c o (I.cne x c e) hc nch ho (I.freeC x c e),hd⟩
  refine ⟨I.ok,I.os,hg,⟨fun b o e n hb hx=>?_,fun b o e n hb hx=>?_,fun b o e n hx=>?_,fun b o e hx=>?_,fun b xs e=>tups b xs (I.base.tups b xs e),fun b o xs e=>ji b o xs (I.base.ji b o xs e),fun b ps e=>?_⟩,?_,fun x c e=>?_,?_,fun x c e=>?_,fun p hp=>?_,hok,I.len⟩
  · exact keep b o (neL b o e) hb (neC b o e hx) (I.base.keep b o e n hb hx) (I.base.free b o e n hx)
  · obtain ⟨sl,e1⟩:=I.base.slot b o e n hb hx
    obtain ⟨sl',e2⟩:=slot b _ (neL b o e) hb (neC b o e hx) e1 (I.base.free b o e n hx)
    exact ⟨sl',e2⟩
  · obtain ⟨o',e1⟩:=I.base.there b o e hx
    exact free b o' (neC b o e hx) e1 (I.base.free b o e n hx)
  · obtain ⟨o',e1⟩:=I.base.there b o e hx
    exact there b o' (neC b o e hx) e1
  · obtain ⟨m1,e1⟩:=I.base.i7 b ps e
    obtain ⟨m2,e2⟩:=i7 b _ e1
    exact ⟨m1++m2,by rw [e2,Array.append_assoc]⟩
  · obtain ⟨m,hn,hl⟩:=I.loc
    refine ⟨m,ns m hn,fun i x v e1 e2 e3=>?_⟩
    obtain ⟨u,r,l⟩:=hl i x v e1 e2 e3
    refine ⟨u,r,?_⟩
    rcases l with l | ⟨k,c,e,z⟩
    · exact .inl l
    · exact .inr ⟨k,c,e,cellK x c e _ z⟩
  · obtain ⟨v,z⟩:=I.cell x c e
    exact ⟨v,cellK x c e v z⟩
  · obtain ⟨m,⟨o,_,_,ho,_⟩,_⟩:=I.loc
    exact free _ o (fun z=>(hch _ z).2.1 rfl) ho I.free
  · obtain ⟨v,o,ho,hd⟩:=I.cell x c e
    exact free c o (fun z=>(hch c z).2.2.1 x c e rfl) ho (I.freeC x c e)
  · obtain ⟨e,n,ne,nf,d⟩:=I.pin p hp
    have nch:p.1∉ch:=fun z=>(hch p.1 z).2.2.2 p hp rfl
    exact ⟨keep p.1 p.2 ne nf nch e n,free p.1 p.2 nch e n,ne,nf,d⟩
theorem Inv.un {t':Nat} (I:Inv X pins σ H s) (u:Un X.fs [] H H' s.heap h') (hok:HOk X.prog X.w H' h'):Inv X pins σ H' { s with heap:=h',toks:=t' }:=by
  obtain ⟨m,⟨o,es,ep,ho,r⟩,_⟩:=id I.loc
  obtain ⟨sl,hL⟩:=u.any ho I.free (by simp)
  exact I.step (g':=s.gens) (d':=s.drawn) (ch:=[]) (fun _ z=>nomatch z) (fun b o _ hb _ e n=>u.keep b o e n hb (by simp)) (fun b o _ hb _ e n=>u.slot b o e n hb (by simp)) (fun b o _ e n=>u.free b o e n (by simp)) (fun b o _ e=>u.there b o e (by simp)) u.tups u.ji u.i7 (fun m' hm=>by
    obtain ⟨o',es',ep',ho',r'⟩:=hm
    rw [ho] at ho';cases ho'
    exact ⟨_,es',ep',hL,r'⟩) hok I.bare
theorem Inv.call {g':Array GenState} {t':Nat} {d':Drawn} {ch:List Addr} (I:Inv X pins σ H s) (u:Un (frs X.stack) ch H H' s.heap h') (hok:HOk X.prog X.w H' h') (hg:AllBare g')
    (hch:∀ b∈ch,(b∈X.ex∨X.s₀.heap.objs.size≤b)∧b≠X.env.locals∧(∀ x c,X.env.cells.lookup x=some c→c≠b)∧∀ p∈X.pn++pins,p.1≠b) :
    Inv X pins σ H' { s with heap:=h',gens:=g',drawn:=d',toks:=t' }:=by
  obtain ⟨m,⟨o,es,ep,ho,r⟩,_⟩:=id I.loc
  obtain ⟨sl,hL⟩:=u.any ho I.free fun z=>(hch _ z).2.1 rfl
  exact I.step (ch:=ch) hch (fun b o hL hb hc e n=>u.keep b o e n (fun z=>(List.mem_cons.mp (I.o7 b z)).elim hL hb) hc) (fun b o _ _ hc e n=>u.any e n hc) (fun b o hc e n=>u.free b o e n hc) (fun b o hc e=>u.there b o e hc) u.tups u.ji u.i7 (fun m' hm=>by
    obtain ⟨o',es',ep',ho',r'⟩:=hm
    rw [ho] at ho';cases ho'
    exact ⟨_,es',ep',hL,r'⟩) hok hg
theorem Inv.turned {t':Nat} {it:Addr} (I:Inv X pins σ H s) (k:∀ b o,b≠it→s.heap.get? b=some o→h'.get? b=some o) (hn:H it=none) (hL:it≠X.env.locals)
    (h1:it∈X.ex∨X.s₀.heap.objs.size≤it) (h2:∀ x c,X.env.cells.lookup x=some c→c≠it) (h3:∀ p∈X.pn++pins,p.1≠it):Inv X pins σ H { s with heap:=h',toks:=t' }:=by
  have nit:∀ b u,H b=some u→b≠it:=fun b u e z=>by rw [z,hn] at e;cases e
  refine I.step (g':=s.gens) (d':=s.drawn) (ch:=[it]) (fun b hb=>?_) (fun b o _ _ hc e _=>k b o (fun z=>hc (by simp [z])) e) (fun b o _ _ hc e _=>⟨o.slots,k b o (fun z=>hc (by simp [z])) e⟩) (fun _ _ _ _ n=>n)
    (fun b o hc e=>⟨o,k b o (fun z=>hc (by simp [z])) e⟩) (fun _ _ e=>e) (fun _ _ _ e=>e) (fun b ps e=>⟨#[],by rw [e];simp⟩) (fun m hm=>?_) (fun b u e=>?_) I.bare
  · have e:b=it:=by simpa using hb
    subst e
    exact ⟨h1,hL,h2,h3⟩
  · obtain ⟨o,es,ep,ho,r⟩:=hm
    exact ⟨o,es,ep,k _ o (Ne.symm hL) ho,r⟩
  · refine (I.hok b u e).stay (fun c v hc q=>k c v ?_ q) (fun _ q=>q) fun _ _ q=>q
    rcases hc with z | z
    · rw [z];exact nit b u e
    · exact nit c _ z
theorem Inv.tok (I:Inv X pins σ H s) (t:Nat):Inv X pins σ H { s with toks:=t }:=I.un (h':=s.heap) (t':=t) Un.refl I.hok
theorem Inv.kept {t':Nat} (I:Inv X pins σ H s) (k:∀ b u,s.heap.get? b=some u→h'.get? b=some u):Inv X pins σ H { s with heap:=h',toks:=t' }:=I.un (Un.kept k) (I.hok.kept k)
theorem Inv.laid {a:Addr} {o:HO} {t':Nat} (I:Inv X pins σ H s) (k:∀ b u,s.heap.get? b=some u→h'.get? b=some u) (hp:s.heap.objs.size≤a) (new:bJ X.prog X.w (upd H a o) h' a o) :
    Inv X pins σ (upd H a o) { s with heap:=h',toks:=t' }:=I.un (Un.laid k hp (I.hok.fresh hp)) (I.hok.laid k hp new)
theorem Inv.write {x e:Addr} {o:HO} {t':Nat} (I:Inv X pins σ H s) (mu:Mut (H x)) (he:e=x∨H e=some (.own x)) (k:∀ b u,b≠e→s.heap.get? b=some u→h'.get? b=some u) (heo:∃ u,h'.get? e=some u)
    (new:bJ X.prog X.w (upd H x o) h' x o):Inv X pins σ (upd H x o) { s with heap:=h',toks:=t' }:=I.un (Un.write mu he k heo) (I.hok.write mu he k heo new)
theorem Inv.kR {lG:List (Addr×Obj)} (I:Inv X pins σ H s) (h:∀ p∈lG,s.heap.get? p.1=some p.2∧H p.1=none∧p.1≠X.env.locals∧p.1∉X.fs∧∀ v,p.2.data≠.cell v):Inv X lG σ H s:=
  ⟨I.ok,I.os,I.bare,I.base,I.loc,I.cell,I.free,I.freeC,fun p hp=>(List.mem_append.mp hp).elim (fun z=>I.pin p (List.mem_append_left _ z)) (h p),I.hok,I.len⟩
theorem sO {N:List Str} (hN:N.Nodup) {i j:Nat} {x:Str} (a:N[i]?=some x) (b:N[j]?=some x):i=j:=by
  obtain ⟨h1,e1⟩:=List.getElem?_eq_some_iff.mp a
  obtain ⟨h2,e2⟩:=List.getElem?_eq_some_iff.mp b
  exact (List.getElem_inj hN).mp (e1.trans e2.symm)
theorem nQ {M:Model} {A:Around} {E:Value→Shared→Prop} {i:Nat} {x:Str} {v:V} {u:Value} {Q:Unit→Shared→Prop} (I:Inv X pins σ H s) (hN:X.N.Nodup) (hi:X.N[i]?=some x) (hx:Loc X.env.scope x) (r:RelV v u)
    (h:∀ s',Inv X pins (σ.set i (some v)) H s'→(∃ a,Heap.SameBut a s.heap s'.heap∧(a=X.env.locals∨X.env.cells.lookup x=some a))→Q () s') (hf:X.fn x=true∨X.env.scope.names.lookup x=some .local:=by first | exact .inl rfl | exact .inr rfl | assumption):wpAny M A (storeName X.env x u) Q E s:=by
  obtain ⟨m,hn,hl⟩:=id I.loc
  have hcls:(X.env.scope.kind == .class || (X.env.scope.kind == .module && X.env.locals != X.env.globals))=false:=by rw [I.ok.kind];rfl
  have hiσ : i < σ.length:=by rw [I.len];exact (List.getElem?_eq_some_iff.mp hi).1
  have cne:=I.cne
  have tracked:∀ {a:Addr} {h':Heap},(∃ o,s.heap.get? a=some o∧H a=none)→Heap.SameBut a s.heap h'→HOk X.prog X.w H h':=fun {a h'} ha hs b ob e=>by
    obtain ⟨_,_,hfree⟩:=ha
    refine (I.hok b ob e).stay (fun c w' hc q=>(hs.2 c ?_).trans q) (fun _ q=>q) fun _ _ q=>q
    rintro rfl
    rcases hc with rfl | hc
    · rw [hfree] at e;cases e
    · rw [hfree] at hc;cases hc
  rcases hx with hk | hk
  · refine wpAny_storeName_local hk hn (fun h' hn' hs=>?_) hcls
    obtain ⟨oL,_,_,hoL,_⟩:=id hn
    refine h _ ⟨I.ok,I.os,I.bare,⟨fun b o e n hb hx=>?_,fun b o e n hb hx=>?_,I.base.free,fun b o e hx=>?_,I.base.tups,I.base.ji,I.base.i7⟩,⟨_,hn',fun j y v' e1 e2 e3=>?_⟩,fun y c e=>?_,I.free,I.freeC,fun p hp=>?_,tracked ⟨oL,hoL,I.free⟩ hs,by simpa using I.len⟩ ⟨_,hs,.inl rfl⟩
    · exact (hs.2 b (Nat.ne_of_lt (Nat.lt_of_lt_of_le (Heap.lt_size e) I.ok.above))).trans (I.base.keep b o e n hb hx)
    · obtain ⟨sl,e1⟩:=I.base.slot b o e n hb hx
      exact ⟨sl,(hs.2 b (Nat.ne_of_lt (Nat.lt_of_lt_of_le (Heap.lt_size e) I.ok.above))).trans e1⟩
    · obtain ⟨o',e1⟩:=I.base.there b o e hx
      exact ⟨o',(hs.2 b (Nat.ne_of_lt (Nat.lt_of_lt_of_le (Heap.lt_size e) I.ok.above))).trans e1⟩
    · by_cases hj:j=i
      · subst hj
        rw [hi] at e1;cases e1
        rw [List.getElem?_set_self hiσ] at e2
        cases e2
        exact ⟨u,r,.inl ⟨hk,by simp⟩⟩
      · rw [List.getElem?_set_ne (Ne.symm hj)] at e2
        obtain ⟨u',r',q⟩:=hl j y v' e1 e2 e3
        refine ⟨u',r',?_⟩
        rcases q with ⟨k,e⟩ | ⟨k,c,e,z⟩
        · refine .inl ⟨k,?_⟩
          have:y≠x:=fun e=>hj (sO hN e1 (e▸hi))
          simp [this,e]
        · exact .inr ⟨k,c,e,z.sameBut hs (cne y c e)⟩
    · obtain ⟨w',z⟩:=I.cell y c e
      exact ⟨w',z.sameBut hs (cne y c e)⟩
    · obtain ⟨e,n,ne,nf,d⟩:=I.pin p hp
      exact ⟨(hs.2 p.1 ne).trans e,n,ne,nf,d⟩
  · have hfn:X.fn x=true:=by
      rcases hf with z | z
      · exact z
      · rw [z] at hk;cases hk
    obtain ⟨c,hc⟩:=I.ok.has x (.inl hk)
    obtain ⟨w',z⟩:=I.cell x c hc
    refine wpAny_storeName_cell I.ok.kind hk hc z (fun h' hc' hs=>?_)
    obtain ⟨oc,hoc,hocd⟩:=id z
    refine h { s with heap:=h' } ⟨I.ok,I.os,I.bare,⟨fun b o e n hb hx=>?_,fun b o e n hb hx=>?_,I.base.free,fun b o e hx=>?_,I.base.tups,I.base.ji,I.base.i7⟩,⟨m,hn.sameBut hs (Ne.symm (cne x c hc)),fun j y v' e1 e2 e3=>?_⟩,fun y c' e=>?_,I.free,I.freeC,fun p hp=>?_,tracked ⟨oc,hoc,I.freeC x c hc⟩ hs,by simpa using I.len⟩ ⟨c,hs,.inr hc⟩
    · exact (hs.2 b (Nat.ne_of_lt (Nat.lt_of_lt_of_le (Heap.lt_size e) (I.ok.cab x c hfn hc)))).trans (I.base.keep b o e n hb hx)
    · obtain ⟨sl,e1⟩:=I.base.slot b o e n hb hx
      exact ⟨sl,(hs.2 b (Nat.ne_of_lt (Nat.lt_of_lt_of_le (Heap.lt_size e) (I.ok.cab x c hfn hc)))).trans e1⟩
    · obtain ⟨o',e1⟩:=I.base.there b o e hx
      exact ⟨o',(hs.2 b (Nat.ne_of_lt (Nat.lt_of_lt_of_le (Heap.lt_size e) (I.ok.cab x c hfn hc)))).trans e1⟩
    · by_cases hj:j=i
      · subst hj
        rw [hi] at e1;cases e1
        rw [List.getElem?_set_self hiσ] at e2
        cases e2
        exact ⟨u,r,.inr ⟨.inl hk,c,hc,hc'⟩⟩
      · rw [List.getElem?_set_ne (Ne.symm hj)] at e2
        obtain ⟨u',r',q⟩:=hl j y v' e1 e2 e3
        refine ⟨u',r',?_⟩
        rcases q with q | ⟨k,c',e,z'⟩
        · exact .inl q
        · refine .inr ⟨k,c',e,z'.sameBut hs ?_⟩
          rintro rfl
          exact hj (sO hN e1 (I.ok.inj _ _ _ e hc▸hi))
    · by_cases hcc:c'=c
      · subst hcc;exact ⟨_,hc'⟩
      · obtain ⟨w2,z2⟩:=I.cell y c' e
        exact ⟨w2,z2.sameBut hs hcc⟩
    · obtain ⟨e,n,ne,nf,d⟩:=I.pin p hp
      refine ⟨(hs.2 p.1 ?_).trans e,n,ne,nf,d⟩
      intro q
      rw [q,hoc] at e
      have q':oc=p.2:=Option.some.inj e
      exact d w' (by rw [← q'];exact hocd)
theorem rA {M:Model} {A:Around} {E:Value→Shared→Prop} {i:Nat} {x:Str} {v:V} {u:Value} {Q:Unit→Shared→Prop} (I:Inv X pins σ H s) (hN:X.N.Nodup) (hi:X.N[i]?=some x) (hx:Loc X.env.scope x) (r:RelV v u)
    (h:∀ s',Inv X pins (σ.set i (some v)) H s'→Q () s') (hf:X.fn x=true∨X.env.scope.names.lookup x=some .local:=by first | exact .inl rfl | exact .inr rfl | assumption):wpAny M A (storeName X.env x u) Q E s:=
  nQ I hN hi hx r (fun s' I' _=>h s' I') hf
theorem Inv.F6 {s':Shared} {ch:List Addr} (I:Inv X pins σ H s) (ho:s'.os=s.os) (u:Un (frs X.stack) ch H H' s.heap s'.heap) (hok:HOk X.prog X.w H' s'.heap) (hg:AllBare s'.gens)
    (hch:∀ b∈ch,(b∈X.ex∨X.s₀.heap.objs.size≤b)∧b≠X.env.locals∧(∀ x c,X.env.cells.lookup x=some c→c≠b)∧∀ p∈X.pn++pins,p.1≠b):Inv X pins σ H' s':=by
  obtain ⟨h',g',d',t',o'⟩:=s'
  have e:o'=s.os:=ho
  subst e
  exact I.call (g':=g') (t':=t') (d':=d') u hok hg hch
end
abbrev XK:=Value→Option Addr→Hp→Prop
abbrev St:=List (Option V)
abbrev VK:=V→Hp→Prop
abbrev TE:=St→Hp→VK→Prop
abbrev TT:=St→Hp→(Bool→Hp→Prop)→Prop
abbrev TA:=St→Hp→(List V→Hp→Prop)→Prop
structure Ends where
  nx:St→Hp→Prop
  rt:VK
  bk:St→Hp→Prop:=fun _ _=>False
  ct:St→Hp→Prop:=fun _ _=>False
abbrev TS:=Ends→St→Hp→Prop
def EP (X:Cx) (pins:List (Addr×Obj)) (σ : St) (Q:VK) (u:Value) (s':Shared):Prop:=∃ v H',Inv X pins σ H' s'∧RelV v u∧Q v H'
def TP (X:Cx) (pins:List (Addr×Obj)) (σ : St) (Q:Bool→Hp→Prop) (b:Bool) (s':Shared):Prop:=∃ H',Inv X pins σ H' s'∧Q b H'
def AP (X:Cx) (pins:List (Addr×Obj)) (σ : St) (Q:List V→Hp→Prop) (us:List Value) (s':Shared):Prop:=∃ vs H',Inv X pins σ H' s'∧Vals vs us∧Q vs H'
def SP (X:Cx) (pins:List (Addr×Obj)) (D:Ends) (f:Flow) (s':Shared):Prop:=
  match f with
  | .next=>∃ σ' H',Inv X pins σ' H' s'∧D.nx σ' H'
  | .brk=>∃ σ' H',Inv X pins σ' H' s'∧D.bk σ' H'
  | .cont=>∃ σ' H',Inv X pins σ' H' s'∧D.ct σ' H'
  | .ret u=>∃ v σ' H',Inv X pins σ' H' s'∧RelV v u∧D.rt v H'
def PE (X:Cx) (e:Expr) (t:TE):Prop:=
  ∀ (pins:List (Addr×Obj)) (s:Shared) (σ : St) (H:Hp) (Q:VK),Inv X pins σ H s→t σ H Q→wpAny (model X.prog X.w) X.A (eval e X.env) (EP X pins σ Q) X.xe s
def PT (X:Cx) (e:Expr) (t:TT):Prop:=
  ∀ (pins:List (Addr×Obj)) (s:Shared) (σ : St) (H:Hp) (Q:Bool→Hp→Prop),Inv X pins σ H s→t σ H Q→wpAny (model X.prog X.w) X.A (isTrue e X.env (eval e X.env)) (TP X pins σ Q) X.xe s
def PW (X:Cx) (e:Expr) (t:TT):Prop:=
  ∀ (whole:Sem Value) (pins:List (Addr×Obj)) (s:Shared) (σ : St) (H:Hp) (Q:Bool→Hp→Prop),Inv X pins σ H s→t σ H Q→wpAny (model X.prog X.w) X.A (isTrue e X.env whole) (TP X pins σ Q) X.xe s
theorem PW.pt {X:Cx} {e:Expr} {t:TT} (h:PW X e t):PT X e t:=h _
def PA (X:Cx) (es:List Expr) (t:TA):Prop:=
  ∀ (pos:Pos) (pins:List (Addr×Obj)) (s:Shared) (σ : St) (H:Hp) (Q:List V→Hp→Prop),Inv X pins σ H s→t σ H Q→wpAny (model X.prog X.w) X.A (spliced (backTo pos (starEach es X.env))) (AP X pins σ Q) X.xe s
def PS (X:Cx) (st:Stmt) (t:TS):Prop:=
  ∀ (pins:List (Addr×Obj)) (s:Shared) (σ : St) (H:Hp) (D:Ends),Inv X pins σ H s→t D σ H→wpAny (model X.prog X.w) X.A (exec st X.env) (SP X pins D) X.xe s
def PSs (X:Cx) (st:List Stmt) (t:TS):Prop:=
  ∀ (pins:List (Addr×Obj)) (s:Shared) (σ : St) (H:Hp) (D:Ends),Inv X pins σ H s→t D σ H→wpAny (model X.prog X.w) X.A (execs st X.env) (SP X pins D) X.xe s
theorem thn {α : Type} {t:Sem α} {Q Q' : α→Shared→Prop} {M:Model} {A:Around} {E:Value→Shared→Prop} {s:Shared} (h:wpAny M A t Q E s) (hQ:∀ a s,Q a s→Q' a s):wpAny M A t Q' E s:=wpAny_mono h hQ fun _ _ x=>x
section
variable {X:Cx}
def Gd (i:Nat):TE:=fun σ H Q=>∃ v,σ[i]?=some (some v)∧Q v H
def tC (v:V):TE:=fun _ H Q=>Q v H
theorem Gv {i:Nat} {x:Str} {pos:Pos} (hN:X.N[i]?=some x) (hv:Vis X.env.scope x) (hd:(x == ("__debug__" : Str))=false:=by decide) (hcd:(x == ("__classdict__" : Str))=false:=by decide):PE X (.Name x pos) (Gd i):=by
  intro pins s σ H Q I h
  obtain ⟨v,e,h⟩:=h
  obtain ⟨m,hn,hl⟩:=I.loc
  obtain ⟨u,r,l⟩:=hl i x v hN e hv
  have fin:EP X pins σ Q u s:=⟨v,H,I,r,h⟩
  rcases l with ⟨hk,hm⟩ | ⟨hk,c,hc,hcell⟩
  · exact wpAny_Name (wpAny_loadName_local I.ok.kind hk hn hm fin) hd
  · rcases hk with hk | hk
    · exact wpAny_Name (wpAny_loadName_cell I.ok.kind hk hc hcell fin) hd
    · exact wpAny_Name (wpAny_loadName_free I.ok.kind hk hc hcell fin hcd) hd
theorem af {i j pos}:PE X (.Constant (.int i) j pos) (tC (.int i)):=fun _ _ _ H _ I h=>wpAny_Constant_int ⟨.int i,H,I.tok _,⟨_,rfl⟩,h⟩
theorem dY {b j pos}:PE X (.Constant (.bool b) j pos) (tC (.bl b)):=fun _ _ _ H _ I h=>Constant_bool ⟨.bl b,H,I,rfl,h⟩
theorem fS {j pos}:PE X (.Constant .none j pos) (tC .non):=fun _ _ _ H _ I h=>Constant_none ⟨.non,H,I,rfl,h⟩
theorem aF {x j pos}:PE X (.Constant (.str x) j pos) (tC (.str x)):=fun _ _ _ H _ I h=>Calls.Constant_str ⟨.str x,H,I.tok _,⟨_,rfl⟩,h⟩
def Gl (X:Cx) (x:Str):Prop:=X.env.kindOf x=some .globalImplicit
theorem eZ {E:Value→Shared→Prop} {pins:List (Addr×Obj)} {s:Shared} {σ : St} {H:Hp} {x:Str} {u:Value} {pos:Pos} {Q:Value→Shared→Prop} (I:Inv X pins σ H s) (hg:Gl X x) (hm:X.mg x=some u) (h:Q u s)
    (hd:(x == ("__debug__" : Str))=false:=by decide):wpAny (model X.prog X.w) X.A (eval (.Name x pos) X.env) Q E s:=
  Calls.Name_function_global I.ok.kind hg (Calls.loadGlobal_global (by rw [I.ok.glob];exact I.mod.glob.keeps I.bk) hm h) hd
theorem fV {E:Value→Shared→Prop} {pins:List (Addr×Obj)} {s:Shared} {σ : St} {H:Hp} {x:Str} {u:Value} {pos:Pos} {Q:Value→Shared→Prop} (I:Inv X pins σ H s) (hg:Gl X x) (hm:X.mg x=none) (hv:bootBuiltins x=some u) (h:Q u s)
    (hn:x ≠ "__name__" := by decide) (hd:(x == ("__debug__" : Str))=false:=by decide):wpAny (model X.prog X.w) X.A (eval (.Name x pos) X.env) Q E s:=by
  obtain ⟨mb,h1,h2⟩:=I.mod.blt
  exact Calls.Name_function_global I.ok.kind hg (Calls.loadGlobal_builtin (by rw [I.ok.glob];exact I.mod.glob.keeps I.bk) hm (by rw [I.ok.blt];exact h1.keeps I.bk) ((h2 x hn).trans hv) h) hd
theorem Dz {x:Str} {v:V} {u:Value} {pos:Pos} (hg:Gl X x) (hm:X.mg x=some u) (r:RelV v u) (hd:(x == ("__debug__" : Str))=false:=by decide):PE X (.Name x pos) (tC v):=
  fun _ _ _ H _ I h=>eZ I hg hm ⟨v,H,I,r,h⟩ hd
theorem pZ {x:Str} {v:V} {u:Value} {pos:Pos} (hg:Gl X x) (hm:X.mg x=none) (hv:bootBuiltins x=some u) (r:RelV v u) (hn:x ≠ "__name__" := by decide) (hd:(x == ("__debug__" : Str))=false:=by decide):PE X (.Name x pos) (tC v):=
  fun _ _ _ H _ I h=>fV I hg hm hv ⟨v,H,I,r,h⟩ hn hd
variable {a b:Expr} {ta tb:TE} {pos:Pos}
def PC (X:Cx) (op:CmpOp) (a b:Expr) (t:TE):Prop:=
  ∀ (pins:List (Addr×Obj)) (s:Shared) (σ : St) (H:Hp) (Q:VK),Inv X pins σ H s→t σ H Q →
    wpAny (model X.prog X.w) X.A (eval a X.env) (fun v s₁=>wpAny (model X.prog X.w) X.A (eval b X.env) (fun u s₂=>wpAny (model X.prog X.w) X.A (compareOp op v u) (EP X pins σ Q) X.xe s₂) X.xe s₁) X.xe s
theorem jx (b:Expr) {op:CmpOp} (h:op≠.In) (h2:op≠.NotIn):behindInMarks op b=false:=by
  have e1:(op == CmpOp.In)=false:=by cases op <;> first | rfl | exact absurd rfl h
  have e2:(op == CmpOp.NotIn)=false:=by cases op <;> first | rfl | exact absurd rfl h2
  cases b <;> simp [behindInMarks,e1,e2]
def IL (ta:TE):TE:=fun σ H Q=>ta σ H fun x H1=>Q (.bl (decide (x = .non))) H1
def Fq (ta:TE):TE:=fun σ H Q=>ta σ H fun x H1=>Q (.bl (!decide (x = .non))) H1
theorem RelV.sN {x:V} {v:Value} (r:RelV x v):(v == Value.none)=decide (x = .non):=by
  cases x with
  | non=>cases r;rfl
  | bl _=>cases r;rfl
  | int _=>obtain ⟨t,rfl⟩:=r;rfl
  | str _=>obtain ⟨t,rfl⟩:=r;rfl
  | byt _=>obtain ⟨t,rfl⟩:=r;rfl
  | flt _=>obtain ⟨t,rfl⟩:=r;rfl
  | ref _=>cases r;rfl
  | ty _=>cases r;rfl
theorem jV {j pos'} (ha:PE X a ta):PC X .Is a (.Constant .none j pos') (IL ta):=by
  intro pins s σ H Q I h
  refine thn (ha pins s σ H _ I h) fun v s1 ⟨x,H1,I1,r1,q1⟩=>?_
  exact Constant_none (is_none_gen ⟨.bl _,H1,I1,by rw [r1.sN];rfl,q1⟩)
theorem kT {j pos'} (ha:PE X a ta):PC X .IsNot a (.Constant .none j pos') (Fq ta):=by
  intro pins s σ H Q I h
  refine thn (ha pins s σ H _ I h) fun v s1 ⟨x,H1,I1,r1,q1⟩=>?_
  exact Constant_none (isnot_none_gen ⟨.bl _,H1,I1,by rw [r1.sN];rfl,q1⟩)
def tB (t:TE):TT:=fun σ H Q=>t σ H fun x H1=>∃ c,x = .bl c∧Q c H1
theorem AM {op:CmpOp} {t:TE} (h:PC X op a b t) (h1:behindInMarks op b=false:=by first | exact jx _ (by decide) (by decide) | rfl):PE X (.Compare a [op] [b] pos) t:=fun pins s σ H Q I hw=>wpAny_Compare1 (h pins s σ H Q I hw) h1
theorem e9 {op:CmpOp} {t:TE} (h:PC X op a b t) (h1:behindInMarks op b=false:=by first | exact jx _ (by decide) (by decide) | rfl):PT X (.Compare a [op] [b] pos) (tB t):=by
  intro pins s σ H Q I hw
  refine wpAny_isTrue_Compare1 (thn (h pins s σ H _ I hw) fun v s1 h1=>thn h1 fun u s2 h2=>thn h2 fun c s3 ⟨x,H1,I1,r1,q1⟩=>?_) h1
  obtain ⟨d,rfl,q⟩:=q1
  cases r1
  exact wpAny_truthy_bool ⟨H1,I1,q⟩
theorem cK {e:Expr} {t:TE} (h:PE X e t) (he:∀ whole,isTrue e X.env whole=(do let v ← whole;standAt e.pos;holding [v] (truthy v)):=by intro _;rfl):PT X e (tB t):=by
  intro pins s σ H Q I hw
  refine isTrue_plain (thn (h pins s σ H _ I hw) fun v s1 ⟨x,H1,I1,r1,q1⟩=>?_) (he _)
  obtain ⟨d,rfl,q⟩:=q1
  cases r1
  exact wpAny_truthy_bool ⟨H1,I1,q⟩
variable {tA tB':TT} {rest:List Expr}
def IT (t u:TT):TT:=fun σ H Q=>t σ H fun c H1=>if c=true then u σ H1 Q else Q false H1
def tOr (t u:TT):TT:=fun σ H Q=>t σ H fun c H1=>if c=true then Q true H1 else u σ H1 Q
def IK (t:TT):TT:=fun σ H Q=>t σ H fun c H1=>Q (!c) H1
theorem jv (ha:PT X a tA):PW X (.BoolOp .And [a] pos) tA:=by
  intro wh pins s σ H Q I h
  refine isTrue_and (thn (ha pins s σ H Q I h) fun c s1 e=>?_)
  cases c with
  | true=>exact isTrue_and_nil e
  | false=>exact e
theorem fR (ha:PT X a tA):PW X (.BoolOp .Or [a] pos) tA:=by
  intro wh pins s σ H Q I h
  refine isTrue_or (thn (ha pins s σ H Q I h) fun c s1 e=>?_)
  cases c with
  | false=>exact isTrue_or_nil e
  | true=>exact e
theorem lD (ha:PT X a tA) (hb:PW X (.BoolOp .And (b::rest) pos) tB'):PW X (.BoolOp .And (a::b::rest) pos) (IT tA tB'):=by
  intro wh pins s σ H Q I h
  refine isTrue_and (thn (ha pins s σ H _ I h) fun c s1 ⟨H1,I1,q1⟩=>?_)
  cases c with
  | true=>exact hb wh pins s1 σ H1 Q I1 q1
  | false=>exact ⟨H1,I1,q1⟩
theorem iU (ha:PT X a tA) (hb:PW X (.BoolOp .Or (b::rest) pos) tB'):PW X (.BoolOp .Or (a::b::rest) pos) (tOr tA tB'):=by
  intro wh pins s σ H Q I h
  refine isTrue_or (thn (ha pins s σ H _ I h) fun c s1 ⟨H1,I1,q1⟩=>?_)
  cases c with
  | true=>exact ⟨H1,I1,q1⟩
  | false=>exact hb wh pins s1 σ H1 Q I1 q1
theorem cT (ha:PT X a tA):PT X (.UnaryOp .Not a pos) (IK tA):=by
  intro pins s σ H Q I h
  exact isTrue_not (ha pins s σ H (fun c H1=>Q (!c) H1) I h)
def FD (ta tb:TE):TE:=fun σ H Q=>ta σ H fun x H1=>∃ c,x = .bl c∧if c=true then tb σ H1 Q else Q (.bl false) H1
def IJ (ta tb:TE):TE:=fun σ H Q=>ta σ H fun x H1=>∃ c,x = .bl c∧if c=true then Q (.bl true) H1 else tb σ H1 Q
def Fp (ta:TE):TE:=fun σ H Q=>ta σ H fun x H1=>∃ c,x = .bl c∧Q (.bl (!c)) H1
theorem dS {op} {t:TE} (h:PE X a t):PE X (.BoolOp op [a] pos) t:=fun pins s σ H Q I hw=>BoolOp_one (h pins s σ H Q I hw)
theorem gO (ha:PE X a ta) (hb:PE X (.BoolOp .And (b::rest) pos) tb):PE X (.BoolOp .And (a::b::rest) pos) (FD ta tb):=by
  intro pins s σ H Q I h
  refine BoolOp_and (thn (ha pins s σ H _ I h) fun v s1 ⟨x,H1,I1,r1,q1⟩=>?_)
  obtain ⟨c,rfl,q1⟩:=q1
  cases r1
  refine wpAny_truthy_bool ?_
  cases c with
  | true=>exact hb pins s1 σ H1 Q I1 q1
  | false=>exact ⟨.bl false,H1,I1,rfl,q1⟩
theorem wQ (ha:PE X a ta) (hb:PE X (.BoolOp .Or (b::rest) pos) tb):PE X (.BoolOp .Or (a::b::rest) pos) (IJ ta tb):=by
  intro pins s σ H Q I h
  refine BoolOp_or (thn (ha pins s σ H _ I h) fun v s1 ⟨x,H1,I1,r1,q1⟩=>?_)
  obtain ⟨c,rfl,q1⟩:=q1
  cases r1
  refine wpAny_truthy_bool ?_
  cases c with
  | false=>exact hb pins s1 σ H1 Q I1 q1
  | true=>exact ⟨.bl true,H1,I1,rfl,q1⟩
theorem AH (ha:PE X a ta):PE X (.UnaryOp .Not a pos) (Fp ta):=by
  intro pins s σ H Q I h
  refine UnaryOp_ (thn (ha pins s σ H _ I h) fun v s1 ⟨x,H1,I1,r1,q1⟩=>?_)
  obtain ⟨c,rfl,q1⟩:=q1
  cases r1
  exact not_of (wpAny_truthy_bool ⟨.bl (!c),H1,I1,rfl,q1⟩)
def tIf (t:TT) (ta tb:TE):TE:=fun σ H Q=>t σ H fun c H1=>if c=true then ta σ H1 Q else tb σ H1 Q
theorem eG {c:Expr} (hc:PT X c tA) (ha:PE X a ta) (hb:PE X b tb):PE X (.IfExp c a b pos) (tIf tA ta tb):=by
  intro pins s σ H Q I h
  refine wpAny_IfExp (thn (hc pins s σ H _ I h) fun d s1 ⟨H1,I1,q1⟩=>?_)
  cases d with
  | true=>exact ha pins s1 σ H1 Q I1 q1
  | false=>exact hb pins s1 σ H1 Q I1 q1
end
def SqL (K:PySem.W.Frag) (H:Hp) (a:Addr) (xs:List V):Prop:=
  Rd H a (.lst xs) ∨
    ∃ (o:Obj) (its:Array Value) (n:Nat),K.lookup a=some o∧o.cls = .type "list" ∧ o.dict=none∧o.data = .seq its n∧its.size≤sizeLine∧Vals xs its.toList
def SqT (K:PySem.W.Frag) (H:Hp) (a:Addr) (xs:List V):Prop:=
  Rd H a (.tup xs) ∨
    ∃ (o:Obj) (its:Array Value) (n:Nat),K.lookup a=some o∧o.cls = .type "tuple" ∧ o.data = .seq its n∧its.size≤sizeLine∧Vals xs its.toList
def Ld:Value→Option V
  | .none=>some .non
  | .bool b=>some (.bl b)
  | .int i _=>some (.int i)
  | .str x _=>some (.str x)
  | .bytes b _=>some (.byt b)
  | .float b _=>some (.flt b)
  | .ref a=>some (.ref a)
  | .type n=>some (.ty n)
  | _=>none
theorem RelV.abs {x:V} {u:Value} (r:RelV x u):Ld u=some x:=by
  cases x with
  | non=>cases r;rfl
  | bl _=>cases r;rfl
  | int _=>obtain ⟨t,rfl⟩:=r;rfl
  | str _=>obtain ⟨t,rfl⟩:=r;rfl
  | byt _=>obtain ⟨t,rfl⟩:=r;rfl
  | flt _=>obtain ⟨t,rfl⟩:=r;rfl
  | ref _=>cases r;rfl
  | ty _=>cases r;rfl
theorem RelV.inj {x y:V} {u:Value} (r:RelV x u) (q:RelV y u):x=y:=Option.some.inj (r.abs.symm.trans q.abs)
theorem Vals.inj:∀ {xs ys:List V} {us:List Value},Vals xs us→Vals ys us→xs=ys
  | _,_,_,.nil,.nil=>rfl
  | _,_,_,.cons r t,.cons r' t'=>by rw [r.inj r',Vals.inj t t']
section
variable {X:Cx} {pins:List (Addr×Obj)} {σ : St} {H:Hp} {s:Shared} {a:Addr} {xs ys:List V}
theorem SqL.of {K:PySem.W.Frag} (h:H a=some (.lst xs)):SqL K H a xs:=.inl (.inl h)
theorem SqT.of {K:PySem.W.Frag} (h:H a=some (.tup xs)):SqT K H a xs:=.inl (.inl h)
theorem Inv.list (I:Inv X pins σ H s) (h:SqL X.K H a xs):∃ its:List Value,Vals xs its∧PlainL s.heap a its.toArray∧xs.length≤sizeLine:=by
  rcases h with h | ⟨o,its,n,hk,hc,hd,hs,hz,r⟩
  · obtain ⟨z,its,n,r,e⟩:=h.ok I.hok
    exact ⟨its,r,⟨_,n,e,rfl,rfl,rfl⟩,z⟩
  · refine ⟨its.toList,r,⟨o,n,I.kIn a o hk,hc,hd,by simpa using hs⟩,?_⟩
    have e:=r.length
    simp only [Array.length_toList] at e
    omega
theorem Inv.tuple (I:Inv X pins σ H s) (h:SqT X.K H a xs):∃ its:List Value,Vals xs its∧IsTup s.heap a its.toArray∧xs.length≤sizeLine:=by
  rcases h with h | ⟨o,its,n,hk,hc,hs,hz,r⟩
  · obtain ⟨z,its,r,p⟩:=h.ok I.hok
    exact ⟨its,r,p,z⟩
  · refine ⟨its.toList,r,⟨o,I.kIn a o hk,hc,n,by simpa using hs⟩,?_⟩
    have e:=r.length
    simp only [Array.length_toList] at e
    omega
theorem Inv.lP (I:Inv X pins σ H s) (h:SqL X.K H a xs) (h':SqL X.K H a ys):xs=ys:=by
  obtain ⟨its,r,⟨o,n,e,_,_,d⟩,_⟩:=I.list h
  obtain ⟨its',r',⟨o',n',e',_,_,d'⟩,_⟩:=I.list h'
  rw [e] at e';cases e'
  rw [d] at d'
  injection d' with d1 _
  have:its=its':=by simpa using congrArg Array.toList d1
  subst this
  exact r.inj r'
theorem Inv.nN (I:Inv X pins σ H s) (h:SqT X.K H a xs) (h':SqT X.K H a ys):xs=ys:=by
  obtain ⟨its,r,⟨o,e,_,n,d⟩,_⟩:=I.tuple h
  obtain ⟨its',r',⟨o',e',_,n',d'⟩,_⟩:=I.tuple h'
  rw [e] at e';cases e'
  rw [d] at d'
  injection d' with d1 _
  have:its=its':=by simpa using congrArg Array.toList d1
  subst this
  exact r.inj r'
end
abbrev Cx.i0 (X:Cx) (E:Value→Shared→Prop):Cx:={ X with xe:=E }
abbrev Cx.nox (X:Cx):Cx:=X.i0 fun _ _=>False
theorem Cx.Ok.i0 {X:Cx} (ok:X.Ok) (E:Value→Shared→Prop):(X.i0 E).Ok:=
  ⟨ok.mod,ok.kind,ok.glob,ok.blt,ok.above,ok.inj,ok.has,ok.cab,ok.hd,ok.frames,ok.stk,ok.exf,ok.bs,ok.bsz,ok.noex,ok.exfs,ok.g8,ok.frf⟩
theorem Cx.Ok.dm {X:Cx} {E:Value→Shared→Prop} (ok:(X.i0 E).Ok):X.Ok:=
  ⟨ok.mod,ok.kind,ok.glob,ok.blt,ok.above,ok.inj,ok.has,ok.cab,ok.hd,ok.frames,ok.stk,ok.exf,ok.bs,ok.bsz,ok.noex,ok.exfs,ok.g8,ok.frf⟩
section
variable {X:Cx} {pins:List (Addr×Obj)} {σ : St} {H:Hp} {s:Shared} {E:Value→Shared→Prop}
theorem Inv.i0 (I:Inv X pins σ H s) (E:Value→Shared→Prop):Inv (X.i0 E) pins σ H s:=⟨I.ok.i0 E,I.os,I.bare,I.base,I.loc,I.cell,I.free,I.freeC,I.pin,I.hok,I.len⟩
theorem Inv.dm (I:Inv (X.i0 E) pins σ H s):Inv X pins σ H s:=⟨I.ok.dm,I.os,I.bare,I.base,I.loc,I.cell,I.free,I.freeC,I.pin,I.hok,I.len⟩
theorem SP.dm {D:Ends} {f:Flow} {s':Shared} (h:SP (X.i0 E) pins D f s'):SP X pins D f s':=by
  cases f with
  | next=>obtain ⟨σ',H',I,q⟩:=h;exact ⟨σ',H',I.dm,q⟩
  | brk=>obtain ⟨σ',H',I,q⟩:=h;exact ⟨σ',H',I.dm,q⟩
  | cont=>obtain ⟨σ',H',I,q⟩:=h;exact ⟨σ',H',I.dm,q⟩
  | ret u=>obtain ⟨v,σ',H',I,r,q⟩:=h;exact ⟨v,σ',H',I.dm,r,q⟩
theorem PSs.nox {st:List Stmt} {t:TS} (h:PSs X.nox st t):PSs X st t:=fun pins s σ H D I hw=>
  wpAny_mono (h pins s σ H D (I.i0 _) hw) (fun _ _ q=>q.dm) fun _ _ z=>False.elim z
end
section
variable {X:Cx} {st:Stmt} {rest:List Stmt} {t u:TS} {e:Expr} {te:TE} {pos:Pos}
def Ft:TS:=fun D σ H=>D.nx σ H
def Gf (t u:TS):TS:=fun D σ H=>t { D with nx:=u D } σ H
theorem aK:PSs X [] Ft:=fun _ _ σ H _ I h=>wpAny_execs_nil ⟨σ,H,I,h⟩
theorem aj (h1:PS X st t) (h2:PSs X rest u):PSs X (st::rest) (Gf t u):=by
  intro pins s σ H D I h
  refine wpAny_execs_cons (thn (h1 pins s σ H { D with nx:=u D } I h) fun f s1 q=>?_)
  cases f with
  | next=>
    obtain ⟨σ',H',I',q⟩:=q
    exact h2 pins s1 σ' H' D I' q
  | ret v=>exact q
  | brk=>exact q
  | cont=>exact q
theorem ak (h1:PS X st t):PSs X [st] t:=by
  intro pins s σ H D I h
  refine wpAny_execs_cons (thn (h1 pins s σ H D I h) fun f s1 q=>?_)
  cases f with
  | next=>exact wpAny_execs_nil q
  | ret v=>exact q
  | brk=>exact q
  | cont=>exact q
theorem Inv.quiet {pins:List (Addr×Obj)} {σ : St} {H:Hp} {s:Shared} (I:Inv X pins σ H s):interactive X.env=false:=by simp [interactive,I.ok.kind]
def Fy (te:TE):TS:=fun D σ H=>te σ H fun _ H1=>D.nx σ H1
theorem ck (he:PE X e te) (hs:swapsWith e none pos.line X.env=pure false:=by rfl):PS X (.Expr e pos) (Fy te):=by
  intro pins s σ H D I h
  exact wpAny_Expr_any (thn (he pins s σ H _ I h) fun v s1 ⟨x,H1,I1,r1,q1⟩=>⟨σ,H1,I1,q1⟩) I.quiet hs
def II (te:TE):TS:=fun D σ H=>te σ H D.rt
theorem az (he:PE X e te):PS X (.Return (some e) pos) (II te):=by
  intro pins s σ H D I h
  exact wpAny_Return_some (thn (he pins s σ H _ I h) fun v s1 ⟨x,H1,I1,r1,q1⟩=>⟨x,σ,H1,I1,r1,q1⟩)
def IM (c:TT) (t u:TS):TS:=fun D σ H=>c σ H fun b H1=>if b=true then t D σ H1 else u D σ H1
theorem bg {c:Expr} {a b:List Stmt} {tc:TT} (hc:PT X c tc) (ha:PSs X a t) (hb:PSs X b u):PS X (.If c a b pos) (IM tc t u):=by
  intro pins s σ H D I h
  refine wpAny_If (thn (hc pins s σ H _ I h) fun d s1 ⟨H1,I1,q1⟩=>?_)
  cases d with
  | true=>exact ha pins s1 σ H1 D I1 q1
  | false=>exact hb pins s1 σ H1 D I1 q1
def Gg:TS:=fun _ _ _=>False
theorem gK:PS X st Gg:=fun _ _ _ _ _ _ h=>h.elim
end
abbrev TG:=V→St→Hp→(St→Hp→Prop)→Prop
abbrev TGs:=List V→St→Hp→(St→Hp→Prop)→Prop
def PG (X:Cx) (target:Expr) (t:TG):Prop:=
  ∀ (pins:List (Addr×Obj)) (s:Shared) (σ : St) (H:Hp) (v:V) (u:Value) (Q:St→Hp→Prop),Inv X pins σ H s→RelV v u→t v σ H Q →
    wpAny (model X.prog X.w) X.A (assign target X.env u) (fun _ s'=>∃ σ' H',Inv X pins σ' H' s'∧Q σ' H') X.xe s
def PGs (X:Cx) (ts:List Expr) (t:TGs):Prop:=
  ∀ (pins:List (Addr×Obj)) (s:Shared) (σ : St) (H:Hp) (vs:List V) (us:List Value) (Q:St→Hp→Prop),Inv X pins σ H s→Vals vs us→t vs σ H Q →
    wpAny (model X.prog X.w) X.A (assignInOrder ((assignEach ts X.env).map (·.2)) us) (fun _ s'=>∃ σ' H',Inv X pins σ' H' s'∧Q σ' H') X.xe s
abbrev Ii:=V→V→V→Hp→(Hp→Prop)→Prop
def Ku (X:Cx) (t:Ii):Prop:=
  ∀ (pins:List (Addr×Obj)) (s:Shared) (σ : St) (H:Hp) (o i v:V) (ov iv u:Value) (Q:Hp→Prop),Inv X pins σ H s→RelV o ov→RelV i iv→RelV v u→t o i v H Q →
    wpAny (model X.prog X.w) X.A (setItem ov iv u) (fun _ s'=>∃ H',Inv X pins σ H' s'∧Q H') X.xe s
section
variable {X:Cx} {pos:Pos}
abbrev bE (i:Nat):TG:=fun v σ H Q=>Q (σ.set i (some v)) H
theorem bB {i:Nat} {x:Str} (hN:X.N.Nodup) (hi:X.N[i]?=some x) (hx:Loc X.env.scope x) (hf:X.fn x=true∨X.env.scope.names.lookup x=some .local:=by first | exact .inl rfl | exact .inr rfl | assumption):PG X (.Name x pos) (bE i):=by
  intro pins s σ H v u Q I r h
  exact wpAny_assign_Name (rA I hN hi hx r (fun s' I'=>⟨_,H,I',h⟩) hf)
def Kc:TGs:=fun vs σ H Q=>vs=[]∧Q σ H
def F3 (t:TG) (u:TGs):TGs:=fun vs σ H Q=>∃ v r,vs=v::r∧t v σ H fun σ' H'=>u r σ' H' Q
theorem iH:PGs X [] Kc:=by
  intro pins s σ H vs us Q I r h
  obtain ⟨e,h⟩:=h
  subst e
  cases r
  exact assignInOrder_nil ⟨σ,H,I,h⟩
theorem cz {e:Expr} {es:List Expr} {t:TG} {u:TGs} (h1:PG X e t) (h2:PGs X es u)
    (hs:(assignEach (e::es) X.env).map (·.2)=assign e X.env::(assignEach es X.env).map (·.2):=by rfl):PGs X (e::es) (F3 t u):=by
  intro pins s σ H vs us Q I r h
  obtain ⟨v,vr,e1,h⟩:=h
  subst e1
  cases r with
  | cons r rr=>
    rw [hs]
    refine assignInOrder_cons (thn (h1 pins s σ H _ _ _ I r h) fun _ s1 ⟨σ1,H1,I1,q1⟩=>?_)
    exact h2 pins s1 σ1 H1 _ _ Q I1 rr q1
def J2 (K:PySem.W.Frag) (n:Nat) (t:TGs):TG:=fun v σ H Q=>∃ a xs,v = .ref a∧SqT K H a xs∧xs.length=n∧t xs σ H Q
theorem jU {es:List Expr} {k:Nat} {t:TGs} {n:Nat} (hc:X.calm=true) (h:PGs X es t)
    (hn:(assignEach es X.env).length=n:=by rfl) (hst:(assignEach es X.env).findIdx? (·.1)=none:=by rfl):PG X (.Tuple es k pos) (J2 X.K n t):=by
  intro pins s σ H v u Q I r hw
  obtain ⟨a,xs,e1,hq,hl,hw⟩:=hw
  subst e1
  cases r
  obtain ⟨its,rv,ht,hz⟩:=I.tuple hq
  refine assign_Tuple_tuple (I.ok.hd hc) ht (by simp [hn,← hl,rv.length]) hst fun h' hx=>?_
  have I1:Inv X pins σ H { s with heap:=h' }:=I.kept (t':=s.toks) fun b o e=>hx b o (Nat.ne_of_lt (Heap.lt_size e)) e
  exact h pins _ σ H xs _ Q I1 (by simpa using rv) hw
def Lb (to ti:TE) (t:Ii):TG:=fun v σ H Q=>to σ H fun o H1=>ti σ H1 fun i H2=>t o i v H2 fun H3=>Q σ H3
theorem lH {o i:Expr} {to ti:TE} {t:Ii} (ho:PE X o to) (hi:PE X i ti) (hs:Ku X t)
    (ha:∀ v,assign (.Subscript o i pos) X.env v=(do
      let ov ← holding [v] (eval o X.env)
      let iv ← holding [v,ov] (eval i X.env)
      standAt pos
      holding [v,ov,iv] (setItem ov iv v)
      release [v,ov,iv] []):=by intro _;rfl):PG X (.Subscript o i pos) (Lb to ti t):=by
  intro pins s σ H v u Q I r h
  rw [ha]
  refine wpAny_bind (wpAny_holding (thn (ho pins s σ H _ I h) fun ov s1 ⟨x,H1,I1,r1,q1⟩=>?_))
  refine wpAny_bind (wpAny_holding (thn (hi pins s1 σ H1 _ I1 q1) fun iv s2 ⟨y,H2,I2,r2,q2⟩=>?_))
  refine wpAny_bind (wpAny_standAt (wpAny_bind (wpAny_holding (thn (hs pins s2 σ H2 x y v ov iv u _ I2 r1 r2 r q2) fun _ s3 ⟨H3,I3,q3⟩=>?_))))
  exact wpAny_release ⟨σ,H3,I3,q3⟩
def Gh (te:TE) (g:TG):TS:=fun D σ H=>te σ H fun x H1=>g x σ H1 D.nx
theorem ff {tg e:Expr} {te:TE} {g:TG} (he:PE X e te) (hg:PG X tg g) (hs:swapsWithSole [tg] e pos.line X.env=pure false:=by rfl) (hw:swappedStores [tg] e X.env=pure none:=by rfl)
    (h1:(assignEach [tg] X.env).map (·.2)=[assign tg X.env]:=by rfl):PS X (.Assign [tg] e pos) (Gh te g):=by
  intro pins s σ H D I h
  refine wpAny_Assign_stores (thn (he pins s σ H _ I h) fun v s1 ⟨x,H1,I1,r1,q1⟩=>?_) hs hw
  rw [h1]
  exact thn (hg pins s1 σ H1 x v _ I1 r1 q1) fun _ s2 q=>q
theorem aL {i:Nat} {x:Str} {e:Expr} {te:TE} {pos':Pos} (hN:X.N.Nodup) (hi:X.N[i]?=some x) (hx:Loc X.env.scope x) (he:PE X e te) (hs:swapsWith e (some (.Name x pos')) pos.line X.env=pure false:=by rfl) (hf:X.fn x=true∨X.env.scope.names.lookup x=some .local:=by first | exact .inl rfl | exact .inr rfl | assumption) :
    PS X (.Assign [.Name x pos'] e pos) (Gh te (bE i)):=by
  intro pins s σ H D I h
  refine wpAny_Assign_Name (thn (he pins s σ H _ I h) fun v s1 ⟨y,H1,I1,r1,q1⟩=>?_) hs
  exact rA I1 hN hi hx r1 (fun s2 I2=>⟨_,H1,I2,q1⟩) hf
end
structure It where
  go:Nat→Hp→Prop
  yld:Nat→Hp→V→Hp→Prop
  stop:Nat→Hp→Prop
def mT (X:Cx) (pins:List (Addr×Obj)) (H:Hp) (b:Addr):Prop:=
  H b=none∧b≠X.env.locals∧b∉X.fs∧(b∈X.ex∨X.s₀.heap.objs.size≤b)∧(∀ x c,X.env.cells.lookup x=some c→c≠b)∧∀ p∈X.pn++pins,p.1≠b
theorem Inv.Ke {X:Cx} {pins:List (Addr×Obj)} {σ : St} {H H':Hp} {s:Shared} {b:Addr} (I:Inv X pins σ H s) (hb:s.heap.objs.size≤b) (hn:H' b=none):mT X pins H' b:=by
  refine ⟨hn,Nat.ne_of_gt (Nat.lt_of_lt_of_le I.lt hb),I.Jm hb,.inr (Nat.le_trans I.sz hb),fun x c e z=>?_,fun p hp z=>?_⟩
  · obtain ⟨v,q⟩:=I.cell x c e
    exact absurd (Nat.lt_of_lt_of_le q.lt (by rw [z];exact hb)) (Nat.lt_irrefl _)
  · exact absurd (Nat.lt_of_lt_of_le (Heap.lt_size (I.pin p hp).1) (by rw [z];exact hb)) (Nat.lt_irrefl _)
structure Turn (P:Program) (w:World) (K:PySem.W.Frag) (tg:Expr) (J:It) (fp:List Addr) (it:Addr) (tn:Nat→Heap→Prop):Prop where
  mem:it∈fp
  obj:∀ i h,tn i h→∀ b∈fp,∃ o,h.get? b=some o∧∀ v,o.data≠.cell v
  keep:∀ i h h',tn i h→(∀ b∈fp,∀ o,h.get? b=some o→h'.get? b=some o)→tn i h'
  item:∀ (X:Cx),X.prog=P→X.w=w→X.K=K→X.calm=true→∀ (i:Nat) (pins:List (Addr×Obj)) (s:Shared) (σ : St) (H:Hp) (E:Value→Shared→Prop),Inv X pins σ H s→(∀ b∈fp,mT X pins H b)→tn i s.heap→J.go i H →
    wpAny (model P w) X.A (pyNext (.ref it)) (fun r s1=>∃ u,r=some u ∧
      wpAny (model P w) X.A (letOwnedTupleGo tg (.ref it) u) (fun _ s2=>∃ x H',Inv X pins σ H' s2∧RelV x u∧J.yld i H x H'∧tn (i+1) s2.heap∧∀ b∈fp,H' b=none) E s1) E s
  done:∀ (X:Cx),X.prog=P→X.w=w→X.K=K→X.calm=true→∀ (i:Nat) (pins:List (Addr×Obj)) (s:Shared) (σ : St) (H:Hp) (E:Value→Shared→Prop),Inv X pins σ H s→(∀ b∈fp,mT X pins H b)→tn i s.heap→J.stop i H →
    wpAny (model P w) X.A (pyNext (.ref it)) (fun r s1=>r=none∧Inv X pins σ H s1) E s
  self:∀ (A:Around) (i:Nat) (s:Shared) (Q:Value→Shared→Prop) (E:Value→Shared→Prop),tn i s.heap→Q (.ref it) s→wpAny (model P w) A (pyIter (.ref it)) Q E s
abbrev TI:=St→Hp→(It→Hp→Prop)→Prop
def PIE (X:Cx) (pins:List (Addr×Obj)) (σ : St) (tg:Expr) (R:It→Hp→Prop) (itv:Value) (s2:Shared):Prop:=
  ∃ (it:Addr) (fp:List Addr) (tn:Nat→Heap→Prop) (J:It) (H':Hp),itv = .ref it∧Inv X pins σ H' s2∧Turn X.prog X.w X.K tg J fp it tn∧tn 0 s2.heap∧(∀ b∈fp,mT X pins H' b)∧R J H'
def PI (X:Cx) (tg iter:Expr) (wi:TI):Prop:=
  ∀ (pins:List (Addr×Obj)) (s:Shared) (σ : St) (H:Hp) (R:It→Hp→Prop),Inv X pins σ H s→wi σ H R →
    wpAny (model X.prog X.w) X.A (eval iter X.env) (fun v s1=>wpAny (model X.prog X.w) X.A (pyIter v) (PIE X pins σ tg R) X.xe s1) X.xe s
theorem FZ {M:Model} {A:Around} {E:Value→Shared→Prop} {s:Shared} {tg:Expr} {it:Addr} {u:Value} {o:Obj} {n:String} {vs:Array Value} {Q:Unit→Shared→Prop} (ho:s.heap.get? it=some o) (hc:o.cls = .type n) (hd:o.data = .fields vs)
    (hn:["enumerate", "zip", "dict_itemiterator", "dict_reverseitemiterator", "odict_iterator", "itertools.zip_longest", "itertools.pairwise"].contains n=false) (hQ:Q () s):wpAny M A (letOwnedTupleGo tg (.ref it) u) Q E s:=by
  unfold letOwnedTupleGo
  cases tg <;> first
    | exact wpAny_pure hQ
    | (cases u <;> first
        | exact wpAny_pure hQ
        | (refine wpAny_bind (wpAny_load ho ?_)
           rw [hc,hd]
           show wpAny M A (if (["enumerate", "zip", "dict_itemiterator", "dict_reverseitemiterator", "odict_iterator", "itertools.zip_longest", "itertools.pairwise"].contains n && vs[0]? == some (rawInt _))=true then _ else _) Q E s
           rw [if_neg (by intro h;rw [hn,Bool.false_and] at h;cases h)]
           exact wpAny_pure hQ))
def Itl (K:PySem.W.Frag) (a:Addr):It:=
  ⟨fun i H=>∃ xs x,SqL K H a xs∧xs[i]?=some x,fun i H x H'=>H'=H∧∀ xs,SqL K H a xs→xs[i]?=some x,fun i H=>∃ xs,SqL K H a xs∧xs.length≤i⟩
def Itr (lo:Int) (n:Nat):It:=⟨fun i _=>i < n,fun i H x H'=>H'=H∧x = .int (lo+i),fun i _=>n≤i⟩
theorem xO {P:Program} {w:World} {K:PySem.W.Frag} {tg:Expr} (a it:Addr):Turn P w K tg (Itl K a) [it] it (fun i h=>h.IsListIter it a i) where
  mem:=by simp
  obj:=fun i h st b hb=>by
    have e:b=it:=by simpa using hb
    subst e
    obtain ⟨o,e,c,d⟩:=st
    exact ⟨o,e,fun v z=>by rw [d] at z;cases z⟩
  keep:=fun i h h' st k=>st.at fun o e=>k it (by simp) o e
  item:=by
    intro X hP hw hK hc i pins s σ H E I hf st hg
    subst hP hw hK
    obtain ⟨xs,x,hq,hx⟩:=hg
    obtain ⟨its,rv,p,hz⟩:=I.list hq
    obtain ⟨u,hu,ru⟩:=rv.get hx
    obtain ⟨f0,f1,f2,f3,f4,f5⟩:=hf it (by simp)
    refine wpAny_pyNext_list_item st p.isList (x:=u) (by simpa using hu) fun h' st' sb=>?_
    have I1:Inv X pins σ H { s with heap:=h' }:=I.turned (t':=s.toks) (fun b o hb e=>(sb.2 b hb).trans e) f0 f1 f3 f4 f5
    obtain ⟨o,e,c,d⟩:=id st'
    exact ⟨u,rfl,FZ (s:={ s with heap:=h' }) e c d (by decide) ⟨x,H,I1,ru,⟨rfl,fun ys hy=>by rw [I.lP hy hq];exact hx⟩,st',fun b hb=>(hf b hb).1⟩⟩
  done:=by
    intro X hP hw hK hc i pins s σ H E I hf st hg
    subst hP hw hK
    obtain ⟨xs,hq,hx⟩:=hg
    obtain ⟨its,rv,p,hz⟩:=I.list hq
    obtain ⟨f0,f1,f2,f3,f4,f5⟩:=hf it (by simp)
    have hl:=rv.length
    exact wpAny_pyNext_list_end (I.ok.hd hc) st p.isList (by simp;omega) fun h' eb=>⟨rfl,I.turned (t':=s.toks) (fun b o hb e=>eb b o hb e) f0 f1 f3 f4 f5⟩
  self:=fun _ _ _ _ _ st h=>wpAny_pyIter_listiter st h
theorem ur {P:Program} {w:World} {K:PySem.W.Frag} {tg:Expr} (it:Addr) (lo:Int) (n:Nat):Turn P w K tg (Itr lo n) [it] it (fun i h=>IsRangeIter h it (lo+(i:Nat) * 1) ((n:Int) - (i:Nat)) 1) where
  mem:=by simp
  obj:=fun i h st b hb=>by
    have e:b=it:=by simpa using hb
    subst e
    exact ⟨_,st,fun v z=>by
      have z':Data.fields _=Data.cell v:=z
      cases z'⟩
  keep:=fun i h h' st k=>k it (by simp) _ st
  item:=by
    intro X hP hw hK hc i pins s σ H E I hf st hg
    subst hP hw hK
    obtain ⟨f0,f1,f2,f3,f4,f5⟩:=hf it (by simp)
    have W:=Walks.range (prog:=X.prog) (w:=X.w) (I.ok.hd hc) it lo 1 n
    refine W.item i s _ _ hg st fun v h' tk hv st' kk=>?_
    obtain ⟨t,rfl⟩:=hv
    have I1:Inv X pins σ H { s with heap:=h',toks:=tk }:=I.turned (fun b o hb e=>kk b o (by simpa using hb) e) f0 f1 f3 f4 f5
    refine ⟨_,rfl,FZ (s:={ s with heap:=h',toks:=tk }) (n:="range_iterator") st' rfl rfl (by decide) ⟨.int (lo+i),H,I1,⟨t,?_⟩,⟨rfl,rfl⟩,st',fun b hb=>(hf b hb).1⟩⟩
    rw [Int.mul_one]
  done:=by
    intro X hP hw hK hc i pins s σ H E I hf st hg
    subst hP hw hK
    obtain ⟨f0,f1,f2,f3,f4,f5⟩:=hf it (by simp)
    exact wpAny_pyNext_range_end (I.ok.hd hc) st (by have:n≤i:=hg;omega) fun h' eb=>⟨rfl,I.turned (t':=s.toks) (fun b o hb e=>eb b o hb e) f0 f1 f3 f4 f5⟩
  self:=fun _ _ _ _ _ st h=>wpAny_pyIter_rangeiter st h
section
variable {X:Cx} {tg:Expr}
def FY (K:PySem.W.Frag) (tl:TE):TI:=fun σ H R=>tl σ H fun x H1=>∃ a,x = .ref a∧(∃ xs,SqL K H1 a xs)∧R (Itl K a) H1
theorem d8 {l:Expr} {tl:TE} (hl:PE X l tl):PI X tg l (FY X.K tl):=by
  intro pins s σ H R I h
  refine thn (hl pins s σ H _ I h) fun v s1 ⟨x,H1,I1,r1,q1⟩=>?_
  obtain ⟨a,e,⟨xs,hq⟩,q⟩:=q1
  subst e
  cases r1
  obtain ⟨its,rv,p,hz⟩:=I1.list hq
  refine wpAny_pyIter_list p.isList ?_
  refine ⟨s1.heap.objs.size,[s1.heap.objs.size],_,_,H1,rfl,I1.kept (t':=s1.toks) fun b o e=>Heap.get?_push_of_some _ e,xO a _,⟨_,Heap.get?_push_size _ rfl,rfl,rfl⟩,fun b hb=>?_,q⟩
  have e:b=s1.heap.objs.size:=by simpa using hb
  subst e
  exact I1.Ke (Nat.le_refl _) (I1.hok.fresh (Nat.le_refl _))
theorem rY {pins:List (Addr×Obj)} {σ : St} {H:Hp} {s:Shared} {R:It→Hp→Prop} {E:Value→Shared→Prop} {lo hi:Int} {t u v:Tok} {tk:Nat} (I:Inv X pins σ H s) (h1 : -(2 ^ 62)≤lo) (h2:lo < 2 ^ 62) (h3 : -(2 ^ 62)≤hi) (h4:hi < 2 ^ 62)
    (q:R (Itr lo (hi - lo).toNat) H):wpAny (model X.prog X.w) X.A (pyIter (.ref s.heap.objs.size)) (PIE X pins σ tg R) E { s with heap:=s.heap.push { cls:=.type "range",data:=.fields #[.int lo t,.int hi u,.int 1 v] },toks:=tk }:=by
  refine wpAny_pyIter_range (IsRange.new ..) (small_one h1 h2 h3 h4) ?_
  have I1:Inv X pins σ H { s with heap:=s.heap.push { cls:=.type "range",data:=.fields #[.int lo t,.int hi u,.int 1 v] },toks:=tk }:=I.kept fun b o e=>Heap.get?_push_of_some _ e
  refine ⟨(s.heap.push { cls:=.type "range",data:=.fields #[.int lo t,.int hi u,.int 1 v] }).objs.size,[(s.heap.push { cls:=.type "range",data:=.fields #[.int lo t,.int hi u,.int 1 v] }).objs.size],_,_,H,rfl,
    I1.kept (t':=tk) fun b o e=>Heap.get?_push_of_some _ e,ur _ lo (hi - lo).toNat,?_,fun b hb=>?_,q⟩
  · have e1:lo+((0:Nat):Int) * 1=lo:=by simp
    have e2:(((hi - lo).toNat:Nat):Int) - ((0:Nat):Int)=Builtin.Range.rangeSize lo hi 1:=by rw [rangeSize_one];split <;> omega
    show IsRangeIter _ _ (lo+((0:Nat):Int) * 1) ((((hi - lo).toNat:Nat):Int) - ((0:Nat):Int)) 1
    rw [e1,e2]
    exact Heap.get?_push_size _ rfl
  · have e:b=(s.heap.push { cls:=.type "range",data:=.fields #[.int lo t,.int hi u,.int 1 v] }).objs.size:=by simpa using hb
    subst e
    exact I1.Ke (Nat.le_refl _) (I1.hok.fresh (Nat.le_refl _))
def FW (ta:TA):TI:=fun σ H R=>ta σ H fun vs H1=>∃ j:Int,vs=[.int j]∧-(2 ^ 62)≤j∧j < 2 ^ 62∧R (Itr 0 j.toNat) H1
def FU (ta:TA):TI:=fun σ H R=>ta σ H fun vs H1=>∃ i j:Int,vs=[.int i,.int j]∧(-(2 ^ 62)≤i∧i < 2 ^ 62∧-(2 ^ 62)≤j∧j < 2 ^ 62)∧R (Itr i (j - i).toNat) H1
theorem oi {a:Expr} {ta:TA} {p pos:Pos} (hg:Gl X "range") (hm:X.mg "range" = none) (ha:PA X [a] ta) (hs:starEach [a] X.env=[(false,eval a X.env)]:=by rfl):PI X tg (.Call (.Name "range" p) [a] [] pos) (FW ta):=by
  intro pins s σ H R I h
  refine Call_ (fV I hg hm boot_range (PyProof.Rows.callWith_type1 (thn (ha pos pins s σ H _ I h) fun us s1 ⟨vs,H1,I1,r1,q1⟩=>?_) hs rfl))
  obtain ⟨j,e,q1,q2,q⟩:=q1
  subst e
  cases r1 with
  | cons r rr=>
    cases rr
    obtain ⟨t,rfl⟩:=r
    exact call_range_1 (rY I1 (by omega) (by omega) q1 q2 (by simpa using q))
theorem oh {a b:Expr} {ta:TA} {p pos:Pos} (hg:Gl X "range") (hm:X.mg "range" = none) (ha:PA X [a,b] ta) (hs:starEach [a,b] X.env=[(false,eval a X.env),(false,eval b X.env)]:=by rfl) (hs2:starEach [b] X.env=[(false,eval b X.env)]:=by rfl) :
    PI X tg (.Call (.Name "range" p) [a,b] [] pos) (FU ta):=by
  intro pins s σ H R I h
  refine Call_ (fV I hg hm boot_range (PyProof.Rows.callWith_type1 (thn (ha pos pins s σ H _ I h) fun us s1 ⟨vs,H1,I1,r1,q1⟩=>?_) (by rw [hs,hs2]) (by rw [hs2];rfl)))
  obtain ⟨i,j,e,⟨q1,q2,q3,q4⟩,q⟩:=q1
  subst e
  cases r1 with
  | cons r rr=>
    cases rr with
    | cons r' rr=>
      cases rr
      obtain ⟨t,rfl⟩:=r
      obtain ⟨t',rfl⟩:=r'
      exact call_range_2 (rY I1 q1 q2 q3 q4 q)
def IP (wi:TI) (g:TG) (tb:TS):TS:=fun D σ H=>wi σ H fun J H1=>∃ W:Nat→Nat→St→Hp→Prop,(∃ m,W 0 m σ H1)∧∀ i m σ H,W i m σ H →
  (J.stop i H∧D.nx σ H)∨(J.go i H∧∃ N:St→Hp→Prop,(∀ σ' H',N σ' H'→∃ m',m' < m∧W (i+1) m' σ' H')∧∀ x H',J.yld i H x H'→g x σ H' fun σ2 H2=>tb { D with nx:=N,ct:=N,bk:=D.nx } σ2 H2)
def gM (fp:List Addr) (h:Heap):List (Addr×Obj):=fp.filterMap fun b=>(h.get? b).map fun o=>(b,o)
theorem jc {fp:List Addr} {h:Heap} {b:Addr} {o:Obj} (hb:b∈fp) (e:h.get? b=some o):(b,o)∈gM fp h:=List.mem_filterMap.mpr ⟨b,hb,by rw [e];rfl⟩
theorem oq {fp:List Addr} {h:Heap} {p:Addr×Obj} (hp:p∈gM fp h):p.1∈fp∧h.get? p.1=some p.2:=by
  obtain ⟨b,hb,e⟩:=List.mem_filterMap.mp hp
  cases q:h.get? b with
  | none=>rw [q] at e;cases e
  | some o=>
    rw [q] at e
    have e':(b,o)=p:=Option.some.inj e
    subst e'
    exact ⟨hb,q⟩
theorem Inv.pinned {pins:List (Addr×Obj)} {σ : St} {H:Hp} {s:Shared} {fp:List Addr} (I:Inv X pins σ H s) (hf:∀ b∈fp,mT X pins H b) (ho:∀ b∈fp,∃ o,s.heap.get? b=some o∧∀ v,o.data≠.cell v):Inv X (pins++gM fp s.heap) σ H s:=
  I.kR fun p hp=>(List.mem_append.mp hp).elim (fun z=>I.pin p (List.mem_append_right _ z)) fun z=>by
    obtain ⟨hb,e⟩:=oq z
    obtain ⟨f0,f1,f2,_⟩:=hf p.1 hb
    obtain ⟨o,e',d⟩:=ho p.1 hb
    rw [e] at e';cases e'
    exact ⟨e,f0,f1,f2,d⟩
theorem Inv.jo {pins pl:List (Addr×Obj)} {σ : St} {H:Hp} {s:Shared} (I:Inv X (pins++pl) σ H s):Inv X pins σ H s:=I.kR fun p hp=>I.pin p (List.mem_append_right _ (List.mem_append_left _ hp))
theorem lF {iter:Expr} {body:List Stmt} {wi:TI} {g:TG} {tb:TS} {pos:Pos} (hp:PassesOwn (model X.prog X.w) X.A X.env X.xe) (hc:X.calm=true) (hi:PI X tg iter wi) (hg:PG X tg g) (hb:PSs X body tb)
    (hs:∀ x,foldedSetIterable iter X.env x=pure x:=by intro _;rfl):PS X (.For tg iter body [] pos) (IP wi g tb):=by
  intro pins s σ H D I h
  refine wpAny_For (thn (hi pins s σ H _ I h) fun v s1 h1=>thn h1 fun itv s2 h2=>?_) hs
  obtain ⟨it,fp,tn,J,H2,e,I2,T,st2,f2,W,⟨m0,w0⟩,turn⟩:=h2
  subst e
  -- what stays true of the iterator's objects through the loop
  have Gi:∀ {H':Hp},(∀ b∈fp,H' b=none)→∀ b∈fp,mT X pins H' b:=fun hn b hb=>⟨hn b hb,(f2 b hb).2⟩
  refine codeAny_forLoop_any (fun n s'=>∃ i σ' H',Inv X pins σ' H' s'∧tn i s'.heap∧(∀ b∈fp,H' b=none)∧W i n σ' H') ?_ m0 ⟨0,σ,H2,I2,st2,fun b hb=>(f2 b hb).1,w0⟩
  rintro n s3 ⟨i,σ3,H3,I3,st3,fr3,w3⟩
  rcases turn i n σ3 H3 w3 with ⟨stop,qn⟩ | ⟨go,N,hN,step⟩
  · refine wpAny_passesOwn hp (thn (T.done X rfl rfl rfl hc i pins s3 σ3 H3 X.xe I3 (Gi fr3) st3 stop) fun r s4 ⟨hr,I4⟩=>?_)
    subst hr
    exact wpAny_execs_nil ⟨σ3,H3,I4,qn⟩
  · refine wpAny_passesOwn hp (thn (T.item X rfl rfl rfl hc i pins s3 σ3 H3 X.xe I3 (Gi fr3) st3 go) fun r s4 ⟨u,hr,h4⟩=>?_)
    subst hr
    refine wpAny_passesOwn hp (thn h4 fun _ s5 ⟨x,H5,I5,r5,y5,st5,fr5⟩=>?_)
    have I5':=I5.pinned (Gi fr5) (T.obj _ _ st5)
    refine wpAny_passesOwn hp (thn (hg _ s5 σ3 H5 x u _ I5' r5 (step x H5 y5)) fun _ s6 ⟨σ6,H6,I6,q6⟩=>?_)
    refine wpAny_passesOwn hp (thn (hb _ s6 σ6 H6 _ I6 q6) fun f s7 q7=>?_)
    have again:∀ {σ7:St} {H7:Hp},Inv X (pins++gM fp s5.heap) σ7 H7 s7→N σ7 H7→∃ m,m < n∧∃ i σ' H',Inv X pins σ' H' s7∧tn i s7.heap∧(∀ b∈fp,H' b=none)∧W i m σ' H':=fun {σ7 H7} I7 n7=>by
      obtain ⟨m',hm,w7⟩:=hN σ7 H7 n7
      refine ⟨m',hm,i+1,σ7,H7,I7.jo,T.keep _ _ _ st5 fun b hb o e=>(I7.pin (b,o) (List.mem_append_right _ (List.mem_append_right _ (jc hb e)))).1,fun b hb=>?_,w7⟩
      obtain ⟨o,e,d⟩:=T.obj _ _ st5 b hb
      exact (I7.pin (b,o) (List.mem_append_right _ (List.mem_append_right _ (jc hb e)))).2.1
    cases f with
    | next=>obtain ⟨σ7,H7,I7,n7⟩:=q7;exact again I7 n7
    | cont=>obtain ⟨σ7,H7,I7,n7⟩:=q7;exact again I7 n7
    | brk=>obtain ⟨σ7,H7,I7,q7⟩:=q7;exact ⟨σ7,H7,I7.jo,q7⟩
    | ret v=>obtain ⟨x7,σ7,H7,I7,r7,q7⟩:=q7;exact ⟨x7,σ7,H7,I7.jo,r7,q7⟩
end
theorem BE {K:PySem.W.Frag} {a:Addr} {xs:List V} {g:TG} {tb:TS} {D:Ends} {σ : St} {H:Hp} (Pv:Nat→St→Hp→Prop) (h0:Pv 0 σ H) (hl:∀ i σ H,i≤xs.length→Pv i σ H→SqL K H a xs)
    (hs:∀ i x σ H,xs[i]?=some x→Pv i σ H→g x σ H fun σ2 H2=>tb { D with nx:=Pv (i+1),ct:=Pv (i+1),bk:=D.nx } σ2 H2) (hd:∀ σ H,Pv xs.length σ H→D.nx σ H) :
    ∃ W:Nat→Nat→St→Hp→Prop,(∃ m,W 0 m σ H)∧∀ i m σ H,W i m σ H →
      ((Itl K a).stop i H∧D.nx σ H)∨((Itl K a).go i H∧∃ N:St→Hp→Prop,(∀ σ' H',N σ' H'→∃ m',m' < m∧W (i+1) m' σ' H')∧∀ x H',(Itl K a).yld i H x H'→g x σ H' fun σ2 H2=>tb { D with nx:=N,ct:=N,bk:=D.nx } σ2 H2):=by
  refine ⟨fun i m σ H=>m=xs.length - i∧i≤xs.length∧Pv i σ H,⟨xs.length,by simp,Nat.zero_le _,h0⟩,?_⟩
  rintro i m σ H ⟨rfl,hi,p⟩
  have q:=hl i σ H hi p
  by_cases hlt:i < xs.length
  · refine .inr ⟨⟨xs,xs[i],q,by simp [hlt]⟩,Pv (i+1),fun σ' H' p'=>⟨xs.length - (i+1),by omega,rfl,hlt,p'⟩,fun x H' y=>?_⟩
    obtain ⟨e,y⟩:=y
    subst e
    exact hs i x σ _ (y xs q) p
  · have e:i=xs.length:=by omega
    subst e
    exact .inl ⟨⟨xs,q,Nat.le_refl _⟩,hd σ H p⟩
theorem zb {lo:Int} {n:Nat} {g:TG} {tb:TS} {D:Ends} {σ : St} {H:Hp} (Pv:Nat→St→Hp→Prop) (h0:Pv 0 σ H)
    (hs:∀ i σ H,i < n→Pv i σ H→g (.int (lo+i)) σ H fun σ2 H2=>tb { D with nx:=Pv (i+1),ct:=Pv (i+1),bk:=D.nx } σ2 H2) (hd:∀ σ H,Pv n σ H→D.nx σ H) :
    ∃ W:Nat→Nat→St→Hp→Prop,(∃ m,W 0 m σ H)∧∀ i m σ H,W i m σ H →
      ((Itr lo n).stop i H∧D.nx σ H)∨((Itr lo n).go i H∧∃ N:St→Hp→Prop,(∀ σ' H',N σ' H'→∃ m',m' < m∧W (i+1) m' σ' H')∧∀ x H',(Itr lo n).yld i H x H'→g x σ H' fun σ2 H2=>tb { D with nx:=N,ct:=N,bk:=D.nx } σ2 H2):=by
  refine ⟨fun i m σ H=>m=n - i∧i≤n∧Pv i σ H,⟨n,by simp,Nat.zero_le _,h0⟩,?_⟩
  rintro i m σ H ⟨rfl,hi,p⟩
  by_cases hlt:i < n
  · refine .inr ⟨hlt,Pv (i+1),fun σ' H' p'=>⟨n - (i+1),by omega,rfl,hlt,p'⟩,fun x H' y=>?_⟩
    obtain ⟨e,y⟩:=y
    subst e y
    exact hs i σ _ hlt p
  · have e:i=n:=by omega
    subst e
    exact .inl ⟨Nat.le_refl _,hd σ H p⟩
abbrev R2:=V→V→Hp→VK→Prop
def OpR (X:Cx) (f:Value→Value→Sem Value) (r:R2):Prop:=
  ∀ (pins:List (Addr×Obj)) (s:Shared) (σ : St) (H:Hp) (x y:V) (v u:Value) (Q:VK),Inv X pins σ H s→RelV x v→RelV y u→r x y H Q →
    wpAny (model X.prog X.w) X.A (f v u) (EP X pins σ Q) X.xe s
def UnR (X:Cx) (f:Value→Sem Value) (r:V→Hp→VK→Prop):Prop:=
  ∀ (pins:List (Addr×Obj)) (s:Shared) (σ : St) (H:Hp) (x:V) (v:Value) (Q:VK),Inv X pins σ H s→RelV x v→r x H Q →
    wpAny (model X.prog X.w) X.A (f v) (EP X pins σ Q) X.xe s
def dj (X:Cx) (f:Value) (r:List V→Hp→VK→Prop):Prop:=
  ∀ (pins:List (Addr×Obj)) (s:Shared) (σ : St) (H:Hp) (xs:List V) (us:List Value) (Q:VK),Inv X pins σ H s→Vals xs us→r xs H Q →
    wpAny (model X.prog X.w) X.A (call f us) (EP X pins σ Q) X.xe s
def tOp (r:R2) (ta tb:TE):TE:=fun σ H Q=>ta σ H fun x H1=>tb σ H1 fun y H2=>r x y H2 Q
def tUn (r:V→Hp→VK→Prop) (ta:TE):TE:=fun σ H Q=>ta σ H fun x H1=>r x H1 Q
def rI (C:Int→Int→Prop) (g:Int→Int→V):R2:=fun x y H Q=>∃ i j,x = .int i∧y = .int j∧C i j∧Q (g i j) H
def rI0 (g:Int→Int→V):R2:=fun x y H Q=>∃ i j,x = .int i∧y = .int j∧Q (g i j) H
def rU (g:Int→V):V→Hp→VK→Prop:=fun x H Q=>∃ i,x = .int i∧Q (g i) H
section
variable {X:Cx} {a b c:Expr} {ta tb tc:TE} {pos:Pos}
theorem Ig (ha:PE X a ta) (hb:PE X b tb) {pins:List (Addr×Obj)} {s:Shared} {σ : St} {H:Hp} {R:V→V→Hp→Prop} (I:Inv X pins σ H s)
    (h:ta σ H fun x H1=>tb σ H1 fun y H2=>R x y H2) {Q:Value→Shared→Prop} {f:Value→Value→Sem Value}
    (hf:∀ v u s2 x y H2,Inv X pins σ H2 s2→RelV x v→RelV y u→R x y H2→wpAny (model X.prog X.w) X.A (f v u) Q X.xe s2) :
    wpAny (model X.prog X.w) X.A (eval a X.env) (fun v s₁=>wpAny (model X.prog X.w) X.A (eval b X.env) (fun u s₂=>wpAny (model X.prog X.w) X.A (f v u) Q X.xe s₂) X.xe s₁) X.xe s:=by
  refine thn (ha pins s σ H _ I h) fun v s1 ⟨x,H1,I1,r1,q1⟩=>?_
  refine thn (hb pins s1 σ H1 _ I1 q1) fun u s2 ⟨y,H2,I2,r2,q2⟩=>?_
  exact hf v u s2 x y H2 I2 r1 r2 q2
theorem aP {op:Operator} {r:R2} (ho:OpR X (binaryOp op) r) (ha:PE X a ta) (hb:PE X b tb):PE X (.BinOp a op b pos) (tOp r ta tb):=by
  intro pins s σ H Q I h
  exact wpAny_BinOp (Ig ha hb I h fun v u s2 x y H2 I2 rx ry q=>ho pins s2 σ H2 x y v u Q I2 rx ry q)
theorem fE {op:UnaryOp} {r:V→Hp→VK→Prop} (ho:UnR X (unaryOp op) r) (ha:PE X a ta):PE X (.UnaryOp op a pos) (tUn r ta):=by
  intro pins s σ H Q I h
  exact UnaryOp_ (thn (ha pins s σ H _ I h) fun v s1 ⟨x,H1,I1,r1,q1⟩=>ho pins s1 σ H1 x v Q I1 r1 q1)
theorem opI {f:Value→Value→Sem Value} {C:Int→Int→Prop} {g:Int→Int→Int}
    (rule:∀ (i j:Int) (t u:Tok) (s:Shared) (Q:Value→Shared→Prop) (E:Value→Shared→Prop),C i j→Q (.int (g i j) s.toks) { s with toks:=s.toks+1 }→wpAny (model X.prog X.w) X.A (f (.int i t) (.int j u)) Q E s) :
    OpR X f (rI C fun i j=>.int (g i j)):=by
  intro pins s σ H x y v u Q I rx ry h
  obtain ⟨i,j,rfl,rfl,hc,q⟩:=h
  obtain ⟨t,rfl⟩:=rx
  obtain ⟨t',rfl⟩:=ry
  exact rule i j t t' s _ _ hc ⟨.int (g i j),H,I.tok _,⟨_,rfl⟩,q⟩
theorem Ji {f:Value→Value→Sem Value} {g:Int→Int→Int}
    (rule:∀ (i j:Int) (t u:Tok) (s:Shared) (Q:Value→Shared→Prop) (E:Value→Shared→Prop),Q (.int (g i j) s.toks) { s with toks:=s.toks+1 }→wpAny (model X.prog X.w) X.A (f (.int i t) (.int j u)) Q E s) :
    OpR X f (rI0 fun i j=>.int (g i j)):=by
  intro pins s σ H x y v u Q I rx ry h
  obtain ⟨i,j,rfl,rfl,q⟩:=h
  obtain ⟨t,rfl⟩:=rx
  obtain ⟨t',rfl⟩:=ry
  exact rule i j t t' s _ _ ⟨.int (g i j),H,I.tok _,⟨_,rfl⟩,q⟩
theorem DE {f:Value→Value→Sem Value} {g:Int→Int→Bool}
    (rule:∀ (i j:Int) (t u:Tok) (s:Shared) (Q:Value→Shared→Prop) (E:Value→Shared→Prop),Q (.bool (g i j)) s→wpAny (model X.prog X.w) X.A (f (.int i t) (.int j u)) Q E s) :
    OpR X f (rI0 fun i j=>.bl (g i j)):=by
  intro pins s σ H x y v u Q I rx ry h
  obtain ⟨i,j,rfl,rfl,q⟩:=h
  obtain ⟨t,rfl⟩:=rx
  obtain ⟨t',rfl⟩:=ry
  exact rule i j t t' s _ _ ⟨.bl (g i j),H,I,rfl,q⟩
def Ll (i j:Int):Prop:=0≤j∧j≤1000000∧i.natAbs < 2 ^ 64
def Cs (i j:Int):Prop:=(-(2 ^ 64) < i∧i < 2 ^ 64)∨(-(2 ^ 64) < j∧j < 2 ^ 64)
theorem Cs.ok {i j:Int} (h:Cs i j):IntMulOk i j:=by
  rcases h with ⟨h1,h2⟩ | ⟨h1,h2⟩
  · exact .of_left (intBits_le_64 h1 h2)
  · exact .of_right (intBits_le_64 h1 h2)
theorem bK:OpR X (binaryOp .Add) (rI0 fun i j=>.int (i+j)):=Ji fun _ _ _ _ _ _ _ q=>add_int q
theorem AN:OpR X (binaryOp .Sub) (rI0 fun i j=>.int (i - j)):=Ji fun _ _ _ _ _ _ _ q=>sub_int q
theorem AQ:OpR X (binaryOp .Mult) (rI Cs fun i j=>.int (i * j)):=opI fun _ _ _ _ _ _ _ hc q=>mul_int q hc.ok
theorem fj:OpR X (binaryOp .Mod) (rI (fun _ j=>0 < j) fun i j=>.int (i % j)):=opI fun i j _ _ _ _ _ hc q=>by
  have h1:(0:Int) < j:=hc
  exact mod_int' (by omega) (by rw [Int.fmod_eq_emod_of_nonneg i (by omega)];exact q)
theorem fU:OpR X (binaryOp .Pow) (rI Ll fun i j=>.int (i ^ j.toNat)):=opI fun _ _ _ _ _ _ _ hc q=>pow_int_small hc.1 hc.2.1 hc.2.2 q
theorem unI {f:Value→Sem Value} {g:Int→Int}
    (rule:∀ (i:Int) (t:Tok) (s:Shared) (Q:Value→Shared→Prop) (E:Value→Shared→Prop),Q (.int (g i) s.toks) { s with toks:=s.toks+1 }→wpAny (model X.prog X.w) X.A (f (.int i t)) Q E s) :
    UnR X f (rU fun i=>.int (g i)):=by
  intro pins s σ H x v Q I rx h
  obtain ⟨i,rfl,q⟩:=h
  obtain ⟨t,rfl⟩:=rx
  exact rule i t s _ _ ⟨.int (g i),H,I.tok _,⟨_,rfl⟩,q⟩
theorem dD:UnR X (unaryOp .USub) (rU fun i=>.int (-i)):=unI fun _ _ _ _ _ q=>neg_int q
end
def IX:V→V→Bool
  | .non,.non=>true | .non,.int _=>true | .int _,.non=>true | .non,.bl _=>true | .bl _,.non=>true | .non,.str _=>true | .str _,.non=>true
  | .int _,.int _=>true | .bl _,.bl _=>true | .str _,.str _=>true | .byt _,.byt _=>true
  | .int _,.str _=>true | .str _,.int _=>true | .bl _,.str _=>true | .str _,.bl _=>true
  | _,_=>false
def rEq:R2:=fun x y H Q=>IX x y=true∧Q (.bl (decide (x=y))) H
def rNe:R2:=fun x y H Q=>IX x y=true∧Q (.bl (!decide (x=y))) H
theorem xr {i j:Int}:decide (V.int i=V.int j)=(i == j):=by
  rw [Bool.eq_iff_iff]
  simp
theorem BO {i j:Bool}:decide (V.bl i=V.bl j)=(i == j):=by
  rw [Bool.eq_iff_iff]
  simp
theorem xq {i j:Str}:decide (V.str i=V.str j)=(i == j):=by
  rw [Bool.eq_iff_iff]
  simp
theorem xu {i j:Array UInt8}:decide (V.byt i=V.byt j)=(i.toList == j.toList):=by
  rw [Bool.eq_iff_iff]
  cases i
  cases j
  simp
section
variable {X:Cx} {a b c:Expr} {ta tb tc:TE} {pos:Pos}
theorem bG {pins:List (Addr×Obj)} {σ : St} {H:Hp} {s:Shared} {Q:VK} {k k':Bool} (I:Inv X pins σ H s) (q:Q (.bl k) H) (e:k=k'):EP X pins σ Q (.bool k') s:=by
  subst e
  exact ⟨.bl k,H,I,rfl,q⟩
theorem cC:OpR X (compareOp .Eq) rEq:=by
  intro pins s σ H x y v u Q I rx ry h
  obtain ⟨hs,q⟩:=h
  cases x with
  | non=>
    cases rx
    cases y with
    | non=>cases ry;exact PySem.EqNone.eq_none_none (bG I q (by simp))
    | bl j=>cases ry;exact PySem.EqNone.eq_none_bool (bG I q (by simp))
    | int j=>obtain ⟨t',rfl⟩:=ry;exact PySem.EqNone.eq_none_int (bG I q (by simp))
    | str j=>obtain ⟨t',rfl⟩:=ry;exact PySem.EqNone.eq_none_str (bG I q (by simp))
    | _=>exact absurd (show false=true from hs) Bool.false_ne_true
  | bl i=>
    cases rx
    cases y with
    | non=>cases ry;exact PySem.EqNone.eq_bool_none (bG I q (by simp))
    | bl j=>cases ry;exact eq_bool (bG I q BO)
    | str j=>obtain ⟨t',rfl⟩:=ry;exact PySem.EqMixed.eq_bool_str (bG I q (by simp))
    | _=>exact absurd (show false=true from hs) Bool.false_ne_true
  | int i=>
    obtain ⟨t,rfl⟩:=rx
    cases y with
    | non=>cases ry;exact PySem.EqNone.eq_int_none (bG I q (by simp))
    | int j=>obtain ⟨t',rfl⟩:=ry;exact eq_int (bG I q xr)
    | str j=>obtain ⟨t',rfl⟩:=ry;exact PySem.EqMixed.eq_int_str (bG I q (by simp))
    | _=>exact absurd (show false=true from hs) Bool.false_ne_true
  | str i=>
    obtain ⟨t,rfl⟩:=rx
    cases y with
    | non=>cases ry;exact PySem.EqNone.eq_str_none (bG I q (by simp))
    | bl j=>cases ry;exact PySem.EqMixed.eq_str_bool (bG I q (by simp))
    | int j=>obtain ⟨t',rfl⟩:=ry;exact PySem.EqMixed.eq_str_int (bG I q (by simp))
    | str j=>obtain ⟨t',rfl⟩:=ry;exact eq_str (bG I q xq)
    | _=>exact absurd (show false=true from hs) Bool.false_ne_true
  | byt i=>
    obtain ⟨t,rfl⟩:=rx
    cases y with
    | byt j=>obtain ⟨t',rfl⟩:=ry;exact PySem.W.eq_bytes (bG I q xu)
    | _=>exact absurd (show false=true from hs) Bool.false_ne_true
  | _=>cases y <;> exact absurd (show false=true from hs) Bool.false_ne_true
theorem sf:OpR X (compareOp .NotEq) rNe:=by
  intro pins s σ H x y v u Q I rx ry h
  obtain ⟨hs,q⟩:=h
  cases x with
  | non=>
    cases rx
    cases y with
    | non=>cases ry;exact PySem.EqNone.ne_none_none (bG I q (by simp))
    | bl j=>cases ry;exact PySem.EqNone.ne_none_bool (bG I q (by simp))
    | int j=>obtain ⟨t',rfl⟩:=ry;exact PySem.EqNone.ne_none_int (bG I q (by simp))
    | str j=>obtain ⟨t',rfl⟩:=ry;exact PySem.EqNone.ne_none_str (bG I q (by simp))
    | _=>exact absurd (show false=true from hs) Bool.false_ne_true
  | bl i=>
    cases rx
    cases y with
    | non=>cases ry;exact PySem.EqNone.ne_bool_none (bG I q (by simp))
    | bl j=>cases ry;exact ne_bool (bG I q (congrArg not BO))
    | str j=>obtain ⟨t',rfl⟩:=ry;exact PySem.EqMixed.ne_bool_str (bG I q (by simp))
    | _=>exact absurd (show false=true from hs) Bool.false_ne_true
  | int i=>
    obtain ⟨t,rfl⟩:=rx
    cases y with
    | non=>cases ry;exact PySem.EqNone.ne_int_none (bG I q (by simp))
    | int j=>obtain ⟨t',rfl⟩:=ry;exact ne_int (bG I q (congrArg not xr))
    | str j=>obtain ⟨t',rfl⟩:=ry;exact PySem.EqMixed.ne_int_str (bG I q (by simp))
    | _=>exact absurd (show false=true from hs) Bool.false_ne_true
  | str i=>
    obtain ⟨t,rfl⟩:=rx
    cases y with
    | non=>cases ry;exact PySem.EqNone.ne_str_none (bG I q (by simp))
    | bl j=>cases ry;exact PySem.EqMixed.ne_str_bool (bG I q (by simp))
    | int j=>obtain ⟨t',rfl⟩:=ry;exact PySem.EqMixed.ne_str_int (bG I q (by simp))
    | str j=>obtain ⟨t',rfl⟩:=ry;exact ne_str (bG I q (congrArg not xq))
    | _=>exact absurd (show false=true from hs) Bool.false_ne_true
  | byt i=>
    obtain ⟨t,rfl⟩:=rx
    cases y with
    | byt j=>obtain ⟨t',rfl⟩:=ry;exact PySem.W.ne_bytes (bG I q (congrArg not xu))
    | _=>exact absurd (show false=true from hs) Bool.false_ne_true
  | _=>cases y <;> exact absurd (show false=true from hs) Bool.false_ne_true
theorem gB:OpR X (compareOp .Lt) (rI0 fun i j=>.bl (decide (i < j))):=DE fun _ _ _ _ _ _ _ q=>lt_int q
theorem jw:OpR X (compareOp .LtE) (rI0 fun i j=>.bl (decide (i≤j))):=DE fun _ _ _ _ _ _ _ q=>le_int q
theorem iV:OpR X (compareOp .Gt) (rI0 fun i j=>.bl (decide (j < i))):=DE fun _ _ _ _ _ _ _ q=>gt_int q
theorem sj:OpR X (compareOp .GtE) (rI0 fun i j=>.bl (decide (j≤i))):=DE fun _ _ _ _ _ _ _ q=>ge_int q
theorem aI (b:Expr) {op:CmpOp} (h:op≠.In:=by decide) (h2:op≠.NotIn:=by decide):behindInMarks op b=false:=by
  have e1:(op == CmpOp.In)=false:=by cases op <;> first | rfl | exact absurd rfl h
  have e2:(op == CmpOp.NotIn)=false:=by cases op <;> first | rfl | exact absurd rfl h2
  cases b <;> simp [behindInMarks,e1,e2]
theorem cu {op:CmpOp} {r:R2} (ho:OpR X (compareOp op) r) (ha:PE X a ta) (hb:PE X b tb) (hm:behindInMarks op b=false):PE X (.Compare a [op] [b] pos) (tOp r ta tb):=by
  intro pins s σ H Q I h
  exact wpAny_Compare1 (Ig ha hb I h fun v u s2 x y H2 I2 rx ry q=>ho pins s2 σ H2 x y v u Q I2 rx ry q) hm
def zP (t:TE):TT:=fun σ H Q=>t σ H fun x H'=>∃ k,x = .bl k∧Q k H'
theorem aJ {op:CmpOp} {r:R2} (ho:OpR X (compareOp op) r) (ha:PE X a ta) (hb:PE X b tb) (hm:behindInMarks op b=false):PT X (.Compare a [op] [b] pos) (zP (tOp r ta tb)):=by
  intro pins s σ H Q I h
  refine wpAny_isTrue_Compare1 (thn (ha pins s σ H _ I h) fun v s1 ⟨x,H1,I1,r1,q1⟩=>thn (hb pins s1 σ H1 _ I1 q1) fun u s2 ⟨y,H2,I2,r2,q2⟩=>
    thn (ho pins s2 σ H2 x y v u _ I2 r1 r2 q2) fun c s3 ⟨z,H3,I3,r3,k,e,q3⟩=>?_) hm
  subst e
  cases r3
  exact wpAny_truthy_bool ⟨H3,I3,q3⟩
def zU (r r':R2) (ta tb tc:TE):TE:=fun σ H Q=>ta σ H fun x H1=>tb σ H1 fun y H2=>r x y H2 fun z H3=>∃ k,z = .bl k ∧
  (if k=true then tc σ H3 fun w' H4=>r' y w' H4 Q else Q (.bl false) H3)
theorem lE {op op':CmpOp} {r r':R2} (ho:OpR X (compareOp op) r) (ho':OpR X (compareOp op') r') (ha:PE X a ta) (hb:PE X b tb) (hc:PE X c tc)
    (hm:lastMarks [op,op'] [b,c]=false:=by with_unfolding_all rfl):PT X (.Compare a [op,op'] [b,c] pos) (zP (zU r r' ta tb tc)):=by
  intro pins s σ H Q I h
  refine isTrue_chain (thn (ha pins s σ H _ I h) fun v s1 ⟨x,H1,I1,r1,q1⟩=>test_link (thn (hb pins s1 σ H1 _ I1 q1) fun u s2 ⟨y,H2,I2,r2,q2⟩=>
    thn (ho pins s2 σ H2 x y v u _ I2 r1 r2 q2) fun d s3 ⟨z,H3,I3,r3,k,e,q3⟩=>?_)) hm
  subst e
  cases r3
  refine wpAny_truthy_bool ?_
  cases k with
  | false=>
    obtain ⟨k',e',q'⟩:=q3
    cases e'
    exact ite_ff ⟨H3,I3,q'⟩
  | true=>
    refine ite_tt (test_last (thn (hc pins s3 σ H3 _ I3 q3) fun w' s4 ⟨z',H4,I4,r4,q4⟩=>thn (ho' pins s4 σ H4 y z' u w' _ I4 r2 r4 q4) fun d' s5 ⟨z2,H5,I5,r5,k2,e2,q5⟩=>?_))
    subst e2
    cases r5
    exact wpAny_truthy_bool ⟨H5,I5,q5⟩
theorem qc:(sizeLine:Nat) < 2 ^ 63:=by rw [sizeLine_eq];decide
theorem vals1 {x:V} {us:List Value} (r:Vals [x] us):∃ u,us=[u]∧RelV x u:=by
  cases r with
  | cons r1 r2=>cases r2;exact ⟨_,rfl,r1⟩
theorem vals2 {x y:V} {us:List Value} (r:Vals [x,y] us):∃ u w',us=[u,w']∧RelV x u∧RelV y w':=by
  cases r with
  | cons r1 r2=>
    cases r2 with
    | cons r3 r4=>cases r4;exact ⟨_,_,rfl,r1,r3⟩
theorem zh (hc:X.calm=true):dj X (.builtin "max") (fun xs H Q=>∃ i j,xs=[.int i,.int j]∧Q (.int (if j > i then j else i)) H):=by
  intro pins s σ H xs us Q I r h
  obtain ⟨i,j,rfl,q⟩:=h
  obtain ⟨u,w',rfl,⟨t,rfl⟩,⟨t',rfl⟩⟩:=vals2 r
  refine max_two_ints (I.ok.hd hc) fun h' tk k=>⟨_,H,I.kept k,?_,q⟩
  by_cases hj:j > i
  · rw [if_pos hj,if_pos hj];exact ⟨_,rfl⟩
  · rw [if_neg hj,if_neg hj];exact ⟨_,rfl⟩
theorem zg (hc:X.calm=true):dj X (.builtin "min") (fun xs H Q=>∃ i j,xs=[.int i,.int j]∧Q (.int (if j < i then j else i)) H):=by
  intro pins s σ H xs us Q I r h
  obtain ⟨i,j,rfl,q⟩:=h
  obtain ⟨u,w',rfl,⟨t,rfl⟩,⟨t',rfl⟩⟩:=vals2 r
  refine min_two_ints (I.ok.hd hc) fun h' tk k=>⟨_,H,I.kept k,?_,q⟩
  by_cases hj:j < i
  · rw [if_pos hj,if_pos hj];exact ⟨_,rfl⟩
  · rw [if_neg hj,if_neg hj];exact ⟨_,rfl⟩
end
structure vK (h:Heap) (x dx C:Addr) (mA:Str→Option Value):Prop where
  obj:h.get? x=some (PySem.W.instObj C dx)
  ns:h.Ns1 dx mA
  ne:dx≠x
theorem yP {h:Heap} {dx:Addr} {mA:Str→Option Value} (n:h.Ns1 dx mA):∃ od,h.get? dx=some od∧∀ name,PySem.W.lookIn name od=some (mA name):=by
  obtain ⟨o,es,ep,ho,hd,hk,_,hm⟩:=n
  refine ⟨o,ho,fun name=>?_⟩
  have e:=hm name
  unfold nsFind findBy at e
  rw [← Array.find?_toList] at e
  unfold PySem.W.lookIn
  rw [hd]
  dsimp only
  split
  · rename_i y q
    rw [q] at e
    exact congrArg some e
  · rename_i q
    rw [q] at e
    have a:es.toList.any (·.refKey)=false:=by
      rw [List.any_eq_false]
      intro y hy
      obtain ⟨z,t,hkey⟩:=hk y (Array.mem_toList_iff.mp hy)
      simp [DictEntry.refKey,hkey]
    have a':¬ es.toList.any (·.refKey)=true:=by rw [a];exact Bool.false_ne_true
    rw [if_neg a']
    exact congrArg some e
theorem vK.look {h:Heap} {x dx C:Addr} {mA:Str→Option Value} (I:vK h x dx C mA):∃ od,PySem.W.InstAt h x (PySem.W.instObj C dx) C (some od)∧∀ name,PySem.W.lookIn name od=some (mA name):=
  let ⟨od,ho,hl⟩:=yP I.ns
  ⟨od,⟨I.obj,rfl,rfl,ho⟩,hl⟩
section
variable {prog:Program} {w:World} {A:Around} {E:Value→Shared→Prop} {s:Shared} {K:PySem.W.Frag} {x dx C f:Addr} {mA:Str→Option Value} {name:Str} {v:Value}
theorem get_map {expr:Bool} {Q:Value→Shared→Prop} (X:K.In s.heap) (I:vK s.heap x dx C mA) (hg:PySem.W.plainGet K C name=true) (hh:PySem.W.hasDictIn K C=true)
    (ha:PySem.W.findIn K (.ref C) name=some none) (hv:mA name=some v) (hv':PySem.W.handedIn v=true) (h:Q v { s with toks:=s.toks+1 }) :
    wpAny (model prog w) A (getAttr (.ref x) name expr) Q E s:=by
  obtain ⟨od,J,hl⟩:=I.look
  exact PySem.W.get_value X J (PySem.W.plainGet_of hg).1 (PySem.W.findObj_own hh ha rfl (by rw [hl,hv])) hv' h
theorem Bs {pl:Sem Bool} {Q:Value×List Value→Shared→Prop} (X:K.In s.heap) (I:vK s.heap x dx C mA) (hg:PySem.W.plainGet K C name=true)
    (hf:PySem.W.findIn K (.ref C) name=some (some (.ref f))) (ht:PySem.W.isFn K (.ref f)=true) (hv:mA name=none) (h:Q (.ref f,[.ref x]) s) :
    wpAny (model prog w) A (getMethod (.ref x) name pl) Q E s:=by
  obtain ⟨od,J,hl⟩:=I.look
  exact PySem.W.method_fn X J (PySem.W.plainGet_of hg).1 (PySem.W.plainGet_of hg).2 hf (beq_iff_eq.mp ht) (by show (PySem.W.lookIn name od).map (·.isSome)=some false;rw [hl,hv];rfl) h
theorem C0 {ns:List Str} {Q:Unit→Shared→Prop} (X:K.In s.heap) (I:vK s.heap x dx C mA)
    (hs:PySem.W.findIn K (.ref C) "__setattr__" = some (some (.builtin "object.__setattr__"))) (hp:PySem.W.plainOver K C=true) (ht:PySem.W.takerIn K C name=some none) (hh:PySem.W.hasDictIn K C=true)
    (hw:PySem.Within mA ns) (hsz:ns.length≤sizeLine)
    (h:∀ h',vK h' x dx C (fun y=>if y=name then some v else mA y)→Heap.SameBut dx s.heap h'→Q () { s with heap:=h',toks:=s.toks+2 }) :
    wpAny (model prog w) A (setAttr (.ref x) name v) Q E s:=by
  obtain ⟨od,J,hl⟩:=I.look
  refine PySem.W.set_plain X J hs (PySem.W.osa_open (s:={ s with toks:=s.toks+1 }) (r:=none) X J hp ht fun b=>?_)
  obtain ⟨cd,hc,hd'⟩:=PySem.W.any_some hh
  have hx:s.heap.get? x=some ⟨.ref C,some dx,.plain,#[]⟩:=I.obj
  refine wpAny_bind (wpAny_pure (wpAny_bind (wpAny_bind (wpAny_loadPart hx (wpAny_bind (PySem.W.Looks.here (s:={ s with toks:=s.toks+1 }) (PySem.W.looks_clsIn X hc) ?_))))))
  rw [hd']
  refine wpAny_pure (a:=some dx) (wpAny_bind (wpAny_pure (wpAny_bind ?_)))
  refine wpAny_nsSet1 (s:={ s with toks:=s.toks+1 }) I.ns fun h' hn2 hs2=>?_
  obtain ⟨oD,esD,epD,hoD,hdD,hcD⟩:=hn2.count (PySem.Within.cons name v hw)
  refine wpAny_bind (wpAny_lookBehind hoD (by rw [hdD];exact pastItsLine_dict (Nat.le_trans hcD (by rw [List.length_cons];omega))) ?_)
  exact wpAny_pure (h _ ⟨(hs2.2 _ (Ne.symm I.ne)).trans I.obj,hn2,I.ne⟩ hs2)
theorem Bg {R:Result→Shared→Prop} {vs:List Value} {kw:List (Str×Value)} (X:K.In s.heap) (hm:PySem.W.makesIn K C=true)
    (hi:PySem.W.findIn K (.ref C) "__init__" = some (some (.ref f))) (hf:PySem.W.typeIn K (.ref f)=some (.type "function"))
    (h:codeAny (model prog w) (A.under (.builtin "type.__call__" ⟨.ref C::vs,kw⟩)) (.call (.ref f) ⟨.ref (s.heap.objs.size+1)::vs,kw⟩) (PySem.W.InitBack (s.heap.objs.size+1) R)
      { s with heap:=(s.heap.push PySem.W.emptyDict).push (PySem.W.instObj C s.heap.objs.size) }) :
    codeAny (model prog w) A (.call (.ref C) ⟨vs,kw⟩) R s:=by
  obtain ⟨hh,g,d,t,os⟩:=s
  exact PySem.W.make_core (PySem.W.makes_of X hm) (PySem.W.looks_findIn X hi) (fun self=>PySem.W.bind_fn X self hf) (.inl rfl) h
end
def bN (f:Str) (v:V):List (Str×V)→List (Str×V)
  | []=>[(f,v)]
  | (g,x)::r=>if g=f then (g,v)::r else (g,x)::bN f v r
theorem gQ (f g:Str) (v:V):∀ fs:List (Str×V),(bN f v fs).lookup g=if g=f then some v else fs.lookup g
  | []=>by
    show List.lookup g [(f,v)]=_
    by_cases h:g=f
    · have hb:(g == f)=true:=beq_iff_eq.mpr h
      simp only [List.lookup,hb,if_pos h]
    · have hb:(g == f)=false:=beq_eq_false_iff_ne.mpr h
      simp only [List.lookup,hb,if_neg h]
  | (k,x)::r=>by
    have ih:=gQ f g v r
    rw [show bN f v ((k,x)::r)=(if k=f then (k,v)::r else (k,x)::bN f v r) from rfl]
    by_cases hk:k=f
    · rw [if_pos hk]
      by_cases h:g=k
      · have hb:(g == k)=true:=beq_iff_eq.mpr h
        simp only [List.lookup,hb,if_pos (h.trans hk)]
      · have hb:(g == k)=false:=beq_eq_false_iff_ne.mpr h
        simp only [List.lookup,hb,if_neg (fun e:g=f=>h (e.trans hk.symm))]
    · rw [if_neg hk]
      by_cases h:g=k
      · have hb:(g == k)=true:=beq_iff_eq.mpr h
        simp only [List.lookup,hb,if_neg (fun e:g=f=>hk (h.symm.trans e))]
      · have hb:(g == k)=false:=beq_eq_false_iff_ne.mpr h
        simp only [List.lookup,hb]
        exact ih
theorem fG (f:Str) (v:V):∀ fs:List (Str×V),f∈(bN f v fs).map (·.1)∧∀ g,g∈fs.map (·.1)→g∈(bN f v fs).map (·.1)
  | []=>⟨by simp [bN],fun g h=>by simp at h⟩
  | (k,x)::r=>by
    obtain ⟨i1,i2⟩:=fG f v r
    rw [show bN f v ((k,x)::r)=(if k=f then (k,v)::r else (k,x)::bN f v r) from rfl]
    by_cases hk:k=f
    · rw [if_pos hk]
      subst hk
      exact ⟨by simp,fun g h=>by simpa using h⟩
    · rw [if_neg hk]
      refine ⟨?_,fun g h=>?_⟩
      · rw [List.map_cons]
        exact List.mem_cons_of_mem _ i1
      · rw [List.map_cons] at h ⊢
        rcases List.mem_cons.mp h with e | e
        · exact List.mem_cons.mpr (.inl e)
        · exact List.mem_cons_of_mem _ (i2 g e)
theorem kC (f:Str) (v:V):∀ fs:List (Str×V),(bN f v fs).length≤fs.length+1
  | []=>by simp [bN]
  | (k,x)::r=>by
    have ih:=kC f v r
    rw [show bN f v ((k,x)::r)=(if k=f then (k,v)::r else (k,x)::bN f v r) from rfl]
    by_cases hk:k=f
    · rw [if_pos hk,List.length_cons,List.length_cons];omega
    · rw [if_neg hk,List.length_cons,List.length_cons];omega
theorem gq.some_of {v:V} {o:Option Value} (r:gq (some v) o):∃ u,o=some u∧RelV v u:=by
  cases o with
  | none=>exact (show False from r).elim
  | some u=>exact ⟨u,rfl,r⟩
theorem gq.none_of {o:Option Value} (r:gq none o):o=none:=by
  cases o with
  | none=>rfl
  | some u=>exact (show False from r).elim
theorem yZ {v:V} {u:Value} (r:RelV v u):PySem.W.handedIn u=true:=by
  cases v with
  | non=>cases (show u=Value.none from r);rfl
  | bl b=>cases (show u=Value.bool b from r);rfl
  | int i=>obtain ⟨t,e⟩:=(show ∃ t,u=Value.int i t from r);cases e;rfl
  | str x=>obtain ⟨t,e⟩:=(show ∃ t,u=Value.str x t from r);cases e;rfl
  | byt b=>obtain ⟨t,e⟩:=(show ∃ t,u=Value.bytes b t from r);cases e;rfl
  | flt b=>obtain ⟨t,e⟩:=(show ∃ t,u=Value.float b t from r);cases e;rfl
  | ref a=>cases (show u=Value.ref a from r);rfl
  | ty n=>cases (show u=Value.type n from r);rfl
section
variable {P:Program} {w:World} {H H':Hp} {h h':Heap} {a C dx:Addr} {fs fs':List (Str×V)}
theorem jC (hok:HOk P w H h) (e:H a=some (.ins C dx fs)):∃ mA,vK h a dx C mA∧(∀ f,gq (fs.lookup f) (mA f))∧PySem.Within mA (fs.map (·.1))∧fs.length≤1000∧H dx=some (.own a):=by
  obtain ⟨d,z,ne,ob,mA,n,r,q⟩:=(show bJ P w H h a (.ins C dx fs) from hok a _ e)
  exact ⟨mA,⟨ob,n,ne⟩,r,q,z,d⟩
end
structure Cls (K:PySem.W.Frag) (C:Addr):Prop where
  pg:PySem.W.plainGet K C Str.empty=true
  hd:PySem.W.hasDictIn K C=true
  po:PySem.W.plainOver K C=true
  sa:PySem.W.findIn K (.ref C) "__setattr__" = some (some (.builtin "object.__setattr__"))
theorem Cls.get {K:PySem.W.Frag} {C:Addr} (c:Cls K C) (f:Str):PySem.W.plainGet K C f=true:=c.pg
def bq (K:PySem.W.Frag) (C:Addr) (f:Str):Prop:=PySem.W.findIn K (.ref C) f=some none
theorem bq.IG {K:PySem.W.Frag} {C:Addr} {f:Str} (n:bq K C f):PySem.W.takerIn K C f=some none:=by
  unfold PySem.W.takerIn
  rw [show PySem.W.findIn K (.ref C) f=some none from n]
  rfl
structure Con (K:PySem.W.Frag) (C:Addr) (f:Str) (v:V) (u:Value):Prop where
  at_:PySem.W.findIn K (.ref C) f=some (some u)
  rel:RelV v u
  get:PySem.W.specialIn K u "__get__" = some none
  cp:PySem.W.copiedNames.contains f=false
structure Meth (K:PySem.W.Frag) (C:Addr) (m:Str) (f:Addr):Prop where
  at_:PySem.W.findIn K (.ref C) m=some (some (.ref f))
  fn:PySem.W.isFn K (.ref f)=true
  kp:PySem.W.keepIn K (.ref f)=true
section
variable {X:Cx} {pins:List (Addr×Obj)} {σ : St} {H:Hp} {s:Shared} {a C dx:Addr} {fs:List (Str×V)} {f:Str} {v:V} {A:Around} {E:Value→Shared→Prop}
theorem vg {b:Bool} {Q:Value→Shared→Prop} (I:Inv X pins σ H s) (e:H a=some (.ins C dx fs)) (c:Cls X.K C) (n:bq X.K C f) (l:fs.lookup f=some v)
    (h:∀ u s',Inv X pins σ H s'→RelV v u→Q u s'):wpAny (model X.prog X.w) A (getAttr (.ref a) f b) Q E s:=by
  obtain ⟨mA,O,r,_,_,_⟩:=jC I.hok e
  obtain ⟨u,hu,ru⟩:=gq.some_of (v:=v) (o:=mA f) (by rw [← l];exact r f)
  exact get_map I.kIn O (c.get f) c.hd n hu (yZ ru) (h u _ (I.tok _) ru)
theorem fZ {m:Str} {g:Addr} {pl:Sem Bool} {Q:Value×List Value→Shared→Prop} (I:Inv X pins σ H s) (e:H a=some (.ins C dx fs)) (c:Cls X.K C) (k:Meth X.K C m g) (l:fs.lookup m=none)
    (h:Q (.ref g,[.ref a]) s):wpAny (model X.prog X.w) A (getMethod (.ref a) m pl) Q E s:=by
  obtain ⟨mA,O,r,_,_,_⟩:=jC I.hok e
  have hn:mA m=none:=gq.none_of (by rw [← l];exact r m)
  exact Bs I.kIn O (c.get m) k.at_ k.fn hn h
theorem uz {y:V} {u:Value} {Q:Unit→Shared→Prop} (I:Inv X pins σ H s) (e:H a=some (.ins C dx fs)) (c:Cls X.K C) (n:bq X.K C f) (hl:fs.length < 1000) (ry:RelV y u)
    (h:∀ s',Inv X pins σ (upd H a (.ins C dx (bN f y fs))) s'→Q () s'):wpAny (model X.prog X.w) A (setAttr (.ref a) f u) Q E s:=by
  obtain ⟨mA,O,r,wi,_,ho⟩:=jC I.hok e
  have hz:(fs.map (·.1)).length≤sizeLine:=by rw [List.length_map,sizeLine_eq];omega
  refine C0 I.kIn O c.sa c.po n.IG c.hd wi hz fun h' O' sb=>h _ ?_
  have hd:∃ o,h'.get? dx=some o:=let ⟨o,_,_,e',_⟩:=O'.ns;⟨o,e'⟩
  refine I.write (x:=a) (e:=dx) (by rw [e];exact True.intro) (.inr ho) (fun b q hb z=>(sb.2 b hb).trans z) hd ?_
  refine ⟨by rw [au O.ne];exact ho,?_,O.ne,O'.obj,_,O'.ns,fun g=>?_,fun g hg=>?_⟩
  · have:=kC f y fs;omega
  · show gq ((bN f y fs).lookup g) (if g=f then some u else mA g)
    rw [gQ]
    by_cases q:g=f
    · rw [if_pos q,if_pos q];exact ry
    · rw [if_neg q,if_neg q];exact r g
  · by_cases q:g=f
    · rw [q];exact (fG f y fs).1
    · refine (fG f y fs).2 g (wi g fun z=>hg ?_)
      show (if g=f then some u else mA g)=none
      rw [if_neg q];exact z
theorem Inv.made (I:Inv X pins σ H s):Inv X pins σ (upd (upd H s.heap.objs.size (.own (s.heap.objs.size+1))) (s.heap.objs.size+1) (.ins C s.heap.objs.size []))
    { s with heap:=(s.heap.push PySem.W.emptyDict).push (PySem.W.instObj C s.heap.objs.size) }:=by
  have e1:(s.heap.push PySem.W.emptyDict).get? s.heap.objs.size=some PySem.W.emptyDict:=Heap.get?_push_size s.heap rfl
  have e2:((s.heap.push PySem.W.emptyDict).push (PySem.W.instObj C s.heap.objs.size)).get? (s.heap.objs.size+1)=some (PySem.W.instObj C s.heap.objs.size):=by
    have:=Heap.get?_push_size (s.heap.push PySem.W.emptyDict) (o:=PySem.W.instObj C s.heap.objs.size) rfl
    rwa [Heap.size_push] at this
  have e3:(s.heap.push PySem.W.emptyDict).Ns s.heap.objs.size (fun _=>none):=⟨PySem.W.emptyDict,#[],_,e1,rfl,(fun e he=>absurd he (by simp)),fun _=>rfl⟩
  have I1:=I.laid (a:=s.heap.objs.size) (o:=.own (s.heap.objs.size+1)) (h':=s.heap.push PySem.W.emptyDict) (t':=s.toks) (fun b u q=>Heap.get?_push_of_some _ q) (Nat.le_refl _) ⟨_,e1⟩
  refine I1.laid (a:=s.heap.objs.size+1) (o:=.ins C s.heap.objs.size []) (t':=s.toks) (fun b u q=>Heap.get?_push_of_some _ q) (Nat.le_of_eq (Heap.size_push _ _)) ?_
  have ne:s.heap.objs.size≠s.heap.objs.size+1:=Nat.ne_of_lt (Nat.lt_succ_self _)
  refine ⟨by rw [au ne,aB],Nat.zero_le _,ne,e2,fun _=>none,(Heap.Ns1.of_empty e3).at fun o q=>Heap.get?_push_of_some _ q,fun _=>True.intro,fun y hy=>absurd rfl hy⟩
theorem E6 {prog:Program} {w:World} {env:Env} {e:Expr} {f:Str} {pos:Pos} {s:Shared} {Q:Value→Shared→Prop} (hb:attributeBase e f env (eval e env)=eval e env)
    (h:wpAny (model prog w) A (eval e env) (fun o s₁=>wpAny (model prog w) A (getAttr o f true) Q E s₁) E s):wpAny (model prog w) A (eval (.Attribute e f pos) env) Q E s:=
  Attribute_any_ h (by rw [arm_eval_Attribute,hb])
end
def IQ (K:PySem.W.Frag) (ta:TE) (f:Str):TE:=fun σ H Q=>ta σ H fun x H1=>∃ a C dx fs v,x = .ref a∧H1 a=some (.ins C dx fs)∧Cls K C∧bq K C f∧fs.lookup f=some v∧Q v H1
def IZ (K:PySem.W.Frag) (ta tv:TE) (f:Str):TS:=fun D σ H=>tv σ H fun y H1=>ta σ H1 fun x H2=>∃ a C dx fs,x = .ref a∧H2 a=some (.ins C dx fs)∧Cls K C∧bq K C f∧fs.length < 1000 ∧
  D.nx σ (upd H2 a (.ins C dx (bN f y fs)))
section
variable {X:Cx} {o e value:Expr} {f:Str} {pos pos' tpos:Pos} {ta tv:TE}
theorem bP (he:PE X e ta) (hb:attributeBase e f X.env (eval e X.env)=eval e X.env):PE X (.Attribute e f pos) (IQ X.K ta f):=by
  intro pins s σ H Q I h
  refine E6 hb (thn (he pins s σ H _ I h) fun u s1 ⟨x,H1,I1,rx,a,C,dx,fs,v,ex,ea,c,n,l,q⟩=>?_)
  subst ex
  obtain rfl:u=Value.ref a:=rx
  exact vg I1 ea c n l fun u' s2 I2 ru=>⟨v,H1,I2,ru,q⟩
theorem dR (ha:PE X o ta) (hv:PE X value tv) (hs:swapsWith value (some (.Attribute o f pos')) pos.line X.env=pure false):PS X (.Assign [.Attribute o f pos'] value pos) (IZ X.K ta tv f):=by
  intro pins s σ H D I h
  refine plainObj_wpAny_Assign_Attribute (thn (hv pins s σ H _ I h) fun u s1 ⟨y,H1,I1,ry,q⟩=>thn (ha pins s1 σ H1 _ I1 q) fun ov s2 ⟨x,H2,I2,rx,a,C,dx,fs,ex,ea,c,n,l,q2⟩=>?_) hs
  subst ex
  obtain rfl:ov=Value.ref a:=rx
  exact uz I2 ea c n l ry fun s3 I3=>⟨σ,_,I3,q2⟩
end
section
variable {X:Cx} {pins:List (Addr×Obj)} {σ : St} {H:Hp} {s:Shared} {A:Around} {E:Value→Shared→Prop} {Q:Value→Shared→Prop} {c:Value} {b:Bool}
inductive iR (K:PySem.W.Frag) (H:Hp):V→Value→Prop where
  | non:iR K H .non (.type "NoneType")
  | bl (x:Bool):iR K H (.bl x) (.type "bool")
  | int (i:Int):iR K H (.int i) (.type "int")
  | str (x:Str):iR K H (.str x) (.type "str")
  | flt (x:UInt64):iR K H (.flt x) (.type "float")
  | lst {a:Addr} {xs:List V} (e:H a=some (.lst xs)):iR K H (.ref a) (.type "list")
  | frz {a:Addr} {o:Obj} {xs:List V} (e:H a=some (.frz o (.lst xs))):iR K H (.ref a) (.type "list")
  | tup {a:Addr} {xs:List V} (e:H a=some (.tup xs)):iR K H (.ref a) (.type "tuple")
  | dK {a:Addr} {kvs:List (Key×V)} (e:H a=some (.dK kvs)):iR K H (.ref a) (.type "dict")
  | dT {a:Addr} {kvs:List (List Key×V)} (e:H a=some (.dT kvs)):iR K H (.ref a) (.type "dict")
  | ins {a C dx:Addr} {fs:List (Str×V)} (e:H a=some (.ins C dx fs)) (cl:Cls K C) (ha:PySem.W.findIn K (.ref C) "__class__" = some (some (.builtin "object.__class__")))
      (hn:PySem.W.specialIn K (.builtin "object.__class__") "__get__" = some (some (.builtin "getset_descriptor.__get__"))) (htk:PySem.W.takesIn K (.builtin "object.__class__")=some true)
      (hm:PySem.W.mroIn K C (.type "object")=some true):iR K H (.ref a) (.ref C)
theorem oE {x:V} {u t:Value} (I:Inv X pins σ H s) (rx:RelV x u) (ty:iR X.K H x t) (e:PySem.W.kitOne X.K t c=some b) (h:∀ tk,Q (.bool b) { s with toks:=tk }) :
    wpAny (model X.prog X.w) A (call (.builtin "isinstance") [u,c]) Q E s:=by
  cases ty with
  | non=>cases (show u=Value.none from rx);exact PySem.W.kia_one PySem.W.kitx_none I.kIn True.intro e (fun z=>nomatch z) h
  | bl y=>cases (show u=Value.bool y from rx);exact PySem.W.kia_one PySem.W.kitx_bool I.kIn True.intro e (fun z=>nomatch z) h
  | int i=>obtain ⟨t,q⟩:=(show ∃ t,u=Value.int i t from rx);cases q;exact PySem.W.kia_one PySem.W.kitx_int I.kIn True.intro e (fun z=>nomatch z) h
  | str y=>obtain ⟨t,q⟩:=(show ∃ t,u=Value.str y t from rx);cases q;exact PySem.W.kia_one PySem.W.kitx_str I.kIn True.intro e (fun z=>nomatch z) h
  | flt y=>obtain ⟨t,q⟩:=(show ∃ t,u=Value.float y t from rx);cases q;exact PySem.W.kia_one PySem.W.kitx_float I.kIn True.intro e (fun z=>nomatch z) h
  | @lst a xs ea=>
    cases (show u=Value.ref a from rx)
    obtain ⟨_,_,n,_,h1⟩:=(show bJ X.prog X.w H s.heap a (.lst xs) from I.hok a _ ea)
    exact PySem.W.kia_one PySem.W.kitx_list I.kIn ⟨_,h1,rfl⟩ e (fun z=>nomatch z) h
  | @frz a ob xs ea=>
    cases (show u=Value.ref a from rx)
    obtain ⟨_,_,_,n,_,h1⟩:=(show bJ X.prog X.w H s.heap a (.frz ob (.lst xs)) from I.hok a _ ea)
    exact PySem.W.kia_one PySem.W.kitx_list I.kIn ⟨_,h1,rfl⟩ e (fun z=>nomatch z) h
  | @tup a xs ea=>
    cases (show u=Value.ref a from rx)
    obtain ⟨_,_,_,p⟩:=(show bJ X.prog X.w H s.heap a (.tup xs) from I.hok a _ ea)
    obtain ⟨o,h1,h2,_⟩:=p
    exact PySem.W.kia_one PySem.W.kitx_tuple I.kIn ⟨o,h1,h2⟩ e (fun z=>nomatch z) h
  | @dK a kvs ea=>
    cases (show u=Value.ref a from rx)
    obtain ⟨_,_,vs,_,p⟩:=(show bJ X.prog X.w H s.heap a (.dK kvs) from I.hok a _ ea)
    obtain ⟨o,es,ep,h1,h2,_⟩:=p
    exact PySem.W.kia_one PySem.W.kitx_dict I.kIn ⟨o,h1,h2.1⟩ e (fun z=>nomatch z) h
  | @dT a kvs ea=>
    cases (show u=Value.ref a from rx)
    obtain ⟨_,_,xs,_,o,es,ep,h1,h2,_⟩:=(show bJ X.prog X.w H s.heap a (.dT kvs) from I.hok a _ ea)
    exact PySem.W.kia_one PySem.W.kitx_dict I.kIn ⟨o,h1,h2.1⟩ e (fun z=>nomatch z) h
  | @ins a C dx fs ea cl ha hn htk hm=>
    cases (show u=Value.ref a from rx)
    obtain ⟨mA,O,_⟩:=jC I.hok ea
    obtain ⟨od,J,_⟩:=O.look
    exact PySem.W.kia_one (PySem.W.kitx_own (cl.get _) cl.hd ha hn htk hm) I.kIn J e (fun z=>nomatch z) h
end
structure bY (k:Nat) (A:Around):Prop where
  hd:A.handled=none
  dp:A.depth+3 * k+5 < recursionLimit
  un:A.units+16 * k+200 < cLine
theorem bY.mono {j k:Nat} {A:Around} (r:bY k A) (h:j≤k):bY j A:=⟨r.hd,by have:=r.dp;omega,by have:=r.un;omega⟩
theorem bY.deeper {k:Nat} {A:Around} (r:bY (k+1) A) (env:Env):bY k (A.deeper env):=
  ⟨r.hd,by have:=r.dp;show A.depth+1+3 * k+5 < _;omega,by have:=r.un;show A.units+3+16 * k+200 < _;omega⟩
theorem vc {A:Around} {C:Addr} {us:List Value} {kw:List (Str×Value)}:(A.under (.builtin "type.__call__" ⟨.ref C::us,kw⟩)).depth=A.depth+1:=by
  first | rfl | simp [Around.under,Code.weight,Code.isCreation,Code.isGuard,Code.isCaller,Code.frames,Code.isFrame,guardIds]
theorem u0 {A:Around} {C:Addr} {us:List Value} {kw:List (Str×Value)}:(A.under (.builtin "type.__call__" ⟨.ref C::us,kw⟩)).units=A.units+1:=by
  first | rfl | simp [Around.under,Code.cUnits,Code.frames,Code.isFrame]
theorem bY.make {k:Nat} {A:Around} (r:bY (k+1) A) (C:Addr) (us:List Value) (kw:List (Str×Value)):bY k (A.under (.builtin "type.__call__" ⟨.ref C::us,kw⟩)):=
  ⟨r.hd,by have:=r.dp;rw [vc];omega,by have:=r.un;rw [u0];omega⟩
theorem bY.depth {k:Nat} {A:Around} (r:bY k A):A.depth < recursionLimit:=by have:=r.dp;omega
theorem bY.units {k:Nat} {A:Around} (r:bY k A):A.units+64 < cLine:=by have:=r.un;omega
def o5:TA:=fun _ H Q=>Q [] H
def nO (ta:TE) (tr:TA):TA:=fun σ H Q=>ta σ H fun x H1=>tr σ H1 fun xs H2=>Q (x::xs) H2
section
variable {X:Cx} {e:Expr} {es:List Expr} {te:TE} {t:TA} {pos:Pos}
theorem ah:PA X [] o5:=fun _ _ _ _ H Q I h=>Calls.spliced_nil ⟨[],H,I,.nil,h⟩
theorem aa (ha:PE X e te) (hr:PA X es t) (hs:starEach (e::es) X.env=(false,eval e X.env)::starEach es X.env:=by rfl):PA X (e::es) (nO te t):=by
  intro pos pins s σ H Q I h
  rw [hs]
  show wpAny _ _ (spliced ((false,eval e X.env)::backTo pos (starEach es X.env))) _ _ s
  refine Calls.spliced_cons (thn (ha pins s σ H _ I h) fun u s1 ⟨x,H1,I1,r1,q1⟩=>?_)
  exact thn (hr pos pins s1 σ H1 _ I1 q1) fun us s2 ⟨xs,H2,I2,r2,q2⟩=>⟨x::xs,H2,I2,.cons r1 r2,q2⟩
def CG (t:TA):TE:=fun σ H Q=>t σ H fun xs H1=>xs.length≤sizeLine∧∀ p,H1 p=none→Q (.ref p) (upd H1 p (.tup xs))
def CI (t:TA):TE:=fun σ H Q=>t σ H fun xs H1=>xs.length≤sizeLine∧∀ p,H1 p=none→Q (.ref p) (upd H1 p (.lst xs))
theorem aQ {x1} (h:PA X es t):PE X (.Tuple es x1 pos) (CG t):=by
  intro pins s σ H Q I hq
  refine wpAny_Tuple_spliced (thn (h pos pins s σ H _ I hq) fun us s1 ⟨xs,H1,I1,r,z,q⟩=>⟨by rw [← r.length];exact z,?_⟩)
  have hf:H1 s1.heap.objs.size=none:=I1.hok.fresh (Nat.le_refl _)
  refine ⟨.ref s1.heap.objs.size,upd H1 s1.heap.objs.size (.tup xs),I1.laid (t':=s1.toks) (fun b u e=>Heap.get?_push_of_some _ e) (Nat.le_refl _) ?_,rfl,q _ hf⟩
  exact ⟨z,us,r,⟨_,Heap.get?_push_size _ rfl,rfl,_,rfl⟩⟩
theorem br (h:PA X es t):PE X (.List es pos) (CI t):=by
  intro pins s σ H Q I hq
  refine wpAny_List_spliced (thn (h pos pins s σ H _ I hq) fun us s1 ⟨xs,H1,I1,r,z,q⟩=>⟨by rw [← r.length];exact z,?_⟩)
  have hf:H1 s1.heap.objs.size=none:=I1.hok.fresh (Nat.le_refl _)
  refine ⟨.ref s1.heap.objs.size,upd H1 s1.heap.objs.size (.lst xs),I1.laid (t':=s1.toks) (fun b u e=>Heap.get?_push_of_some _ e) (Nat.le_refl _) ?_,rfl,q _ hf⟩
  exact ⟨z,us,0,r,Heap.get?_push_size _ rfl⟩
end
abbrev Sp:=List V→Hp→VK→XK→Prop
abbrev CXT:=List Env→Hp→Shared→XK→Value→Shared→Prop
structure nH (P:Program) (w:World) (K:PySem.W.Frag) (mg:Str→Option Value) (base:Heap) (A:Around) (outer:List Env) (s:Shared) (H:Hp):Prop where
  frames:A.frames=some outer
  mod:Mod K mg base
  bs:∀ b o,base.get? b=some o→s.heap.get? b=some o∧H b=none
  bsz:base.objs.size≤s.heap.objs.size
  g8:s.heap.FunFrames base outer
  frf:∀ b∈frs outer,H b=none
  hok:HOk P w H s.heap
  bare:AllBare s.gens
def CE (outer:List Env) (P:Program) (w:World) (H:Hp) (s:Shared) (Q:VK) (u:Value) (s':Shared):Prop:=
  ∃ v H',s'.os=s.os∧AllBare s'.gens∧Un (frs outer) [] H H' s.heap s'.heap∧HOk P w H' s'.heap∧RelV v u∧Q v H'
def CR (CX:CXT) (outer:List Env) (P:Program) (w:World) (H:Hp) (s:Shared) (Q:VK) (E:XK) (r:Result) (s':Shared):Prop:=
  match r with
  | .ok (.ret u)=>CE outer P w H s Q u s'
  | .ok _=>False
  | .error e=>CX outer H s E e s'
structure eU (P:Program) (w:World) (K:PySem.W.Frag) (mg:Str→Option Value) (base:Heap) (CX:CXT) (k:Nat) (f:Addr) (fd:FuncData) (ps:List Str) (sp:Sp):Prop where
  len:∀ vs H Q E,sp vs H Q E→vs.length=ps.length
  run:∀ (A:Around) (outer:List Env) (s:Shared) (H:Hp) (args:Args) (us:List Value) (vs:List V) (Q:VK) (E:XK),bY k A→nH P w K mg base A outer s H→BindsTo s fd args (ps.zip us)→Vals vs us→sp vs H Q E →
    codeAny (model P w) A (.call (.ref f) args) (CR CX outer P w H s Q E) s
theorem eU.imp {P:Program} {w:World} {K:PySem.W.Frag} {mg:Str→Option Value} {base:Heap} {CX:CXT} {k:Nat} {f:Addr} {fd:FuncData} {ps:List Str} {sp sp':Sp} (F:eU P w K mg base CX k f fd ps sp)
    (h:∀ vs H Q E,sp' vs H Q E→sp vs H Q E):eU P w K mg base CX k f fd ps sp':=
  ⟨fun vs H Q E q=>F.len vs H Q E (h _ _ _ _ q),fun A outer s H args us vs Q E hr he hb hv hs=>F.run A outer s H args us vs Q E hr he hb hv (h _ _ _ _ hs)⟩
theorem nH.make {P:Program} {w:World} {K:PySem.W.Frag} {mg:Str→Option Value} {base:Heap} {A:Around} {outer:List Env} {s:Shared} {H:Hp} (e:nH P w K mg base A outer s H) (C:Addr) (us:List Value) (kw:List (Str×Value)) :
    nH P w K mg base (A.under (.builtin "type.__call__" ⟨.ref C::us,kw⟩)) outer s H:=⟨by first | exact e.frames | (simpa [Around.under,Code.envs,Code.isFrame,pushEnvs] using e.frames),e.mod,e.bs,e.bsz,e.g8,e.frf,e.hok,e.bare⟩
section
variable {X:Cx} {pins:List (Addr×Obj)} {σ : St} {H:Hp} {s s':Shared}
theorem Inv.EM (I:Inv X pins σ H s):nH X.prog X.w X.K X.mg X.base X.A X.stack s H:=
  ⟨I.ok.frames,I.ok.mod,I.bs,Nat.le_trans I.ok.bsz I.sz,I.stack,I.o8,I.hok,I.bare⟩
theorem Inv.after {Q:VK} {u:Value} (I:Inv X pins σ H s) (h:CE X.stack X.prog X.w H s Q u s'):EP X pins σ Q u s':=by
  obtain ⟨v,H',os,bare,un,hok,r,q⟩:=h
  obtain ⟨hh,g,d,t,os'⟩:=s'
  obtain rfl:os'=s.os:=os
  exact ⟨v,H',I.call (h':=hh) (g':=g) (d':=d) (t':=t) (ch:=[]) un hok bare (fun b z=>absurd z (by simp)),r,q⟩
end
def zW (sp:Sp) (dvs:List V) (E:XK) (t:TA):TE:=fun σ H Q=>t σ H fun vs H1=>sp (vs++dvs) H1 Q E
def rq (C:Addr) (m:Str) (sp:Sp) (dvs:List V) (E:XK) (ta:TE) (t:TA):TE:=fun σ H Q=>ta σ H fun x H1=>∃ a dx fs,x = .ref a∧H1 a=some (.ins C dx fs)∧fs.lookup m=none ∧
  t σ H1 fun vs H2=>sp (x::(vs++dvs)) H2 Q E
def rz (C:Addr) (sp:Sp) (dvs:List V) (E:XK) (t:TA):TE:=fun σ H Q=>t σ H fun vs H1=>∀ x dx,H1 x=none→H1 dx=none→dx≠x →
  sp (.ref x::(vs++dvs)) (upd (upd H1 dx (.own x)) x (.ins C dx [])) (fun v H2=>v = .non∧Q (.ref x) H2) E
def Binds (K:PySem.W.Frag) (fd:FuncData) (ps:List Str) (ds:List Value):Prop:=
  ∀ (s:Shared) (us:List Value),K.In s.heap→(us++ds).length=ps.length→BindsTo s fd ⟨us,[]⟩ (ps.zip (us++ds))
theorem Binds.all {K:PySem.W.Frag} {fd:FuncData} {ps:List Str} (h:∀ us:List Value,us.length=ps.length→bindArgs fd ⟨us,[]⟩=pure (ps.zip us)):Binds K fd ps []:=fun s us _ hl=>by
  rw [List.append_nil] at hl ⊢
  exact .of_eq (h us hl)
def Passes (CX:CXT) (X:Cx) (E:XK):Prop:=∀ (pins:List (Addr×Obj)) (σ : St) (H:Hp) (s:Shared) (e:Value) (s':Shared),Inv X pins σ H s→CX X.stack H s E e s'→X.xe e s'
section
variable {X:Cx} {CX:CXT} {k:Nat} {f C:Addr} {fd:FuncData} {ps:List Str} {sp:Sp} {dvs:List V} {ds:List Value} {E:XK} {x m:Str} {p pos apos:Pos} {e o:Expr} {es:List Expr} {ta:TE} {t:TA}
theorem uK {pins:List (Addr×Obj)} {σ : St} {H:Hp} {s:Shared} {Q:VK} {us:List Value} {vs:List V} (F:eU X.prog X.w X.K X.mg X.base CX k f fd ps sp) (hr:bY k X.A) (hb:Binds X.K fd ps ds) (hd:Vals dvs ds) (hx:Passes CX X E)
    (I:Inv X pins σ H s) (r:Vals vs us) (h:sp (vs++dvs) H Q E):wpAny (model X.prog X.w) X.A (call (.ref f) us) (EP X pins σ Q) X.xe s:=by
  have r2:Vals (vs++dvs) (us++ds):=r.append hd
  have hl:(us++ds).length=ps.length:=by rw [← r2.length];exact F.len _ _ _ _ h
  refine wpAny_call (codeAny_mono (F.run X.A X.stack s H ⟨us,[]⟩ (us++ds) (vs++dvs) Q E hr I.EM (hb s us I.kIn hl) r2 h) fun r s' hq=>?_)
  cases r with
  | error e=>exact hx pins σ H s e s' I hq
  | ok fl=>
    cases fl with
    | ret u=>exact I.after hq
    | next=>exact False.elim hq
    | brk=>exact False.elim hq
    | cont=>exact False.elim hq
theorem DB (F:eU X.prog X.w X.K X.mg X.base CX k f fd ps sp) (hr:bY k X.A) (hg:Gl X x) (hm:X.mg x=some (.ref f)) (hk:PySem.W.keepIn X.K (.ref f)=true) (hb:Binds X.K fd ps ds) (hd:Vals dvs ds) (hx:Passes CX X E)
    (ha:PA X (e::es) t) (hdb:(x == ("__debug__" : Str))=false:=by decide) (he:starEach (e::es) X.env=(false,eval e X.env)::starEach es X.env:=by rfl) (hpl:(backTo pos (starEach es X.env)).any (·.1)=false:=by rfl) :
    PE X (.Call (.Name x p) (e::es) [] pos) (zW sp dvs E t):=by
  intro pins s σ H Q I h
  refine wpAny_Call_Name_kw (eZ I hg hm ?_ hdb)
  refine PySem.W.callWith_K (h₀:=X.base) I.ok.mod.kin hk (thn (ha pos pins s σ H _ I h) fun us s1 ⟨vs,H1,I1,r,q⟩=>⟨I1.kIn,?_⟩) he hpl
  exact uK F hr hb hd hx I1 r q
theorem Du {pl:Sem Bool} (he:PE X o ta) (c:Cls X.K C) (hm:Meth X.K C m f) (F:eU X.prog X.w X.K X.mg X.base CX k f fd ps sp) (hr:bY k X.A) (hb:Binds X.K fd ps ds) (hd:Vals dvs ds) (hx:Passes CX X E) (ha:PA X (e::es) t)
    (hst:starEach (e::es) X.env=(false,eval e X.env)::starEach es X.env:=by rfl) (hpl:(backTo pos (starEach es X.env)).any (·.1)=false:=by rfl)
    (ht:eval (.Call (.Attribute o m apos) (e::es) [] pos) X.env=(do
      let ov ← eval o X.env
      standAt apos.atName
      let (f,first) ← holding [ov] (getMethod ov m pl)
      callWith pos f first (backTo pos (starEach (e::es) X.env)) (backToKw pos (keywordEach [] X.env))):=by rfl) :
    PE X (.Call (.Attribute o m apos) (e::es) [] pos) (rq C m sp dvs E ta t):=by
  intro pins s σ H Q I h
  refine PySem.W.methodCall_KW (pl:=pl) (thn (he pins s σ H _ I h) fun u s1 ⟨x,H1,I1,rx,a,dx,fs,ex,ea,l,q⟩=>?_) ht
  subst ex
  obtain rfl:u=Value.ref a:=rx
  refine fZ I1 ea c hm l ?_
  refine PySem.W.callWith_K (first:=[.ref a]) (h₀:=X.base) I.ok.mod.kin hm.kp (thn (ha pos pins s1 σ H1 _ I1 q) fun us s2 ⟨vs,H2,I2,r,q2⟩=>⟨I2.kIn,?_⟩) hst hpl
  exact uK (us:=.ref a::us) (vs:=.ref a::vs) F hr hb hd hx I2 (.cons rfl r) q2
theorem AI {pl:Sem Bool} (he:PE X o ta) (c:Cls X.K C) (hm:Meth X.K C m f) (F:eU X.prog X.w X.K X.mg X.base CX k f fd ps sp) (hr:bY k X.A) (hb:Binds X.K fd ps ds) (hd:Vals dvs ds) (hx:Passes CX X E)
    (ht:eval (.Call (.Attribute o m apos) [] [] pos) X.env=(do
      let ov ← eval o X.env
      standAt apos.atName
      let (f,first) ← holding [ov] (getMethod ov m pl)
      callWith pos f first (backTo pos (starEach [] X.env)) (backToKw pos (keywordEach [] X.env))):=by rfl) :
    PE X (.Call (.Attribute o m apos) [] [] pos) (rq C m sp dvs E ta o5):=by
  intro pins s σ H Q I h
  refine PySem.W.methodCall_KW (pl:=pl) (thn (he pins s σ H _ I h) fun u s1 ⟨x,H1,I1,rx,a,dx,fs,ex,ea,l,q⟩=>?_) ht
  subst ex
  obtain rfl:u=Value.ref a:=rx
  refine fZ I1 ea c hm l ?_
  exact PySem.W.callWith_K0 (first:=[.ref a]) I1.kIn hm.kp (uK (us:=[.ref a]) (vs:=[.ref a]) F hr hb hd hx I1 (.cons rfl .nil) q)
structure Mk (K:PySem.W.Frag) (C f:Addr):Prop where
  makes:PySem.W.makesIn K C=true
  init:PySem.W.findIn K (.ref C) "__init__" = some (some (.ref f))
  fn:PySem.W.isFn K (.ref f)=true
  kp:PySem.W.keepIn K (.ref C)=true
theorem Az {pins:List (Addr×Obj)} {σ : St} {H:Hp} {s:Shared} {Q:VK} {us:List Value} {vs:List V} (M:Mk X.K C f) (F:eU X.prog X.w X.K X.mg X.base CX k f fd ps sp) (hr:bY (k+1) X.A) (hb:Binds X.K fd ps ds) (hd:Vals dvs ds)
    (hx:Passes CX X E) (I:Inv X pins σ H s) (r:Vals vs us)
    (h:∀ x dx,H x=none→H dx=none→dx≠x→sp (.ref x::(vs++dvs)) (upd (upd H dx (.own x)) x (.ins C dx [])) (fun v H2=>v = .non∧Q (.ref x) H2) E) :
    wpAny (model X.prog X.w) X.A (call (.ref C) us) (EP X pins σ Q) X.xe s:=by
  have hq:=h (s.heap.objs.size+1) s.heap.objs.size (I.hok.fresh (Nat.le_succ _)) (I.hok.fresh (Nat.le_refl _)) (Nat.ne_of_lt (Nat.lt_succ_self _))
  have I2:=Inv.made (C:=C) I
  have r2:Vals (V.ref (s.heap.objs.size+1)::(vs++dvs)) (Value.ref (s.heap.objs.size+1)::(us++ds)):=.cons rfl (r.append hd)
  have hl:(Value.ref (s.heap.objs.size+1)::us++ds).length=ps.length:=by
    have e:=r2.length
    rw [F.len _ _ _ _ hq] at e
    exact e.symm
  refine wpAny_call (Bg (f:=f) I.kIn M.makes M.init (beq_iff_eq.mp M.fn) (codeAny_mono (F.run _ X.stack _ _ ⟨Value.ref (s.heap.objs.size+1)::us,[]⟩ (Value.ref (s.heap.objs.size+1)::(us++ds)) _ _ E (hr.make C us [])
    (I2.EM.make C us []) (hb _ (Value.ref (s.heap.objs.size+1)::us) I2.kIn hl) r2 hq) fun r s' hq'=>?_))
  cases r with
  | error e=>exact hx pins σ _ _ e s' I2 hq'
  | ok fl=>
    cases fl with
    | ret u=>
      obtain ⟨v,H',I3,rv,ev,q3⟩:=I2.after hq'
      subst ev
      exact ⟨rv,⟨V.ref (s.heap.objs.size+1),H',I3,rfl,q3⟩⟩
    | next=>exact False.elim hq'
    | brk=>exact False.elim hq'
    | cont=>exact False.elim hq'
theorem wR (M:Mk X.K C f) (F:eU X.prog X.w X.K X.mg X.base CX k f fd ps sp) (hr:bY (k+1) X.A) (hg:Gl X x) (hm:X.mg x=some (.ref C)) (hb:Binds X.K fd ps ds) (hd:Vals dvs ds) (hx:Passes CX X E)
    (ha:PA X (e::es) t) (hdb:(x == ("__debug__" : Str))=false:=by decide) (he:starEach (e::es) X.env=(false,eval e X.env)::starEach es X.env:=by rfl) (hpl:(backTo pos (starEach es X.env)).any (·.1)=false:=by rfl) :
    PE X (.Call (.Name x p) (e::es) [] pos) (rz C sp dvs E t):=by
  intro pins s σ H Q I h
  refine wpAny_Call_Name_kw (eZ I hg hm ?_ hdb)
  refine PySem.W.callWith_K (h₀:=X.base) I.ok.mod.kin M.kp (thn (ha pos pins s σ H _ I h) fun us s1 ⟨vs,H1,I1,r,q⟩=>⟨I1.kIn,?_⟩) he hpl
  exact Az M F hr hb hd hx I1 r q
end
section
variable {X:Cx} {CX:CXT} {k:Nat} {f C:Addr} {fd:FuncData} {ps ks:List Str} {sp:Sp} {E:XK} {x m:Str} {p pos apos kpos:Pos} {e o:Expr} {es:List Expr} {kws:List Keyword} {te ta:TE} {t tk:TA} {nm:Option Str}
structure Lh (K:PySem.W.Frag) (fd:FuncData) (ps ks:List Str) (g:List Value→List Value→List Value) (gV:List V→List V→List V):Prop where
  to:∀ (s:Shared) (us ws:List Value),K.In s.heap→(g us ws).length=ps.length→BindsTo s fd ⟨us,ks.zip ws⟩ (ps.zip (g us ws))
  rel:∀ {vs:List V} {us:List Value} {zs:List V} {ws:List Value},Vals vs us→Vals zs ws→Vals (gV vs zs) (g us ws)
variable {g:List Value→List Value→List Value} {gV:List V→List V→List V}
end
structure ao (N P:List Str) (sc:Scope):Prop where
  kind:sc.kind = .function
  co:sc.isCoroutine=false
  gen:sc.isGenerator=false
  nd:N.Nodup
  pre:N.take P.length=P
  par:∀ x∈P,sc.names.lookup x=some .local∨sc.names.lookup x=some .cell
  nofree:∀ y∈sc.names,y.2≠.free
theorem oQ {kindOf:Str→Option NameKind} {x:Str}:∀ {binds:List (Str×Value)} {m:Str→Option Value},(∀ v,(x,v)∉binds)→bindL kindOf binds m x=m x
  | [],_,_=>rfl
  | (n,v)::r,m,h=>by
    unfold bindL
    rw [oQ fun w hw=>h w (List.mem_cons_of_mem _ hw)]
    split
    · have:x≠n:=by rintro rfl;exact h v List.mem_cons_self
      simp [this]
    · rfl
theorem oS {kindOf:Str→Option NameKind} {x:Str}:∀ {binds:List (Str×Value)} {m:Str→Option Value},(∀ v,(x,v)∉binds)→bindC kindOf binds m x=m x
  | [],_,_=>rfl
  | (n,v)::r,m,h=>by
    unfold bindC
    rw [oS fun w hw=>h w (List.mem_cons_of_mem _ hw)]
    split
    · rfl
    · have:x≠n:=by rintro rfl;exact h v List.mem_cons_self
      simp [this]
theorem oR {kindOf:Str→Option NameKind} {x:Str} {v:Value}:∀ {P:List Str} {vs:List Value} {i:Nat} {m:Str→Option Value},P.Nodup→P[i]?=some x→vs[i]?=some v→kindOf x=some .local →
    bindL kindOf (P.zip vs) m x=some v
  | [],_,_,_,_,h,_,_=>by simp at h
  | _::_,[],_,_,_,_,h,_=>by simp at h
  | p::P,w::vs,0,m,nd,h1,h2,hk=>by
    simp at h1 h2;subst h1;subst h2
    show bindL kindOf ((p,w)::P.zip vs) m p=_
    unfold bindL
    rw [oQ fun v hv=>(List.nodup_cons.mp nd).1 (List.of_mem_zip hv).1,if_pos hk]
    simp
  | p::P,w::vs,i+1,m,nd,h1,h2,hk=>by
    show bindL kindOf ((p,w)::P.zip vs) m x=_
    unfold bindL
    exact oR (i:=i) (List.nodup_cons.mp nd).2 (by simpa using h1) (by simpa using h2) hk
theorem oU {kindOf:Str→Option NameKind} {x:Str} {v:Value}:∀ {P:List Str} {vs:List Value} {i:Nat} {m:Str→Option Value},P.Nodup→P[i]?=some x→vs[i]?=some v→kindOf x≠some .local →
    bindC kindOf (P.zip vs) m x=some v
  | [],_,_,_,_,h,_,_=>by simp at h
  | _::_,[],_,_,_,_,h,_=>by simp at h
  | p::P,w::vs,0,m,nd,h1,h2,hk=>by
    simp at h1 h2;subst h1;subst h2
    show bindC kindOf ((p,w)::P.zip vs) m p=_
    unfold bindC
    rw [oS fun v hv=>(List.nodup_cons.mp nd).1 (List.of_mem_zip hv).1,if_neg hk]
    simp
  | p::P,w::vs,i+1,m,nd,h1,h2,hk=>by
    show bindC kindOf ((p,w)::P.zip vs) m x=_
    unfold bindC
    exact oU (i:=i) (List.nodup_cons.mp nd).2 (by simpa using h1) (by simpa using h2) hk
def start (N:List Str) (vs:List V):St:=vs.map some++List.replicate (N.length - vs.length) none
def aY (CX:CXT) (P:Program) (w:World) (K:PySem.W.Frag) (mg:Str→Option Value) (base:Heap) (N:List Str) (qual:Str) (scope:Scope) (f:Addr) (cd:Value) (A:Around) (outer:List Env) (s:Shared) (H:Hp) (E:XK):Cx where
  prog:=P
  w:=w
  K:=K
  mg:=mg
  base:=base
  A:=A.deeper (envOfC qual scope s.heap.objs.size f cd)
  N:=N
  s₀:=s
  H₀:=H
  env:=envOfC qual scope s.heap.objs.size f cd
  outer:=outer
  stack:=envOfC qual scope s.heap.objs.size f cd::outer
  ex:=[]
  calm:=true
  fn:=fun _=>true
  pn:=[]
  xe:=fun e s'=>wpAny (model P w) (A.deeper (envOfC qual scope s.heap.objs.size f cd)) (leaving (envOfC qual scope s.heap.objs.size f cd) e) (fun _ s''=>CX outer H s E e s'') (fun e' s''=>CX outer H s E e' s'') s'
theorem tR {sc:Scope} {n:Nat} {x:Str} (h:sc.names.lookup x=some .cell):∃ c,(cellsFrom n sc.names []).lookup x=some c:=by
  have q:=PySem.W.cellsFrom_some sc.names n [] (.inl h)
  exact Option.isSome_iff_exists.mp q
theorem oG {CX:CXT} {P:Program} {w:World} {K:PySem.W.Frag} {mg:Str→Option Value} {base:Heap} {N ps:List Str} {qual:Str} {scope:Scope} {f:Addr} {cd:Value} {A:Around} {outer:List Env} {s s1:Shared} {H:Hp} {E:XK} {us:List Value} {vs:List V}
    (S:ao N ps scope) (hd:A.handled=none) (e0:nH P w K mg base A outer s H) (hl:vs.length=ps.length) (r:Vals vs us)
    (x:InCallC s s.heap.objs.size (bindL (envOfC qual scope s.heap.objs.size f cd).kindOf (ps.zip us) fun _=>none) (cellsFrom (s.heap.objs.size+1) scope.names []) (bindC (envOfC qual scope s.heap.objs.size f cd).kindOf (ps.zip us) fun _=>none) s1) :
    Inv (aY CX P w K mg base N qual scope f cd A outer s H E) [] (start N vs) H s1:=by
  have hpl:ps.length≤N.length:=by have:=congrArg List.length S.pre;rw [List.length_take] at this;omega
  obtain ⟨h1,tk,rfl,hk⟩:=x.done
  have noA:∀ b:Addr,b∉(aY CX P w K mg base N qual scope f cd A outer s H E).ex:=fun b z=>absurd (show b∈([]:List Addr) from z) (by simp)
  refine ⟨⟨e0.mod,S.kind,rfl,rfl,Nat.le_refl _,fun y z c h1 h2=>?_,fun y hy=>?_,fun y c _ h=>?_,fun _=>hd,Around.frames_deeper e0.frames,.inr ⟨rfl,rfl⟩,fun b z=>absurd z (noA b),e0.bs,e0.bsz,fun b _ _=>noA b,fun b z=>absurd z (noA b),e0.g8,e0.frf⟩,
    rfl,e0.bare,Un.kept hk,⟨_,x.toInCall.ns,fun i y v h1 h2 h3=>?_⟩,fun y c h=>⟨_,x.cell y c h⟩,e0.hok.fresh (Nat.le_refl _),fun y c h=>?_,fun p hp=>absurd (show p∈([]:List (Addr×Obj)) from hp) (by simp),e0.hok.kept hk,?_⟩
  · exact name_of_addr x.apart (PySem.mem_of_lookup h1) (PySem.mem_of_lookup h2)
  · have hy:scope.names.lookup y=some .cell∨scope.names.lookup y=some .free:=hy
    rcases hy with hy | hy
    · exact tR hy
    · exact absurd rfl (S.nofree _ (PySem.mem_of_lookup hy))
  · exact Nat.le_of_lt (x.above y c (PySem.mem_of_lookup h))
  · have hi:i < vs.length:=by
      unfold start at h2
      by_cases hi:i < vs.length
      · exact hi
      · rw [List.getElem?_append_right (by simpa using hi)] at h2
        rw [List.getElem?_replicate] at h2
        split at h2 <;> cases h2
    have ha:vs[i]?=some v:=by
      unfold start at h2
      rw [List.getElem?_append_left (by simpa using hi),List.getElem?_map] at h2
      cases e:vs[i]? with
      | none=>rw [e] at h2;cases h2
      | some a=>rw [e] at h2;cases h2;rfl
    obtain ⟨u,hu,rv⟩:=r.get ha
    have hp:ps[i]?=some y:=by
      rw [← S.pre,List.getElem?_take_of_lt (by omega)];exact h1
    have ndP:ps.Nodup:=by rw [← S.pre];exact S.nd.sublist (List.take_sublist _ _)
    refine ⟨u,rv,?_⟩
    rcases S.par y (List.mem_of_getElem? hp) with k | k
    · exact .inl ⟨k,oR ndP hp hu k⟩
    · obtain ⟨c,e⟩:=tR (n:=s.heap.objs.size+1) k
      refine .inr ⟨.inl k,c,e,?_⟩
      have q:=x.cell y c e
      rw [oU ndP hp hu (by show scope.names.lookup y≠_;rw [k];decide)] at q
      exact q
  · exact e0.hok.fresh (Nat.le_of_lt (x.above y c (PySem.mem_of_lookup h)))
  · unfold start
    show _=N.length
    rw [List.length_append,List.length_map,List.length_replicate]
    omega
theorem oJ {CX:CXT} {P:Program} {w:World} {K:PySem.W.Frag} {mg:Str→Option Value} {base:Heap} {k:Nat} {f:Addr} {name qual:Str} {params:Arguments} {body:List Stmt} {scope:Scope} {dV kV doc pm cdv ct oc:Value} {an od:Option Addr}
    {osl:Array (Option Value)} {N ps:List Str} {sp:Sp} (lk:K.lookup f=some ⟨oc,od,.func (PySem.W.fnOf name qual params body scope dV kV doc pm an cdv ct),osl⟩) (hcd:PySem.W.codeIn K cdv qual=true) (S:ao N ps scope)
    (len:∀ vs H Q E,sp vs H Q E→vs.length=ps.length)
    (hbody:∀ (A:Around) (outer:List Env) (s:Shared) (H:Hp) (vs:List V) (Q:VK) (E:XK),bY k (A.deeper (envOfC qual scope s.heap.objs.size f cdv))→sp vs H Q E →
      ∃ t,PSs (aY CX P w K mg base N qual scope f cdv A outer s H E) body t∧t { nx:=fun _ H'=>Q .non H',rt:=Q } (start N vs) H) :
    eU P w K mg base CX (k+1) f (PySem.W.fnOf name qual params body scope dV kV doc pm an cdv ct) ps sp:=by
  refine ⟨len,fun A outer s H args us vs Q E hr e0 hb r hsp=>?_⟩
  have hl:=len _ _ _ _ hsp
  have KX:K.In s.heap:=e0.mod.kin.keeps fun b o e=>(e0.bs b o e).1
  have lim:s.heap.NoLimit:=e0.mod.nolimit.keeps fun b o e=>(e0.bs b o e).1
  have hkind:∀ y∈ps.zip us,scope.names.lookup y.1=some .local∨(scope.names.lookup y.1=some .cell∧((cellsFrom (s.heap.objs.size+1) scope.names []).lookup y.1).isSome=true):=fun ⟨n,v⟩ hy=>by
    rcases S.par n (List.of_mem_zip hy).1 with q | q
    · exact .inl q
    · exact .inr ⟨q,PySem.W.cellsFrom_some _ _ _ (.inl q)⟩
  refine codeAny_call_function hr.depth (KX _ _ lk) rfl S.co S.gen rfl (PySem.W.codeRec_of KX hcd) (hb _ _ _ _ ?_)
  refine wpAny_newFunctionEnv_cells S.kind hkind fun env he s1 x=>?_
  subst he
  refine ⟨lim.keeps x.toInCall.keep,codeAny_func ?_⟩
  obtain ⟨t,ht,hq⟩:=hbody A outer s H vs Q E (hr.deeper _) hsp
  have I:Inv (aY CX P w K mg base N qual scope f cdv A outer s H E) [] (start N vs) H s1:=oG S hr.hd e0 hl r x
  refine wpAny_mono (ht [] s1 (start N vs) H _ I hq) (fun fl s' hs=>?_) fun e s' hs=>hs
  have fin:∀ {σ':St} {H':Hp} {v:V} {u:Value},Inv (aY CX P w K mg base N qual scope f cdv A outer s H E) [] σ' H' s'→RelV v u→Q v H'→CE outer P w H s Q u s':=
    fun {σ' H' v u} J rv q=>⟨v,H',J.os,J.bare,J.base,J.hok,rv,q⟩
  cases fl with
  | ret u=>
    obtain ⟨v,σ',H',J,rv,q⟩:=hs
    exact fin J rv q
  | next=>
    obtain ⟨σ',H',J,q⟩:=hs
    exact fin (v:=V.non) (u:=Value.none) J rfl q
  | brk=>
    obtain ⟨_,_,_,q⟩:=hs
    exact False.elim q
  | cont=>
    obtain ⟨_,_,_,q⟩:=hs
    exact False.elim q
section
variable {X:Cx} {x:Str} {p pos:Pos} {e:Expr} {es:List Expr} {t:TA} {id T:String} {r:List V→Hp→VK→Prop}
def tCB (r:List V→Hp→VK→Prop) (t:TA):TE:=fun σ H Q=>t σ H fun vs H1=>r vs H1 Q
theorem aX (hc:dj X (.builtin id) r) (hg:Gl X x) (hm:X.mg x=none) (hv:bootBuiltins x=some (.builtin id)) (ha:PA X (e::es) t) (hn:x ≠ "__name__" := by decide) (hdb:(x == ("__debug__" : Str))=false:=by decide)
    (he:starEach (e::es) X.env=(false,eval e X.env)::starEach es X.env:=by rfl) (hpl:(backTo pos (starEach es X.env)).any (·.1)=false:=by rfl):PE X (.Call (.Name x p) (e::es) [] pos) (tCB r t):=by
  intro pins s σ H Q I h
  refine wpAny_Call_Name_kw (fV I hg hm hv ?_ hn hdb)
  exact PyProof.Rows.callWith_builtin1 (thn (ha pos pins s σ H _ I h) fun us s1 ⟨vs,H1,I1,r1,q1⟩=>hc pins s1 σ H1 vs us Q I1 r1 q1) he hpl
theorem iJ (hc:dj X (.type T) r) (hg:Gl X x) (hm:X.mg x=none) (hv:bootBuiltins x=some (.type T)) (ha:PA X (e::es) t) (hn:x ≠ "__name__" := by decide) (hdb:(x == ("__debug__" : Str))=false:=by decide)
    (he:starEach (e::es) X.env=(false,eval e X.env)::starEach es X.env:=by rfl) (hpl:(backTo pos (starEach es X.env)).any (·.1)=false:=by rfl):PE X (.Call (.Name x p) (e::es) [] pos) (tCB r t):=by
  intro pins s σ H Q I h
  refine wpAny_Call_Name_kw (fV I hg hm hv ?_ hn hdb)
  exact PyProof.Rows.callWith_type1 (thn (ha pos pins s σ H _ I h) fun us s1 ⟨vs,H1,I1,r1,q1⟩=>hc pins s1 σ H1 vs us Q I1 r1 q1) he hpl
end
end L2
namespace HT
open PySem PyProof.Rows
def lexLt:List Int→List Int→Bool
  | [],[]=>false
  | [],_::_=>true
  | _::_,[]=>false
  | x::xs,y::ys=>if x=y then lexLt xs ys else decide (x < y)
theorem jf (x y:Int) (xs ys:List Int):lexLt (x::xs) (y::ys)=if x=y then lexLt xs ys else decide (x < y):=rfl
theorem nk:lexLt [] []=false:=rfl
theorem lQ (y:Int) (ys:List Int):lexLt [] (y::ys)=true:=rfl
theorem lR (x:Int) (xs:List Int):lexLt (x::xs) []=false:=rfl
theorem BL (A:Around) (s:Shared) (a:Int) (t:Tok) (c:Int) (u:Tok):∃ e,SeqAt.EqAt A s (.int a t) (.int c u) e∧(e=true↔a=c):=
  ⟨(a == c),SeqAt.EqAt.int_int a t c u,by simp⟩
section
variable {prog:Program} {w:World} {A:Around} {E:Value→Shared→Prop} {s:Shared}
def sIx (n d:Nat):Option Int→Nat
  | none=>d
  | some v=>if v < 0 then (v+(n:Int)).toNat else min v.toNat n
theorem Ay (n d:Nat):sIx n d none=d:=rfl
theorem Dk (n d k:Nat):sIx n d (some (k:Int))=min k n:=by
  show (if (k:Int) < 0 then ((k:Int)+(n:Int)).toNat else min (k:Int).toNat n)=min k n
  rw [if_neg (by omega),Int.toNat_natCast]
end
end HT
namespace L2
open PySem PySem.Spec PyProof.Rows
abbrev TO:=St→Hp→(Option Int→Hp→Prop)→Prop
def PO (X:Cx) (e:Option Expr) (t:TO):Prop:=
  ∀ (pins:List (Addr×Obj)) (s:Shared) (σ : St) (H:Hp) (Q:Option Int→Hp→Prop),Inv X pins σ H s→t σ H Q →
    wpAny (model X.prog X.w) X.A (evalPart e X.env) (fun u s'=>∃ o H',Inv X pins σ H' s'∧IsPart u o∧Q o H') X.xe s
def wg:TO:=fun _ H Q=>Q none H
def Fo (t:TE):TO:=fun σ H Q=>t σ H fun x H1=>∃ i,x = .int i∧Q (some i) H1
theorem intsAre_of {ns:List Int}:∀ {us:List Value},Vals (ns.map V.int) us→IntsAre us ns:=by
  induction ns with
  | nil=>intro us r;rw [List.map_nil] at r;cases r;exact .nil
  | cons n ns ih=>
    intro us r
    rw [List.map_cons] at r
    cases r with
    | cons r1 r2=>
      obtain ⟨t,e⟩:=r1
      subst e
      exact .cons n t (ih r2)
section
variable {X:Cx} {e:Expr} {te:TE} {lo hi:Option Expr} {tl th:TO} {pos p2:Pos}
theorem wO:PO X none wg:=by
  intro pins s σ H Q I h
  rw [evalPart_none]
  exact wpAny_pure ⟨none,H,I,.none,h⟩
theorem wN (h:PE X e te):PO X (some e) (Fo te):=by
  intro pins s σ H Q I hw
  rw [evalPart_some]
  refine thn (h pins s σ H _ I hw) fun u s1 ⟨x,H1,I1,r1,q1⟩=>?_
  obtain ⟨i,rfl,q⟩:=q1
  obtain ⟨t,rfl⟩:=r1
  exact ⟨some i,H1,I1,.int i t,q⟩
def SlR (X:Cx) (r:V→Option Int→Option Int→Hp→VK→Prop):Prop:=
  ∀ (pins:List (Addr×Obj)) (s:Shared) (σ : St) (H:Hp) (x:V) (v vl vu:Value) (lo hi:Option Int) (sl:Addr) (Q:VK),Inv X pins σ H s→RelV x v→s.heap.IsSliceOf sl vl vu .none→IsPart vl lo→IsPart vu hi→r x lo hi H Q →
    ∃ T id,typeLookup (.type T) "__getitem__" = pure (some (.builtin id))∧s.TypeIs v T∧wpAny (model X.prog X.w) X.A (getItem v (.ref sl)) (EP X pins σ Q) X.xe s
def tSl (r:V→Option Int→Option Int→Hp→VK→Prop) (te:TE) (tl th:TO):TE:=fun σ H Q=>te σ H fun x H1=>tl σ H1 fun l H2=>th σ H2 fun u H3=>r x l u H3 Q
theorem r9 {r:V→Option Int→Option Int→Hp→VK→Prop} (hr:SlR X r) (he:PE X e te) (hl:PO X lo tl) (hu:PO X hi th):PE X (.Subscript e (.Slice lo hi none p2) pos) (tSl r te tl th):=by
  intro pins s σ H Q I h
  refine Subscript_ (thn (he pins s σ H _ I h) fun v s1 ⟨x,H1,I1,r1,q1⟩=>?_)
  refine wpAny_Slice (thn (hl pins s1 σ H1 _ I1 q1) fun vl s2 ⟨l,H2,I2,pl,q2⟩=>thn (hu pins s2 σ H2 _ I2 q2) fun vu s3 ⟨u,H3,I3,pu,q3⟩=>?_)
  rw [evalPart_none]
  refine wpAny_pure ?_
  have I4:Inv X pins σ H3 { s3 with heap:=s3.heap.push { cls:=.type "slice",data:=.fields #[vl,vu,.none] } }:=I3.kept (t':=s3.toks) fun b ob q=>Heap.get?_push_of_some _ q
  obtain ⟨T,id,hT,ht,hg⟩:=hr pins { s3 with heap:=s3.heap.push { cls:=.type "slice",data:=.fields #[vl,vu,.none] } } σ H3 x v vl vu l u s3.heap.objs.size Q I4 r1 (Heap.IsSliceOf.new ..) pl pu q3
  show wpAny (model X.prog X.w) X.A (subscriptTail e (.Slice lo hi none p2) v (.ref s3.heap.objs.size)) (EP X pins σ Q) X.xe { s3 with heap:=s3.heap.push { cls:=.type "slice",data:=.fields #[vl,vu,.none] } }
  exact tail_any (ops:=[.ref s3.heap.objs.size,v]) ht hT hg (by with_unfolding_all rfl)
def nA (xs:List V) (lo hi:Option Int):List V:=(xs.drop (HT.sIx xs.length 0 lo)).take (HT.sIx xs.length xs.length hi - HT.sIx xs.length 0 lo)
theorem tP (xs:List V) (lo hi:Option Int):(nA xs lo hi).length≤xs.length:=by
  unfold nA
  rw [List.length_take,List.length_drop]
  omega
end
def ixN (n:Nat) (i:Int):Option Nat:=if 0≤i then (if i < n then some i.toNat else none) else if -(n:Int)≤i then some (i+n).toNat else none
def atI {α : Type} (xs:List α) (i:Int):Option α:=(ixN xs.length i).bind fun j=>xs[j]?
theorem wY {n:Nat} {i:Int} {j:Nat} (h:ixN n i=some j):seqIndex? i n=some j∧j < n∧-(n:Int)≤i∧i < n:=by
  unfold ixN at h
  by_cases h0 : 0≤i
  · rw [if_pos h0] at h
    by_cases h1:i < n
    · rw [if_pos h1] at h
      have e:i.toNat=j:=Option.some.inj h
      exact ⟨by rw [seqIndex_of h0 h1,e],by omega,by omega,h1⟩
    · rw [if_neg h1] at h;cases h
  · rw [if_neg h0] at h
    by_cases h1 : -(n:Int)≤i
    · rw [if_pos h1] at h
      have e:(i+n).toNat=j:=Option.some.inj h
      exact ⟨by rw [seqIndex_neg (by omega) h1,e],by omega,h1,by omega⟩
    · rw [if_neg h1] at h;cases h
theorem qP {α : Type} {xs:List α} {i:Int} {v : α} (h:atI xs i=some v):∃ j,seqIndex? i xs.length=some j∧xs[j]?=some v∧j < xs.length∧-(xs.length:Int)≤i∧i < xs.length:=by
  unfold atI at h
  cases e:ixN xs.length i with
  | none=>rw [e] at h;cases h
  | some j=>
    rw [e] at h
    obtain ⟨h1,h2,h3,h4⟩:=wY e
    exact ⟨j,h1,h,h2,h3,h4⟩
theorem gn {α : Type} {xs:List α} {j:Nat} {v : α} (h:xs[j]?=some v):atI xs (j:Int)=some v:=by
  have hj:j < xs.length:=(List.getElem?_eq_some_iff.mp h).1
  have e:ixN xs.length (j:Int)=some j:=by
    unfold ixN
    rw [if_pos (by omega),if_pos (by omega)];simp
  unfold atI;rw [e];exact h
def Fc (b:Expr):Prop:=∀ o i,subscripted b false o i=operate [o,i] (getItem o i)
def IxR (X:Cx) (r:R2):Prop:=
  ∀ (value slice:Expr) (pins:List (Addr×Obj)) (s:Shared) (σ : St) (H:Hp) (x y:V) (v u:Value) (Q:VK),Inv X pins σ H s→RelV x v→RelV y u→r x y H Q →
    subscripted slice false v u=operate [v,u] (getItem v u)→wpAny (model X.prog X.w) X.A (subscriptTail value slice v u) (EP X pins σ Q) X.xe s
def MtR (X:Cx) (id:String) (r:V→List V→Hp→VK→Prop):Prop:=
  ∀ (pins:List (Addr×Obj)) (s:Shared) (σ : St) (H:Hp) (x:V) (xs:List V) (v:Value) (us:List Value) (Q:VK),Inv X pins σ H s→RelV x v→Vals xs us→r x xs H Q →
    wpAny (model X.prog X.w) X.A (call (.builtin id) (v::us)) (EP X pins σ Q) X.xe s
section
variable {X:Cx} {a b:Expr} {ta tb:TE} {pos:Pos}
theorem ay {r:R2} (hr:IxR X r) (ha:PE X a ta) (hb:PE X b tb) (hs:Fc b):PE X (.Subscript a b pos) (tOp r ta tb):=by
  intro pins s σ H Q I h
  exact Subscript_ (Ig ha hb I h fun v u s2 x y H2 I2 rx ry q=>hr a b pins s2 σ H2 x y v u Q I2 rx ry q (hs _ _))
def Dn (K:PySem.W.Frag):R2:=fun x y H Q=>∃ p xs i v,x = .ref p∧y = .int i∧SqL K H p xs∧atI xs i=some v∧Q v H
def Dm (K:PySem.W.Frag):R2:=fun x y H Q=>∃ p xs i v,x = .ref p∧y = .int i∧SqT K H p xs∧atI xs i=some v∧Q v H
theorem bu:IxR X (Dn X.K):=by
  intro value slice pins s σ H x y v u Q I rx ry h hs
  obtain ⟨p,xs,i,z,rfl,rfl,hq,he,q⟩:=h
  cases rx
  obtain ⟨t,rfl⟩:=ry
  obtain ⟨its,r,pl,hz⟩:=I.list hq
  obtain ⟨j,h1,h2,h3,h4,h5⟩:=qP he
  obtain ⟨w,ew,rw'⟩:=r.get h2
  have hl:=r.length
  have hn:=qc
  have fin:EP X pins σ Q w s:=⟨z,H,I,rw',q⟩
  by_cases h0 : 0≤i
  · have hj:i.toNat=j:=by
      rw [seqIndex_of h0 h5] at h1
      exact Option.some.inj h1
    exact item_listR pl.isList h0 (by omega) (by rw [hj];simpa using ew) fin hs
  · have hj:(i+(its.toArray.size:Int)).toNat=j:=by
      rw [seqIndex_neg (by omega) h4] at h1
      rw [List.size_toArray,← hl]
      exact Option.some.inj h1
    exact subscriptTail_builtinR (x:=w) pl.isList.typeIs slot_list_getitem.lookup
      (wpAny_getItem_list_neg (Q:=fun r s'=>r=w∧EP X pins σ Q r s') pl.isList (by omega) (by rw [List.size_toArray] <;> omega) (by omega) (by rw [hj];simpa using ew) ⟨rfl,fin⟩) hs
theorem aE:IxR X (Dm X.K):=by
  intro value slice pins s σ H x y v u Q I rx ry h hs
  obtain ⟨p,xs,i,z,rfl,rfl,hq,he,q⟩:=h
  cases rx
  obtain ⟨t,rfl⟩:=ry
  obtain ⟨its,r,pl,hz⟩:=I.tuple hq
  obtain ⟨j,h1,h2,h3,h4,h5⟩:=qP he
  obtain ⟨w,ew,rw'⟩:=r.get h2
  have hl:=r.length
  have hn:=qc
  have fin:EP X pins σ Q w s:=⟨z,H,I,rw',q⟩
  exact subscriptTail_builtinR (x:=w) pl.typeIs slot_tuple_getitem.lookup
    (getItem_tuple (j:=j) (Q:=fun r s'=>r=w∧EP X pins σ Q r s') pl (by omega) (by omega) (by rw [List.size_toArray,← hl];exact h1) (by simpa using ew) ⟨rfl,fin⟩) hs
theorem uZ (its:List Value) (n j:Nat) (u:Value):Obj.mapSeq (·.setIfInBounds j u) { cls:=.type "list",data:=.seq its.toArray n }={ cls:=.type "list",data:=.seq (its.set j u).toArray n }:=by
  simp [Obj.mapSeq]
theorem Inv.lst {pins:List (Addr×Obj)} {σ : St} {H:Hp} {s:Shared} {p:Addr} {xs:List V} (I:Inv X pins σ H s) (h:H p=some (.lst xs)) :
    ∃ (its:List Value) (n:Nat),Vals xs its∧s.heap.get? p=some { cls:=.type "list",data:=.seq its.toArray n }∧xs.length≤sizeLine:=by
  obtain ⟨z,its,n,r,e⟩:=I.hok p _ h
  exact ⟨its,n,r,e,z⟩
theorem Inv.GI {pins:List (Addr×Obj)} {σ : St} {H:Hp} {s:Shared} {p:Addr} {xs ys:List V} {its its':List Value} {n n':Nat} {f:Obj→Obj} (I:Inv X pins σ H s) (h:H p=some (.lst xs))
    (ho:s.heap.get? p=some { cls:=.type "list",data:=.seq its.toArray n }) (hf:f { cls:=.type "list",data:=.seq its.toArray n }={ cls:=.type "list",data:=.seq its'.toArray n' }) (r:Vals ys its') (hz:ys.length≤sizeLine) (t:Nat) :
    Inv X pins σ (upd H p (.lst ys)) { s with heap:=s.heap.update p f,toks:=t }:=by
  have e:(s.heap.update p f).get? p=some { cls:=.type "list",data:=.seq its'.toArray n' }:=by
    rw [Heap.get?_update_self f ho (by rw [hf] <;> rfl),hf]
  refine I.write (x:=p) (e:=p) (by rw [h];trivial) (.inl rfl) (fun b u hb q=>(Heap.get?_update_other _ _ (Ne.symm hb)).trans q) ⟨_,e⟩ ?_
  exact ⟨hz,its',n',r,e⟩
def Jb:V→V→V→Hp→(Hp→Prop)→Prop:=fun o i v H Q=>∃ p xs k j,o = .ref p∧i = .int k∧H p=some (.lst xs)∧ixN xs.length k=some j∧Q (upd H p (.lst (xs.set j v)))
theorem set_list:Ku X Jb:=by
  intro pins s σ H o i v ov iv u Q I ro ri rv h
  obtain ⟨p,xs,k,j,rfl,rfl,hp,hj,q⟩:=h
  cases ro
  obtain ⟨t,rfl⟩:=ri
  obtain ⟨its,n,r,ho,hz⟩:=I.lst hp
  obtain ⟨h1,h2,h3,h4⟩:=wY hj
  have hl:=r.length
  have hn:=qc
  have I':Inv X pins σ (upd H p (.lst (xs.set j v))) { s with heap:=s.heap.update p (Obj.mapSeq (·.setIfInBounds j u)) }:=
    I.GI hp ho (uZ its n j u) (r.set rv j) (by rw [List.length_set];exact hz) s.toks
  by_cases h0 : 0≤k
  · have hk:k.toNat=j:=by
      rw [seqIndex_of h0 h4] at h1
      exact Option.some.inj h1
    exact PySem.W.ki_setAt ho h0 (by omega) (by rw [List.size_toArray,← hl];exact h4) (by rw [hk];exact ⟨_,I',q⟩)
  · have hk:(k+(its.toArray.size:Int)).toNat=j:=by
      rw [seqIndex_neg (by omega) h3] at h1
      rw [List.size_toArray,← hl]
      exact Option.some.inj h1
    exact PySem.W.ki_setBack ho (by omega) (by rw [List.size_toArray,← hl];exact h3) (by omega) (by rw [hk];exact ⟨_,I',q⟩)
theorem pK (lo hi:Option Int) (n:Nat):(sliceBounds lo hi none n).1=((HT.sIx n 0 lo:Nat):Int)∧(sliceBounds lo hi none n).2.1=((HT.sIx n n hi:Nat):Int)∧(sliceBounds lo hi none n).2.2=1:=by
  refine ⟨?_,?_,rfl⟩
  · cases lo with
    | none=>simp [sliceBounds,HT.sIx]
    | some i=>
      simp only [sliceBounds,HT.sIx,Option.getD_none,show (1:Int) > 0 by decide,if_true]
      by_cases h:i < 0
      · simp only [h,if_true] <;> omega
      · simp only [h,if_false] <;> omega
  · cases hi with
    | none=>simp [sliceBounds,HT.sIx]
    | some i=>
      simp only [sliceBounds,HT.sIx,Option.getD_none,show (1:Int) > 0 by decide,if_true]
      by_cases h:i < 0
      · simp only [h,if_true] <;> omega
      · simp only [h,if_false] <;> omega
theorem mX (its:List Value) (lo hi:Option Int):slicePick its.toArray lo hi none=((its.drop (HT.sIx its.length 0 lo)).take (HT.sIx its.length its.length hi - HT.sIx its.length 0 lo)).toArray:=by
  obtain ⟨h1,h2,h3⟩:=pK lo hi its.toArray.size
  unfold slicePick
  rw [h1,h2,h3]
  simp only [sliceRange_one,pick_run,List.size_toArray] <;> rfl
def Ja (K:PySem.W.Frag):V→Option Int→Option Int→Hp→VK→Prop:=fun x lo hi H Q=>∃ a xs,x = .ref a∧SqL K H a xs∧∀ p,H p=none→Q (.ref p) (upd H p (.lst (nA xs lo hi)))
theorem wJ:SlR X (Ja X.K):=by
  intro pins s σ H x v vl vu lo hi sl Q I rx hs pl pu h
  obtain ⟨a,xs,rfl,hx,q⟩:=h
  cases rx
  obtain ⟨its,r,ht,hz⟩:=I.list hx
  have hlen:=r.length
  refine ⟨"list",_,slot_list_getitem.lookup,ht.isList.typeIs,?_⟩
  refine wpAny_getItem_list_slice ht.isList hs pl pu .none (by simp) ?_ (by rw [List.size_toArray] <;> omega)
  rw [mX,← hlen]
  refine ⟨.ref s.heap.objs.size,_,I.laid (t':=s.toks) (o:=.lst (nA xs lo hi)) (fun b ob q=>Heap.get?_push_of_some _ q) (Nat.le_refl _) ?_,rfl,q _ (I.hok.fresh (Nat.le_refl _))⟩
  exact ⟨Nat.le_trans (tP xs lo hi) hz,_,0,(r.drop (HT.sIx xs.length 0 lo)).take (HT.sIx xs.length xs.length hi - HT.sIx xs.length 0 lo),Heap.get?_push_size _ rfl⟩
def cG:V→Bool
  | .non=>true
  | .bl _=>true
  | .int _=>true
  | .str _=>true
  | _=>false
def eqV:V→V→Bool
  | .non,.non=>true
  | .bl a,.bl b=>a == b
  | .bl a,.int b=>(if a then 1 else 0) == b
  | .int a,.bl b=>a == (if b then 1 else 0)
  | .int a,.int b=>a == b
  | .str a,.str b=>a == b
  | _,_=>false
theorem vt {A:Around} {s:Shared} {y x:V} {u v:Value} (ry:RelV y u) (rx:RelV x v) (fy:cG y=true) (fx:cG x=true):SeqAt.EqAt A s u v (eqV y x):=by
  cases y with
  | non=>
    cases ry
    cases x with
    | non=>cases rx;exact SeqAt.EqAt.same _
    | bl b=>cases rx;exact SeqAt.EqAt.none_bool b
    | int b=>obtain ⟨t,rfl⟩:=rx;exact SeqAt.EqAt.none_int b t
    | str b=>obtain ⟨t,rfl⟩:=rx;exact SeqAt.EqAt.none_str b t
    | _=>exact absurd (show false=true from fx) Bool.false_ne_true
  | bl a=>
    cases ry
    cases x with
    | non=>cases rx;exact SeqAt.EqAt.bool_none a
    | bl b=>cases rx;exact SeqAt.EqAt.bool_bool a b
    | int b=>obtain ⟨t,rfl⟩:=rx;exact SeqAt.EqAt.bool_int a b t
    | str b=>obtain ⟨t,rfl⟩:=rx;exact SeqAt.EqAt.bool_str a b t
    | _=>exact absurd (show false=true from fx) Bool.false_ne_true
  | int a=>
    obtain ⟨t',rfl⟩:=ry
    cases x with
    | non=>cases rx;exact SeqAt.EqAt.int_none a t'
    | bl b=>cases rx;exact SeqAt.EqAt.int_bool a t' b
    | int b=>obtain ⟨t,rfl⟩:=rx;exact SeqAt.EqAt.int_int a t' b t
    | str b=>obtain ⟨t,rfl⟩:=rx;exact SeqAt.EqAt.int_str a t' b t
    | _=>exact absurd (show false=true from fx) Bool.false_ne_true
  | str a=>
    obtain ⟨t',rfl⟩:=ry
    cases x with
    | non=>cases rx;exact SeqAt.EqAt.str_none a t'
    | bl b=>cases rx;exact SeqAt.EqAt.str_bool a t' b
    | int b=>obtain ⟨t,rfl⟩:=rx;exact SeqAt.EqAt.str_int a t' b t
    | str b=>obtain ⟨t,rfl⟩:=rx;exact SeqAt.EqAt.str_str a t' b t
    | _=>exact absurd (show false=true from fx) Bool.false_ne_true
  | _=>exact absurd (show false=true from fy) Bool.false_ne_true
def eqU (x:V) (u:Value):Bool:=match u with
  | .none=>eqV .non x
  | .bool b=>eqV (.bl b) x
  | .int i _=>eqV (.int i) x
  | .str z _=>eqV (.str z) x
  | _=>false
theorem BK {x y:V} {u:Value} (r:RelV y u) (f:cG y=true):eqU x u=eqV y x:=by
  cases y with
  | non=>cases r;rfl
  | bl b=>cases r;rfl
  | int i=>obtain ⟨t,rfl⟩:=r;rfl
  | str z=>obtain ⟨t,rfl⟩:=r;rfl
  | _=>exact absurd (show false=true from f) Bool.false_ne_true
theorem qR {x:V}:∀ {xs:List V} {us:List Value},Vals xs us→xs.all cG=true→us.any (eqU x)=xs.any fun y=>eqV y x
  | _,_,.nil,_=>rfl
  | y::xs,u::us,.cons r t,f=>by
    rw [List.all_cons,Bool.and_eq_true] at f
    rw [List.any_cons,List.any_cons,BK r f.1,qR t f.2]
theorem lO {A:Around} {s:Shared} {x:V} {v:Value} (rx:RelV x v) (fx:cG x=true):∀ {xs:List V} {us:List Value},Vals xs us→xs.all cG=true→∀ u∈us,SeqAt.EqAt A s u v (eqU x u)
  | _,_,.nil,_=>fun u hu=>by cases hu
  | y::xs,u::us,.cons r t,f=>fun u' hu=>by
    rw [List.all_cons,Bool.and_eq_true] at f
    rcases List.mem_cons.mp hu with rfl | hu
    · rw [BK r f.1];exact vt r rx f.1 fx
    · exact lO rx fx t f.2 u' hu
def inV (x:V) (xs:List V):Bool:=xs.any fun y=>eqV y x
def rIn (K:PySem.W.Frag) (neg:Bool):R2:=fun x y H Q=>∃ p xs,y = .ref p∧(SqL K H p xs∨SqT K H p xs)∧cG x=true∧xs.all cG=true∧Q (.bl (if neg then !inV x xs else inV x xs)) H
theorem om:OpR X (compareOp .In) (rIn X.K false):=by
  intro pins s σ H x y v u Q I rx ry h
  obtain ⟨p,xs,rfl,hq,fx,fs,q⟩:=h
  cases ry
  rcases hq with hq | hq
  · obtain ⟨its,r,pl,hz⟩:=I.list hq
    refine SeqAt.in_listAt (eqU x) pl.isList (fun w hw=>lO rx fx r fs w (by simpa using hw)) ⟨.bl _,H,I,rfl,?_⟩
    rw [show its.toArray.any (eqU x)=its.any (eqU x) by simp,qR r fs]
    exact q
  · obtain ⟨its,r,pl,hz⟩:=I.tuple hq
    refine SeqAt.in_tupleAt (eqU x) pl (fun w hw=>lO rx fx r fs w (by simpa using hw)) ⟨.bl _,H,I,rfl,?_⟩
    rw [show its.toArray.any (eqU x)=its.any (eqU x) by simp,qR r fs]
    exact q
theorem qG:dj X (.builtin "len") (fun xs H Q=>∃ p ys,xs=[.ref p]∧(SqL X.K H p ys∨SqT X.K H p ys)∧Q (.int ys.length) H):=by
  intro pins s σ H xs us Q I r h
  obtain ⟨p,ys,rfl,hq,q⟩:=h
  obtain ⟨u,rfl,rx⟩:=vals1 r
  cases rx
  have hn:=qc
  rcases hq with hq | hq
  · obtain ⟨its,r',pl,hz⟩:=I.list hq
    have hlen:=r'.length
    exact Calls.call_len_list pl.isList (by simp only [List.size_toArray] <;> omega) ⟨.int ys.length,H,I.tok _,⟨s.toks+1,by rw [List.size_toArray,hlen]⟩,q⟩
  · obtain ⟨its,r',pl,hz⟩:=I.tuple hq
    have hlen:=r'.length
    exact len_tuple pl (by simp only [List.size_toArray] <;> omega) ⟨.int ys.length,H,I.tok _,⟨s.toks+1,by rw [List.size_toArray,hlen]⟩,q⟩
theorem qF:dj X (.type "list") (fun xs H Q=>∃ p ys,xs=[.ref p]∧(SqL X.K H p ys∨SqT X.K H p ys)∧∀ l,H l=none→Q (.ref l) (upd H l (.lst ys))):=by
  intro pins s σ H xs us Q I r h
  obtain ⟨p,ys,rfl,hq,q⟩:=h
  obtain ⟨u,rfl,rx⟩:=vals1 r
  cases rx
  have fin:∀ (its:List Value),Vals ys its→ys.length≤sizeLine→∀ (h':Heap) (c':Nat),(∀ b o',s.heap.get? b=some o'→h'.get? b=some o') →
      h'.get? s.heap.objs.size=some { cls:=.type "list",dict:=none,data:=.seq its.toArray c',slots:=#[] }→EP X pins σ Q (.ref s.heap.objs.size) { s with heap:=h' }:=fun its r' hz h' c' kp e=>
    ⟨.ref s.heap.objs.size,_,I.laid (t':=s.toks) kp (Nat.le_refl _) (show bJ X.prog X.w _ h' _ (.lst ys) from ⟨hz,its,c',r',e⟩),rfl,q _ (I.hok.fresh (Nat.le_refl _))⟩
  rcases hq with hq | hq
  · obtain ⟨its,r',pl,hz⟩:=I.list hq
    have hlen:=r'.length
    obtain ⟨o,ho,hc,n,hd⟩:=pl.isList
    exact call_list_seq p (.inl rfl) ho hc hd (fun h' c' kp e=>fin its r' hz h' c' kp e) (by simp only [List.size_toArray] <;> omega)
  · obtain ⟨its,r',pl,hz⟩:=I.tuple hq
    have hlen:=r'.length
    obtain ⟨o,ho,hc,n,hd⟩:=pl
    exact call_list_seq p (.inr rfl) ho hc hd (fun h' c' kp e=>fin its r' hz h' c' kp e) (by simp only [List.size_toArray] <;> omega)
theorem nB:dj X (.type "tuple") (fun xs H Q=>∃ p ys,xs=[.ref p]∧((SqL X.K H p ys∧∀ l,H l=none→Q (.ref l) (upd H l (.tup ys)))∨(SqT X.K H p ys∧Q (.ref p) H))):=by
  intro pins s σ H xs us Q I r h
  obtain ⟨p,ys,rfl,h⟩:=h
  obtain ⟨u,rfl,rx⟩:=vals1 r
  cases rx
  rcases h with ⟨hq,q⟩ | ⟨hq,q⟩
  · obtain ⟨its,r',pl,hz⟩:=I.list hq
    have hlen:=r'.length
    refine call_tuple_list pl.isList (fun h' kp=>?_) (by simp only [List.size_toArray] <;> omega)
    have I1:Inv X pins σ H { s with heap:=h' }:=I.kept (t':=s.toks) kp
    have I2:Inv X pins σ (upd H h'.objs.size (.tup ys)) { s with heap:=h'.push { cls:=.type "tuple",data:=.seq its.toArray } }:=
      I1.laid (t':=s.toks) (fun b o e=>Heap.get?_push_of_some _ e) (Nat.le_refl _) (show bJ X.prog X.w _ _ _ (.tup ys) from ⟨hz,its,r',IsTup.new _ _⟩)
    exact ⟨.ref h'.objs.size,_,I2,rfl,q _ (I1.hok.fresh (Nat.le_refl _))⟩
  · obtain ⟨its,r',pl,hz⟩:=I.tuple hq
    exact call_tuple_same pl ⟨.ref p,H,I,rfl,q⟩
def tyV (K:PySem.W.Frag) (T:String) (x:V) (H:Hp):Prop:=match x with
  | .str _=>T = "str"
  | .int _=>T = "int"
  | .ref p=>(T = "list" ∧ ∃ xs,SqL K H p xs)∨(T = "tuple" ∧ ∃ o,K.lookup p=some o∧o.cls = .type "tuple" ∧ o.dict=none) ∨
      (T = "dict" ∧ ((∃ kvs,H p=some (.dK kvs))∨∃ kvs,H p=some (.dT kvs)))∨(T = "set" ∧ ∃ S n,H p=some (.set S n))
  | _=>False
theorem Ga {pins:List (Addr×Obj)} {σ : St} {H:Hp} {s:Shared} {T:String} {x:V} {v:Value} (I:Inv X pins σ H s) (r:RelV x v) (ty:tyV X.K T x H) :
    s.TypeIs v T∧∀ a,v = .ref a→∃ ob,s.heap.get? a=some ob∧ob.dict=none:=by
  cases x with
  | str z=>
    obtain ⟨t,rfl⟩:=r
    cases (show T = "str" from ty)
    exact ⟨typeIs_str s z t,fun _ e=>nomatch e⟩
  | int i=>
    obtain ⟨t,rfl⟩:=r
    cases (show T = "int" from ty)
    exact ⟨typeIs_int s i t,fun _ e=>nomatch e⟩
  | ref p=>
    cases r
    rcases ty with ⟨rfl,xs,hq⟩ | ⟨rfl,o,hk,hc,hd⟩ | ⟨rfl,hk⟩ | ⟨rfl,S,n,hk⟩
    · obtain ⟨its,_,pl,_⟩:=I.list hq
      refine ⟨pl.isList.typeIs,fun a e=>?_⟩
      cases e
      obtain ⟨o,n,e,c,hd,_⟩:=pl
      exact ⟨o,e,hd⟩
    · refine ⟨⟨o,I.kIn p o hk,hc⟩,fun a e=>?_⟩
      cases e
      exact ⟨o,I.kIn _ o hk,hd⟩
    · have z:∃ o,s.heap.get? p=some o∧o.ExactDict:=by
        rcases hk with ⟨kvs,hk⟩ | ⟨kvs,hk⟩
        · obtain ⟨_,_,_,_,o,_,_,e,ex,_⟩:=I.hok p _ hk
          exact ⟨o,e,ex⟩
        · obtain ⟨_,_,_,_,o,_,_,e,ex,_⟩:=I.hok p _ hk
          exact ⟨o,e,ex⟩
      obtain ⟨o,e,ex⟩:=z
      refine ⟨⟨o,e,ex.1⟩,fun a e2=>?_⟩
      cases e2
      exact ⟨o,e,ex.2.1⟩
    · obtain ⟨o,_,_,_,e,ex,_⟩:=I.hok p _ hk
      refine ⟨⟨o,e,ex.1⟩,fun a e2=>?_⟩
      cases e2
      exact ⟨o,e,ex.2.1⟩
  | _=>exact False.elim ty
def tBM (K:PySem.W.Frag) (T:String) (r:V→List V→Hp→VK→Prop) (to:TE) (t:TA):TE:=fun σ H Q=>to σ H fun x H1=>tyV K T x H1∧t σ H1 fun xs H2=>r x xs H2 Q
variable {o e:Expr} {es:List Expr} {to:TE} {t:TA} {name:Str} {apos cpos:Pos} {T id:String} {r:V→List V→Hp→VK→Prop}
theorem oj (pa:PlainAttrs T) (slot:Slot T name id) (hty:typeOf (.builtin id)=pure (.type "method_descriptor")) (hm:MtR X id r) (ho:PE X o to) (ha:PA X (e::es) t)
    (hbase:attributeBase o name X.env (eval o X.env)=eval o X.env:=by rfl)
    (hfew:((backTo cpos (starEach (e::es) X.env)).all (fun x=>!x.1) && (backToKw cpos (keywordEach [] X.env)).all (fun x=>x.1.isSome)
      && decide ((e::es).length+([]:List Keyword).length+(if ([]:List Keyword).isEmpty then 0 else 1) < 30))=true:=by rfl)
    (hline:(apos.endLine == cpos.line)=true:=by rfl) (hs:starEach (e::es) X.env=(false,eval e X.env)::starEach es X.env:=by rfl) (hplain:(backTo cpos (starEach es X.env)).any (·.1)=false:=by rfl) :
    PE X (.Call (.Attribute o name apos) (e::es) [] cpos) (tBM X.K T r to t):=by
  intro pins s σ H Q I h
  refine wpAny_Call_method_late hbase hfew hline rfl (thn (ho pins s σ H _ I h) fun v s1 ⟨x,H1,I1,r1,ty,q1⟩=>?_)
  obtain ⟨h1,h2⟩:=Ga I1 r1 ty
  refine ⟨T,id,pa,slot,hty,h1,h2,?_⟩
  have hA:=ha cpos pins s1 σ H1 _ I1 q1
  rw [hs] at hA ⊢
  refine Calls.callWith_builtin (by show (false || (backTo cpos (starEach es X.env)).any (·.1))=false;rw [hplain] <;> rfl) (Calls.evalArgs_plain ?_)
  exact thn hA fun us s2 ⟨vs,H2,I2,r2,q2⟩=>hm pins s2 σ H2 x vs v us Q I2 r1 r2 q2
end
def MtM (X:Cx) (id:String) (r:V→List V→Hp→VK→Prop):Prop:=
  ∀ (pins:List (Addr×Obj)) (s:Shared) (σ : St) (H:Hp) (x:V) (xs:List V) (v:Value) (us:List Value) (Q:VK),Inv X pins σ H s→RelV x v→Vals xs us→r x xs H Q →
    wpAny (model X.prog X.w) X.A (call (.builtin id) (v::us)) (EP X pins σ Q) X.xe s
theorem Vals.one:∀ {x:V} {us:List Value},Vals [x] us→∃ u,us=[u]∧RelV x u
  | _,_,.cons r .nil=>⟨_,rfl,r⟩
section
variable {X:Cx} {pins:List (Addr×Obj)} {σ : St} {H:Hp} {s:Shared} {l b:Addr} {xs ys zs:List V}
theorem Inv.Jq {its its':List Value} {n:Nat} {f:Array Value→Array Value} {t':Nat} (I:Inv X pins σ H s) (hH:H l=some (.lst xs))
    (e:s.heap.get? l=some { cls:=.type "list",data:=.seq its.toArray n }) (hf:f its.toArray=its'.toArray) (hv:Vals ys its') (hz:ys.length≤sizeLine) :
    Inv X pins σ (upd H l (.lst ys)) { s with heap:=s.heap.update l (Obj.mapSeq f),toks:=t' }:=by
  have q:=PySem.IsL.update e f
  rw [hf] at q
  refine I.write (x:=l) (e:=l) (by rw [hH];exact trivial) (.inl rfl) (fun b' u hb hu=>(Heap.get?_update_other s.heap (Obj.mapSeq f) (Ne.symm hb)).trans hu) ⟨_,q⟩ ?_
  exact ⟨hz,its',_,hv,q⟩
theorem Inv.KP {its:List Value} {t':Nat} (I:Inv X pins σ H s) (hv:Vals ys its) (hz:ys.length≤sizeLine) :
    Inv X pins σ (upd H s.heap.objs.size (.lst ys)) { s with heap:=s.heap.push { cls:=.type "list",data:=.seq its.toArray },toks:=t' }:=
  I.laid (fun _ _ q=>Heap.get?_push_of_some _ q) (Nat.le_refl _) ⟨hz,its,0,hv,Heap.get?_push_size _ rfl⟩
theorem Inv.fresh (I:Inv X pins σ H s):H s.heap.objs.size=none:=I.hok.fresh (Nat.le_refl _)
theorem Inv.Bh (I:Inv X pins σ H s) (hH:H l=some (.lst xs)):xs.length≤sizeLine∧∃ (its:List Value) (n:Nat),Vals xs its∧xs.length=its.length∧s.heap.get? l=some { cls:=.type "list",data:=.seq its.toArray n }:=by
  obtain ⟨z,its,n,r,e⟩:=I.hok l _ hH
  exact ⟨z,its,n,r,r.length,e⟩
theorem Bc {n:Nat} (h:n≤sizeLine):Builtin.List.listTooLong n=false:=by
  unfold Builtin.List.listTooLong
  exact decide_eq_false (by omega)
end
section
variable {X:Cx}
def wL:V→List V→Hp→VK→Prop:=fun x vs H Q=>∃ l xs y,x = .ref l∧vs=[y]∧H l=some (.lst xs)∧xs.length < sizeLine∧Q .non (upd H l (.lst (xs++[y])))
theorem fF:MtM X "list.append" wL:=by
  intro pins s σ H x vs v us Q I rx rv h
  obtain ⟨l,xs,y,rfl,rfl,hH,hz,q⟩:=h
  cases rx
  obtain ⟨u,rfl,ru⟩:=rv.one
  obtain ⟨z,its,n,r,hl,e⟩:=I.Bh hH
  refine call_meets F.slot_list_append ⟨_,e,rfl⟩ F.entry_list_append (F.args_list_append_2 _ _) (PySem.list_append l its.toArray n u (by rw [List.size_toArray];omega)) ⟨e,?_⟩
  refine ⟨.non,_,I.Jq (its':=its++[u]) hH e (by simp) (r.append (.cons ru .nil)) ?_,rfl,q⟩
  rw [List.length_append,List.length_singleton]
  omega
def Dp:V→List V→Hp→VK→Prop:=fun x vs H Q=>∃ l b xs zs,x = .ref l∧vs=[.ref b]∧H l=some (.lst xs)∧H b=some (.lst zs)∧xs.length+zs.length≤sizeLine∧Q .non (upd H l (.lst (xs++zs)))
theorem yN:MtM X "list.extend" Dp:=by
  intro pins s σ H x vs v us Q I rx rv h
  obtain ⟨l,b,xs,zs,rfl,rfl,hH,hB,hz,q⟩:=h
  cases rx
  obtain ⟨u,rfl,ru⟩:=rv.one
  cases ru
  obtain ⟨z,its,n,r,hl,e⟩:=I.Bh hH
  obtain ⟨z2,its2,n2,r2,hl2,e2⟩:=I.Bh hB
  have hsz:its.toArray.size+its2.toArray.size≤sizeLine:=by rw [List.size_toArray,List.size_toArray];omega
  have Jv:¬ (!its.toArray.isEmpty && Builtin.List.listTooLong (its.toArray.size+its2.toArray.size))=true:=by
    rw [Bc hsz,Bool.and_false]
    exact Bool.false_ne_true
  refine call_meets F.slot_list_extend ⟨_,e,rfl⟩ F.entry_list_extend (F.args_list_extend_2 _ _)
    (AutoSeq1.list_extend_list_list_0 l its.toArray n b its2.toArray n2 Jv (by rw [List.size_toArray];omega) (by omega)) ⟨e,e2,?_⟩
  refine ⟨.non,_,I.Jq (its':=its++its2) hH e (by simp) (r.append r2) ?_,rfl,q⟩
  rw [List.length_append]
  omega
def Je:R2:=fun x y H Q=>∃ l b xs zs,x = .ref l∧y = .ref b∧H l=some (.lst xs)∧H b=some (.lst zs)∧xs.length+zs.length≤sizeLine∧∀ p,H p=none→Q (.ref p) (upd H p (.lst (xs++zs)))
theorem jY:OpR X (binaryOp .Add) Je:=by
  intro pins s σ H x y v u Q I rx ry h
  obtain ⟨l,b,xs,zs,rfl,rfl,hH,hB,hz,q⟩:=h
  cases rx
  cases ry
  obtain ⟨z,its,n,r,hl,e⟩:=I.Bh hH
  obtain ⟨z2,its2,n2,r2,hl2,e2⟩:=I.Bh hB
  refine PySem.P.add_list e e2 ?_ (by rw [List.size_toArray,List.size_toArray];omega)
  have ea:its.toArray++its2.toArray=(its++its2).toArray:=by simp
  rw [ea]
  exact ⟨.ref _,_,I.KP (t':=s.toks) (r.append r2) (by rw [List.length_append];omega),rfl,q _ I.fresh⟩
end
section
variable {κ : Type} [DecidableEq κ]
def ez (kvs:List (κ×V)) (k : κ):Option V:=(kvs.find? fun kv=>decide (kv.1=k)).map (·.2)
def putK (kvs:List (κ×V)) (k : κ) (v:V):List (κ×V):=
  if (kvs.any fun kv=>decide (kv.1=k))=true then kvs.map (fun kv=>if kv.1=k then (kv.1,v) else kv) else kvs++[(k,v)]
theorem k7 {p : κ×V} {r:List (κ×V)} {k : κ} (e:p.1=k):ez (p::r) k=some p.2:=by simp [ez,List.find?_cons,e]
theorem k8 {p : κ×V} {r:List (κ×V)} {k : κ} (e:¬ p.1=k):ez (p::r) k=ez r k:=by simp [ez,List.find?_cons,e]
theorem rj (k : κ):∀ kvs:List (κ×V),(kvs.any fun kv=>decide (kv.1=k))=(ez kvs k).isSome
  | []=>rfl
  | p::r=>by
    rw [List.any_cons]
    by_cases e:p.1=k
    · simp only [k7 e,decide_eq_true e,Bool.true_or,Option.isSome_some]
    · rw [k8 e,decide_eq_false e,Bool.false_or];exact rj k r
theorem gS (kvs:List (κ×V)) (k : κ) (v:V):(putK kvs k v).length≤kvs.length+1:=by
  unfold putK
  split
  · rw [List.length_map];omega
  · rw [List.length_append,List.length_cons,List.length_nil];omega
theorem gq.fJ {o:Option V} {u:Option Value} (r:gq o u):o.isSome=u.isSome:=by
  cases o with
  | none=>cases u with
    | none=>rfl
    | some _=>exact (show False from r).elim
  | some _=>cases u with
    | none=>exact (show False from r).elim
    | some _=>rfl
theorem KV.val {kvs:List (κ×V)} {vs:List (κ×Value)} (r:KV kvs vs) (k : κ):gq (ez kvs k) (valueAt vs k):=by
  unfold KV at r
  induction r with
  | nil=>exact True.intro
  | @cons p q ps qs h t ih=>
    obtain ⟨h1,h2⟩:=h
    by_cases e:p.1=k
    · have e':q.1=k:=h1.symm.trans e
      have b:valueAt (q::qs) k=some q.2:=by simp [valueAt,List.find?_cons,e']
      rw [k7 e,b];exact h2
    · have e':¬ q.1=k:=fun z=>e (h1.trans z)
      have b:valueAt (q::qs) k=valueAt qs k:=by simp [valueAt,List.find?_cons,e']
      rw [k8 e,b];exact ih
theorem KV.any {kvs:List (κ×V)} {vs:List (κ×Value)} (r:KV kvs vs) (k : κ):(kvs.any fun kv=>decide (kv.1=k))=vs.any fun kv=>decide (kv.1=k):=by
  unfold KV at r
  induction r with
  | nil=>rfl
  | cons h t ih=>rw [List.any_cons,List.any_cons,ih,h.1]
theorem KV.repl {kvs:List (κ×V)} {vs:List (κ×Value)} (r:KV kvs vs) (k : κ) {y:V} {u:Value} (ry:RelV y u) :
    KV (kvs.map fun kv=>if kv.1=k then (kv.1,y) else kv) (vs.map fun kv=>if kv.1=k then (kv.1,u) else kv):=by
  unfold KV at r ⊢
  induction r with
  | nil=>exact .nil
  | @cons p q ps qs h t ih=>
    rw [List.map_cons,List.map_cons]
    refine .cons ?_ ih
    obtain ⟨h1,h2⟩:=h
    by_cases e:p.1=k
    · rw [if_pos e,if_pos (h1.symm.trans e)];exact ⟨h1,ry⟩
    · rw [if_neg e,if_neg (fun z=>e (h1.trans z))];exact ⟨h1,h2⟩
theorem KV.put {kvs:List (κ×V)} {vs:List (κ×Value)} (r:KV kvs vs) (k : κ) {y:V} {u:Value} (ry:RelV y u):KV (putK kvs k y) (stored vs k u):=by
  unfold putK stored
  rw [r.any k]
  by_cases e:(vs.any fun kv=>decide (kv.1=k))=true
  · rw [if_pos e,if_pos e];exact r.repl k ry
  · rw [if_neg e,if_neg e];exact Paired.snoc r ⟨rfl,ry⟩
theorem KV.length {kvs:List (κ×V)} {vs:List (κ×Value)} (r:KV kvs vs):kvs.length=vs.length:=Paired.length r
end
theorem oA {P:Program} {w:World} {k:Key} {u:Value} (r:RelV (kV k) u):(cM P w).is k u=true:=by
  cases k with
  | inl i=>obtain ⟨t,e⟩:=(show ∃ t,u=Value.int i t from r);subst e;exact sQ P w i t
  | inr x=>obtain ⟨t,e⟩:=(show ∃ t,u=Value.str x t from r);subst e;exact sP P w x t
theorem oB {P:Program} {w:World}:∀ {ks:List Key} {us:List Value},Vals (ks.map kV) us→ItemsAre (cM P w) ks us
  | [],_,r=>by rw [List.map_nil] at r;cases r;exact .nil
  | k::ks,_,r=>by
    rw [List.map_cons] at r
    cases r with
    | cons h t=>exact .cons (oA h) (oB t)
abbrev KT (H:Hp):List (List Key×V)→List (List Key×Addr×Value)→Prop:=Paired fun p q=>p.1=q.1∧H q.2.1=some (.tup (p.1.map kV))∧RelV p.2 q.2.2
theorem KT.val {H:Hp} {kvs:List (List Key×V)} {xs:List (List Key×Addr×Value)} (r:KT H kvs xs) (k:List Key):gq (ez kvs k) ((atKey xs k).map (·.2)):=by
  induction r with
  | nil=>exact True.intro
  | @cons p q ps qs h t ih=>
    obtain ⟨h1,_,h2⟩:=h
    by_cases e:p.1=k
    · have e':q.1=k:=h1.symm.trans e
      have b:atKey (q::qs) k=some q.2:=by simp [atKey,List.find?_cons,e']
      rw [k7 e,b];exact h2
    · have e':¬ q.1=k:=fun z=>e (h1.trans z)
      have b:atKey (q::qs) k=atKey qs k:=by simp [atKey,List.find?_cons,e']
      rw [k8 e,b];exact ih
theorem KT.repl {H:Hp} {kvs:List (List Key×V)} {xs:List (List Key×Addr×Value)} (r:KT H kvs xs) (k:List Key) {y:V} {u:Value} (ry:RelV y u) :
    KT H (kvs.map fun kv=>if kv.1=k then (kv.1,y) else kv) (xs.map (putAt k u)):=by
  induction r with
  | nil=>exact .nil
  | @cons p q ps qs h t ih=>
    rw [List.map_cons,List.map_cons]
    refine .cons ?_ ih
    obtain ⟨h1,h2,h3⟩:=h
    unfold putAt
    by_cases e:p.1=k
    · rw [if_pos e,if_pos (h1.symm.trans e)];exact ⟨h1,h2,ry⟩
    · rw [if_neg e,if_neg (fun z=>e (h1.trans z))];exact ⟨h1,h2,h3⟩
theorem KT.put {H:Hp} {kvs:List (List Key×V)} {xs:List (List Key×Addr×Value)} (r:KT H kvs xs) (k:List Key) {b:Addr} {y:V} {u:Value} (hb:H b=some (.tup (k.map kV))) (ry:RelV y u) :
    KT H (putK kvs k y) (storedH xs k b u):=by
  have e:(kvs.any fun kv=>decide (kv.1=k))=(atKey xs k).isSome:=by
    rw [rj,(r.val k).fJ,Option.isSome_map]
  unfold putK storedH
  rw [e]
  by_cases q:(atKey xs k).isSome=true
  · rw [if_pos q,if_pos q];exact r.repl k ry
  · rw [if_neg q,if_neg q];exact Paired.snoc r ⟨rfl,hb,ry⟩
theorem KT.keeps {H H':Hp} {kvs:List (List Key×V)} {xs:List (List Key×Addr×Value)} (r:KT H kvs xs) (ht:∀ b ys,H b=some (.tup ys)→H' b=some (.tup ys)):KT H' kvs xs:=
  Paired.GH r fun _ _ z=>⟨z.1,ht _ _ z.2.1,z.2.2⟩
section
variable {P:Program} {w:World} {H:Hp} {h:Heap} {a:Addr}
theorem FI {u:HO} (ok:HOk P w H h) (e:Rd H a u):bJ P w H h a u:=e.ok ok
theorem tM {kvs:List (Key×V)} (ok:HOk P w H h) (e:Rd H a (.dK kvs)):kvs.length≤sizeLine∧(a == sysModules)=false∧∃ vs,KV kvs vs∧h.DictOf (cM P w) a vs:=
  show bJ P w H h a (.dK kvs) from FI ok e
theorem F5 {kvs:List (Key×V)} (ok:HOk P w H h) (e:H a=some (.dK kvs)):kvs.length≤sizeLine∧(a == sysModules)=false∧∃ vs,KV kvs vs∧h.DictOf (cM P w) a vs:=tM ok (.inl e)
theorem lU {ks:List Key} (ok:HOk P w H h) (e:H a=some (.tup (ks.map kV))):(tupleKind (cM P w)).is h ks a:=by
  obtain ⟨_,its,r,o,h1,h2,n,h3⟩:=(show bJ P w H h a (.tup (ks.map kV)) from ok a _ e)
  exact ⟨o,its.toArray,n,h1,h2,h3,by simpa using oB r⟩
theorem tL {kvs:List (List Key×V)} (ok:HOk P w H h) (e:Rd H a (.dT kvs)):kvs.length≤sizeLine∧(a == sysModules)=false ∧
    ∃ xs,KT H kvs xs∧h.DictOfH (tupleKind (cM P w)) a xs:=by
  obtain ⟨z,y,xs,r,o,es,ep,h1,h2,h3,h4,h5⟩:=(show bJ P w H h a (.dT kvs) from FI ok e)
  refine ⟨z,y,xs,r,o,es,ep,h1,h2,h3,h4,fun x hx=>?_,h5⟩
  have all:∀ {l:List (List Key×V)} {m:List (List Key×Addr×Value)},KT H l m→∀ x∈m,(tupleKind (cM P w)).is h x.1 x.2.1:=by
    intro l m q
    induction q with
    | nil=>intro x hx;exact nomatch hx
    | @cons p q ps qs hq t ih=>
      intro x hx
      rcases List.mem_cons.mp hx with e | hx
      · subst e
        exact lU ok (by rw [← hq.1];exact hq.2.1)
      · exact ih x hx
  exact all r x hx
theorem Kf {kvs:List (List Key×V)} (ok:HOk P w H h) (e:H a=some (.dT kvs)):kvs.length≤sizeLine∧(a == sysModules)=false ∧
    ∃ xs,KT H kvs xs∧h.DictOfH (tupleKind (cM P w)) a xs:=tL ok (.inl e)
end
def iS (H:Hp) (a:Addr) (y:V) (r:Option V):Prop:=
  (∃ kvs k,Rd H a (.dK kvs)∧y=kV k∧r=ez kvs k)∨∃ kvs k b,Rd H a (.dT kvs)∧y = .ref b∧H b=some (.tup (k.map kV))∧r=ez kvs k
def vZ (H:Hp) (a:Addr) (y v:V) (H':Hp):Prop:=
  (∃ kvs k,H a=some (.dK kvs)∧y=kV k∧kvs.length < sizeLine∧H'=upd H a (.dK (putK kvs k v))) ∨
  ∃ kvs k b,H a=some (.dT kvs)∧y = .ref b∧H b=some (.tup (k.map kV))∧kvs.length < sizeLine∧H'=upd H a (.dT (putK kvs k v))
theorem iS.k {H:Hp} {a:Addr} {kvs:List (Key×V)} {k:Key} (e:H a=some (.dK kvs)):iS H a (kV k) (ez kvs k):=.inl ⟨kvs,k,.inl e,rfl,rfl⟩
theorem vZ.k {H:Hp} {a:Addr} {kvs:List (Key×V)} {k:Key} {v:V} (e:H a=some (.dK kvs)) (hl:kvs.length < sizeLine):vZ H a (kV k) v (upd H a (.dK (putK kvs k v))):=.inl ⟨kvs,k,e,rfl,hl,rfl⟩
section
variable {X:Cx} {pins:List (Addr×Obj)} {σ : St} {H:Hp} {s:Shared} {a:Addr} {y v:V} {u r:Value} {o:Option V} {A:Around} {E:Value→Shared→Prop}
theorem Inv.big (I:Inv X pins σ H s):sysModules < s.heap.objs.size:=by
  have h:mainGlobals < s.heap.objs.size:=(I.mod.glob.keeps I.bk).lt
  exact Nat.lt_trans (by decide) h
theorem ze {Q:Value→Shared→Prop} (hu:A.units+1 < cLine) (I:Inv X pins σ H s) (g:iS H a y (some v)) (ry:RelV y u) (h:∀ w' s',Inv X pins σ H s'→RelV v w'→Q w' s') :
    wpAny (model X.prog X.w) A (getItem (.ref a) u) Q E s:=by
  rcases g with ⟨kvs,k,e,ey,l⟩ | ⟨kvs,k,b,e,ey,eb,l⟩
  · subst ey
    obtain ⟨z,hd,vs,rel,dd⟩:=tM I.hok e
    obtain ⟨w',hw,rw'⟩:=gq.some_of (v:=v) (o:=valueAt vs k) (by rw [l];exact rel.val k)
    exact wpAny_getItem_of (oA ry) dd.mapOf hw (h w' _ (I.tok _) rw')
  · subst ey
    cases (show u=Value.ref b from ry)
    obtain ⟨z,hd,xs,rel,dd⟩:=tL I.hok e
    obtain ⟨w',hw,rw'⟩:=gq.some_of (v:=v) (o:=(atKey xs k).map (·.2)) (by rw [l];exact rel.val k)
    obtain ⟨p,hp,hp2⟩:=Option.map_eq_some_iff.mp hw
    refine wpAny_getItem_heap (tupleKind_room_in1 hu) (lU I.hok eb) dd hp ?_
    rw [hp2]
    exact h w' _ (I.tok _) rw'
theorem Lc {Q:Value→Shared→Prop} (hu:A.units+1 < cLine) (I:Inv X pins σ H s) (g:iS H a y o) (ry:RelV y u) (h:∀ s',Inv X pins σ H s'→Q (.bool o.isSome) s') :
    wpAny (model X.prog X.w) A (compareOp .In u (.ref a)) Q E s:=by
  rcases g with ⟨kvs,k,e,ey,l⟩ | ⟨kvs,k,b,e,ey,eb,l⟩
  · subst ey
    obtain ⟨z,hd,vs,rel,dd⟩:=tM I.hok e
    refine wpAny_in_of (oA ry) hd dd.mapOf ?_
    rw [← (rel.val k).fJ,← l]
    exact h _ (I.tok _)
  · subst ey
    cases (show u=Value.ref b from ry)
    obtain ⟨z,hd,xs,rel,dd⟩:=tL I.hok e
    refine wpAny_in_heap (tupleKind_room_in1 hu) (lU I.hok eb) hd dd ?_
    have q:=(rel.val k).fJ
    rw [Option.isSome_map] at q
    rw [← q,← l]
    exact h _ (I.tok _)
theorem EO {Q:Value→Shared→Prop} (hu:A.units+1 < cLine) (I:Inv X pins σ H s) (g:iS H a y o) (ry:RelV y u) (h:∀ s',Inv X pins σ H s'→Q (.bool (!o.isSome)) s') :
    wpAny (model X.prog X.w) A (compareOp .NotIn u (.ref a)) Q E s:=by
  rcases g with ⟨kvs,k,e,ey,l⟩ | ⟨kvs,k,b,e,ey,eb,l⟩
  · subst ey
    obtain ⟨z,hd,vs,rel,dd⟩:=tM I.hok e
    refine wpAny_notIn_of (oA ry) hd dd.mapOf ?_
    rw [← (rel.val k).fJ,← l]
    exact h _ (I.tok _)
  · subst ey
    cases (show u=Value.ref b from ry)
    obtain ⟨z,hd,xs,rel,dd⟩:=tL I.hok e
    refine wpAny_notIn_heap (tupleKind_room_in1 hu) (lU I.hok eb) hd dd ?_
    have q:=(rel.val k).fJ
    rw [Option.isSome_map] at q
    rw [← q,← l]
    exact h _ (I.tok _)
theorem qC {h':Heap} {t':Nat} {ob:HO} (I:Inv X pins σ H s) (mu:Mut (H a)) (hs:Heap.SameBut a s.heap h') (he:∃ q,h'.get? a=some q) (new:bJ X.prog X.w (upd H a ob) h' a ob) :
    Inv X pins σ (upd H a ob) { s with heap:=h',toks:=t' }:=
  I.write (x:=a) (e:=a) mu (.inl rfl) (fun b q hb z=>(hs.2 b hb).trans z) he new
theorem BN {P:Program} {w:World} {H':Hp} {h':Heap} {kvs:List (Key×V)} {vs:List (Key×Value)} (z:kvs.length≤sizeLine) (hd:(a == sysModules)=false) (rel:KV kvs vs) (dd:h'.DictOf (cM P w) a vs) :
    bJ P w H' h' a (.dK kvs):=⟨z,hd,vs,rel,dd⟩
theorem zd {H':Hp} {Q:Unit→Shared→Prop} (hu:A.units+1 < cLine) (I:Inv X pins σ H s) (g:vZ H a y v H') (ry:RelV y u) (rv:RelV v r) (h:∀ s',Inv X pins σ H' s'→Q () s') :
    wpAny (model X.prog X.w) A (setItem (.ref a) u r) Q E s:=by
  rcases g with ⟨kvs,k,e,ey,l,eH⟩ | ⟨kvs,k,b,e,ey,eb,l,eH⟩
  · subst ey eH
    obtain ⟨z,hd,vs,rel,dd⟩:=F5 I.hok e
    have hz:vs.length≤sizeLine:=by rw [← rel.length];exact z
    have hl:(putK kvs k v).length≤sizeLine:=by have:=gS kvs k v;omega
    refine wpAny_setItem_pairs (hsz:=hz) (oA ry) dd fun h' dd' hs=>h _ ?_
    have he:∃ q,h'.get? a=some q:=let ⟨q,_,_,hq,_⟩:=dd';⟨q,hq⟩
    exact qC I (by rw [e];exact True.intro) hs he (BN hl hd (rel.put k rv) dd')
  · subst ey eH
    cases (show u=Value.ref b from ry)
    obtain ⟨z,hd,xs,rel,dd⟩:=Kf I.hok e
    have hz:xs.length≤sizeLine:=by rw [← Paired.length rel];exact z
    have hl:(putK kvs k v).length≤sizeLine:=by have:=gS kvs k v;omega
    refine wpAny_setItem_heap (hsz:=hz) (tupleKind_room_in1 hu) (lU I.hok eb) dd fun h' dd' hs=>h _ ?_
    obtain ⟨q,es,ep,hq,h2,h3,h4,_,h5⟩:=dd'
    refine qC I (by rw [e];exact True.intro) hs ⟨q,hq⟩ ⟨hl,hd,_,(rel.put k eb rv).keeps fun c ys ec=>?_,q,es,ep,hq,h2,h3,h4,h5⟩
    rw [au (Jp ec e (fun z=>nomatch z))]
    exact ec
end
def Kv (i:Expr):Prop:=∀ ov iv,subscripted i false ov iv=operate [ov,iv] (getItem ov iv)
theorem CJ {prog:Program} {w:World} {A:Around} {E:Value→Shared→Prop} {s:Shared} {env:Env} {value slice:Expr} {pos:Pos} {T id:String} {Q:Value→Shared→Prop}
    (hl:typeLookup (.type T) "__getitem__" = pure (some (.builtin id))) (hs:Kv slice)
    (h:wpAny (model prog w) A (eval value env) (fun o s₁=>wpAny (model prog w) A (eval slice env) (fun i s₂=>s₂.TypeIs o T∧wpAny (model prog w) A (getItem o i) Q E s₂) E s₁) E s) :
    wpAny (model prog w) A (eval (.Subscript value slice pos) env) Q E s:=by
  refine Subscript_ (wpAny_mono h (fun o s₁ h₁=>wpAny_mono h₁ (fun i s₂ h₂=>?_) fun _ _ x=>x) fun _ _ x=>x)
  obtain ⟨hT,h₂⟩:=h₂
  unfold subscriptTail
  refine wpAny_bind ?_
  rw [getitemInPython_of_ne hT.not_modules]
  refine wpAny_bind (wpAny_specialOf hT hl ?_)
  have fin:wpAny (model prog w) A (subscripted slice false o i) (fun r s₃=>wpAny (model prog w) A (letTemporaryGo value o r >>= fun _=>pure r) Q E s₃) E s₂:=by
    rw [hs o i]
    exact wpAny_operating (wpAny_mono h₂ (fun r s₃ h₃=>wpAny_bind (wpAny_letTemporaryGo (wpAny_pure h₃))) fun _ _ x=>x)
  first
    | exact wpAny_pure (wpAny_bind fin)
    | exact wpAny_bind (wpAny_pure (wpAny_bind fin))
    | exact wpAny_bind fin
theorem tO {X:Cx} {pins:List (Addr×Obj)} {σ : St} {H:Hp} {s:Shared} {a:Addr} {y:V} {o:Option V} (I:Inv X pins σ H s) (g:iS H a y o):s.TypeIs (.ref a) "dict" := by
  rcases g with ⟨kvs,k,e,_,_⟩ | ⟨kvs,k,b,e,_,_,_⟩
  · obtain ⟨_,_,vs,_,dd⟩:=tM I.hok e
    exact dd.typeIs
  · obtain ⟨_,_,xs,_,dd⟩:=tL I.hok e
    exact dd.typeIs
def FA (td ty:TE):TE:=fun σ H Q=>td σ H fun x H1=>ty σ H1 fun y H2=>∃ a v,x = .ref a∧iS H2 a y (some v)∧Q v H2
def IS (ty td:TE):TE:=fun σ H Q=>ty σ H fun y H1=>td σ H1 fun x H2=>∃ a o,x = .ref a∧iS H2 a y o∧Q (.bl o.isSome) H2
def wm (ty td:TE):TE:=fun σ H Q=>ty σ H fun y H1=>td σ H1 fun x H2=>∃ a o,x = .ref a∧iS H2 a y o∧Q (.bl (!o.isSome)) H2
def FH (td ty tv:TE):TS:=fun D σ H=>tv σ H fun v H1=>td σ H1 fun x H2=>ty σ H2 fun y H3=>∃ a H4,x = .ref a∧vZ H3 a y v H4∧D.nx σ H4
section
variable {X:Cx} {o i e value:Expr} {pos pos' tpos:Pos} {td ty tv:TE}
theorem bR (hu:X.A.units+1 < cLine) (ho:PE X o td) (hi:PE X i ty) (hs:Kv i):PE X (.Subscript o i pos) (FA td ty):=by
  intro pins s σ H Q I h
  refine CJ PySem.F.slot_dict_getitem.lookup hs (thn (ho pins s σ H _ I h) fun u s1 ⟨x,H1,I1,rx,q1⟩=>thn (hi pins s1 σ H1 _ I1 q1) fun iv s2 ⟨y,H2,I2,ry,a,v,ex,g,q2⟩=>?_)
  subst ex
  obtain rfl:u=Value.ref a:=rx
  exact ⟨tO I2 g,ze hu I2 g ry fun w' s3 I3 rw'=>⟨v,H2,I3,rw',q2⟩⟩
theorem Gx (hu:X.A.units+1 < cLine) (hi:PE X i ty) (ho:PE X o td):PC X .In i o (IS ty td):=by
  intro pins s σ H Q I h
  refine thn (hi pins s σ H _ I h) fun iv s1 ⟨y,H1,I1,ry,q1⟩=>thn (ho pins s1 σ H1 _ I1 q1) fun u s2 ⟨x,H2,I2,rx,a,ov,ex,g,q2⟩=>?_
  subst ex
  obtain rfl:u=Value.ref a:=rx
  exact Lc hu I2 g ry fun s3 I3=>⟨.bl ov.isSome,H2,I3,rfl,q2⟩
theorem yq (hu:X.A.units+1 < cLine) (hi:PE X i ty) (ho:PE X o td):PC X .NotIn i o (wm ty td):=by
  intro pins s σ H Q I h
  refine thn (hi pins s σ H _ I h) fun iv s1 ⟨y,H1,I1,ry,q1⟩=>thn (ho pins s1 σ H1 _ I1 q1) fun u s2 ⟨x,H2,I2,rx,a,ov,ex,g,q2⟩=>?_
  subst ex
  obtain rfl:u=Value.ref a:=rx
  exact EO hu I2 g ry fun s3 I3=>⟨.bl (!ov.isSome),H2,I3,rfl,q2⟩
theorem kQ (hu:X.A.units+1 < cLine) (ho:PE X o td) (hi:PE X i ty) (hv:PE X value tv) (hs:swapsWith value (some (.Subscript o i pos')) pos.line X.env=pure false) :
    PS X (.Assign [.Subscript o i pos'] value pos) (FH td ty tv):=by
  intro pins s σ H D I h
  refine wpAny_Assign_Subscript (thn (hv pins s σ H _ I h) fun r s1 ⟨v,H1,I1,rv,q1⟩=>thn (ho pins s1 σ H1 _ I1 q1) fun u s2 ⟨x,H2,I2,rx,q2⟩=>thn (hi pins s2 σ H2 _ I2 q2) fun iv s3 ⟨y,H3,I3,ry,a,H4,ex,g,q3⟩=>?_) hs
  subst ex
  obtain rfl:u=Value.ref a:=rx
  exact zd hu I3 g ry rv fun s4 I4=>⟨σ,H4,I4,q3⟩
end
theorem tN {P:Program} {w:World} {H:Hp} (h:Heap) (hb:sysModules < h.objs.size):bJ P w H (h.push { cls:=.type "dict",data:=.dict #[] }) h.objs.size (.dK []):=
  ⟨Nat.zero_le _,beq_eq_false_iff_ne.mpr (Ne.symm (Nat.ne_of_lt hb)),[],.nil,Heap.DictOf.new h⟩
def zS:TE:=fun _ H Q=>∀ p,H p=none→Q (.ref p) (upd H p (.dK []))
section
variable {X:Cx} {pos:Pos}
theorem AK:PE X (.Dict [] [] pos) zS:=fun pins s σ H Q I h=>
  wpAny_Dict_empty ⟨.ref s.heap.objs.size,_,I.laid (a:=s.heap.objs.size) (o:=.dK []) (t':=s.toks) (fun _ _ q=>Heap.get?_push_of_some _ q) (Nat.le_refl _) (tN s.heap I.big),rfl,h _ (I.hok.fresh (Nat.le_refl _))⟩
end
def uv:List (TE×TE)→St→Hp→(List (V×V)→Hp→Prop)→Prop
  | [],_,H,Q=>Q [] H
  | (tk,tv)::r,σ,H,Q=>tk σ H fun x H1=>tv σ H1 fun y H2=>uv r σ H2 fun ps H3=>Q ((x,y)::ps) H3
abbrev VV:List (V×V)→List (Value×Value)→Prop:=Paired fun p q=>RelV p.1 q.1∧RelV p.2 q.2
def PPs (X:Cx) (pos:Pos) (keys:List (Option Expr)) (values:List Expr) (trs:List (TE×TE)):Prop:=
  ∀ (pins:List (Addr×Obj)) (s:Shared) (σ : St) (H:Hp) (Q:List (V×V)→Hp→Prop),Inv X pins σ H s→uv trs σ H Q →
    wpAny (model X.prog X.w) X.A (evalPairs (pairTrees keys values X.env pos)) (fun vs s'=>∃ ps H',Inv X pins σ H' s'∧VV ps vs∧Q ps H') X.xe s
theorem Ds {X:Cx} {pos:Pos}:PPs X pos [] [] []:=fun pins s σ H Q I h=>pairTrees_nil_walk ⟨[],H,I,.nil,h⟩
theorem fC {X:Cx} {pos:Pos} {k v:Expr} {ks:List (Option Expr)} {vs:List Expr} {tk tv:TE} {trs:List (TE×TE)} (hk:PE X k tk) (hv:PE X v tv) (hr:PPs X pos ks vs trs) :
    PPs X pos (some k::ks) (v::vs) ((tk,tv)::trs):=fun pins s σ H Q I h=>
  pairTrees_cons_walk (thn (hk pins s σ H _ I h) fun u s1 ⟨x,H1,I1,rx,q1⟩=>thn (hv pins s1 σ H1 _ I1 q1) fun w2 s2 ⟨y,H2,I2,ry,q2⟩=>
    thn (hr pins s2 σ H2 _ I2 q2) fun ws s3 ⟨ps,H3,I3,rel,q3⟩=>⟨(x,y)::ps,H3,I3,.cons ⟨rx,ry⟩ rel,q3⟩)
def lN (kvs more:List (Key×V)):List (Key×V):=more.foldl (fun acc kv=>putK acc kv.1 kv.2) kvs
theorem KV.merge:∀ {more:List (Key×V)} {rs:List (Key×Value)} {kvs:List (Key×V)} {vs:List (Key×Value)},KV more rs→KV kvs vs→KV (lN kvs more) (merged vs rs):=by
  intro more rs kvs vs r
  unfold KV at r
  induction r generalizing kvs vs with
  | nil=>intro q;exact q
  | @cons p q ps qs h t ih=>
    intro r0
    have e:KV (putK kvs p.1 p.2) (stored vs q.1 q.2):=by
      have:=r0.put p.1 h.2
      rw [← h.1];exact this
    exact ih e
theorem iW:∀ (more kvs:List (Key×V)),(lN kvs more).length≤kvs.length+more.length
  | [],kvs=>by show kvs.length≤kvs.length+0;omega
  | p::r,kvs=>by
    have h1:=iW r (putK kvs p.1 p.2)
    have h2:=gS kvs p.1 p.2
    show (lN (putK kvs p.1 p.2) r).length≤_
    rw [List.length_cons];omega
theorem mj {P:Program} {w:World}:∀ {kvs:List (Key×V)} {ws:List (Value×Value)},VV (kvs.map fun kv=>(kV kv.1,kv.2)) ws→∃ rs,Carries (cM P w) ws rs∧KV kvs rs
  | [],_,r=>by rw [List.map_nil] at r;cases r;exact ⟨[],True.intro,.nil⟩
  | p::kvs,_,r=>by
    rw [List.map_cons] at r
    cases r with
    | @cons a b as bs h t=>
      obtain ⟨rs,c,q⟩:=mj (P:=P) (w:=w) t
      obtain ⟨b1,b2⟩:=b
      exact ⟨(p.1,b2)::rs,⟨oA h.1,rfl,c⟩,.cons ⟨rfl,h.2⟩ q⟩
def Fz (trs:List (TE×TE)):TE:=fun σ H Q=>∀ p,H p=none→uv trs σ (upd H p (.dK [])) fun ps H2=>H2 p=some (.dK [])∧∃ kvs:List (Key×V),ps=kvs.map (fun kv=>(kV kv.1,kv.2))∧kvs.length≤15∧Q (.ref p) (upd H2 p (.dK (lN [] kvs)))
theorem DA {X:Cx} {pos:Pos} {keys:List (Option Expr)} {values:List Expr} {trs:List (TE×TE)} (h:PPs X pos keys values trs) (hall:keys.all (·.isSome)=true) (hl:keys.length=values.length) (h0:keys≠[])
    (h15:keys.length≤15):PE X (.Dict keys values pos) (Fz trs):=by
  intro pins s σ H Q I q
  have hn:=I.hok.fresh (Nat.le_refl s.heap.objs.size)
  have I1:=I.laid (a:=s.heap.objs.size) (o:=.dK []) (h':=s.heap.push { cls:=.type "dict",data:=.dict #[] }) (t':=s.toks) (fun _ _ q=>Heap.get?_push_of_some _ q) (Nat.le_refl _) (tN s.heap I.big)
  refine wpAny_Dict_walk (knd:=cM X.prog X.w) hall hl h0 h15 (thn (h pins _ σ _ _ I1 (q _ hn)) fun ws s2 ⟨ps,H2,I2,rel,e,kvs,ep,lk,q2⟩=>?_)
  subst ep
  obtain ⟨rs,c,rk⟩:=mj (P:=X.prog) (w:=X.w) rel
  obtain ⟨z,hd,vs0,r0,dd⟩:=F5 I2.hok e
  cases r0
  refine ⟨rs,c,dd,fun h' dd' hs=>⟨.ref s.heap.objs.size,_,?_,rfl,q2⟩⟩
  have hz:(lN [] kvs).length≤sizeLine:=by
    have h1:=iW kvs []
    rw [List.length_nil] at h1
    rw [sizeLine_eq];omega
  have he:∃ q,h'.get? s.heap.objs.size=some q:=let ⟨q,_,_,hq,_⟩:=dd';⟨q,hq⟩
  exact qC I2 (by rw [e];exact True.intro) hs he (BN hz hd (rk.merge .nil) dd')
structure M1 (X:Cx) (o:Expr) (m:Str) (apos:Pos) (e:Expr) (cpos:Pos):Prop where
  base:attributeBase o m X.env (eval o X.env)=eval o X.env
  few:((backTo cpos (starEach [e] X.env)).all (fun x=>!x.1) && (backToKw cpos (keywordEach [] X.env)).all (fun x=>x.1.isSome)
    && decide (([e]:List Expr).length+([]:List Keyword).length+(if ([]:List Keyword).isEmpty then 0 else 1) < 30))=true
  line:(apos.endLine == cpos.line)=true
  trees:backTo cpos (starEach [e] X.env)=[(false,eval e X.env)]
structure M2 (X:Cx) (o:Expr) (m:Str) (apos:Pos) (e f:Expr) (cpos:Pos):Prop where
  base:attributeBase o m X.env (eval o X.env)=eval o X.env
  few:((backTo cpos (starEach [e,f] X.env)).all (fun x=>!x.1) && (backToKw cpos (keywordEach [] X.env)).all (fun x=>x.1.isSome)
    && decide (([e,f]:List Expr).length+([]:List Keyword).length+(if ([]:List Keyword).isEmpty then 0 else 1) < 30))=true
  line:(apos.endLine == cpos.line)=true
  trees:backTo cpos (starEach [e,f] X.env)=[(false,eval e X.env),(false,eval f X.env)]
end L2
namespace Att
open PySem PySem.W PySem.Calls PyProof.Rows
theorem kF {P:Params} {h:Heap}:∀ (ns:List Int) (vs:List Value),WellAll P h vs (ns.map WData.int)→IntsAre vs ns:=by
  intro ns
  induction ns with
  | nil=>
    intro vs w
    rw [List.map_nil] at w
    cases w
    exact .nil
  | cons n ns ih=>
    intro vs w
    rw [List.map_cons] at w
    cases w with
    | cons a b=>
      cases a
      exact .cons _ _ (ih _ b)
theorem xT {l:OpenLaw} {n:Nat} (hn:l.most=some n) {P:Params} {h:Heap} {args:List WData} {vals:List Value}
    (hpre:l.row.toRowW.claim.pre args=true) (hwl:WellAll P h vals args) :
    ∃ a vs ns,vals=[Value.ref a]∧args=[WData.list (ns.map WData.int)]∧h.get? a=some { cls:=.type "list",data:=.seq vs.toArray }∧IntsAre vs ns∧ns.length≤n:=by
  have hsh:WShape.hasAll [] args [.list .int]=true:=(pre_splitW hpre).1
  have hc:l.pre.holds [] { args:=args }=true:=(pre_splitW hpre).2
  obtain ⟨d,r,rfl,h1,h2⟩:=hasAllW_cons hsh
  obtain rfl:=hasAllW_nil h2
  obtain ⟨xs,rfl,h3⟩:=hasW_list h1
  obtain ⟨ns,rfl⟩:=items_int h3
  have hlen:ns.length≤n:=by
    unfold OpenLaw.pre at hc
    have h4:(WTm.not (.lt (.lit (.int (n:Int))) (.len (.arg 0)))).holds [] { args:=[.list (ns.map .int)] }=true:=by
      have h4:=(holds_andW hc).1
      rw [hn] at h4
      exact h4
    have h5:=condW_of h4 (w_not (w_lt w_lit (w_len_list (w_arg rfl))))
    rw [List.length_map] at h5
    refine Nat.le_of_not_lt fun q=>?_
    have q':(n:Int) < ((ns.length:Nat):Int):=by omega
    first
      | (rw [decide_eq_true q'] at h5;exact absurd h5 (by decide))
      | (simp at h5;omega)
  cases hwl with
  | cons w1 w2=>
    cases w2
    cases w1 with
    | list ho hall=>exact ⟨_,_,ns,rfl,rfl,ho,kF ns _ hall,hlen⟩
theorem yo (l:OpenLaw) (args:List WData):l.row.toRowW.claim.post args (.bool true) args=true:=
  postW_of (r:=l.row.toRowW) (X:=(true == true))
    (show WShape.has [] (.bool true) .bool=true by first | rfl | decide | simp [WShape.has,WShape.arms,WShape.armsAll])
    (show (WTm.eq .res (.lit (.bool true))).value [] { args:=args,res:=some (.bool true),after:=args }=some (.bool (true == true)) from w_eq_bool (w_res rfl) w_lit) rfl
theorem tW {l:OpenLaw} {n:Nat} {q:Program} {loose:List Str} {XP:(Str→Option Value)→Heap→Prop} {YP:World→Heap→Prop} {d:DefRec}
    (hn:l.most=some n) (hdf:d.params.defaults=[])
    (call:∀ (w:World) (s₀ s₁ : Shared) (mg mb:Str→Option Value) (fa:Addr) (o:Obj) (pm cd doc:Value) (a:Addr) (vs:List Value) (ns:List Int),
      Ground q loose [] XP w s₀ mg mb s₁.heap→YP w s₁.heap →
      s₁.heap.get? fa=some o→o.data = .func (docDef d.name d.params d.body d.scope pm cd doc)→s₁.heap.CodeRec cd d.name→mg d.name=some (.ref fa) →
      s₁.heap.get? a=some { cls:=.type "list",data:=.seq vs.toArray }→IntsAre vs ns→ns.length≤n→s₁.gens=#[] →
      codeAny (model l.prog w) callerA (.call (.ref fa) ⟨[.ref a],[]⟩) (fun r s'=>r = .ok (.ret (.bool true))∧OldK s₁.heap s'.heap∧s'.os=s₁.os∧AllBare s'.gens) s₁) :
    WalkO q loose XP YP l.row.toRowW d [] (fun f vs=>PySem.call f vs):=by
  intro w s₀ s₁ mg mb G Y fa o pm cd doc dV kV ho hd hcd hD hmg hg args vals as hpre hlay hrd hwl hlo
  obtain rfl:dV = .none:=Dflts.none hD hdf
  obtain rfl:kV = .none:=Dflts.noKw hD
  obtain ⟨a,vs,ns,rfl,rfl,hobj,hints,hlen⟩:=xT hn hpre hwl
  refine enter_call (codeAny_mono (call w s₀ s₁ mg mb fa o pm cd doc a vs ns G Y ho (fd_plain hd) hcd hmg hobj hints hlen hg) fun r s' hq=>?_)
  obtain ⟨rfl,h2,h3,h4⟩:=hq
  exact ⟨.inl ⟨.bool true,.bool true,[],rfl,fun _=>rfl,.bool true,yo l _,fun _=>⟨List.Pairwise.nil,fun _ hm=>(nomatch hm)⟩⟩,h2,h3,h4⟩
end Att
namespace L2
open PySem PySem.Spec PyProof.Rows
theorem iE:∀ {vs:List Value} {ns:List Int},IntsAre vs ns→Vals (ns.map V.int) vs
  | _,_,.nil=>.nil
  | _,_,.cons n t h=>.cons ⟨t,rfl⟩ (iE h)
abbrev KOf {K:PySem.W.Frag} {h:Heap} (_:K.In h):PySem.W.Frag:=K
def inClass (s:Stmt) (j:Nat):Stmt:=match s with
  | .ClassDef _ _ _ body _ _ _ _ _ _ _=>body.getD j (.Pass ⟨0,0,0,0⟩)
  | _=>.Pass ⟨0,0,0,0⟩
def bw (s:Stmt):Arguments:=match s with
  | .FunctionDef _ a _ _ _ _ _ _ _ _=>a
  | _=>{ posonlyargs:=[],args:=[],vararg:=none,kwonlyargs:=[],kw_defaults:=[],kwarg:=none,defaults:=[] }
def aS (s:Stmt):List Stmt:=match s with
  | .FunctionDef _ _ b _ _ _ _ _ _ _=>b
  | _=>[]
def ai (s:Stmt):Scope:=match s with
  | .FunctionDef _ _ _ _ _ _ sc _ _ _=>sc
  | _=>{ kind:=.function,names:=[],isGenerator:=false,isCoroutine:=false }
abbrev E0:XK:=fun _ _ _=>False
structure Fun (K:PySem.W.Frag) (x qual:Str) (st:Stmt) (f:Addr) (fd:FuncData):Prop where
  ex:∃ (oc:Value) (od:Option Addr) (kV doc pm:Value) (an:Option Addr) (cdv ct:Value) (osl:Array (Option Value)),
    fd=PySem.W.fnOf x qual (bw st) (aS st) (ai st) .none kV doc pm an cdv ct∧K.lookup f=some ⟨oc,od,.func fd,osl⟩∧PySem.W.codeIn K cdv qual=true
  kp:PySem.W.keepIn K (.ref f)=true
section
variable {P:Program} {w:World} {K:PySem.W.Frag} {mg:Str→Option Value} {base:Heap}
theorem Fun.binds {x qual:Str} {st:Stmt} {f:Addr} {fd:FuncData} {ps:List Str} (F:Fun K x qual st f fd)
    (h:∀ (kV doc pm:Value) (an:Option Addr) (cdv ct:Value) (us:List Value),us.length=ps.length→bindArgs (PySem.W.fnOf x qual (bw st) (aS st) (ai st) .none kV doc pm an cdv ct) ⟨us,[]⟩=pure (ps.zip us)):Binds K fd ps []:=by
  obtain ⟨oc,od,kV,doc,pm,an,cdv,ct,osl,rfl,lk,hcd⟩:=F.ex
  exact .all (h kV doc pm an cdv ct)
theorem l6 {x qual:Str} {st:Stmt} {f:Addr} {oc:Value} {od an:Option Addr} {osl:Array (Option Value)} {kV doc pm cdv ct:Value} (l:K.lookup f=some ⟨oc,od,.func (PySem.W.fnOf x qual (bw st) (aS st) (ai st) .none kV doc pm an cdv ct),osl⟩)
    (c:PySem.W.codeIn K cdv qual=true) (k:PySem.W.keepIn K (.ref f)=true):Fun K x qual st f (PySem.W.fnOf x qual (bw st) (aS st) (ai st) .none kV doc pm an cdv ct):=⟨⟨oc,od,kV,doc,pm,an,cdv,ct,osl,rfl,l,c⟩,k⟩
end
theorem cF {A:Around} {k:Nat} (hr:bY k A):A.units+1 < cLine:=Nat.lt_of_le_of_lt (Nat.add_le_add_left (by decide : 1≤64) _) hr.units
theorem small1000 {n:Nat} (h:n≤1000):n < sizeLine:=Nat.lt_of_le_of_lt h (by decide)
section
variable {X:Cx}
theorem pv (i:Nat) {x:Str} {pos:Pos} (hN:X.N[i]?=some x:=by rfl) (hv:Vis X.env.scope x:=by first | exact Or.inl rfl | exact Or.inr (Or.inl rfl) | exact Or.inr (Or.inr rfl)) (hd:(x == ("__debug__" : Str))=false:=by decide)
    (hcd:(x == ("__classdict__" : Str))=false:=by decide):PE X (.Name x pos) (Gd i):=Gv hN hv hd hcd
end
theorem KU {A B:Prop} (h:B):if false=true then A else B:=by
  rw [if_neg Bool.false_ne_true]
  exact h
theorem yV {c A B:Prop} [Decidable c] (h1:c→A) (h2:¬ c→B):if c then A else B:=by
  by_cases h:c
  · rw [if_pos h]
    exact h1 h
  · rw [if_neg h]
    exact h2 h
def aM (H H':Hp):Prop:=∀ b o,H b=some o→H' b=some o
theorem aM.refl (H:Hp):aM H H:=fun _ _ h=>h
theorem aM.trans {H H1 H2:Hp} (a:aM H H1) (b:aM H1 H2):aM H H2:=fun c o h=>b c o (a c o h)
theorem aM.seq {K:PySem.W.Frag} {H H':Hp} {a:Addr} {xs:List V} (e:aM H H') (h:SqL K H a xs):SqL K H' a xs:=by
  rcases h with (h | ⟨o,h⟩) | h
  · exact .inl (.inl (e _ _ h))
  · exact .inl (.inr ⟨o,e _ _ h⟩)
  · exact .inr h
end L2
namespace L3
open PySem PySem.Spec PyProof.Rows L2
abbrev St:=L2.St
def bf (CX:CXT):Prop:=∀ outer H s e s',¬ CX outer H s E0 e s'
theorem bf.pass {CX:CXT} (n:bf CX) {X:Cx}:Passes CX X E0:=fun _ _ H s e s' _ h=>(n _ H s e s' h).elim
structure Cal (P:Program) (w:World) (K:PySem.W.Frag) (mg:Str→Option Value) (base:Heap) (CX:CXT) (x:Str) (k:Nat) (ps:List Str) (sp:Sp):Prop where
  ex:∃ f fd,eU P w K mg base CX k f fd ps sp∧Binds K fd ps []∧PySem.W.keepIn K (.ref f)=true∧mg x=some (.ref f)
structure Dat (K:PySem.W.Frag) (mg:Str→Option Value) (x qual:Str) (st:Stmt) (ps:List Str):Prop where
  ex:∃ f fd,Fun K x qual st f fd∧Binds K fd ps []∧mg x=some (.ref f)
section
variable {P:Program} {w:World} {K:PySem.W.Frag} {mg:Str→Option Value} {base:Heap} {CX:CXT} {x qual:Str} {st:Stmt} {N ps:List Str} {k j:Nat} {sp sp':Sp}
theorem Cal.imp (c:Cal P w K mg base CX x k ps sp) (h:∀ vs H Q E,sp' vs H Q E→sp vs H Q E):Cal P w K mg base CX x k ps sp':=by
  obtain ⟨f,fd,F,r⟩:=c.ex
  exact ⟨f,fd,F.imp h,r⟩
theorem l0 {f:Addr} {fd:FuncData} (F:Fun K x qual st f fd) (S:ao N ps (ai st)) (len:∀ vs H Q E,sp vs H Q E→vs.length=ps.length)
    (hbody:∀ (f:Addr) (cdv:Value) (A:Around) (outer:List Env) (s:Shared) (H:Hp) (vs:List V) (Q:VK) (E:XK),bY k (A.deeper (envOfC qual (ai st) s.heap.objs.size f cdv))→sp vs H Q E →
      ∃ t,PSs (aY CX P w K mg base N qual (ai st) f cdv A outer s H E).nox (aS st) t∧t { nx:=fun _ H'=>Q .non H',rt:=Q } (start N vs) H):eU P w K mg base CX (k+1) f fd ps sp:=by
  obtain ⟨oc,od,kV,doc,pm,an,cdv,ct,osl,rfl,lk,hcd⟩:=F.ex
  refine oJ lk hcd S len fun A outer s H vs Q E hr hsp=>?_
  obtain ⟨t,h,q⟩:=hbody f cdv A outer s H vs Q E hr hsp
  exact ⟨t,h.nox,q⟩
theorem Dat.ok (D:Dat K mg x qual st ps) (S:ao N ps (ai st)) (len:∀ vs H Q E,sp vs H Q E→vs.length=ps.length)
    (hbody:∀ (f:Addr) (cdv:Value) (A:Around) (outer:List Env) (s:Shared) (H:Hp) (vs:List V) (Q:VK) (E:XK),bY k (A.deeper (envOfC qual (ai st) s.heap.objs.size f cdv))→sp vs H Q E →
      ∃ t,PSs (aY CX P w K mg base N qual (ai st) f cdv A outer s H E).nox (aS st) t∧t { nx:=fun _ H'=>Q .non H',rt:=Q } (start N vs) H):Cal P w K mg base CX x (k+1) ps sp:=by
  obtain ⟨f,fd,F,b,m⟩:=D.ex
  exact ⟨f,fd,l0 F S len hbody,b,F.kp,m⟩
theorem Dat.okX (D:Dat K mg x qual st ps) (S:ao N ps (ai st)) (len:∀ vs H Q E,sp vs H Q E→vs.length=ps.length)
    (hbody:∀ (f:Addr) (cdv:Value) (A:Around) (outer:List Env) (s:Shared) (H:Hp) (vs:List V) (Q:VK) (E:XK),bY k (A.deeper (envOfC qual (ai st) s.heap.objs.size f cdv))→sp vs H Q E →
      ∃ t,PSs (aY CX P w K mg base N qual (ai st) f cdv A outer s H E) (aS st) t∧t { nx:=fun _ H'=>Q .non H',rt:=Q } (start N vs) H):Cal P w K mg base CX x (k+1) ps sp:=by
  obtain ⟨f,fd,F,b,m⟩:=D.ex
  have kp:=F.kp
  obtain ⟨oc,od,kV,doc,pm,an,cdv,ct,osl,rfl,lk,hcd⟩:=F.ex
  refine ⟨f,_,oJ lk hcd S len fun A outer s H vs Q E hr hsp=>?_,b,kp,m⟩
  exact hbody f cdv A outer s H vs Q E hr hsp
theorem dat_mk {h:Heap} (X:K.In h) (G:h.Ns mainGlobals mg) {f:Addr} {oc:Value} {od an:Option Addr} {osl:Array (Option Value)} {kV doc pm cdv ct:Value} (a:PySem.W.nsIn K mainGlobals x=some (some (.ref f)))
    (l:K.lookup f=some ⟨oc,od,.func (PySem.W.fnOf x qual (bw st) (aS st) (ai st) .none kV doc pm an cdv ct),osl⟩) (c:PySem.W.codeIn K cdv qual=true) (kp:PySem.W.keepIn K (.ref f)=true)
    (b:∀ (kV doc pm:Value) (an:Option Addr) (cdv ct:Value) (us:List Value),us.length=ps.length→bindArgs (PySem.W.fnOf x qual (bw st) (aS st) (ai st) .none kV doc pm an cdv ct) ⟨us,[]⟩=pure (ps.zip us)):Dat K mg x qual st ps:=by
  have F:=l6 (st:=st) l c kp
  exact ⟨f,_,F,F.binds b,PySem.W.mg_of X G a⟩
end
section
variable {X:Cx} {CX:CXT} {k:Nat} {ps:List Str} {sp:Sp} {E:XK} {x:Str} {p pos:Pos} {e:Expr} {es:List Expr} {t:TA}
theorem aG (C:Cal X.prog X.w X.K X.mg X.base CX x k ps sp) (hr:bY k X.A) (hx:Passes CX X E) (ha:PA X (e::es) t) (hg:Gl X x:=by rfl)
    (hdb:(x == ("__debug__" : Str))=false:=by decide) (he:starEach (e::es) X.env=(false,eval e X.env)::starEach es X.env:=by rfl) (hpl:(backTo pos (starEach es X.env)).any (·.1)=false:=by rfl) :
    PE X (.Call (.Name x p) (e::es) [] pos) (zW sp [] E t):=by
  obtain ⟨f,fd,F,b,kp,m⟩:=C.ex
  exact DB F hr hg m kp b .nil hx ha hdb he hpl
end
def cR (cells:List (Str×Addr)):List (Str×NameKind)→List (Str×Addr)→List (Str×Addr)
  | [],acc=>acc
  | (n,k)::r,acc=>if k == .free then (match cells.lookup n with | some a=>cR cells r ((n,a)::acc) | none=>cR cells r acc) else cR cells r acc
theorem jJ {env:Env}:∀ (l:List (Str×NameKind)) (acc:List (Str×Addr)),(∀ y∈l,y.2 = .free→∃ c,env.cells.lookup y.1=some c) →
    (forIn l acc (fun (y:Str×NameKind) cs=>do
      if y.2 == .free then let c ← cellOf env y.1;pure (ForInStep.yield ((y.1,c)::cs)) else pure (ForInStep.yield cs)):Sem (List (Str×Addr)))=pure (cR env.cells l acc)
  | [],acc,_=>rfl
  | (n,k)::r,acc,h=>by
    have ih:=fun acc=>jJ (env:=env) r acc fun y hy=>h y (List.mem_cons_of_mem _ hy)
    rw [List.forIn_cons]
    cases hk:k == NameKind.free with
    | true=>
      have ek:k = .free:=by simpa using hk
      obtain ⟨c,hc⟩:=h (n,k) List.mem_cons_self ek
      have e1:cellOf env n=pure c:=by unfold cellOf;rw [hc]
      simp only [hk,if_true,e1,pure_bind]
      rw [ih]
      simp only [cR,hk,if_true,hc]
    | false=>
      simp only [hk,Bool.false_eq_true,if_false,pure_bind]
      rw [ih]
      simp only [cR,hk,Bool.false_eq_true,if_false]
theorem oK {scope:Scope} {env:Env} (h:∀ y∈scope.names,y.2 = .free→∃ c,env.cells.lookup y.1=some c):closureFor scope env=pure (cR env.cells scope.names []):=by
  unfold closureFor
  have e:=jJ (env:=env) scope.names [] h
  have:(forIn scope.names ([]:List (Str×Addr)) (fun (y:Str×NameKind) cs=>do
      if y.2 == .free then let c ← cellOf env y.1;pure (ForInStep.yield ((y.1,c)::cs)) else pure (ForInStep.yield cs)):Sem (List (Str×Addr))) >>= (fun cs=>pure cs)=pure (cR env.cells scope.names []):=by rw [e];rfl
  exact this
theorem eN {cells:List (Str×Addr)}:∀ (l:List (Str×NameKind)) (acc:List (Str×Addr)) {x:Str} {c:Addr},(cR cells l acc).lookup x=some c→acc.lookup x=some c∨(cells.lookup x=some c∧(x,NameKind.free)∈l)
  | [],acc,x,c,h=>.inl h
  | (n,k)::r,acc,x,c,h=>by
    unfold cR at h
    cases hk:k == NameKind.free with
    | true=>
      have ek:k = .free:=by simpa using hk
      subst ek
      rw [if_pos hk] at h
      cases hc:cells.lookup n with
      | none=>
        rw [hc] at h
        rcases eN r acc h with z | z
        · exact .inl z
        · exact .inr ⟨z.1,List.mem_cons_of_mem _ z.2⟩
      | some a=>
        rw [hc] at h
        rcases eN r _ h with z | z
        · rw [List.lookup_cons] at z
          cases hx:x == n with
          | true=>
            rw [hx] at z
            have:x=n:=by simpa using hx
            subst this
            cases z
            exact .inr ⟨hc,List.mem_cons_self⟩
          | false=>rw [hx] at z;exact .inl z
        · exact .inr ⟨z.1,List.mem_cons_of_mem _ z.2⟩
    | false=>
      rw [if_neg (by rw [hk];exact Bool.false_ne_true)] at h
      rcases eN r acc h with z | z
      · exact .inl z
      · exact .inr ⟨z.1,List.mem_cons_of_mem _ z.2⟩
theorem gc {cells:List (Str×Addr)}:∀ (l:List (Str×NameKind)) (acc:List (Str×Addr)) {x:Str},(∃ c,acc.lookup x=some c)→∃ c,(cR cells l acc).lookup x=some c
  | [],_,_,h=>h
  | (n,k)::r,acc,x,h=>by
    unfold cR
    split
    · split
      · refine gc r _ ?_
        rw [List.lookup_cons]
        split
        · exact ⟨_,rfl⟩
        · exact h
      · exact gc r acc h
    · exact gc r acc h
theorem dF {cells:List (Str×Addr)}:∀ (l:List (Str×NameKind)) (acc:List (Str×Addr)) {x:Str},(x,NameKind.free)∈l→(∃ c,cells.lookup x=some c)→∃ c,(cR cells l acc).lookup x=some c
  | [],_,_,h,_=>by simp at h
  | (n,k)::r,acc,x,h,hc=>by
    unfold cR
    rcases List.mem_cons.mp h with e | h
    · cases e
      obtain ⟨c,hc⟩:=hc
      rw [if_pos (by decide),hc]
      exact gc r _ ⟨c,by rw [List.lookup_cons];simp⟩
    · split
      · split
        · exact dF r _ h hc
        · exact dF r _ h hc
      · exact dF r _ h hc
def mJ (N own:List Str) (cap:List Nat):List Str:=own++cap.map fun j=>N.getD j Str.empty
def vI (own:Nat) (cap:List Nat) (σ : St):St:=List.replicate own none++cap.map fun j=>(σ[j]?).join
structure Blk (X:Cx) (scope:Scope) (own:List Str) (cap:List Nat):Prop where
  kind:scope.kind = .function
  nocell:∀ y∈scope.names,y.2≠.cell
  names:∀ y∈scope.names,y.2 = .local→scope.names.lookup y.1=some .local
  free:∀ y∈scope.names,y.2 = .free→X.env.kindOf y.1=some .cell
  nd:(mJ X.N own cap).Nodup
  caps:∀ j∈cap,∃ x,X.N[j]?=some x∧(x,NameKind.free)∈scope.names∧scope.names.lookup x=some .free
def blk (X:Cx) (scope:Scope) (own:List Str) (cap:List Nat) (C:Addr) (s:Shared) (H:Hp) (fp:List Addr):Cx:=
  { prog:=X.prog,w:=X.w,K:=X.K,mg:=X.mg,base:=X.base,A:=X.A,N:=mJ X.N own cap,s₀:=s,H₀:=H,env:=compEnvC scope (cR X.env.cells scope.names []) C X.env,outer:=X.stack,stack:=X.stack,
    ex:=fp,fn:=fun _=>false,calm:=true,pn:=[],xe:=fun _ _=>False }
theorem cW {env:Env}:∀ {names:List (Str×NameKind)} {x:Str},env.scope.kind = .function→env.kindOf x=some .cell→names.lookup x=some .free →
    (names.map fun (n,k)=>if (k == NameKind.free && env.scope.kind == .function && env.kindOf n == some .cell) then (n,NameKind.cell) else (n,k)).lookup x=some .cell
  | [],_,_,_,h=>by simp at h
  | (n,k)::r,x,hf,hc,h=>by
    have ih:=@cW env r x hf hc
    show List.lookup x ((if (k == NameKind.free && env.scope.kind == .function && env.kindOf n == some .cell)=true then (n,NameKind.cell) else (n,k))::_)=_
    cases hx:x == n with
    | true=>
      have e:x=n:=by simpa using hx
      subst e
      simp only [List.lookup_cons,hx] at h
      cases h
      rw [if_pos (by simp [hf,hc])]
      simp [List.lookup_cons]
    | false=>
      simp only [List.lookup_cons,hx] at h
      split
      · simp only [List.lookup_cons,hx];exact ih h
      · simp only [List.lookup_cons,hx];exact ih h
theorem ju {env:Env}:∀ {names:List (Str×NameKind)} {x:Str},(∀ y∈names,y.2≠.cell) →
    ((names.map fun (n,k)=>if (k == NameKind.free && env.scope.kind == .function && env.kindOf n == some .cell) then (n,NameKind.cell) else (n,k)).lookup x=some .cell ∨
     (names.map fun (n,k)=>if (k == NameKind.free && env.scope.kind == .function && env.kindOf n == some .cell) then (n,NameKind.cell) else (n,k)).lookup x=some .free)→(x,NameKind.free)∈names
  | [],_,_,h=>by simp at h
  | (n,k)::r,x,hn,h=>by
    have ih:=@ju env r x fun y hy=>hn y (List.mem_cons_of_mem _ hy)
    have hk:k≠.cell:=hn (n,k) List.mem_cons_self
    rw [List.map_cons] at h
    cases hx:x == n with
    | true=>
      have e:x=n:=by simpa using hx
      subst e
      by_cases hf:k = .free
      · subst hf;exact List.mem_cons_self
      · exfalso
        have hb:(k == NameKind.free)=false:=by simpa using hf
        simp only [hb,Bool.false_and,Bool.false_eq_true,if_false,List.lookup_cons,beq_self_eq_true,Option.some.injEq] at h
        rcases h with h | h
        · exact hk h
        · exact hf h
    | false=>
      refine List.mem_cons_of_mem _ (ih ?_)
      by_cases hc:(k == NameKind.free && env.scope.kind == .function && env.kindOf n == some .cell)=true
      · simp only [hc,if_true,List.lookup_cons,hx] at h;exact h
      · simp only [Bool.not_eq_true] at hc
        simp only [hc,Bool.false_eq_true,if_false,List.lookup_cons,hx] at h;exact h
section
variable {X:Cx} {pins:List (Addr×Obj)} {σ : St} {H:Hp} {s:Shared} {scope:Scope} {own:List Str} {cap:List Nat} {fp:List Addr}
theorem Blk.cells (B:Blk X scope own cap) (ok:X.Ok):∀ y∈scope.names,y.2 = .free→∃ c,X.env.cells.lookup y.1=some c:=fun y hy hf=>ok.has y.1 (.inl (B.free y hy hf))
theorem Inv.enter {C:Addr} {h4:Heap} {m:Str→Option Value} {t':Nat} (I:Inv X pins σ H s) (hc:X.calm=true) (B:Blk X scope own cap) (f2:∀ b∈fp,mT X pins H b) (flt:∀ b∈fp,b < s.heap.objs.size)
    (k:∀ b o,s.heap.get? b=some o→h4.get? b=some o) (hC:s.heap.objs.size≤C) (hn:h4.Ns C m) (pl:List (Addr×Obj)) (hpl:∀ p∈pl,h4.get? p.1=some p.2∧s.heap.objs.size≤p.1∧p.1≠C∧∀ v,p.2.data≠.cell v) :
    Inv (blk X scope own cap C s H fp) pl (vI own.length cap σ) H { s with heap:=h4,toks:=t' }:=by
  have cls:∀ x c,(cR X.env.cells scope.names []).lookup x=some c→X.env.cells.lookup x=some c∧(x,NameKind.free)∈scope.names:=fun x c e=>(eN _ _ e).elim (fun z=>by simp at z) fun z=>z
  refine ⟨⟨I.ok.mod,B.kind,I.ok.glob,I.ok.blt,hC,fun x y c e1 e2=>I.ok.inj x y c (cls x c e1).1 (cls y c e2).1,fun x hx=>?_,fun x c hf _=>(Bool.false_ne_true hf).elim,fun _=>I.ok.hd hc,I.ok.frames,.inl rfl,
    fun b hb=>⟨Nat.ne_of_lt (Nat.lt_of_lt_of_le (flt b hb) hC),fun x c e=>(f2 b hb).2.2.2.2.1 x c (cls x c e).1⟩,I.bs,Nat.le_trans I.ok.bsz I.sz,fun b o e hb=>?_,fun b hb hfs=>?_,I.stack,I.o8⟩,
    rfl,I.bare,Un.kept k,⟨m,hn,fun i x v e1 e2 e3=>?_⟩,fun x c e=>?_,I.hok.fresh hC,fun x c e=>I.freeC x c (cls x c e).1,fun p hp=>?_,I.hok.kept k,?_⟩
  · have hx':((relabel scope X.env).names.lookup x=some .cell∨(relabel scope X.env).names.lookup x=some .free):=hx
    have hf:=ju B.nocell hx'
    exact dF _ _ hf (B.cells I.ok _ hf rfl)
  · rcases (f2 b hb).2.2.2.1 with z | z
    · exact I.ok.noex b o e z
    · exact absurd (Nat.lt_of_lt_of_le (Heap.lt_size e) (Nat.le_trans I.ok.bsz z)) (Nat.lt_irrefl _)
  · rcases List.mem_cons.mp (I.o7 b hfs) with z | z
    · exact (f2 b hb).2.1 z
    · exact (f2 b hb).2.2.1 z
  · -- the names
    have e2':(List.replicate own.length (none:Option V)++cap.map fun j=>(σ[j]?).join)[i]?=some (some v):=e2
    have e1':(own++cap.map fun j=>X.N.getD j Str.empty)[i]?=some x:=e1
    by_cases hi:i < own.length
    · rw [List.getElem?_append_left (by simpa using hi),List.getElem?_replicate,if_pos hi] at e2'
      cases e2'
    · rw [List.getElem?_append_right (by simpa using hi),List.getElem?_map] at e2'
      rw [List.getElem?_append_right (by simpa using hi),List.getElem?_map] at e1'
      rw [List.length_replicate] at e2'
      cases hj:cap[i - own.length]? with
      | none=>rw [hj] at e2';cases e2'
      | some j=>
        rw [hj] at e1' e2'
        have HR:X.N.getD j Str.empty=x:=Option.some.inj e1'
        have qB:(σ[j]?).join=some v:=Option.some.inj e2'
        obtain ⟨y,hy,hm,hl⟩:=B.caps j (List.mem_of_getElem? hj)
        have exy:x=y:=by rw [← HR,List.getD_eq_getElem?_getD,hy];rfl
        subst exy
        have hσ : σ[j]?=some (some v):=by
          cases q : σ[j]? with
          | none=>rw [q] at qB;cases qB
          | some z=>rw [q] at qB;rw [show z=some v from qB]
        have kc:=B.free _ hm rfl
        obtain ⟨m0,hn0,hl0⟩:=I.loc
        obtain ⟨u,r,lk⟩:=hl0 j x v hy hσ (.inr (.inl kc))
        refine ⟨u,r,.inr ⟨.inl (cW I.ok.kind kc hl),?_⟩⟩
        rcases lk with ⟨k1,_⟩ | ⟨_,c,hc1,o,ho,hd⟩
        · rw [kc] at k1;cases k1
        · obtain ⟨c',hc'⟩:=dF (cells:=X.env.cells) scope.names [] hm ⟨c,hc1⟩
          have:=(cls x c' hc').1
          rw [hc1] at this;cases this
          exact ⟨c,hc',o,k c o ho,hd⟩
  · obtain ⟨v,o,ho,hd⟩:=I.cell x c (cls x c e).1
    exact ⟨v,o,k c o ho,hd⟩
  · have hp':p∈pl:=hp
    obtain ⟨h1,h2,h3,h5⟩:=hpl p hp'
    refine ⟨h1,I.hok.fresh h2,h3,fun hfs=>?_,h5⟩
    rcases List.mem_cons.mp (I.o7 p.1 hfs) with z | z
    · exact absurd (Nat.lt_of_lt_of_le I.lt h2) (by rw [z];exact Nat.lt_irrefl _)
    · exact I.Jm h2 z
  · show (List.replicate own.length (none:Option V)++cap.map fun j=>(σ[j]?).join).length=(own++cap.map fun j=>X.N.getD j Str.empty).length
    simp
theorem Inv.leave {C D:Addr} {s':Shared} {h':Heap} {H':Hp} {σ':St} {ys:List V} {its:List Value} {n:Nat} (I:Inv X pins σ H s) (f2:∀ b∈fp,mT X pins H b) (hC:s.heap.objs.size≤C) (hD:s.heap.objs.size≤D) (hDC:D≠C)
    (J:Inv (blk X scope own cap C s H fp) [(D,{ cls:=.type "list",data:=.seq its.toArray n })] σ' H' s') (hs:Heap.SameBut C s'.heap h') (r:Vals ys its) (hz:ys.length≤sizeLine) :
    Inv X pins σ (upd H' D (.lst ys)) { s' with heap:=h' }:=by
  obtain ⟨eD,nD,_,_,_⟩:=J.pin (D,{ cls:=.type "list",data:=.seq its.toArray n }) (List.mem_append_right _ (List.mem_singleton.mpr rfl))
  have HD:H D=none:=I.hok.fresh hD
  have nC:H' C=none:=J.free
  have neC:∀ b o,s.heap.get? b=some o→b≠C:=fun b o e=>Nat.ne_of_lt (Nat.lt_of_lt_of_le (Heap.lt_size e) hC)
  have neD:∀ b o,s.heap.get? b=some o→b≠D:=fun b o e=>Nat.ne_of_lt (Nat.lt_of_lt_of_le (Heap.lt_size e) hD)
  have J0:Un (frs X.stack) fp H H' s.heap s'.heap:=J.base
  have u:Un (frs X.stack) fp H (upd H' D (.lst ys)) s.heap h':=by
    refine ⟨fun b o e n hb hx=>?_,fun b o e n hb hx=>?_,fun b o e n hx=>?_,fun b o e hx=>?_,fun b xs e=>?_,fun b o xs e=>?_,fun b ps e=>?_⟩
    · exact (hs.2 b (neC b o e)).trans (J0.keep b o e n hb hx)
    · obtain ⟨sl,q⟩:=J0.slot b o e n hb hx
      exact ⟨sl,(hs.2 b (neC b o e)).trans q⟩
    · rw [au (neD b o e)];exact J0.free b o e n hx
    · obtain ⟨o',q⟩:=J0.there b o e hx
      exact ⟨o',(hs.2 b (neC b o e)).trans q⟩
    · rw [au (aq e HD)];exact J0.tups b xs e
    · rw [au (aq e HD)];exact J0.ji b o xs e
    · rw [au (aq e HD)];exact J0.i7 b ps e
  have hok:HOk X.prog X.w (upd H' D (.lst ys)) h':=fun b o e=>by
    by_cases hb:b=D
    · subst hb
      rw [aB] at e;cases e
      exact ⟨hz,its,n,r,(hs.2 b hDC).trans eD⟩
    · rw [au hb] at e
      refine (J.hok b o e).stay (fun c v hc q=>(hs.2 c ?_).trans q) (fun c q=>?_) fun c xs q=>?_
      · rcases hc with rfl | hc
        · exact aq e nC
        · exact aq hc nC
      · rw [au (aq q nD)];exact q
      · rw [au (aq q nD)];exact q
  obtain ⟨hh,g,d,t,os⟩:=s'
  have eos:os=s.os:=J.os
  subst eos
  exact Inv.call (s:=s) (h':=h') (g':=g) (d':=d) (t':=t) (ch:=fp) I u hok J.bare fun b hb=>⟨(f2 b hb).2.2.2.1,(f2 b hb).2.1,fun x c e=>(f2 b hb).2.2.2.2.1 x c e,(f2 b hb).2.2.2.2.2⟩
end
section
variable {X:Cx} {pins:List (Addr×Obj)} {σ : St} {H:Hp} {s:Shared} {scope:Scope} {own:List Str} {cap:List Nat} {fp:List Addr}
theorem Inv.again {C:Addr} {pl:List (Addr×Obj)} {σ2:St} {H3:Hp} {s3:Shared} (I:Inv X pins σ H s) (B:Blk X scope own cap) (f2:∀ b∈fp,mT X pins H b) (J:Inv (blk X scope own cap C s H fp) pl σ2 H3 s3) :
    Inv (blk X scope own cap C s H fp) pl (vI own.length cap σ) H3 s3:=by
  obtain ⟨m,hn,_⟩:=J.loc
  refine ⟨J.ok,J.os,J.bare,J.base,⟨m,hn,fun i x v e1 e2 e3=>?_⟩,J.cell,J.free,J.freeC,J.pin,J.hok,?_⟩
  · have e2':(List.replicate own.length (none:Option V)++cap.map fun j=>(σ[j]?).join)[i]?=some (some v):=e2
    have e1':(own++cap.map fun j=>X.N.getD j Str.empty)[i]?=some x:=e1
    by_cases hi:i < own.length
    · rw [List.getElem?_append_left (by simpa using hi),List.getElem?_replicate,if_pos hi] at e2'
      cases e2'
    · rw [List.getElem?_append_right (by simpa using hi),List.getElem?_map] at e2'
      rw [List.getElem?_append_right (by simpa using hi),List.getElem?_map] at e1'
      rw [List.length_replicate] at e2'
      cases hj:cap[i - own.length]? with
      | none=>rw [hj] at e2';cases e2'
      | some j=>
        rw [hj] at e1' e2'
        have HR:X.N.getD j Str.empty=x:=Option.some.inj e1'
        have qB:(σ[j]?).join=some v:=Option.some.inj e2'
        obtain ⟨y,hy,hm,hl⟩:=B.caps j (List.mem_of_getElem? hj)
        have exy:x=y:=by rw [← HR,List.getD_eq_getElem?_getD,hy];rfl
        subst exy
        have hσ : σ[j]?=some (some v):=by
          cases q : σ[j]? with
          | none=>rw [q] at qB;cases qB
          | some z=>rw [q] at qB;rw [show z=some v from qB]
        have kc:=B.free _ hm rfl
        obtain ⟨m0,hn0,hl0⟩:=I.loc
        obtain ⟨u,r,lk⟩:=hl0 j x v hy hσ (.inr (.inl kc))
        refine ⟨u,r,.inr ⟨.inl (cW I.ok.kind kc hl),?_⟩⟩
        rcases lk with ⟨k1,_⟩ | ⟨_,c,hc1,o,ho,hd⟩
        · rw [kc] at k1;cases k1
        · obtain ⟨c',hc'⟩:=dF (cells:=X.env.cells) scope.names [] hm ⟨c,hc1⟩
          have:=((eN _ _ hc').elim (fun z=>by simp at z) fun z=>z.1:X.env.cells.lookup x=some c')
          rw [hc1] at this;cases this
          have J0:Un (frs X.stack) fp H H3 s.heap s3.heap:=J.base
          obtain ⟨sl,q⟩:=J0.any ho (I.freeC x c hc1) fun z=>(f2 c z).2.2.2.2.1 x c hc1 rfl
          exact ⟨c,hc',_,q,hd⟩
  · show (List.replicate own.length (none:Option V)++cap.map fun j=>(σ[j]?).join).length=(own++cap.map fun j=>X.N.getD j Str.empty).length
    simp
end
theorem tQ {prog:Program} {w:World} {A:Around} {R:Result→Shared→Prop} {s:Shared} {elt target iter:Expr} {ifs:List Expr} {scope:Scope} {pos:Pos} {it acc:Value} {env:Env} (I:Nat→Shared→Prop)
    (turn:∀ n s,I n s→wpAny (model prog w) A (pyNext it) (fun r s₁=>match r with
      | none=>R (.ok .next) s₁
      | some v=>wpAny (model prog w) A (letOwnedTupleGo target it v) (fun _ s₁'=>wpAny (model prog w) A (assign target env v) (fun _ s₂=>
          wpAny (model prog w) A (forIn ifs true fun c r=>if r=true then do let ok ← isTrue c env (eval c env);pure (ForInStep.yield ok) else pure (ForInStep.yield r)) (fun ok s₃=>
            if ok=true then wpAny (model prog w) A (eval elt env) (fun x s₄=>
              wpAny (model prog w) A (call (.builtin "list.append") [acc,x]) (fun _ s₅=>∃ m,m < n∧I m s₅) (fun _ _=>False) s₄) (fun _ _=>False) s₃
            else ∃ m,m < n∧I m s₃) (fun _ _=>False) s₂) (fun _ _=>False) s₁') (fun _ _=>False) s₁) (fun _ _=>False) s)
    (n:Nat) (h:I n s) :
    codeAny (model prog w) A (.compLoop (.ListComp elt [⟨target,iter,ifs,0⟩] scope pos) 0 it acc env) R s:=by
  refine codeAny_loop rfl I (fun n s hI=>?_) n h
  show wpAny _ A ((compTurn (.ListComp elt [⟨target,iter,ifs,0⟩] scope pos) 0 it acc env).onRaise (fun x=>do noteFrame x env;theTreesLotGoes x)) _ _ s
  refine wpAny_noted ?_
  rw [compTurn_list]
  refine wpAny_bind (wpAny_standAt (wpAny_bind (wpAny_mono (turn n s hI) (fun r s₁ h₁=>?_) fun _ _ z=>z.elim)))
  cases r with
  | none=>exact wpAny_pure h₁
  | some v=>
    refine wpAny_bind (wpAny_mono h₁ (fun _ s₁' h₁'=>?_) fun _ _ z=>z.elim)
    refine wpAny_bind (wpAny_mono h₁' (fun _ s₂ h₂=>wpAny_bind (wpAny_mono h₂ (fun ok s₃ h₃=>?_) fun _ _ z=>z.elim)) fun _ _ z=>z.elim)
    cases ok with
    | false=>exact wpAny_pure ⟨rfl,h₃⟩
    | true=>
      exact wpAny_bind (wpAny_bind (wpAny_mono h₃ (fun x s₄ h₄=>wpAny_bind (wpAny_mono h₄ (fun _ s₅ h₅=>wpAny_pure (wpAny_pure ⟨rfl,h₅⟩)) fun _ _ z=>z.elim)) fun _ _ z=>z.elim))
def B9 (X:Cx) (ifs:List Expr) (tc:TT):Prop:=
  ∀ (pins:List (Addr×Obj)) (s:Shared) (σ : St) (H:Hp) (Q:Bool→Hp→Prop),Inv X pins σ H s→tc σ H Q →
    wpAny (model X.prog X.w) X.A (forIn ifs true fun c r=>if r=true then do let ok ← isTrue c X.env (eval c X.env);pure (ForInStep.yield ok) else pure (ForInStep.yield r)) (TP X pins σ Q) X.xe s
def IU:TT:=fun _ H Q=>Q true H
theorem r8 {X:Cx}:B9 X [] IU:=fun _ _ _ H _ I h=>wpAny_tests_nil ⟨H,I,h⟩
theorem fD {X:Cx} {c:Expr} {tc:TT} (h:PT X c tc):B9 X [c] tc:=fun pins s σ H Q I hw=>wpAny_tests_one (h pins s σ H Q I hw)
def um (J:It) (W:Nat→Nat→List V→Hp→Prop) (D:List V→Hp→Prop) (σb:St) (g:TG) (tc:TT) (te:TE):Prop:=
  ∀ i m ys H,W i m ys H→ys.length≤sizeLine ∧
    ((J.stop i H∧D ys H)∨(J.go i H∧∃ N:List V→Hp→Prop,(∀ ys' H',N ys' H'→∃ m',m' < m∧W (i+1) m' ys' H')∧∀ x H',J.yld i H x H'→g x σb H' fun σ2 H2=>tc σ2 H2 fun b H3=>
      if b=true then te σ2 H3 fun y H4=>N (ys++[y]) H4 else N ys H3))
def wo (wi:TI) (own:Nat) (cap:List Nat) (g:TG) (tc:TT) (te:TE):TE:=fun σ H Q=>wi σ H fun J H1=>∃ W:Nat→Nat→List V→Hp→Prop,(∃ m,W 0 m [] H1) ∧
  um J W (fun ys H=>∀ p,H p=none→Q (.ref p) (upd H p (.lst ys))) (vI own cap σ) g tc te
section
variable {X:Cx} {scope:Scope} {own:List Str} {cap:List Nat} {tg elt iter:Expr} {ifs:List Expr} {pos:Pos} {wi:TI} {g:TG} {tc:TT} {te:TE}
theorem mh (B:Blk X scope own cap) (hc:X.calm=true) (hg:∀ C s H fp,PG (blk X scope own cap C s H fp) tg g) (ht:∀ C s H fp,B9 (blk X scope own cap C s H fp) ifs tc) (he:∀ C s H fp,PE (blk X scope own cap C s H fp) elt te)
    {pins:List (Addr×Obj)} {s2:Shared} {σ : St} {H2:Hp} {it:Addr} {fp:List Addr} {tn:Nat→Heap→Prop} {J:It} {W:Nat→Nat→List V→Hp→Prop} {D:List V→Hp→Prop} {m0:Nat} {E:Value→Shared→Prop} {RR:Value→Addr→Result→Shared→Prop}
    (I2:Inv X pins σ H2 s2) (T:Turn X.prog X.w X.K tg J fp it tn) (st2:tn 0 s2.heap) (f2:∀ b∈fp,mT X pins H2 b) (w0:W 0 m0 [] H2) (turn:um J W D (vI own.length cap σ) g tc te)
    (done:∀ (C L:Addr) (s':Shared) (H':Hp) (σ':St) (ys:List V) (its:List Value) (n:Nat),s2.heap.objs.size≤C→s2.heap.objs.size≤L→L≠C→Inv (blk X scope own cap C s2 H2 fp) [(L,{ cls:=.type "list",data:=.seq its.toArray n })] σ' H' s'→Vals ys its→ys.length≤sizeLine→D ys H' →
      RR (.ref L) C (.ok .next) s') :
    wpAny (model X.prog X.w) X.A (newList []) (fun acc s₃=>wpAny (model X.prog X.w) X.A (newFunctionEnv scope X.env.globals (cR X.env.cells scope.names []) [] X.env.qual none .none (some X.env)) (fun cenv s₄=>
      codeAny (model X.prog X.w) X.A (.compStart (.ListComp elt [⟨tg,iter,ifs,0⟩] scope pos) 0 (.ref it) acc { cenv with scope:=relabel scope X.env }) (RR acc cenv.locals) s₄) E s₃) E s2:=by
  refine wpAny_newObj_type (wpAny_newFunctionEnv B.nocell (by intro y hy;simp at hy) (fun h₁ hns₁ hsb₁=>?_) B.kind)
  dsimp only at hns₁ hsb₁ ⊢
  have flt:∀ b∈fp,b < s2.heap.objs.size:=fun b hb=>by
    obtain ⟨o,e,_⟩:=T.obj _ _ st2 b hb
    exact Heap.lt_size e
  generalize hH2:s2.heap.push { cls:=.type "list",dict:=none,data:=.seq ([]:List Value).toArray }=G2 at hns₁ hsb₁ ⊢
  have hCs:G2.objs.size=s2.heap.objs.size+1:=by rw [← hH2,Heap.size_push]
  have hC:s2.heap.objs.size≤G2.objs.size:=by rw [hCs];exact Nat.le_succ _
  have hDC:s2.heap.objs.size≠G2.objs.size:=by rw [hCs];exact Nat.ne_of_lt (Nat.lt_succ_self _)
  have old:∀ b o,s2.heap.get? b=some o→h₁.get? b=some o:=fun b o e=>
    hsb₁.extBut b o (Nat.ne_of_lt (Nat.lt_of_lt_of_le (Heap.lt_size e) hC)) (Heap.get?_push_of_some _ (hH2▸Heap.get?_push_of_some _ e))
  have hacc:h₁.get? s2.heap.objs.size=some { cls:=.type "list",data:=.seq ([]:List Value).toArray 0 }:=hsb₁.extBut _ _ hDC (Heap.get?_push_of_some _ (hH2▸Heap.get?_push_size _ rfl))
  have loop:∀ s₃ : Shared,s₃={ s2 with heap:=h₁,toks:=s2.toks+([]:List (Str×Value)).length } →
      codeAny (model X.prog X.w) X.A (.compLoop (.ListComp elt [⟨tg,iter,ifs,0⟩] scope pos) 0 (.ref it) (.ref s2.heap.objs.size) (compEnvC scope (cR X.env.cells scope.names []) G2.objs.size X.env))
        (RR (.ref s2.heap.objs.size) G2.objs.size) s₃:=by
    rintro s₃ rfl
    refine tQ (fun n s'=>∃ i ys its nn H',Inv (blk X scope own cap G2.objs.size s2 H2 fp) [(s2.heap.objs.size,{ cls:=.type "list",data:=.seq (its:List Value).toArray nn })] (vI own.length cap σ) H' s'∧tn i s'.heap∧(∀ b∈fp,H' b=none)∧Vals ys its∧W i n ys H')
      ?_ m0 ⟨0,[],[],0,H2,L3.Inv.enter I2 hc B f2 flt old hC hns₁ _ (fun p hp=>?_),T.keep _ _ _ st2 (fun b _ o e=>old b o e),fun b hb=>(f2 b hb).1,.nil,w0⟩
    · rintro n s3 ⟨i,ys,its,nn,H3,J3,st3,fr3,rv,w3⟩
      have fpb:∀ {pl:List (Addr×Obj)} {H':Hp},(∀ b∈fp,H' b=none)→(∀ p∈pl,∀ b∈fp,p.1≠b)→∀ b∈fp,mT (blk X scope own cap G2.objs.size s2 H2 fp) pl H' b:=fun {pl H'} hn hp b hb=>
        ⟨hn b hb,Nat.ne_of_lt (Nat.lt_of_lt_of_le (flt b hb) hC),fun z=>J3.ok.exfs b hb z,.inl hb,fun x c e=>(J3.ok.exf b hb).2 x c e,fun p hp'=>by
          rcases List.mem_append.mp hp' with z | z
          · exact absurd (show p∈([]:List (Addr×Obj)) from z) (by simp)
          · exact hp p z b hb⟩
      have nD:∀ (o:Obj),∀ p∈[(s2.heap.objs.size,o)],∀ b∈fp,p.1≠b:=fun o p hp b hb=>by
        have e:p=(s2.heap.objs.size,o):=by simpa using hp
        subst e
        exact (Nat.ne_of_lt (flt b hb)).symm
      obtain ⟨hz,tr⟩:=turn i n ys H3 w3
      rcases tr with ⟨stop,qD⟩ | ⟨go,N,hN,step⟩
      · refine thn (T.done (blk X scope own cap G2.objs.size s2 H2 fp) rfl rfl rfl rfl i _ s3 _ H3 (fun _ _=>False) J3 (fpb fr3 (nD _)) st3 stop) fun r s4 ⟨hr,J4⟩=>?_
        subst hr
        exact done _ _ s4 H3 _ ys its nn hC (Nat.le_refl _) hDC J4 rv hz qD
      · refine thn (T.item (blk X scope own cap G2.objs.size s2 H2 fp) rfl rfl rfl rfl i _ s3 _ H3 (fun _ _=>False) J3 (fpb fr3 (nD _)) st3 go) fun r s4 ⟨u,hr,h4⟩=>?_
        subst hr
        refine thn h4 fun _ s5 ⟨x,H5,J5,r5,y5,st5,fr5⟩=>?_
        have J5':=J5.pinned (fpb fr5 (nD _)) (T.obj _ _ st5)
        refine thn (hg _ _ _ _ _ s5 _ H5 x u _ J5' r5 (step x H5 y5)) fun _ s6 ⟨σ6,H6,J6,q6⟩=>?_
        -- a turn's end,the list at L as it stands
        have again:∀ {pl:List (Addr×Obj)} {its':List Value} {nn':Nat} {ys':List V} {s8:Shared} {H8:Hp} {σ8:St} {m':Nat},Inv (blk X scope own cap G2.objs.size s2 H2 fp) ([(s2.heap.objs.size,{ cls:=.type "list",data:=.seq its'.toArray nn' })]++gM fp s5.heap) σ8 H8 s8→Vals ys' its'→m' < n→W (i+1) m' ys' H8 →
            ∃ m,m < n∧∃ i ys its nn H',Inv (blk X scope own cap G2.objs.size s2 H2 fp) [(s2.heap.objs.size,{ cls:=.type "list",data:=.seq (its:List Value).toArray nn })] (vI own.length cap σ) H' s8∧tn i s8.heap∧(∀ b∈fp,H' b=none)∧Vals ys its∧W i m ys H':=by
          intro pl its' nn' ys' s8 H8 σ8 m' J8 rv' hm w8
          have Jg:∀ b∈fp,∀ o,s5.heap.get? b=some o→s8.heap.get? b=some o∧H8 b=none:=fun b hb o e=>by
            have q:=J8.pin (b,o) (List.mem_append_right _ (List.mem_append_right _ (jc hb e)))
            exact ⟨q.1,q.2.1⟩
          refine ⟨m',hm,i+1,ys',its',nn',H8,Inv.again I2 B f2 J8.jo,T.keep _ _ _ st5 fun b hb o e=>(Jg b hb o e).1,fun b hb=>?_,rv',w8⟩
          obtain ⟨o,e,_⟩:=T.obj _ _ st5 b hb
          exact (Jg b hb o e).2
        refine thn (ht _ _ _ _ _ s6 _ H6 _ J6 q6) fun ok s7 ⟨H7,J7,q7⟩=>?_
        cases ok with
        | false=>
          rw [if_neg Bool.false_ne_true]
          rw [if_neg Bool.false_ne_true] at q7
          obtain ⟨m',hm,w7⟩:=hN _ _ q7
          exact again (pl:=[]) J7 rv hm w7
        | true=>
          rw [if_pos rfl]
          rw [if_pos rfl] at q7
          refine thn (he _ _ _ _ _ s7 _ H7 _ J7 q7) fun v s8 ⟨y,H8,J8,ry,q8⟩=>?_
          obtain ⟨m',hm,w8⟩:=hN _ _ q8
          have pL:=J8.pin (s2.heap.objs.size,{ cls:=.type "list",data:=.seq its.toArray nn }) (List.mem_append_right _ (List.mem_append_left _ (List.mem_singleton.mpr rfl)))
          refine wpAny_list_append_plain (l:=s2.heap.objs.size) (items:=its.toArray) ⟨nn,pL.1⟩ (fun h' hp' hsb=>?_) (by rw [List.size_toArray,← rv.length];exact hz)
          obtain ⟨nn',hL'⟩:=hp'
          have J9:Inv (blk X scope own cap G2.objs.size s2 H2 fp) (gM fp s5.heap) σ6 H8 s8:=J8.kR fun p hp=>J8.pin p (List.mem_append_right _ (List.mem_append_right _ hp))
          have KN:∀ p∈(blk X scope own cap G2.objs.size s2 H2 fp).pn++gM fp s5.heap,p.1≠s2.heap.objs.size:=fun p hp=>by
            rcases List.mem_append.mp hp with z | z
            · exact absurd (show p∈([]:List (Addr×Obj)) from z) (by simp)
            · exact Nat.ne_of_lt (flt _ (oq z).1)
          have J10:Inv (blk X scope own cap G2.objs.size s2 H2 fp) (gM fp s5.heap) σ6 H8 { s8 with heap:=h' }:=J9.turned (t':=s8.toks) (it:=s2.heap.objs.size) (fun b o hb e=>(hsb.2 b hb).trans e) pL.2.1 pL.2.2.1 (.inr (Nat.le_refl _))
            (fun x c e z=>by
              obtain ⟨v',o',ho',hd'⟩:=J9.cell x c e
              rw [z,pL.1] at ho';cases ho';cases hd') KN
          refine again (pl:=[]) (its':=its++[v]) (nn':=nn') (J10.kR fun p hp=>?_) (rv.append (.cons ry .nil)) hm w8
          rcases List.mem_append.mp hp with z | z
          · have e:p=(s2.heap.objs.size,{ cls:=.type "list",data:=.seq (its++[v]).toArray nn' }):=by simpa using z
            subst e
            refine ⟨?_,pL.2.1,pL.2.2.1,pL.2.2.2.1,fun v'=>by intro q;cases q⟩
            rw [hL']
            simp
          · exact J10.pin p (List.mem_append_right _ z)
    · have e:p=(s2.heap.objs.size,{ cls:=.type "list",data:=.seq ([]:List Value).toArray 0 }):=by simpa using hp
      subst e
      exact ⟨hacc,Nat.le_refl _,hDC,fun v'=>by intro q;cases q⟩
  exact codeAny_compStart_list (loop _ rfl) (T.self _ 0 _ _ _ (T.keep _ _ _ st2 fun b _ o e=>old b o e) (loop _ rfl))
theorem iI (hc:X.calm=true) (hi:PI X tg iter wi) (B:Blk X scope own cap) (hg:∀ C s H fp,PG (blk X scope own cap C s H fp) tg g) (ht:∀ C s H fp,B9 (blk X scope own cap C s H fp) ifs tc) (he:∀ C s H fp,PE (blk X scope own cap C s H fp) elt te)
    (hs:∀ x,foldedSetIterable iter X.env x=pure x:=by intro _;rfl):PE X (.ListComp elt [⟨tg,iter,ifs,0⟩] scope pos) (wo wi own.length cap g tc te):=by
  intro pins s σ H Q I h
  rw [eval_ListComp]
  refine wpAny_comprehension_free (use:=none) rfl hs (oK (B.cells I.ok)) B.kind B.names (thn (hi pins s σ H _ I h) fun v s1 h1=>thn h1 fun itv s2 h2=>?_)
  obtain ⟨it,fp,tn,J,H2,e,I2,T,st2,f2,W,⟨m0,w0⟩,turn⟩:=h2
  subst e
  refine mh (RR:=fun acc C=>compPost (model X.prog X.w) X.A X.xe none (EP X pins σ Q) acc C) B hc hg ht he I2 T st2 f2 w0 turn ?_
  intro C L s' H' σ' ys its n hC hL hLC J' rv hz hD
  obtain ⟨m,hn,_⟩:=J'.loc
  have nL:=(J'.pin _ (List.mem_append_right _ (List.mem_singleton.mpr rfl))).2.1
  exact ⟨m,hn,fun h' hs'=>⟨.ref L,_,Inv.leave I2 f2 hC hL hLC J' hs' rv hz,rfl,hD L nL⟩⟩
def zT (i:Nat) (wi:TI) (own:Nat) (cap:List Nat) (g:TG) (tc:TT) (te:TE):TS:=fun D σ H=>wo wi own cap g tc te σ H fun v H1=>D.nx (σ.set i (some v)) H1
theorem rZ {i:Nat} {x:Str} {px spos:Pos} (hc:X.calm=true) (hN:X.N.Nodup) (hi':X.N[i]?=some x) (hx:Loc X.env.scope x) (hi:PI X tg iter wi) (B:Blk X scope own cap) (hg:∀ C s H fp,PG (blk X scope own cap C s H fp) tg g)
    (ht:∀ C s H fp,B9 (blk X scope own cap C s H fp) ifs tc) (he:∀ C s H fp,PE (blk X scope own cap C s H fp) elt te)
    (hsw:swapsWith (.ListComp elt [⟨tg,iter,ifs,0⟩] scope pos) (some (.Name x px)) spos.line X.env=pure true) (hf:X.fn x=true∨X.env.scope.names.lookup x=some .local:=by first | exact .inl rfl | exact .inr rfl | assumption)
    (hs:∀ x,foldedSetIterable iter X.env x=pure x:=by intro _;rfl):PS X (.Assign [.Name x px] (.ListComp elt [⟨tg,iter,ifs,0⟩] scope pos) spos) (zT i wi own.length cap g tc te):=by
  intro pins s σ H D I h
  rw [exec_Assign_Name_used _ _ _ _ hsw]
  refine wpAny_bind (wpAny_standAt (wpAny_bind ?_))
  show wpAny _ X.A (do let _ ← comprehension (.ListComp elt [⟨tg,iter,ifs,0⟩] scope pos) scope X.env _ (newList []) false (eval iter X.env) (some (assign (.Name x px) X.env))) _ _ s
  refine wpAny_bind (thn (wpAny_comprehension_free (use:=some (assign (.Name x px) X.env)) (Q:=fun _ s'=>SP X pins D .next s') rfl hs (oK (B.cells I.ok)) B.kind B.names
    (thn (hi pins s σ H _ I h) fun v s1 h1=>thn h1 fun itv s2 h2=>?_)) (fun _ s' hq=>wpAny_pure (wpAny_pure hq)))
  obtain ⟨it,fp,tn,J,H2,e,I2,T,st2,f2,W,⟨m0,w0⟩,turn⟩:=h2
  subst e
  refine mh (RR:=fun acc C=>compPost (model X.prog X.w) X.A X.xe (some (assign (.Name x px) X.env)) (fun _ s'=>SP X pins D .next s') acc C) B hc hg ht he I2 T st2 f2 w0 turn ?_
  intro C L s' H' σ' ys its n hC hL hLC J' rv hz hD
  obtain ⟨m,hn,_⟩:=J'.loc
  have nL:=(J'.pin _ (List.mem_append_right _ (List.mem_singleton.mpr rfl))).2.1
  have I3:=Inv.leave I2 f2 hC hL hLC J' (.refl ..) rv hz
  show wpAny _ X.A (assign (.Name x px) X.env (.ref L)) _ _ s'
  have cL:C≠X.env.locals:=Ne.symm (Nat.ne_of_lt (Nat.lt_of_lt_of_le I2.lt hC))
  have cc:∀ y c,X.env.cells.lookup y=some c→c≠C:=fun y c e=>by
    obtain ⟨v,q⟩:=I2.cell y c e
    exact Nat.ne_of_lt (Nat.lt_of_lt_of_le q.lt hC)
  refine wpAny_assign_Name (nQ I3 hN hi' hx (v:=.ref L) rfl (fun s4 I4 ⟨a,hsb,ha⟩=>?_) hf)
  have aC:C≠a:=by
    rcases ha with rfl | e
    · exact cL
    · exact Ne.symm (cc _ _ e)
  refine ⟨m,hn.sameBut hsb aC,fun h5 hs5=>⟨_,_,I4.turned (t':=s4.toks) (it:=C) (fun b o hb e=>(hs5.2 b hb).trans e) (by rw [au (Ne.symm hLC)];exact J'.free) cL (.inr (Nat.le_trans I2.sz hC)) cc (fun p hp=>?_),hD L nL⟩⟩
  exact Nat.ne_of_lt (Nat.lt_of_lt_of_le (Heap.lt_size (I2.pin p hp).1) hC)
end
theorem zf {K:PySem.W.Frag} {a:Addr} {xs:List V} {g:TG} {tc:TT} {te:TE} {D:List V→Hp→Prop} {σb:St} {H:Hp} (Pv:Nat→List V→Hp→Prop) (h0:Pv 0 [] H) (hl:∀ i ys H,i≤xs.length→Pv i ys H→SqL K H a xs∧ys.length≤sizeLine)
    (hs:∀ i x ys H,xs[i]?=some x→Pv i ys H→g x σb H fun σ2 H2=>tc σ2 H2 fun b H3=>if b=true then te σ2 H3 fun y H4=>Pv (i+1) (ys++[y]) H4 else Pv (i+1) ys H3) (hd:∀ ys H,Pv xs.length ys H→D ys H) :
    ∃ W:Nat→Nat→List V→Hp→Prop,(∃ m,W 0 m [] H)∧um (Itl K a) W D σb g tc te:=by
  refine ⟨fun i m ys H=>m=xs.length - i∧i≤xs.length∧Pv i ys H,⟨xs.length,by simp,Nat.zero_le _,h0⟩,?_⟩
  rintro i m ys H ⟨rfl,hi,p⟩
  obtain ⟨q,hz⟩:=hl i ys H hi p
  refine ⟨hz,?_⟩
  by_cases hlt:i < xs.length
  · refine .inr ⟨⟨xs,xs[i],q,by simp [hlt]⟩,Pv (i+1),fun ys' H' p'=>⟨xs.length - (i+1),by omega,rfl,hlt,p'⟩,fun x H' y=>?_⟩
    obtain ⟨e,y⟩:=y
    subst e
    exact hs i x ys _ (y xs q) p
  · have e:i=xs.length:=by omega
    subst e
    exact .inl ⟨⟨xs,q,Nat.le_refl _⟩,hd ys H p⟩
theorem vA {lo:Int} {n:Nat} {g:TG} {tc:TT} {te:TE} {D:List V→Hp→Prop} {σb:St} {H:Hp} (Pv:Nat→List V→Hp→Prop) (h0:Pv 0 [] H) (hl:∀ i ys H,i≤n→Pv i ys H→ys.length≤sizeLine)
    (hs:∀ i ys H,i < n→Pv i ys H→g (.int (lo+i)) σb H fun σ2 H2=>tc σ2 H2 fun b H3=>if b=true then te σ2 H3 fun y H4=>Pv (i+1) (ys++[y]) H4 else Pv (i+1) ys H3) (hd:∀ ys H,Pv n ys H→D ys H) :
    ∃ W:Nat→Nat→List V→Hp→Prop,(∃ m,W 0 m [] H)∧um (Itr lo n) W D σb g tc te:=by
  refine ⟨fun i m ys H=>m=n - i∧i≤n∧Pv i ys H,⟨n,by simp,Nat.zero_le _,h0⟩,?_⟩
  rintro i m ys H ⟨rfl,hi,p⟩
  refine ⟨hl i ys H hi p,?_⟩
  by_cases hlt:i < n
  · refine .inr ⟨hlt,Pv (i+1),fun ys' H' p'=>⟨n - (i+1),by omega,rfl,hlt,p'⟩,fun x H' y=>?_⟩
    obtain ⟨e,y⟩:=y
    subst e y
    exact hs i ys _ hlt p
  · have e:i=n:=by omega
    subst e
    exact .inl ⟨Nat.le_refl _,hd ys H p⟩
structure GlV (mg:Str→Option Value) (x:Str) (v:V):Prop where
  ex:∃ u,mg x=some u∧RelV v u
theorem AJ {X:Cx} {x:Str} {v:V} {pos:Pos} (h:GlV X.mg x v) (hg:Gl X x:=by rfl) (hd:(x == ("__debug__" : Str))=false:=by decide):PE X (.Name x pos) (tC v):=by
  obtain ⟨u,m,r⟩:=h.ex
  exact Dz hg m r hd
theorem jm:bootBuiltins "len" = some (.builtin "len"):=by decide +kernel
theorem iZ:bootBuiltins "isinstance" = some (.builtin "isinstance"):=by decide +kernel
theorem cI:bootBuiltins "max" = some (.builtin "max"):=by decide +kernel
theorem vH:bootBuiltins "min" = some (.builtin "min"):=by decide +kernel
theorem Ie:bootBuiltins "all" = some (.builtin "all"):=by decide +kernel
theorem zo:bootBuiltins "sorted" = some (.builtin "sorted"):=by decide +kernel
theorem Ib:bootBuiltins "str" = some (.type "str"):=by decide +kernel
theorem kZ:bootBuiltins "list" = some (.type "list"):=by decide +kernel
theorem mH:bootBuiltins "tuple" = some (.type "tuple"):=by decide +kernel
theorem Ic:bootBuiltins "set" = some (.type "set"):=by decide +kernel
theorem B5:bootBuiltins "int" = some (.type "int"):=by decide +kernel
theorem qM:bootBuiltins "bool" = some (.type "bool"):=by decide +kernel
structure Bt (mg:Str→Option Value):Prop where
  len:mg "len" = none
  range:mg "range" = none
  isinstance:mg "isinstance" = none
  max:mg "max" = none
  min:mg "min" = none
  all:mg "all" = none
  any:mg "any" = none
  sorted:mg "sorted" = none
  sum:mg "sum" = none
  int_:mg "int" = none
  bool_:mg "bool" = none
  str_:mg "str" = none
  list_:mg "list" = none
  tuple_:mg "tuple" = none
  dict_:mg "dict" = none
  set_:mg "set" = none
  zip_:mg "zip" = none
  ValueError_:mg "ValueError" = none
section
variable {X:Cx}
def KD (_ j:Int):Prop:=0 < j∧j < 2 ^ 250
def KC (i j:Int):Prop:=(-(2 ^ 250) < i∧i < 2 ^ 250)∧(-(2 ^ 250) < j∧j < 2 ^ 250)
theorem log2_lt {n k:Nat} (h:n < 2 ^ k) (hk : 0 < k):n.log2 < k:=by
  by_cases h0:n=0
  · subst h0;simpa using hk
  · exact (Nat.log2_lt h0).mpr h
theorem dw:OpR X (binaryOp .FloorDiv) (rI KD fun i j=>.int (i / j)):=opI fun i j t u A s Q hc q=>by
  have e:i.fdiv j=i / j:=Int.fdiv_eq_ediv_of_nonneg _ (Int.le_of_lt hc.1)
  refine floordiv_int (by have:=hc.1;omega) (by rw [e];exact q) (.inl (PyProof.noPylong_of_log2 ?_))
  refine Nat.lt_of_lt_of_le (log2_lt (k:=250) ?_ (by decide)) (by decide)
  have h1:=hc.1
  have h2:=hc.2
  have e2:((2:Int) ^ 250)=((2 ^ 250:Nat):Int):=by norm_cast
  rw [e2] at h2
  omega
theorem eY:OpR X (binaryOp .Mult) (rI KC fun i j=>.int (i * j)):=opI fun i j t u A s Q hc q=>by
  have bits:∀ {k:Int},-(2 ^ 250) < k→k < 2 ^ 250→Builtin.Int.intBits k≤2 ^ 20:=fun {k} h1 h2=>by
    have e2:((2:Int) ^ 250)=((2 ^ 250:Nat):Int):=by norm_cast
    rw [e2] at h1 h2
    have h3:k.natAbs < 2 ^ 250:=by omega
    have h4:=log2_lt h3 (by decide)
    unfold Builtin.Int.intBits
    split
    · exact Nat.zero_le _
    · exact Nat.le_trans (Nat.succ_le_succ (Nat.le_of_lt h4)) (by decide)
  exact mul_int q (IntMulOk.of_bits (bits hc.1.1 hc.1.2) (bits hc.2.1 hc.2.2))
theorem wu:∀ {ys:List Str} {us:List Value},Vals (ys.map V.str) us→StrsAre us ys
  | [],_,.nil=>.nil
  | y::ys,_,.cons r t=>by
    obtain ⟨tk,rfl⟩:=r
    exact .cons y tk (wu t)
def Gr (K:PySem.W.Frag):List V→Hp→VK→Prop:=fun xs H Q=>∃ x c t b,xs=[x,c]∧iR K H x t∧((∃ T,c = .ty T∧PySem.W.kitOne K t (.type T)=some b)∨∃ C,c = .ref C∧PySem.W.kitOne K t (.ref C)=some b)∧Q (.bl b) H
theorem BV:dj X (.builtin "isinstance") (Gr X.K):=by
  intro pins s σ H xs us Q I r h
  obtain ⟨x,c,t,b,rfl,ty,e,q⟩:=h
  obtain ⟨u,w',rfl,rx,rc⟩:=vals2 r
  rcases e with ⟨T,rfl,e⟩ | ⟨C,rfl,e⟩
  · cases (show w'=Value.type T from rc)
    exact oE I rx ty e fun tk=>⟨.bl b,H,I.tok _,rfl,q⟩
  · cases (show w'=Value.ref C from rc)
    exact oE I rx ty e fun tk=>⟨.bl b,H,I.tok _,rfl,q⟩
theorem ja {e:Expr} {te:TE} {c:Str} {T:String} {p p' pos:Pos} (hm:X.mg "isinstance" = none) (hc:X.mg c=none) (hv:bootBuiltins c=some (.type T)) (he:PE X e te) (hg:Gl X "isinstance" := by rfl) (hg':Gl X c:=by rfl) (hn:c ≠ "__name__" := by decide) (hd:(c == ("__debug__" : Str))=false:=by decide)
    (hs:starEach [e,.Name c p'] X.env=(false,eval e X.env)::starEach [.Name c p'] X.env:=by rfl) (hs2:starEach [.Name c p'] X.env=(false,eval (.Name c p') X.env)::starEach [] X.env:=by rfl) (hpl:(backTo pos (starEach [.Name c p'] X.env)).any (·.1)=false:=by rfl) :
    PE X (.Call (.Name "isinstance" p) [e,.Name c p'] [] pos) (tCB (Gr X.K) (nO te (nO (tC (.ty T)) o5))):=
  aX BV hg hm iZ (aa he (aa (pZ hg' hc hv rfl hn hd) ah hs2) hs) (by decide) (by decide) hs hpl
end
def F9 (names:List (Str×NameKind)) (N:List Str) (scope:Scope) (own:List Str) (cap:List Nat):Bool:=
  scope.names.all (fun y=>y.2 != .cell && (y.2 != .local || scope.names.lookup y.1 == some .local) && (y.2 != .free || names.lookup y.1 == some .cell)) &&
  decide (mJ N own cap).Nodup &&
  cap.all (fun j=>match N[j]? with | some x=>scope.names.any (fun y=>y.1 == x && y.2 == .free) && scope.names.lookup x == some .free | none=>false)
theorem iu {X:Cx} {scope:Scope} {own:List Str} {cap:List Nat} (names:List (Str×NameKind)) (N:List Str) (hn:X.env.scope.names=names) (hN:X.N=N) (hk:scope.kind = .function) (h:F9 names N scope own cap=true):Blk X scope own cap:=by
  unfold F9 at h
  simp only [Bool.and_eq_true,List.all_eq_true,decide_eq_true_eq] at h
  obtain ⟨⟨h1,h2⟩,h3⟩:=h
  refine ⟨hk,fun y hy e=>?_,fun y hy e=>?_,fun y hy e=>?_,by rw [hN];exact h2,fun j hj=>?_⟩
  · have:=(h1 y hy).1.1
    rw [e] at this;exact absurd this (by decide)
  · have:=(h1 y hy).1.2
    rw [e] at this;simpa using this
  · have:=(h1 y hy).2
    rw [e] at this
    show X.env.scope.names.lookup y.1=some .cell
    rw [hn]
    simpa using this
  · have:=h3 j hj
    rw [hN]
    split at this
    · rename_i x e
      simp only [Bool.and_eq_true,List.any_eq_true,beq_iff_eq] at this
      obtain ⟨⟨y,hy,e1,e2⟩,e3⟩:=this
      obtain ⟨y1,y2⟩:=y
      dsimp only at e1 e2
      subst e1 e2
      exact ⟨_,e,hy,e3⟩
    · cases this
structure Mak (P:Program) (w:World) (K:PySem.W.Frag) (mg:Str→Option Value) (base:Heap) (CX:CXT) (x:Str) (C:Addr) (k:Nat) (ps:List Str) (sp:Sp):Prop where
  ex:∃ f fd,Mk K C f∧eU P w K mg base CX k f fd ps sp∧Binds K fd ps []∧mg x=some (.ref C)
structure uo (K:PySem.W.Frag) (mg:Str→Option Value) (x qual:Str) (C:Addr) (st:Stmt) (ps:List Str):Prop where
  ex:∃ f fd,Fun K "__init__" qual st f fd∧Binds K fd ps []∧mg x=some (.ref C)∧Mk K C f∧Cls K C
structure dc (K:PySem.W.Frag) (C:Addr) (x qual:Str) (st:Stmt) (ps:List Str):Prop where
  ex:∃ f fd,Fun K x qual st f fd∧Binds K fd ps []∧Meth K C x f∧Cls K C
section
variable {P:Program} {w:World} {K:PySem.W.Frag} {mg:Str→Option Value} {base:Heap} {CX:CXT} {x qual:Str} {C:Addr} {st:Stmt} {N ps:List Str} {k j:Nat} {sp sp':Sp}
theorem uo.ok (D:uo K mg x qual C st ps) (S:ao N ps (ai st)) (len:∀ vs H Q E,sp vs H Q E→vs.length=ps.length)
    (hbody:∀ (f:Addr) (cdv:Value) (A:Around) (outer:List Env) (s:Shared) (H:Hp) (vs:List V) (Q:VK) (E:XK),bY k (A.deeper (envOfC qual (ai st) s.heap.objs.size f cdv))→sp vs H Q E →
      ∃ t,PSs (aY CX P w K mg base N qual (ai st) f cdv A outer s H E).nox (aS st) t∧t { nx:=fun _ H'=>Q .non H',rt:=Q } (start N vs) H):Mak P w K mg base CX x C (k+1) ps sp:=by
  obtain ⟨f,fd,F,b,m,M,_⟩:=D.ex
  exact ⟨f,fd,M,l0 F S len hbody,b,m⟩
theorem uo.cls (D:uo K mg x qual C st ps):Cls K C:=D.ex.elim fun _ h=>h.elim fun _ h=>h.2.2.2.2
theorem EU {h:Heap} (X:K.In h) (G:h.Ns mainGlobals mg) {f:Addr} {oc:Value} {od an:Option Addr} {osl:Array (Option Value)} {kV doc pm cdv ct:Value} (aC:PySem.W.nsIn K mainGlobals x=some (some (.ref C)))
    (a:PySem.W.findIn K (.ref C) "__init__" = some (some (.ref f))) (i:PySem.W.isFn K (.ref f)=true)
    (l:K.lookup f=some ⟨oc,od,.func (PySem.W.fnOf "__init__" qual (bw st) (aS st) (ai st) .none kV doc pm an cdv ct),osl⟩) (c:PySem.W.codeIn K cdv qual=true) (kp:PySem.W.keepIn K (.ref f)=true)
    (pg:PySem.W.plainGet K C Str.empty=true) (hd:PySem.W.hasDictIn K C=true) (po:PySem.W.plainOver K C=true) (sa:PySem.W.findIn K (.ref C) "__setattr__" = some (some (.builtin "object.__setattr__"))) (mk:PySem.W.makesIn K C=true) (kc:PySem.W.keepIn K (.ref C)=true)
    (b:∀ (kV doc pm:Value) (an:Option Addr) (cdv ct:Value) (us:List Value),us.length=ps.length→bindArgs (PySem.W.fnOf "__init__" qual (bw st) (aS st) (ai st) .none kV doc pm an cdv ct) ⟨us,[]⟩=pure (ps.zip us)):uo K mg x qual C st ps:=by
  have F:=l6 (st:=st) l c kp
  exact ⟨f,_,F,F.binds b,PySem.W.mg_of X G aC,⟨mk,a,i,kc⟩,⟨pg,hd,po,sa⟩⟩
end
section
variable {X:Cx} {CX:CXT} {k:Nat} {ps:List Str} {sp:Sp} {E:XK} {x:Str} {C:Addr} {p pos:Pos} {e:Expr} {es:List Expr} {t:TA}
theorem sd (M:Mak X.prog X.w X.K X.mg X.base CX x C k ps sp) (hr:bY (k+1) X.A) (hx:Passes CX X E) (ha:PA X (e::es) t) (hg:Gl X x:=by rfl)
    (hdb:(x == ("__debug__" : Str))=false:=by decide) (he:starEach (e::es) X.env=(false,eval e X.env)::starEach es X.env:=by rfl) (hpl:(backTo pos (starEach es X.env)).any (·.1)=false:=by rfl) :
    PE X (.Call (.Name x p) (e::es) [] pos) (rz C sp [] E t):=by
  obtain ⟨f,fd,m,F,b,g⟩:=M.ex
  exact wR m F hr hg g b .nil hx ha hdb he hpl
end
end L3
namespace L4
open PySem PySem.Spec PyProof.Rows L2 L3
def cB (H H':Hp):Prop:=∀ q xs,H q=some (.tup xs)→H' q=some (.tup xs)
theorem cB.refl (H:Hp):cB H H:=fun _ _ h=>h
theorem cB.trans {H H1 H2:Hp} (a:cB H H1) (b:cB H1 H2):cB H H2:=fun q xs h=>b q xs (a q xs h)
theorem bV {H H':Hp} (s:aM H H'):cB H H':=fun q _ h=>s q _ h
theorem uu {H:Hp} {p:Addr} {o u:HO} (h:H p=some u) (n:∀ xs,u≠.tup xs):cB H (upd H p o):=fun q xs e=>by
  have:q≠p:=fun z=>by subst z;rw [h] at e;exact n xs (Option.some.inj e)
  rw [au this];exact e
structure Ob where
  p:Hp→HO→Prop
  mono:∀ {H H':Hp} {o:HO},cB H H'→p H o→p H' o
def Eo (o:HO):Ob:=⟨fun _ u=>u=o,fun _ h=>h⟩
structure Pr where
  p:Hp→Prop
  mono:∀ {H H':Hp},cB H H'→p H→p H'
def aO (r:Addr) (xs:List V):Pr:=⟨fun H=>H r=some (.tup xs),fun t h=>t _ _ h⟩
structure Led (P:Addr→Prop) (H0 H:Hp) (l:List (Addr×Ob)) (fs:List Pr):Prop where
  at_:∀ x∈l,∃ o,H x.1=some o∧x.2.p H o
  nd:(l.map (·.1)).Nodup
  own:∀ x∈l,P x.1∨H0 x.1=none
  fr:∀ q o,H0 q=some o→¬ P q→H q=some o
  st:∀ f∈fs,f.p H
inductive Put (p:Addr) (a b:Ob):List (Addr×Ob)→List (Addr×Ob)→Prop
  | head {l}:Put p a b ((p,a)::l) ((p,b)::l)
  | tail {x l l'}:Put p a b l l'→Put p a b (x::l) (x::l')
section
variable {P:Addr→Prop} {H0 H H':Hp} {l l':List (Addr×Ob)} {fs:List Pr} {p:Addr} {a b:Ob} {o:HO}
theorem Put.mem (h:Put p a b l l'):(p,a)∈l:=by
  induction h with
  | head=>exact List.mem_cons_self
  | tail _ ih=>exact List.mem_cons_of_mem _ ih
theorem Put.keys (h:Put p a b l l'):l'.map (·.1)=l.map (·.1):=by
  induction h with
  | head=>rfl
  | tail _ ih=>rw [List.map_cons,List.map_cons,ih]
theorem Put.or (h:Put p a b l l'):∀ x∈l',x=(p,b)∨x∈l:=by
  induction h with
  | head=>
    intro x hx
    rcases List.mem_cons.mp hx with e | e
    · exact .inl e
    · exact .inr (List.mem_cons_of_mem _ e)
  | tail _ ih=>
    intro x hx
    rcases List.mem_cons.mp hx with e | e
    · exact .inr (by rw [e];exact List.mem_cons_self)
    · exact (ih x e).imp_right (List.mem_cons_of_mem _)
theorem Be:∀ {l:List (Addr×Ob)},(l.map (·.1)).Nodup→∀ {x y},x∈l→y∈l→x.1=y.1→x=y
  | [],_,_,_,hx,_,_=>by simp at hx
  | z::l,hn,x,y,hx,hy,e=>by
    rw [List.map_cons,List.nodup_cons] at hn
    rcases List.mem_cons.mp hx with e1 | h1
    · rcases List.mem_cons.mp hy with e2 | h2
      · rw [e1,e2]
      · exact absurd (show z.1∈l.map (·.1) from List.mem_map.mpr ⟨y,h2,by rw [← e1];exact e.symm⟩) hn.1
    · rcases List.mem_cons.mp hy with e2 | h2
      · exact absurd (show z.1∈l.map (·.1) from List.mem_map.mpr ⟨x,h1,by rw [← e2];exact e⟩) hn.1
      · exact Be hn.2 h1 h2 e
theorem Put.or' (h:Put p a b l l') (nd:(l.map (·.1)).Nodup):∀ x∈l',x=(p,b)∨(x∈l∧x.1≠p):=by
  intro x hx
  have nd':(l'.map (·.1)).Nodup:=by rw [h.keys];exact nd
  have hb:(p,b)∈l':=by
    clear nd nd' hx
    induction h with
    | head=>exact List.mem_cons_self
    | tail _ ih=>exact List.mem_cons_of_mem _ ih
  by_cases e:x.1=p
  · exact .inl (Be nd' hx hb e)
  · rcases h.or x hx with z | z
    · exact .inl z
    · exact .inr ⟨z,e⟩
theorem Led.get (L:Led P H0 H l fs) (m:Put p a a l l'):∃ o,H p=some o∧a.p H o:=L.at_ _ m.mem
theorem Led.eo (L:Led P H0 H l fs) (m:Put p (Eo o) (Eo o) l l'):H p=some o:=by
  obtain ⟨u,e,h⟩:=L.get m
  have:u=o:=h
  rw [← this];exact e
theorem Led.tup (L:Led P H0 H l fs) {r:Addr} {xs:List V} (m:aO r xs∈fs):H r=some (.tup xs):=L.st _ m
theorem Led.more (L:Led P H0 H l fs) (f:Pr) (h:f.p H):Led P H0 H l (f::fs):=
  ⟨L.at_,L.nd,L.own,L.fr,fun g hg=>(List.mem_cons.mp hg).elim (fun e=>e▸h) (L.st g)⟩
theorem Led.start (H:Hp) (P:Addr→Prop):Led P H H [] []:=⟨fun _ h=>by simp at h,List.nodup_nil,fun _ h=>by simp at h,fun _ _ h _=>h,fun _ h=>by simp at h⟩
theorem Led.same (L:Led (fun _=>False) H0 H l fs):aM H0 H:=fun q o h=>L.fr q o h id
theorem Led.keep (L:Led P H0 H l fs) (s:aM H H'):Led P H0 H' l fs:=
  ⟨fun x hx=>let ⟨o,e,h⟩:=L.at_ x hx;⟨o,s _ _ e,x.2.mono (bV s) h⟩,L.nd,L.own,fun q o h n=>s _ _ (L.fr q o h n),fun f hf=>f.mono (bV s) (L.st f hf)⟩
theorem Led.fresh (L:Led P H0 H l fs) (h:H p=none):(∀ x∈l,x.1≠p)∧(P p∨H0 p=none):=by
  refine ⟨fun x hx e=>?_,?_⟩
  · obtain ⟨o,q,_⟩:=L.at_ x hx
    rw [e,h] at q;cases q
  · by_cases hp:P p
    · exact .inl hp
    · cases q:H0 p with
      | none=>exact .inr rfl
      | some o=>rw [L.fr p o q hp] at h;cases h
theorem cU (h:H p=none):aM H (upd H p o):=fun b u q=>by rw [au (aq q h)];exact q
theorem Led.Jo (L:Led P H0 H l fs) {xs:List V} (h:H p=none):Led P H0 (upd H p (.tup xs)) l (aO p xs::fs):=(L.keep (cU h)).more _ aB
theorem Led.nj (L:Led P H0 H l fs) (h:H p=none) (ho:a.p (upd H p o) o):Led P H0 (upd H p o) ((p,a)::l) fs:=by
  have K:=L.keep (cU (o:=o) h)
  obtain ⟨f1,f2⟩:=L.fresh h
  refine ⟨fun x hx=>?_,?_,fun x hx=>?_,K.fr,K.st⟩
  · rcases List.mem_cons.mp hx with rfl | hx
    · exact ⟨o,aB,ho⟩
    · exact K.at_ x hx
  · rw [List.map_cons,List.nodup_cons]
    refine ⟨fun z=>?_,L.nd⟩
    obtain ⟨x,hx,e⟩:=List.mem_map.mp z
    exact f1 x hx e
  · rcases List.mem_cons.mp hx with rfl | hx
    · exact f2
    · exact L.own x hx
structure Chg (p:Addr) (H H':Hp):Prop where
  oth:∀ q o,H q=some o→q≠p→H' q=some o
  ts:cB H H'
theorem Chg.upd {u:HO} (h:H p=some u) (n:∀ xs,u≠.tup xs):Chg p H (upd H p o):=⟨fun q o e z=>by rw [au z];exact e,uu h n⟩
theorem Chg.trans {H1:Hp} (x:Chg p H H1) (y:Chg p H1 H'):Chg p H H':=⟨fun q o e n=>y.oth q o (x.oth q o e n) n,x.ts.trans y.ts⟩
theorem Chg.same {H1:Hp} (x:Chg p H H1) (y:aM H1 H'):Chg p H H':=⟨fun q o e n=>y _ _ (x.oth q o e n),x.ts.trans (bV y)⟩
theorem Led.set (L:Led P H0 H l fs) (m:Put p a b l l') (c:Chg p H H') (ho:∃ o,H' p=some o∧b.p H' o):Led P H0 H' l' fs:=by
  have own:=L.own _ m.mem
  refine ⟨fun x hx=>?_,by rw [m.keys];exact L.nd,fun x hx=>?_,fun q o h n=>?_,fun f hf=>f.mono c.ts (L.st f hf)⟩
  · rcases m.or' L.nd x hx with rfl | ⟨hx,n⟩
    · exact ho
    · obtain ⟨u,e,h⟩:=L.at_ x hx
      exact ⟨u,c.oth _ _ e n,x.2.mono c.ts h⟩
  · rcases m.or x hx with rfl | hx
    · exact own
    · exact L.own x hx
  · have:q≠p:=fun z=>by
      subst z
      rcases own with h1 | h1
      · exact n h1
      · rw [h] at h1;cases h1
    exact c.oth _ _ (L.fr q o h n) this
theorem Chg.refl (p:Addr) (H:Hp):Chg p H H:=⟨fun _ _ h _=>h,cB.refl H⟩
theorem Led.add (L:Led P H0 H l fs) (s:aM H H') (n:H p=none) (ho:∃ o,H' p=some o∧a.p H' o):Led P H0 H' ((p,a)::l) fs:=by
  have K:=L.keep s
  obtain ⟨f1,f2⟩:=L.fresh n
  refine ⟨fun x hx=>?_,?_,fun x hx=>?_,K.fr,K.st⟩
  · rcases List.mem_cons.mp hx with rfl | hx
    · exact ho
    · exact K.at_ x hx
  · rw [List.map_cons,List.nodup_cons]
    refine ⟨fun z=>?_,L.nd⟩
    obtain ⟨x,hx,e⟩:=List.mem_map.mp z
    exact f1 x hx e
  · rcases List.mem_cons.mp hx with rfl | hx
    · exact f2
    · exact L.own x hx
theorem Led.chg (L:Led (·=p) H0 H l fs) (n:∀ xs,H0 p≠some (.tup xs)):Chg p H0 H:=⟨L.fr,fun q xs h=>L.fr q _ h fun z=>n xs (z▸h)⟩
end
abbrev St:=L2.St
abbrev RL:=List V→Hp→VK→Prop
def Jd:RL:=fun xs H Q=>∃ i j,xs=[.int i,.int j]∧Q (.int (if j > i then j else i)) H
def Jc:RL:=fun xs H Q=>∃ i j,xs=[.int i,.int j]∧Q (.int (if j < i then j else i)) H
def Gq (K:PySem.W.Frag):RL:=fun xs H Q=>∃ p ys,xs=[.ref p]∧(SqL K H p ys∨SqT K H p ys)∧Q (.int ys.length) H
def wK (K:PySem.W.Frag):RL:=fun xs H Q=>∃ p ys,xs=[.ref p]∧(SqL K H p ys∨SqT K H p ys)∧∀ l,H l=none→Q (.ref l) (upd H l (.lst ys))
def AD (K:PySem.W.Frag):RL:=fun xs H Q=>∃ p ys,xs=[.ref p]∧((SqL K H p ys∧∀ l,H l=none→Q (.ref l) (upd H l (.tup ys)))∨(SqT K H p ys∧Q (.ref p) H))
section
variable {X:Cx}
theorem iY (hc:X.calm=true):dj X (.builtin "max") Jd:=zh hc
theorem F7 (hc:X.calm=true):dj X (.builtin "min") Jc:=zg hc
theorem oM:dj X (.builtin "len") (Gq X.K):=qG
theorem mE:dj X (.type "list") (wK X.K):=qF
theorem EW:dj X (.type "tuple") (AD X.K):=nB
end
def Kw (xs:List V) (H:Hp) (Q:VK):Prop:=xs.length≤sizeLine∧∀ p,H p=none→Q (.ref p) (upd H p (.tup xs))
def Kx (xs:List V) (H:Hp) (Q:VK):Prop:=xs.length≤sizeLine∧∀ p,H p=none→Q (.ref p) (upd H p (.lst xs))
def IsB (x:V) (H:Hp) (Q:Bool→Hp→Prop):Prop:=∃ k,x = .bl k∧Q k H
def Fld (K:PySem.W.Frag) (f:Str) (x:V) (H:Hp) (Q:VK):Prop:=∃ a C dx fs v,x = .ref a∧H a=some (.ins C dx fs)∧Cls K C∧bq K C f∧fs.lookup f=some v∧Q v H
section
variable {K:PySem.W.Frag} {σ : St} {H:Hp} {Q:VK} {D:Ends} {t u:TS} {ta tb te:TE} {tt tt':TT} {tl:TA} {v x y:V} {i:Nat} {B:Bool→Hp→Prop}
-- statements
theorem g_seq (h:t { D with nx:=u D } σ H):Gf t u D σ H:=h
theorem Hf (h:D.nx σ H):Ft D σ H:=h
theorem JZ {g:TG} (h:te σ H fun x H1=>g x σ H1 D.nx):Gh te g D σ H:=h
theorem Hy (h:te σ H fun _ H1=>D.nx σ H1):Fy te D σ H:=h
theorem JC (h:te σ H D.rt):II te D σ H:=h
theorem K8 (h:tt σ H fun b H1=>if b=true then t D σ H1 else u D σ H1):IM tt t u D σ H:=h
-- expressions
theorem Jz (e : σ[i]?=some (some v)) (h:Q v H):Gd i σ H Q:=⟨v,e,h⟩
theorem g_c (h:Q v H):tC v σ H Q:=h
theorem K7 {r:R2} (h:ta σ H fun x H1=>tb σ H1 fun y H2=>r x y H2 Q):tOp r ta tb σ H Q:=h
theorem K3 {r:V→Hp→VK→Prop} (h:ta σ H fun x H1=>r x H1 Q):tUn r ta σ H Q:=h
theorem JS (h:tt σ H fun c H1=>if c=true then ta σ H1 Q else tb σ H1 Q):tIf tt ta tb σ H Q:=h
theorem HL (h:ta σ H fun x H1=>IsB x H1 fun c H1=>if c=true then tb σ H1 Q else Q (.bl false) H1):FD ta tb σ H Q:=h
theorem JE (h:ta σ H fun x H1=>IsB x H1 fun c H1=>if c=true then Q (.bl true) H1 else tb σ H1 Q):IJ ta tb σ H Q:=h
theorem G8 (h:ta σ H fun x H1=>IsB x H1 fun c H1=>Q (.bl (!c)) H1):Fp ta σ H Q:=h
theorem JP (h:ta σ H fun x H1=>Q (.bl (decide (x = .non))) H1):IL ta σ H Q:=h
theorem G9 (h:ta σ H fun x H1=>Q (.bl (!decide (x = .non))) H1):Fq ta σ H Q:=h
theorem JA (h:tl σ H fun xs H1=>Kw xs H1 Q):CG tl σ H Q:=h
theorem JN (h:tl σ H fun xs H1=>Kx xs H1 Q):CI tl σ H Q:=h
theorem JG {W:List V→Hp→Prop} (h:W [] H):o5 σ H W:=h
theorem Hz {W:List V→Hp→Prop} (h:te σ H fun x H1=>tl σ H1 fun xs H2=>W (x::xs) H2):nO te tl σ H W:=h
theorem K9 {r:List V→Hp→VK→Prop} (h:tl σ H fun vs H1=>r vs H1 Q):tCB r tl σ H Q:=h
theorem HF {sp:Sp} {E:XK} (h:tl σ H fun vs H1=>sp vs H1 Q E):zW sp [] E tl σ H Q:=by
  have e:(fun (vs:List V) H1=>sp (vs++[]) H1 Q E)=fun vs H1=>sp vs H1 Q E:=by funext vs H1;rw [List.append_nil]
  show tl σ H (fun vs H1=>sp (vs++[]) H1 Q E)
  rw [e];exact h
def Made (C:Addr) (sp:Sp) (E:XK) (vs:List V) (H:Hp) (Q:VK):Prop:=∀ x dx,H x=none→H dx=none→dx≠x→sp (.ref x::vs) (upd (upd H dx (.own x)) x (.ins C dx [])) (fun v H2=>v = .non∧Q (.ref x) H2) E
theorem Ht {C:Addr} {sp:Sp} {E:XK} (h:tl σ H fun vs H1=>Made C sp E vs H1 Q):rz C sp [] E tl σ H Q:=by
  have e:(fun (vs:List V) H1=>∀ x dx,H1 x=none→H1 dx=none→dx≠x→sp (.ref x::(vs++[])) (upd (upd H1 dx (.own x)) x (.ins C dx [])) (fun v H2=>v = .non∧Q (.ref x) H2) E)=fun vs H1=>Made C sp E vs H1 Q:=by
    funext vs H1;rw [List.append_nil];rfl
  show tl σ H (fun vs H1=>∀ x dx,H1 x=none→H1 dx=none→dx≠x→sp (.ref x::(vs++[])) (upd (upd H1 dx (.own x)) x (.ins C dx [])) (fun v H2=>v = .non∧Q (.ref x) H2) E)
  rw [e];exact h
def Lf (K:PySem.W.Frag) (f:Str) (y x:V) (H:Hp) (R:Hp→Prop):Prop:=∃ a C dx fs,x = .ref a∧H a=some (.ins C dx fs)∧Cls K C∧bq K C f∧fs.length < 1000∧R (upd H a (.ins C dx (bN f y fs)))
theorem G3 {f:Str} (h:tb σ H fun y H1=>ta σ H1 fun x H2=>Lf K f y x H2 fun H3=>D.nx σ H3):IZ K ta tb f D σ H:=h
theorem JU {f:Str} (h:ta σ H fun x H1=>Fld K f x H1 Q):IQ K ta f σ H Q:=h
theorem La {T:String} {r:V→List V→Hp→VK→Prop} (h:ta σ H fun x H1=>tyV K T x H1∧tl σ H1 fun xs H2=>r x xs H2 Q):tBM K T r ta tl σ H Q:=h
theorem K4 {r:V→Option Int→Option Int→Hp→VK→Prop} {a b:TO} (h:te σ H fun x H1=>a σ H1 fun l H2=>b σ H2 fun u H3=>r x l u H3 Q):tSl r te a b σ H Q:=h
theorem BA {W:Option Int→Hp→Prop} (h:W none H):wg σ H W:=h
def Prt (x:V) (H:Hp) (W:Option Int→Hp→Prop):Prop:=∃ i,x = .int i∧W (some i) H
theorem G7 {W:Option Int→Hp→Prop} (h:te σ H fun x H1=>Prt x H1 W):Fo te σ H W:=h
-- tests
theorem g_b (h:te σ H fun x H1=>IsB x H1 B):tB te σ H B:=h
theorem G0 (h:te σ H fun x H1=>IsB x H1 B):zP te σ H B:=h
theorem J1 (h:tt σ H fun c H1=>if c=true then tt' σ H1 B else B false H1):IT tt tt' σ H B:=h
theorem K6 (h:tt σ H fun c H1=>if c=true then B true H1 else tt' σ H1 B):tOr tt tt' σ H B:=h
theorem JF (h:tt σ H fun c H1=>B (!c) H1):IK tt σ H B:=h
theorem JQ {k:Bool} (h:B k H):IsB (.bl k) H B:=⟨k,rfl,h⟩
-- values
theorem JD {g:Int→Int→V} {i j:Int} (h:Q (g i j) H):rI0 g (.int i) (.int j) H Q:=⟨i,j,rfl,rfl,h⟩
theorem G6 {C:Int→Int→Prop} {g:Int→Int→V} {i j:Int} (c:C i j) (h:Q (g i j) H):rI C g (.int i) (.int j) H Q:=⟨i,j,rfl,rfl,c,h⟩
theorem K5 {g:Int→V} {i:Int} (h:Q (g i) H):rU g (.int i) H Q:=⟨i,rfl,h⟩
theorem JW {i j:Int} (h:Q (.bl (decide (i=j))) H):rEq (.int i) (.int j) H Q:=⟨rfl,by
  have e:decide (V.int i=V.int j)=decide (i=j):=by
    by_cases z:i=j
    · subst z;simp
    · rw [decide_eq_false z,decide_eq_false fun w=>z (V.int.inj w)]
  rw [e];exact h⟩
theorem JV {i j:Str} (h:Q (.bl (decide (i=j))) H):rEq (.str i) (.str j) H Q:=⟨rfl,by
  have e:decide (V.str i=V.str j)=decide (i=j):=by
    by_cases z:i=j
    · subst z;simp
    · rw [decide_eq_false z,decide_eq_false fun w=>z (V.str.inj w)]
  rw [e];exact h⟩
theorem JH {i j:Int} (h:Q (.bl (!decide (i=j))) H):rNe (.int i) (.int j) H Q:=⟨rfl,by
  have e:decide (V.int i=V.int j)=decide (i=j):=by
    by_cases z:i=j
    · subst z;simp
    · rw [decide_eq_false z,decide_eq_false fun w=>z (V.int.inj w)]
  rw [e];exact h⟩
-- branches
theorem tF {A B:Prop} (h:A):if true=true then A else B:=by rw [if_pos rfl];exact h
theorem lY {A B:Prop} (h:B):if false=true then A else B:=by rw [if_neg Bool.false_ne_true];exact h
theorem bS {p A B:Prop} [Decidable p] (h1:p→A) (h2:¬ p→B):if decide p=true then A else B:=by
  by_cases h:p
  · rw [if_pos (decide_eq_true h)];exact h1 h
  · rw [if_neg (by rw [decide_eq_false h];exact Bool.false_ne_true)];exact h2 h
theorem lZ {p A B:Prop} [Decidable p] (h:p) (a:A):if decide p=true then A else B:=by rw [if_pos (decide_eq_true h)];exact a
theorem bW {p A B:Prop} [Decidable p] (h:¬ p) (b:B):if decide p=true then A else B:=by rw [if_neg (by rw [decide_eq_false h];exact Bool.false_ne_true)];exact b
theorem JR {p A B:Prop} [Decidable p] (h1:p→B) (h2:¬ p→A):if (!decide p)=true then A else B:=by
  by_cases h:p
  · rw [if_neg (by rw [decide_eq_true h];exact Bool.false_ne_true)];exact h1 h
  · rw [if_pos (by rw [decide_eq_false h];rfl)];exact h2 h
theorem qj {p A B:Prop} [Decidable p] (h:¬ p) (a:A):if (!decide p)=true then A else B:=by rw [if_pos (by rw [decide_eq_false h];rfl)];exact a
theorem qk {p A B:Prop} [Decidable p] (h:p) (b:B):if (!decide p)=true then A else B:=by rw [if_neg (by rw [decide_eq_true h];exact Bool.false_ne_true)];exact b
theorem EE {A B:Prop} (h:B):if (!true)=true then A else B:=lY h
-- sizes of things,text
theorem Ey {W:Option Int→Hp→Prop} {j:Int} (h:W (some j) H):Prt (.int j) H W:=⟨j,rfl,h⟩
end
theorem lk_hit {f:Str} {v:V} {r:List (Str×V)}:List.lookup f ((f,v)::r)=some v:=by simp
theorem lk_miss {f g:Str} {v:V} {r:List (Str×V)} (h:(f == g)=false):List.lookup f ((g,v)::r)=List.lookup f r:=by simp only [List.lookup_cons,h]
section
variable {K:PySem.W.Frag} {P:Addr→Prop} {H0 H H':Hp} {l l':List (Addr×Ob)} {fs:List Pr} {p:Addr} {a b:Ob} {o:HO} {Q:VK} {xs:List V} {v:V} {i:Int}
-- what the ledger knows
theorem Hg (L:Led P H0 H l fs) (hz:xs.length≤sizeLine) (h:∀ p H',H p=none→Led P H0 H' l (aO p xs::fs)→aM H H'→Q (.ref p) H'):Kw xs H Q:=
  ⟨hz,fun p hp=>h p _ hp (L.Jo hp) (cU hp)⟩
theorem Hh (L:Led P H0 H l fs) (hz:xs.length≤sizeLine) (h:∀ p H',H p=none→Led P H0 H' ((p,Eo (.lst xs))::l) fs→aM H H'→Q (.ref p) H'):Kx xs H Q:=
  ⟨hz,fun p hp=>h p _ hp (L.nj hp rfl) (cU hp)⟩
theorem g5 (L:Led P H0 H l fs) (m:Put p (Eo (.lst xs)) (Eo (.lst xs)) l l') (e:atI xs i=some v) (h:Q v H):Dn K (.ref p) (.int i) H Q:=⟨p,xs,i,v,rfl,rfl,SqL.of (L.eo m),e,h⟩
theorem JO (L:Led P H0 H l fs) (m:aO p xs∈fs) (e:atI xs i=some v) (h:Q v H):Dm K (.ref p) (.int i) H Q:=⟨p,xs,i,v,rfl,rfl,SqT.of (L.tup m),e,h⟩
theorem g4 (hs:SqL K H p xs) (e:atI xs i=some v) (h:Q v H):Dn K (.ref p) (.int i) H Q:=⟨p,xs,i,v,rfl,rfl,hs,e,h⟩
theorem jD (L:Led P H0 H l fs) (m:Put p (Eo (.lst xs)) (Eo (.lst (xs++[v]))) l l') (hz:xs.length < sizeLine) (h:∀ H',Led P H0 H' l' fs→Chg p H H'→Q .non H'):wL (.ref p) [v] H Q:=by
  obtain ⟨o,ho,hp⟩:=L.at_ _ m.mem
  have hp':o = .lst xs:=hp
  subst hp'
  have c:Chg p H (upd H p (.lst (xs++[v]))):=Chg.upd ho fun _ z=>by cases z
  exact ⟨p,xs,v,rfl,rfl,ho,hz,h _ (L.set m c ⟨_,aB,rfl⟩) c⟩
theorem xg {R:Prop} (hs:SqL K H p xs) (h:R):tyV K "list" (.ref p) H∧R:=⟨.inl ⟨rfl,_,hs⟩,h⟩
theorem Hv {n:Nat} {t:TGs} {σ : St} {R:St→Hp→Prop} (L:Led P H0 H l fs) (m:aO p xs∈fs) (e:xs.length=n) (h:t xs σ H R):J2 K n t (.ref p) σ H R:=⟨p,xs,rfl,SqT.of (L.tup m),e,h⟩
theorem EF {t:TG} {u:TGs} {σ : St} {R:St→Hp→Prop} (h:t v σ H fun σ' H'=>u xs σ' H' R):F3 t u (v::xs) σ H R:=⟨v,xs,rfl,h⟩
theorem Hw {σ : St} {R:St→Hp→Prop} (h:R σ H):Kc [] σ H R:=⟨rfl,h⟩
end
def IC (J:It) (g:TG) (tb:TS) (D:Ends) (σ : St) (H:Hp):Prop:=∃ W:Nat→Nat→St→Hp→Prop,(∃ m,W 0 m σ H)∧∀ i m σ H,W i m σ H →
  (J.stop i H∧D.nx σ H)∨(J.go i H∧∃ N:St→Hp→Prop,(∀ σ' H',N σ' H'→∃ m',m' < m∧W (i+1) m' σ' H')∧∀ x H',J.yld i H x H'→g x σ H' fun σ2 H2=>tb { D with nx:=N,ct:=N,bk:=D.nx } σ2 H2)
def Ks (vs:List V) (H:Hp) (R:It→Hp→Prop):Prop:=∃ j:Int,vs=[.int j]∧-(2 ^ 62)≤j∧j < 2 ^ 62∧R (Itr 0 j.toNat) H
def Kr (vs:List V) (H:Hp) (R:It→Hp→Prop):Prop:=∃ i j:Int,vs=[.int i,.int j]∧(-(2 ^ 62)≤i∧i < 2 ^ 62∧-(2 ^ 62)≤j∧j < 2 ^ 62)∧R (Itr i (j - i).toNat) H
def WkL (K:PySem.W.Frag) (x:V) (H:Hp) (R:It→Hp→Prop):Prop:=∃ a,x = .ref a∧(∃ xs,SqL K H a xs)∧R (Itl K a) H
def Cq (J:It) (Q:VK) (σb:St) (g:TG) (tc:TT) (te:TE) (H:Hp):Prop:=∃ W:Nat→Nat→List V→Hp→Prop,(∃ m,W 0 m [] H)∧um J W (fun ys H=>∀ p,H p=none→Q (.ref p) (upd H p (.lst ys))) σb g tc te
section
variable {K:PySem.W.Frag} {σ : St} {H:Hp} {Q:VK} {D:Ends} {wi:TI} {g:TG} {tb:TS} {ta:TE} {tl:TA} {R:It→Hp→Prop} {tc:TT} {te:TE}
theorem JT (h:wi σ H fun J H1=>IC J g tb D σ H1):IP wi g tb D σ H:=h
theorem G5 (h:tl σ H fun vs H1=>Ks vs H1 R):FW tl σ H R:=h
theorem G4 (h:tl σ H fun vs H1=>Kr vs H1 R):FU tl σ H R:=h
theorem Jy (h:ta σ H fun x H1=>WkL K x H1 R):FY K ta σ H R:=h
theorem Eu {j:Int} (b : -(2 ^ 62)≤j∧j < 2 ^ 62) (h:R (Itr 0 j.toNat) H):Ks [.int j] H R:=⟨j,rfl,b.1,b.2,h⟩
theorem Et {i j:Int} (b:(-(2 ^ 62)≤i∧i < 2 ^ 62)∧-(2 ^ 62)≤j∧j < 2 ^ 62) (h:R (Itr i (j - i).toNat) H):Kr [.int i,.int j] H R:=⟨i,j,rfl,⟨b.1.1,b.1.2,b.2.1,b.2.2⟩,h⟩
theorem gZ {a:Addr} {xs:List V} (s:SqL K H a xs) (h:R (Itl K a) H):WkL K (.ref a) H R:=⟨a,rfl,⟨xs,s⟩,h⟩
theorem vh {lo:Int} {n:Nat} (Pv:Nat→St→Hp→Prop) (h0:Pv 0 σ H) (hs:∀ i σ H,i < n→Pv i σ H→g (.int (lo+i)) σ H fun σ2 H2=>tb { D with nx:=Pv (i+1),ct:=Pv (i+1),bk:=D.nx } σ2 H2)
    (hd:∀ σ H,Pv n σ H→D.nx σ H):IC (Itr lo n) g tb D σ H:=zb Pv h0 hs hd
theorem BC {a:Addr} (xs:List V) (Pv:Nat→St→Hp→Prop) (h0:Pv 0 σ H) (hl:∀ i σ H,i≤xs.length→Pv i σ H→SqL K H a xs) (hs:∀ i x σ H,xs[i]?=some x→Pv i σ H→g x σ H fun σ2 H2=>tb { D with nx:=Pv (i+1),ct:=Pv (i+1),bk:=D.nx } σ2 H2)
    (hd:∀ σ H,Pv xs.length σ H→D.nx σ H):IC (Itl K a) g tb D σ H:=BE (xs:=xs) Pv h0 hl hs hd
theorem HE {own:Nat} {cap:List Nat} (h:wi σ H fun J H1=>Cq J Q (vI own cap σ) g tc te H1):wo wi own cap g tc te σ H Q:=h
theorem EG {i own:Nat} {cap:List Nat} (h:wo wi own cap g tc te σ H fun v H1=>D.nx (σ.set i (some v)) H1):zT i wi own cap g tc te D σ H:=h
theorem f7 {a:Addr} (xs:List V) {σb:St} (Pv:Nat→List V→Hp→Prop) (h0:Pv 0 [] H) (hl:∀ i ys H,i≤xs.length→Pv i ys H→SqL K H a xs∧ys.length≤sizeLine)
    (hs:∀ i x ys H,xs[i]?=some x→Pv i ys H→g x σb H fun σ2 H2=>tc σ2 H2 fun b H3=>if b=true then te σ2 H3 fun y H4=>Pv (i+1) (ys++[y]) H4 else Pv (i+1) ys H3) (hd:∀ ys H,Pv xs.length ys H→∀ p,H p=none→Q (.ref p) (upd H p (.lst ys))) :
    Cq (Itl K a) Q σb g tc te H:=zf (xs:=xs) Pv h0 hl hs hd
theorem EH {lo:Int} {n:Nat} {σb:St} (Pv:Nat→List V→Hp→Prop) (h0:Pv 0 [] H) (hl:∀ i ys H,i≤n→Pv i ys H→ys.length≤sizeLine)
    (hs:∀ i ys H,i < n→Pv i ys H→g (.int (lo+i)) σb H fun σ2 H2=>tc σ2 H2 fun b H3=>if b=true then te σ2 H3 fun y H4=>Pv (i+1) (ys++[y]) H4 else Pv (i+1) ys H3) (hd:∀ ys H,Pv n ys H→∀ p,H p=none→Q (.ref p) (upd H p (.lst ys))) :
    Cq (Itr lo n) Q σb g tc te H:=vA Pv h0 hl hs hd
theorem G1 {B:Bool→Hp→Prop} (h:B true H):IU σ H B:=h
-- builtins
theorem JM {a b:Int} (h:Q (.int (max a b)) H):Jd [V.int a,V.int b] H Q:=⟨a,b,rfl,by
  have e:(if b > a then b else a)=max a b:=by omega
  rw [e];exact h⟩
theorem JK {a b:Int} (h:Q (.int (min a b)) H):Jc [V.int a,V.int b] H Q:=⟨a,b,rfl,by
  have e:(if b < a then b else a)=min a b:=by omega
  rw [e];exact h⟩
theorem iM {a:Addr} {ys:List V} (s:SqL K H a ys) (h:Q (.int ys.length) H):Gq K [V.ref a] H Q:=⟨a,ys,rfl,.inl s,h⟩
theorem EC {a:Addr} {ys:List V} (s:SqT K H a ys) (h:Q (.int ys.length) H):Gq K [V.ref a] H Q:=⟨a,ys,rfl,.inr s,h⟩
theorem Led.seq {P:Addr→Prop} {H0:Hp} {l:List (Addr×Ob)} {fs:List Pr} {a:Addr} {xs:List V} (L:Led P H0 H l fs) (s:SqL K H0 a xs) (n:¬ P a):SqL K H a xs:=by
  rcases s with (s | ⟨o,s⟩) | s
  · exact .inl (.inl (L.fr _ _ s n))
  · exact .inl (.inr ⟨o,L.fr _ _ s n⟩)
  · exact .inr s
end
inductive Dt where
  | non | bl (b:Bool) | int (i:Int) | str (x:Str) | tup (ds:List Dt) | lst (ds:List Dt)
mutual
def eqD:Dt→Dt→Bool
  | .non,.non=>true
  | .bl a,.bl b=>a == b
  | .bl a,.int b=>(if a then 1 else 0) == b
  | .int a,.bl b=>a == (if b then 1 else 0)
  | .int a,.int b=>a == b
  | .str a,.str b=>a == b
  | .tup a,.tup b=>j9 a b
  | .lst a,.lst b=>j9 a b
  | _,_=>false
def j9:List Dt→List Dt→Bool
  | [],[]=>true
  | x::xs,y::ys=>eqD x y && j9 xs ys
  | _,_=>false
end
mutual
def dep:Dt→Nat
  | .tup ds=>deps ds+1
  | .lst ds=>deps ds+1
  | _=>0
def deps:List Dt→Nat
  | []=>0
  | d::ds=>max (dep d) (deps ds)
end
theorem gb:∀ {ds:List Dt} {d:Dt},d∈ds→dep d≤deps ds
  | [],_,h=>by simp at h
  | x::ds,d,h=>by
    rw [deps]
    rcases List.mem_cons.mp h with rfl | h
    · exact Nat.le_max_left _ _
    · exact Nat.le_trans (gb h) (Nat.le_max_right _ _)
mutual
theorem ie:∀ d:Dt,eqD d d=true
  | .non=>by rw [eqD]
  | .bl b=>by rw [eqD];exact beq_self_eq_true b
  | .int i=>by rw [eqD];exact beq_self_eq_true i
  | .str x=>by rw [eqD];exact beq_self_eq_true x
  | .tup ds=>by rw [eqD];exact j7 ds
  | .lst ds=>by rw [eqD];exact j7 ds
theorem j7:∀ ds:List Dt,j9 ds ds=true
  | []=>by rw [j9]
  | d::ds=>by rw [j9,ie d,j7 ds];rfl
end
theorem dO:∀ (ds es:List Dt),((List.range (min ds.length es.length)).all (fun j=>eqD (ds.getD j .non) (es.getD j .non)) && ds.length == es.length)=j9 ds es
  | [],[]=>by rw [j9];rfl
  | [],_::_=>by simp [j9]
  | _::_,[]=>by simp [j9]
  | d::ds,e::es=>by
    have ih:=dO ds es
    rw [j9,← ih]
    have h1:min (d::ds).length (e::es).length=min ds.length es.length+1:=by simp only [List.length_cons];omega
    rw [h1,List.range_succ_eq_map,List.all_cons,List.all_map]
    have h2:((d::ds).length == (e::es).length)=(ds.length == es.length):=by
      rw [Bool.eq_iff_iff];simp
    rw [h2,Bool.and_assoc]
    rfl
theorem j8:∀ {ds es:List Dt},ds.length≠es.length→j9 ds es=false:=fun {ds es} h=>by
  rw [← dO,show (ds.length == es.length)=false from by simpa using h,Bool.and_false]
mutual
inductive At (K:PySem.W.Frag) (H:Hp):V→Dt→Prop
  | non:At K H .non .non
  | bl (b:Bool):At K H (.bl b) (.bl b)
  | int (i:Int):At K H (.int i) (.int i)
  | str (x:Str):At K H (.str x) (.str x)
  | tup {a:Addr} {xs:List V} {ds:List Dt} (h:SqT K H a xs) (r:Ats K H xs ds):At K H (.ref a) (.tup ds)
  | lst {a:Addr} {xs:List V} {ds:List Dt} (h:SqL K H a xs) (r:Ats K H xs ds):At K H (.ref a) (.lst ds)
inductive Ats (K:PySem.W.Frag) (H:Hp):List V→List Dt→Prop
  | nil:Ats K H [] []
  | cons {x:V} {d:Dt} {xs:List V} {ds:List Dt} (h:At K H x d) (r:Ats K H xs ds):Ats K H (x::xs) (d::ds)
end
theorem Ats.len {K:PySem.W.Frag} {H:Hp}:∀ {xs:List V} {ds:List Dt},Ats K H xs ds→xs.length=ds.length
  | _,_,.nil=>rfl
  | _,_,.cons _ r=>by rw [List.length_cons,List.length_cons,r.len]
theorem Ats.get {K:PySem.W.Frag} {H:Hp}:∀ {xs:List V} {ds:List Dt} {j:Nat} {x:V},Ats K H xs ds→xs[j]?=some x→∃ d,ds[j]?=some d∧At K H x d
  | _,_,_,_,.nil,e=>by simp at e
  | _,_,0,_,.cons h _,e=>by simp at e;subst e;exact ⟨_,rfl,h⟩
  | _,_,j+1,x,.cons _ r,e=>by
    obtain ⟨d,h1,h2⟩:=Ats.get (j:=j) (x:=x) r (by simpa using e)
    exact ⟨d,by simpa using h1,h2⟩
section
variable {X:Cx} {pins:List (Addr×Obj)} {σ : St} {H:Hp} {s:Shared}
mutual
theorem At.inj (I:Inv X pins σ H s) {x:V}:∀ {d e:Dt},At X.K H x d→At X.K H x e→d=e
  | _,_,.non,h=>by cases h;rfl
  | _,_,.bl _,h=>by cases h;rfl
  | _,_,.int _,h=>by cases h;rfl
  | _,_,.str _,h=>by cases h;rfl
  | _,_,.tup h r,g=>by
    cases g with
    | tup h' r'=>
      have e:=I.nN h h'
      subst e
      rw [Ats.inj I r r']
    | lst h' r'=>
      obtain ⟨_,_,⟨o,e,c,_⟩,_⟩:=I.tuple h
      obtain ⟨_,_,⟨o',n',e',c',_⟩,_⟩:=I.list h'
      rw [e] at e';cases e'
      rw [c] at c';injection c' with z;exact absurd z (by decide)
  | _,_,.lst h r,g=>by
    cases g with
    | lst h' r'=>
      have e:=I.lP h h'
      subst e
      rw [Ats.inj I r r']
    | tup h' r'=>
      obtain ⟨_,_,⟨o,e,c,_⟩,_⟩:=I.tuple h'
      obtain ⟨_,_,⟨o',n',e',c',_⟩,_⟩:=I.list h
      rw [e] at e';cases e'
      rw [c] at c';injection c' with z;exact absurd z (by decide)
theorem Ats.inj (I:Inv X pins σ H s) {xs:List V}:∀ {ds es:List Dt},Ats X.K H xs ds→Ats X.K H xs es→ds=es
  | _,_,.nil,h=>by cases h;rfl
  | _,_,.cons h r,g=>by
    cases g with
    | cons h' r'=>rw [At.inj I h h',Ats.inj I r r']
end
end
theorem KG {A:Around} {s:Shared} {y x:V} {u v:Value} (ry:RelV y u) (rx:RelV x v) (fy:cG y=true) (fx:cG x=true):SeqAt.RcAt A s u v (eqV y x):=by
  cases y with
  | non=>
    cases ry
    cases x with
    | non=>cases rx;exact SeqAt.RcAt.none_none
    | bl b=>cases rx;exact SeqAt.RcAt.none_bool b
    | int b=>obtain ⟨t,rfl⟩:=rx;exact SeqAt.RcAt.none_int b t
    | str b=>obtain ⟨t,rfl⟩:=rx;exact SeqAt.RcAt.none_str b t
    | _=>exact absurd (show false=true from fx) Bool.false_ne_true
  | bl a=>
    cases ry
    cases x with
    | non=>cases rx;exact SeqAt.RcAt.bool_none a
    | bl b=>cases rx;exact SeqAt.RcAt.bool_bool a b
    | int b=>obtain ⟨t,rfl⟩:=rx;exact SeqAt.RcAt.bool_int a b t
    | str b=>obtain ⟨t,rfl⟩:=rx;exact SeqAt.RcAt.bool_str a b t
    | _=>exact absurd (show false=true from fx) Bool.false_ne_true
  | int a=>
    obtain ⟨t',rfl⟩:=ry
    cases x with
    | non=>cases rx;exact SeqAt.RcAt.int_none a t'
    | bl b=>cases rx;exact SeqAt.RcAt.int_bool a t' b
    | int b=>obtain ⟨t,rfl⟩:=rx;exact SeqAt.RcAt.int_int a t' b t
    | str b=>obtain ⟨t,rfl⟩:=rx;exact SeqAt.RcAt.int_str a t' b t
    | _=>exact absurd (show false=true from fx) Bool.false_ne_true
  | str a=>
    obtain ⟨t',rfl⟩:=ry
    cases x with
    | non=>cases rx;exact SeqAt.RcAt.str_none a t'
    | bl b=>cases rx;exact SeqAt.RcAt.str_bool a t' b
    | int b=>obtain ⟨t,rfl⟩:=rx;exact SeqAt.RcAt.str_int a t' b t
    | str b=>obtain ⟨t,rfl⟩:=rx;exact SeqAt.RcAt.str_str a t' b t
    | _=>exact absurd (show false=true from fx) Bool.false_ne_true
  | _=>exact absurd (show false=true from fy) Bool.false_ne_true
theorem Gn {A:Around} {s:Shared} {y x:V} {u v:Value} (ry:RelV y u) (rx:RelV x v) (fy:cG y=true) (fx:cG x=true):SeqAt.RcNeAt A s u v (!eqV y x):=by
  cases y with
  | non=>
    cases ry
    cases x with
    | non=>cases rx;exact SeqAt.RcNeAt.none_none
    | bl b=>cases rx;exact SeqAt.RcNeAt.none_bool b
    | int b=>obtain ⟨t,rfl⟩:=rx;exact SeqAt.RcNeAt.none_int b t
    | str b=>obtain ⟨t,rfl⟩:=rx;exact SeqAt.RcNeAt.none_str b t
    | _=>exact absurd (show false=true from fx) Bool.false_ne_true
  | bl a=>
    cases ry
    cases x with
    | non=>cases rx;exact SeqAt.RcNeAt.bool_none a
    | bl b=>cases rx;exact SeqAt.RcNeAt.bool_bool a b
    | int b=>obtain ⟨t,rfl⟩:=rx;exact SeqAt.RcNeAt.bool_int a b t
    | str b=>obtain ⟨t,rfl⟩:=rx;exact SeqAt.RcNeAt.bool_str a b t
    | _=>exact absurd (show false=true from fx) Bool.false_ne_true
  | int a=>
    obtain ⟨t',rfl⟩:=ry
    cases x with
    | non=>cases rx;exact SeqAt.RcNeAt.int_none a t'
    | bl b=>cases rx;exact SeqAt.RcNeAt.int_bool a t' b
    | int b=>obtain ⟨t,rfl⟩:=rx;exact SeqAt.RcNeAt.int_int a t' b t
    | str b=>obtain ⟨t,rfl⟩:=rx;exact SeqAt.RcNeAt.int_str a t' b t
    | _=>exact absurd (show false=true from fx) Bool.false_ne_true
  | str a=>
    obtain ⟨t',rfl⟩:=ry
    cases x with
    | non=>cases rx;exact SeqAt.RcNeAt.str_none a t'
    | bl b=>cases rx;exact SeqAt.RcNeAt.str_bool a t' b
    | int b=>obtain ⟨t,rfl⟩:=rx;exact SeqAt.RcNeAt.str_int a t' b t
    | str b=>obtain ⟨t,rfl⟩:=rx;exact SeqAt.RcNeAt.str_str a t' b t
    | _=>exact absurd (show false=true from fx) Bool.false_ne_true
  | _=>exact absurd (show false=true from fy) Bool.false_ne_true
theorem iX {A:Around} {s:Shared} {x:V} {u:Value} {a:Addr} {its:Array Value} (rx:RelV x u) (fx:cG x=true) (h:s.heap.IsTuple a its) (hu:A.units < cLine):SeqAt.EqAt A s u (.ref a) false:=by
  cases x with
  | non=>cases rx;exact SeqAt.EqAt.none_tuple h hu
  | bl b=>cases rx;exact SeqAt.EqAt.bool_tuple b h hu
  | int b=>obtain ⟨t,rfl⟩:=rx;exact SeqAt.EqAt.int_tuple b t h hu
  | str b=>obtain ⟨t,rfl⟩:=rx;exact SeqAt.EqAt.str_tuple b t h hu
  | _=>exact absurd (show false=true from fx) Bool.false_ne_true
theorem nv {A:Around} {s:Shared} {x:V} {u:Value} {a:Addr} {its:Array Value} (rx:RelV x u) (fx:cG x=true) (h:s.heap.IsTuple a its) (hu:A.units < cLine):SeqAt.EqAt A s (.ref a) u false:=by
  cases x with
  | non=>cases rx;exact SeqAt.EqAt.tuple_none h hu
  | bl b=>cases rx;exact SeqAt.EqAt.tuple_bool b h hu
  | int b=>obtain ⟨t,rfl⟩:=rx;exact SeqAt.EqAt.tuple_int b t h hu
  | str b=>obtain ⟨t,rfl⟩:=rx;exact SeqAt.EqAt.tuple_str b t h hu
  | _=>exact absurd (show false=true from fx) Bool.false_ne_true
theorem jI {A:Around} {s:Shared} {x:V} {u:Value} {a:Addr} {its:Array Value} (rx:RelV x u) (fx:cG x=true) (h:s.heap.IsList a its) (hu:A.units < cLine):SeqAt.EqAt A s u (.ref a) false:=by
  cases x with
  | non=>cases rx;exact SeqAt.EqAt.none_list h hu
  | bl b=>cases rx;exact SeqAt.EqAt.bool_list b h hu
  | int b=>obtain ⟨t,rfl⟩:=rx;exact SeqAt.EqAt.int_list b t h hu
  | str b=>obtain ⟨t,rfl⟩:=rx;exact SeqAt.EqAt.str_list b t h hu
  | _=>exact absurd (show false=true from fx) Bool.false_ne_true
theorem qA {A:Around} {s:Shared} {x:V} {u:Value} {a:Addr} {its:Array Value} (rx:RelV x u) (fx:cG x=true) (h:s.heap.IsList a its) (hu:A.units < cLine):SeqAt.EqAt A s (.ref a) u false:=by
  cases x with
  | non=>cases rx;exact SeqAt.EqAt.list_none h hu
  | bl b=>cases rx;exact SeqAt.EqAt.list_bool b h hu
  | int b=>obtain ⟨t,rfl⟩:=rx;exact SeqAt.EqAt.list_int b t h hu
  | str b=>obtain ⟨t,rfl⟩:=rx;exact SeqAt.EqAt.list_str b t h hu
  | _=>exact absurd (show false=true from fx) Bool.false_ne_true
theorem m9 {A:Around} {s:Shared} {x:V} {u:Value} {a:Addr} {its:Array Value} (rx:RelV x u) (fx:cG x=true) (h:s.heap.IsTuple a its) (hu:A.units < cLine):SeqAt.RcAt A s u (.ref a) false:=by
  cases x with
  | non=>cases rx;exact SeqAt.RcAt.none_tuple h hu
  | bl b=>cases rx;exact SeqAt.RcAt.bool_tuple b h hu
  | int b=>obtain ⟨t,rfl⟩:=rx;exact SeqAt.RcAt.int_tuple b t h hu
  | str b=>obtain ⟨t,rfl⟩:=rx;exact SeqAt.RcAt.str_tuple b t h hu
  | _=>exact absurd (show false=true from fx) Bool.false_ne_true
theorem m8 {A:Around} {s:Shared} {x:V} {u:Value} {a:Addr} {its:Array Value} (rx:RelV x u) (fx:cG x=true) (h:s.heap.IsTuple a its) (hu:A.units < cLine):SeqAt.RcAt A s (.ref a) u false:=by
  cases x with
  | non=>cases rx;exact SeqAt.RcAt.tuple_none h hu
  | bl b=>cases rx;exact SeqAt.RcAt.tuple_bool b h hu
  | int b=>obtain ⟨t,rfl⟩:=rx;exact SeqAt.RcAt.tuple_int b t h hu
  | str b=>obtain ⟨t,rfl⟩:=rx;exact SeqAt.RcAt.tuple_str b t h hu
  | _=>exact absurd (show false=true from fx) Bool.false_ne_true
theorem pU {A:Around} {s:Shared} {x:V} {u:Value} {a:Addr} {its:Array Value} (rx:RelV x u) (fx:cG x=true) (h:s.heap.IsList a its) (hu:A.units < cLine):SeqAt.RcAt A s u (.ref a) false:=by
  cases x with
  | non=>cases rx;exact SeqAt.RcAt.none_list h hu
  | bl b=>cases rx;exact SeqAt.RcAt.bool_list b h hu
  | int b=>obtain ⟨t,rfl⟩:=rx;exact SeqAt.RcAt.int_list b t h hu
  | str b=>obtain ⟨t,rfl⟩:=rx;exact SeqAt.RcAt.str_list b t h hu
  | _=>exact absurd (show false=true from fx) Bool.false_ne_true
theorem pT {A:Around} {s:Shared} {x:V} {u:Value} {a:Addr} {its:Array Value} (rx:RelV x u) (fx:cG x=true) (h:s.heap.IsList a its) (hu:A.units < cLine):SeqAt.RcAt A s (.ref a) u false:=by
  cases x with
  | non=>cases rx;exact SeqAt.RcAt.list_none h hu
  | bl b=>cases rx;exact SeqAt.RcAt.list_bool b h hu
  | int b=>obtain ⟨t,rfl⟩:=rx;exact SeqAt.RcAt.list_int b t h hu
  | str b=>obtain ⟨t,rfl⟩:=rx;exact SeqAt.RcAt.list_str b t h hu
  | _=>exact absurd (show false=true from fx) Bool.false_ne_true
theorem m7 {A:Around} {s:Shared} {x:V} {u:Value} {a:Addr} {its:Array Value} (rx:RelV x u) (fx:cG x=true) (h:s.heap.IsTuple a its) (hu:A.units < cLine):SeqAt.RcNeAt A s u (.ref a) true:=by
  cases x with
  | non=>cases rx;exact SeqAt.RcNeAt.none_tuple h hu
  | bl b=>cases rx;exact SeqAt.RcNeAt.bool_tuple b h hu
  | int b=>obtain ⟨t,rfl⟩:=rx;exact SeqAt.RcNeAt.int_tuple b t h hu
  | str b=>obtain ⟨t,rfl⟩:=rx;exact SeqAt.RcNeAt.str_tuple b t h hu
  | _=>exact absurd (show false=true from fx) Bool.false_ne_true
theorem mZ {A:Around} {s:Shared} {x:V} {u:Value} {a:Addr} {its:Array Value} (rx:RelV x u) (fx:cG x=true) (h:s.heap.IsTuple a its) (hu:A.units < cLine):SeqAt.RcNeAt A s (.ref a) u true:=by
  cases x with
  | non=>cases rx;exact SeqAt.RcNeAt.tuple_none h hu
  | bl b=>cases rx;exact SeqAt.RcNeAt.tuple_bool b h hu
  | int b=>obtain ⟨t,rfl⟩:=rx;exact SeqAt.RcNeAt.tuple_int b t h hu
  | str b=>obtain ⟨t,rfl⟩:=rx;exact SeqAt.RcNeAt.tuple_str b t h hu
  | _=>exact absurd (show false=true from fx) Bool.false_ne_true
theorem pS {A:Around} {s:Shared} {x:V} {u:Value} {a:Addr} {its:Array Value} (rx:RelV x u) (fx:cG x=true) (h:s.heap.IsList a its) (hu:A.units < cLine):SeqAt.RcNeAt A s u (.ref a) true:=by
  cases x with
  | non=>cases rx;exact SeqAt.RcNeAt.none_list h hu
  | bl b=>cases rx;exact SeqAt.RcNeAt.bool_list b h hu
  | int b=>obtain ⟨t,rfl⟩:=rx;exact SeqAt.RcNeAt.int_list b t h hu
  | str b=>obtain ⟨t,rfl⟩:=rx;exact SeqAt.RcNeAt.str_list b t h hu
  | _=>exact absurd (show false=true from fx) Bool.false_ne_true
theorem pR {A:Around} {s:Shared} {x:V} {u:Value} {a:Addr} {its:Array Value} (rx:RelV x u) (fx:cG x=true) (h:s.heap.IsList a its) (hu:A.units < cLine):SeqAt.RcNeAt A s (.ref a) u true:=by
  cases x with
  | non=>cases rx;exact SeqAt.RcNeAt.list_none h hu
  | bl b=>cases rx;exact SeqAt.RcNeAt.list_bool b h hu
  | int b=>obtain ⟨t,rfl⟩:=rx;exact SeqAt.RcNeAt.list_int b t h hu
  | str b=>obtain ⟨t,rfl⟩:=rx;exact SeqAt.RcNeAt.list_str b t h hu
  | _=>exact absurd (show false=true from fx) Bool.false_ne_true
inductive Top (K:PySem.W.Frag) (H:Hp) (x:V) (d:Dt):Prop
  | flat (f:cG x=true) (h:∀ y e,At K H y e→cG y=true→eqV x y=eqD d e) (h1:∀ es,eqD d (.tup es)=false∧eqD (.tup es) d=false∧eqD d (.lst es)=false∧eqD (.lst es) d=false)
  | tup (a:Addr) (xs:List V) (ds:List Dt) (e1:x = .ref a) (e2:d = .tup ds) (h:SqT K H a xs) (r:Ats K H xs ds)
  | lst (a:Addr) (xs:List V) (ds:List Dt) (e1:x = .ref a) (e2:d = .lst ds) (h:SqL K H a xs) (r:Ats K H xs ds)
theorem At.top {K:PySem.W.Frag} {H:Hp} {x:V} {d:Dt} (h:At K H x d):Top K H x d:=by
  cases h with
  | tup h r=>exact .tup _ _ _ rfl rfl h r
  | lst h r=>exact .lst _ _ _ rfl rfl h r
  | _=>exact .flat rfl (fun y e g f=>by cases g <;> first | (exact absurd f Bool.false_ne_true) | (simp only [eqV,eqD])) (fun es=>by simp [eqD])
theorem fH {X:Cx} {H:Hp} {xs ys:List V} {ds es:List Dt} {us vs:List Value} {C:Value→Value→Bool→Prop} (h:∀ x y d e u v,d∈ds→At X.K H x d→At X.K H y e→RelV x u→RelV y v→C u v (eqD d e))
    (r:Ats X.K H xs ds) (r':Ats X.K H ys es) (rv:Vals xs us) (rv':Vals ys vs):∀ j (h1:j < us.toArray.size) (h2:j < vs.toArray.size),C us.toArray[j] vs.toArray[j] (eqD (ds.getD j .non) (es.getD j .non)):=fun j h1 h2=>by
  have l1:j < xs.length:=by rw [rv.length];simpa using h1
  have l2:j < ys.length:=by rw [rv'.length];simpa using h2
  obtain ⟨u,e1,q1⟩:=rv.get (List.getElem?_eq_getElem l1)
  obtain ⟨v,e2,q2⟩:=rv'.get (List.getElem?_eq_getElem l2)
  obtain ⟨d,e3,q3⟩:=r.get (List.getElem?_eq_getElem l1)
  obtain ⟨e,e4,q4⟩:=r'.get (List.getElem?_eq_getElem l2)
  have a1:us.toArray[j]=u:=by
    have:=List.getElem?_eq_some_iff.mp e1
    obtain ⟨_,z⟩:=this
    simpa using z
  have a2:vs.toArray[j]=v:=by
    obtain ⟨_,z⟩:=List.getElem?_eq_some_iff.mp e2
    simpa using z
  rw [a1,a2,List.getD_eq_getElem?_getD,List.getD_eq_getElem?_getD,e3,e4]
  exact h _ _ _ _ _ _ (List.mem_of_getElem? e3) q3 q4 q1 q2
theorem xj {X:Cx} {pins:List (Addr×Obj)} {σ : St} {H:Hp} {s:Shared} (I:Inv X pins σ H s):∀ (n:Nat) {x y:V} {d e:Dt} {u v:Value},dep d≤n→At X.K H x d→At X.K H y e→RelV x u→RelV y v→∀ A:Around,A.units+n < cLine→SeqAt.EqAt A s u v (eqD d e):=by
  intro n
  induction n with
  | zero=>
    intro x y d e u v hd hx hy rx ry A hA
    rcases hx.top with ⟨f,h,h1⟩ | ⟨a,xs,ds,rfl,rfl,h,r⟩ | ⟨a,xs,ds,rfl,rfl,h,r⟩
    · rcases hy.top with ⟨f',h',h1'⟩ | ⟨b,ys,es,rfl,rfl,h',r'⟩ | ⟨b,ys,es,rfl,rfl,h',r'⟩
      · rw [← h y e hy f'];exact vt rx ry f f'
      · obtain ⟨its,rv,ht,_⟩:=I.tuple h'
        cases ry;rw [(h1 es).1];exact iX rx f ht (by omega)
      · obtain ⟨its,rv,ht,_⟩:=I.list h'
        cases ry;rw [(h1 es).2.2.1];exact jI rx f ht.isList (by omega)
    · simp [dep] at hd
    · simp [dep] at hd
  | succ n ih=>
    intro x y d e u v hd hx hy rx ry A hA
    have hu:A.units < cLine:=by omega
    rcases hx.top with ⟨f,h,h1⟩ | ⟨a,xs,ds,rfl,rfl,h,r⟩ | ⟨a,xs,ds,rfl,rfl,h,r⟩
    · rcases hy.top with ⟨f',h',h1'⟩ | ⟨b,ys,es,rfl,rfl,h',r'⟩ | ⟨b,ys,es,rfl,rfl,h',r'⟩
      · rw [← h y e hy f'];exact vt rx ry f f'
      · obtain ⟨its,rv,ht,_⟩:=I.tuple h'
        cases ry;rw [(h1 es).1];exact iX rx f ht hu
      · obtain ⟨its,rv,ht,_⟩:=I.list h'
        cases ry;rw [(h1 es).2.2.1];exact jI rx f ht.isList hu
    · obtain ⟨its,rv,ht,_⟩:=I.tuple h
      cases rx
      rw [dep] at hd
      rcases hy.top with ⟨f',h',h1'⟩ | ⟨b,ys,es,rfl,rfl,h',r'⟩ | ⟨b,ys,es,rfl,rfl,h',r'⟩
      · rw [(h1' ds).2.1];exact nv ry f' ht hu
      · cases ry
        obtain ⟨its',rv',ht',_⟩:=I.tuple h'
        by_cases hab:a=b
        · subst hab
          have e:=I.nN h h'
          subst e
          rw [Ats.inj I r r',ie]
          exact SeqAt.EqAt.same _
        · have q:=SeqAt.RcAt.tuples (A:=A) (e:=fun j=>eqD (ds.getD j .non) (es.getD j .non)) ht ht' hu (fH (C:=fun u v k=>SeqAt.EqAt A.in1 s u v k) (fun x y d e u v hm hx hy rx ry=>ih (Nat.le_trans (gb hm) (by omega)) hx hy rx ry A.in1 (by show A.units+1+n < _;omega)) r r' rv rv')
          have l1:its.toArray.size=ds.length:=by rw [List.size_toArray,← rv.length,r.len]
          have l2:its'.toArray.size=es.length:=by rw [List.size_toArray,← rv'.length,r'.len]
          rw [l1,l2,dO] at q
          rw [eqD]
          exact SeqAt.EqAt.of_refs hab q
      · cases ry
        obtain ⟨its',rv',ht',_⟩:=I.list h'
        rw [show eqD (.tup ds) (.lst es)=false by simp [eqD]]
        exact SeqAt.EqAt.tuple_list ht ht'.isList hu
    · obtain ⟨its,rv,ht,_⟩:=I.list h
      cases rx
      rw [dep] at hd
      rcases hy.top with ⟨f',h',h1'⟩ | ⟨b,ys,es,rfl,rfl,h',r'⟩ | ⟨b,ys,es,rfl,rfl,h',r'⟩
      · rw [(h1' ds).2.2.2];exact qA ry f' ht.isList hu
      · cases ry
        obtain ⟨its',rv',ht',_⟩:=I.tuple h'
        rw [show eqD (.lst ds) (.tup es)=false by simp [eqD]]
        exact SeqAt.EqAt.list_tuple ht.isList ht' hu
      · cases ry
        obtain ⟨its',rv',ht',_⟩:=I.list h'
        by_cases hab:a=b
        · subst hab
          have e:=I.lP h h'
          subst e
          rw [Ats.inj I r r',ie]
          exact SeqAt.EqAt.same _
        · refine SeqAt.EqAt.of_refs hab ?_
          have l1:its.toArray.size=ds.length:=by rw [List.size_toArray,← rv.length,r.len]
          have l2:its'.toArray.size=es.length:=by rw [List.size_toArray,← rv'.length,r'.len]
          rw [eqD]
          by_cases hl:ds.length=es.length
          · have q:=SeqAt.RcAt.lists (A:=A) (e:=fun j=>eqD (ds.getD j .non) (es.getD j .non)) ht.isList ht'.isList (by rw [l1,l2,hl]) hu (fH (C:=fun u v k=>SeqAt.EqAt A.in1 s u v k) (fun x y d e u v hm hx hy rx ry=>ih (Nat.le_trans (gb hm) (by omega)) hx hy rx ry A.in1 (by show A.units+1+n < _;omega)) r r' rv rv')
            have z:=dO ds es
            rw [hl,Nat.min_self,beq_self_eq_true,Bool.and_true] at z
            rw [l1,hl,z] at q
            exact q
          · rw [j8 hl]
            exact SeqAt.RcAt.lists_lengths ht.isList ht'.isList (by rw [l1,l2];simpa using hl) hu
theorem I9 {X:Cx} {pins:List (Addr×Obj)} {σ : St} {H:Hp} {s:Shared} (I:Inv X pins σ H s) {n:Nat} {x y:V} {d e:Dt} {u v:Value} (hd:dep d≤n) (hx:At X.K H x d) (hy:At X.K H y e) (rx:RelV x u) (ry:RelV y v) (A:Around) (hA:A.units+1+n < cLine):SeqAt.RcAt A s u v (eqD d e):=by
  have hu:A.units < cLine:=by omega
  rcases hx.top with ⟨f,h,h1⟩ | ⟨a,xs,ds,rfl,rfl,h,r⟩ | ⟨a,xs,ds,rfl,rfl,h,r⟩
  · rcases hy.top with ⟨f',h',h1'⟩ | ⟨b,ys,es,rfl,rfl,h',r'⟩ | ⟨b,ys,es,rfl,rfl,h',r'⟩
    · rw [← h y e hy f'];exact KG rx ry f f'
    · obtain ⟨its,rv,ht,_⟩:=I.tuple h'
      cases ry;rw [(h1 es).1];exact m9 rx f ht hu
    · obtain ⟨its,rv,ht,_⟩:=I.list h'
      cases ry;rw [(h1 es).2.2.1];exact pU rx f ht.isList hu
  · obtain ⟨its,rv,ht,_⟩:=I.tuple h
    cases rx
    rw [dep] at hd
    rcases hy.top with ⟨f',h',h1'⟩ | ⟨b,ys,es,rfl,rfl,h',r'⟩ | ⟨b,ys,es,rfl,rfl,h',r'⟩
    · rw [(h1' ds).2.1];exact m8 ry f' ht hu
    · cases ry
      obtain ⟨its',rv',ht',_⟩:=I.tuple h'
      have q:=SeqAt.RcAt.tuples (A:=A) (e:=fun j=>eqD (ds.getD j .non) (es.getD j .non)) ht ht' hu (fH (C:=fun u v k=>SeqAt.EqAt A.in1 s u v k) (fun x y d e u v hm hx hy rx ry=>xj I n (Nat.le_trans (gb hm) (by omega)) hx hy rx ry A.in1 (by show A.units+1+n < _;omega)) r r' rv rv')
      have l1:its.toArray.size=ds.length:=by rw [List.size_toArray,← rv.length,r.len]
      have l2:its'.toArray.size=es.length:=by rw [List.size_toArray,← rv'.length,r'.len]
      rw [l1,l2,dO] at q
      rw [eqD]
      exact q
    · cases ry
      obtain ⟨its',rv',ht',_⟩:=I.list h'
      rw [show eqD (.tup ds) (.lst es)=false by simp [eqD]]
      exact SeqAt.RcAt.tuple_list ht ht'.isList hu
  · obtain ⟨its,rv,ht,_⟩:=I.list h
    cases rx
    rw [dep] at hd
    rcases hy.top with ⟨f',h',h1'⟩ | ⟨b,ys,es,rfl,rfl,h',r'⟩ | ⟨b,ys,es,rfl,rfl,h',r'⟩
    · rw [(h1' ds).2.2.2];exact pT ry f' ht.isList hu
    · cases ry
      obtain ⟨its',rv',ht',_⟩:=I.tuple h'
      rw [show eqD (.lst ds) (.tup es)=false by simp [eqD]]
      exact SeqAt.RcAt.list_tuple ht.isList ht' hu
    · cases ry
      obtain ⟨its',rv',ht',_⟩:=I.list h'
      have l1:its.toArray.size=ds.length:=by rw [List.size_toArray,← rv.length,r.len]
      have l2:its'.toArray.size=es.length:=by rw [List.size_toArray,← rv'.length,r'.len]
      rw [eqD]
      by_cases hl:ds.length=es.length
      · have q:=SeqAt.RcAt.lists (A:=A) (e:=fun j=>eqD (ds.getD j .non) (es.getD j .non)) ht.isList ht'.isList (by rw [l1,l2,hl]) hu (fH (C:=fun u v k=>SeqAt.EqAt A.in1 s u v k) (fun x y d e u v hm hx hy rx ry=>xj I n (Nat.le_trans (gb hm) (by omega)) hx hy rx ry A.in1 (by show A.units+1+n < _;omega)) r r' rv rv')
        have z:=dO ds es
        rw [hl,Nat.min_self,beq_self_eq_true,Bool.and_true] at z
        rw [l1,hl,z] at q
        exact q
      · rw [j8 hl]
        exact SeqAt.RcAt.lists_lengths ht.isList ht'.isList (by rw [l1,l2];simpa using hl) hu
theorem Dl {X:Cx} {pins:List (Addr×Obj)} {σ : St} {H:Hp} {s:Shared} (I:Inv X pins σ H s) {n:Nat} {x y:V} {d e:Dt} {u v:Value} (hd:dep d≤n) (hx:At X.K H x d) (hy:At X.K H y e) (rx:RelV x u) (ry:RelV y v) (A:Around) (hA:A.units+1+n < cLine):SeqAt.RcNeAt A s u v (!eqD d e):=by
  have hu:A.units < cLine:=by omega
  rcases hx.top with ⟨f,h,h1⟩ | ⟨a,xs,ds,rfl,rfl,h,r⟩ | ⟨a,xs,ds,rfl,rfl,h,r⟩
  · rcases hy.top with ⟨f',h',h1'⟩ | ⟨b,ys,es,rfl,rfl,h',r'⟩ | ⟨b,ys,es,rfl,rfl,h',r'⟩
    · rw [← h y e hy f'];exact Gn rx ry f f'
    · obtain ⟨its,rv,ht,_⟩:=I.tuple h'
      cases ry;rw [(h1 es).1];exact m7 rx f ht hu
    · obtain ⟨its,rv,ht,_⟩:=I.list h'
      cases ry;rw [(h1 es).2.2.1];exact pS rx f ht.isList hu
  · obtain ⟨its,rv,ht,_⟩:=I.tuple h
    cases rx
    rw [dep] at hd
    rcases hy.top with ⟨f',h',h1'⟩ | ⟨b,ys,es,rfl,rfl,h',r'⟩ | ⟨b,ys,es,rfl,rfl,h',r'⟩
    · rw [(h1' ds).2.1];exact mZ ry f' ht hu
    · cases ry
      obtain ⟨its',rv',ht',_⟩:=I.tuple h'
      have q:=SeqAt.RcNeAt.tuples (A:=A) (e:=fun j=>eqD (ds.getD j .non) (es.getD j .non)) ht ht' hu (fH (C:=fun u v k=>SeqAt.EqAt A.in1 s u v k) (fun x y d e u v hm hx hy rx ry=>xj I n (Nat.le_trans (gb hm) (by omega)) hx hy rx ry A.in1 (by show A.units+1+n < _;omega)) r r' rv rv')
      have l1:its.toArray.size=ds.length:=by rw [List.size_toArray,← rv.length,r.len]
      have l2:its'.toArray.size=es.length:=by rw [List.size_toArray,← rv'.length,r'.len]
      rw [l1,l2,dO] at q
      rw [eqD]
      exact q
    · cases ry
      obtain ⟨its',rv',ht',_⟩:=I.list h'
      rw [show eqD (.tup ds) (.lst es)=false by simp [eqD]]
      exact SeqAt.RcNeAt.tuple_list ht ht'.isList hu
  · obtain ⟨its,rv,ht,_⟩:=I.list h
    cases rx
    rw [dep] at hd
    rcases hy.top with ⟨f',h',h1'⟩ | ⟨b,ys,es,rfl,rfl,h',r'⟩ | ⟨b,ys,es,rfl,rfl,h',r'⟩
    · rw [(h1' ds).2.2.2];exact pR ry f' ht.isList hu
    · cases ry
      obtain ⟨its',rv',ht',_⟩:=I.tuple h'
      rw [show eqD (.lst ds) (.tup es)=false by simp [eqD]]
      exact SeqAt.RcNeAt.list_tuple ht.isList ht' hu
    · cases ry
      obtain ⟨its',rv',ht',_⟩:=I.list h'
      have l1:its.toArray.size=ds.length:=by rw [List.size_toArray,← rv.length,r.len]
      have l2:its'.toArray.size=es.length:=by rw [List.size_toArray,← rv'.length,r'.len]
      rw [eqD]
      by_cases hl:ds.length=es.length
      · have q:=SeqAt.RcNeAt.lists (A:=A) (e:=fun j=>eqD (ds.getD j .non) (es.getD j .non)) ht.isList ht'.isList (by rw [l1,l2,hl]) hu (fH (C:=fun u v k=>SeqAt.EqAt A.in1 s u v k) (fun x y d e u v hm hx hy rx ry=>xj I n (Nat.le_trans (gb hm) (by omega)) hx hy rx ry A.in1 (by show A.units+1+n < _;omega)) r r' rv rv')
        have z:=dO ds es
        rw [hl,Nat.min_self,beq_self_eq_true,Bool.and_true] at z
        rw [l1,hl,z] at q
        exact q
      · rw [j8 hl]
        exact SeqAt.RcNeAt.lists_lengths ht.isList ht'.isList (by rw [l1,l2];simpa using hl) hu
def Gs (K:PySem.W.Frag):R2:=fun x y H Q=>∃ d e,At K H x d∧At K H y e∧dep d≤100∧Q (.bl (eqD d e)) H
def Gp (K:PySem.W.Frag):R2:=fun x y H Q=>∃ d e,At K H x d∧At K H y e∧dep d≤100∧Q (.bl (!eqD d e)) H
theorem jX {X:Cx} (hr:bY 0 X.A):OpR X (compareOp .Eq) (Gs X.K):=by
  intro pins s σ H x y v u Q I rx ry h
  obtain ⟨d,e,hx,hy,hd,q⟩:=h
  exact I9 I hd hx hy rx ry X.A (by have:=hr.un;omega) _ _ _ _ ⟨.bl _,H,I,rfl,q⟩
theorem AO {X:Cx} (hr:bY 0 X.A):OpR X (compareOp .NotEq) (Gp X.K):=by
  intro pins s σ H x y v u Q I rx ry h
  obtain ⟨d,e,hx,hy,hd,q⟩:=h
  exact Dl I hd hx hy rx ry X.A (by have:=hr.un;omega) _ _ _ _ ⟨.bl _,H,I,rfl,q⟩
theorem ql {K:PySem.W.Frag} {x y:V} {H:Hp} {Q:VK} {d:Dt} (hx:At K H x d) (hy:At K H y d) (hd:dep d≤100) (h:Q (.bl true) H):Gs K x y H Q:=⟨d,d,hx,hy,hd,by rw [ie];exact h⟩
theorem Hi {K:PySem.W.Frag} {x y:V} {H:Hp} {Q:VK} {d:Dt} (hx:At K H x d) (hy:At K H y d) (hd:dep d≤100) (h:Q (.bl false) H):Gp K x y H Q:=⟨d,d,hx,hy,hd,by rw [ie];exact h⟩
theorem F2 {K:PySem.W.Frag} {x y:V} {H:Hp} {Q:VK} {d e:Dt} (hx:At K H x d) (hy:At K H y e) (hd:dep d≤100) (h:Q (.bl (eqD d e)) H):Gs K x y H Q:=⟨d,e,hx,hy,hd,h⟩
theorem JI {K:PySem.W.Frag} {x y:V} {H:Hp} {Q:VK} {d e:Dt} (hx:At K H x d) (hy:At K H y e) (hd:dep d≤100) (h:Q (.bl (!eqD d e)) H):Gp K x y H Q:=⟨d,e,hx,hy,hd,h⟩
theorem ints_of:∀ {ns:List Int} {us:List Value},Vals (ns.map V.int) us→IntsAre us ns
  | [],_,.nil=>.nil
  | n::ns,_,.cons r t=>by
    obtain ⟨tk,rfl⟩:=r
    exact .cons n tk (ints_of t)
theorem iE:∀ {ns:List Int} {us:List Value},IntsAre us ns→Vals (ns.map V.int) us
  | _,_,.nil=>.nil
  | _,_,.cons n t r=>.cons ⟨t,rfl⟩ (iE r)
theorem nM:∀ {ns:List Str} {us:List Value},StrsAre us ns→Vals (ns.map V.str) us
  | _,_,.nil=>.nil
  | _,_,.cons n t r=>.cons ⟨t,rfl⟩ (nM r)
def AE (K:PySem.W.Frag):RL:=fun xs H Q=>∃ (p:Addr) (ns:List Str),xs=[.ref p]∧SqL K H p (ns.map V.str)∧ns.length < 64∧∀ (l:Addr) (ms:List Str),H l=none→ms.Perm ns→sortedS ms=true→Q (.ref l) (upd H l (.lst (ms.map V.str)))
section
variable {X:Cx}
theorem EY:dj X (.builtin "sorted") (AE X.K):=by
  intro pins s σ H xs us Q I r h
  obtain ⟨p,ns,rfl,hq,h64,q⟩:=h
  obtain ⟨u,rfl,rx⟩:=vals1 r
  cases rx
  obtain ⟨its,rv,pl,hz⟩:=I.list hq
  have hl:its.length=ns.length:=by rw [← rv.length,List.length_map]
  refine sorted_strs pl.isList (wu rv) (by omega) fun out ms a1 a2 a3=>?_
  obtain ⟨e,he⟩:=sortedAll_at s.heap its out
  have ro:=nM a1
  have hz2:(ms.map V.str).length≤sizeLine:=by rw [List.length_map,a2.length_eq];exact Nat.le_of_lt (small1000 (by omega))
  refine ⟨.ref (s.heap.objs.size+1),_,I.laid (a:=s.heap.objs.size+1) (o:=.lst (ms.map V.str)) (t':=s.toks) (fun b o hb=>sortedAll_old hb) (Nat.le_succ _) ⟨hz2,out.toList,e,ro,?_⟩,rfl,q _ ms (I.hok.fresh (Nat.le_succ _)) a2 a3⟩
  rw [he]
end
def ZIt (k:Bool) (h:Heap) (i a:Addr) (n:Nat):Prop:=match k with | true=>h.IsListIter i a n | false=>h.IsTupleIter i a n
section
variable {prog:Program} {w:World} {A:Around} {E:Value→Shared→Prop} {s:Shared}
structure ZAp (z T O i j:Addr):Prop where
  nd:[z,T,O,i,j].Nodup
structure ZAt (k1 k2:Bool) (h:Heap) (z T O i j a b:Addr) (f:Value) (n:Nat):Prop where
  z:IsZip h z T O f
  t:IsPair h T (.ref i) (.ref j)
  o:∃ x y,IsPair h O x y
  i:ZIt k1 h i a n
  j:ZIt k2 h j b n
end
end L4
namespace HT2
open PySem PyProof.Rows HT
theorem AB (A:Around) (s:Shared) (a:Int) (t:Tok) (c:Int) (u:Tok) (prog:Program) (w:World) (E:Value→Shared→Prop) (Q:Value→Shared→Prop) (h:Q (.bool (decide (c < a))) s) :
    wpAny (model prog w) A (richCompare .Gt (.int a t) (.int c u)) Q E s:=
  (PyProof.Rows.gt_int h:wpAny (model prog w) A (compareOp .Gt (.int a t) (.int c u)) Q E s)
section
open PySem.SeqAt
open PySem.AutoSeq1 (wpAny_loadPart')
open PySem.MeetsSeq PySem.MeetsSeq2 PySem.MeetsSeq3
theorem mW (l b:Addr) (xs ys:Array Value) (n m:Nat) (dd ee:Option Addr) (sl tl:Array (Option Value)) (ns ms:List Int) (hi:IntsAre xs.toList ns) (hj:IntsAre ys.toList ms) :
    Meets (Builtin.«tuple.__gt__» ⟨[.ref l,.ref b],[]⟩)
      (fun _ R s=>s.heap.get? l=some { cls:=.type "tuple",dict:=dd,data:=.seq xs n,slots:=sl }∧s.heap.get? b=some { cls:=.type "tuple",dict:=ee,data:=.seq ys m,slots:=tl } ∧
        R (.ok (.ret (.bool (lexLt ms ns)))) s):=
  .of_wp fun prog w A R s h=>by
    obtain ⟨hp,g,d,tk,os⟩:=s;obtain ⟨hl,hb,h⟩:=h
    have f2:=AutoSeq1.sub_tuple_tuple
    have z1:xs.size=ns.length:=by rw [← hi.length];simp
    have z2:ys.size=ms.length:=by rw [← hj.length];simp
    wp_walk using wpAny_loadPart' hl,wpAny_loadPart' hb,wpAny_forIn_list _ (fun rest b s'=>b.1=none∧s'=⟨hp,g,d,tk,os⟩∧∃ (vs ws:List Value) (as bs:List Int),rest=vs.zip ws ∧
      IntsAre vs as∧IntsAre ws bs∧as.length+ys.size=bs.length+xs.size∧R (.ok (.ret (.bool (lexLt bs as)))) ⟨hp,g,d,tk,os⟩) _
    case turn=>
      rintro ⟨y,x⟩ rest b s' ⟨hb',rfl,vs,ws,as,bs,hz,hvi,hwi,hlen,hR⟩
      cases hvi with
      | nil=>rw [List.zip_nil_left] at hz;cases hz
      | cons a t hvi'=>
        cases hwi with
        | nil=>rw [List.zip_nil_right] at hz;cases hz
        | cons c u hwi'=>
          rw [List.zip_cons_cons] at hz
          injection hz with hyx hrest
          injection hyx with hy hx
          subst hy hx
          rw [jf] at hR
          simp only [List.length_cons] at hlen
          obtain ⟨e,he,hiff⟩:=BL A.in1 ⟨hp,g,d,tk,os⟩ a t c u
          refine wpAny_bind (he prog w _ _ ?_)
          cases e with
          | true=>
            rw [if_pos (hiff.mp rfl).symm] at hR
            wp_walk
            exact ⟨rfl,rfl,_,_,_,_,hrest,hvi',hwi',by omega,hR⟩
          | false=>
            rw [if_neg (fun q=>absurd (hiff.mpr q.symm) Bool.false_ne_true)] at hR
            have hri:=AB A.in1 ⟨hp,g,d,tk,os⟩ a t c u prog w
            wp_walk using hri
            exact ⟨_,rfl,by simpa using hR⟩
    case fin=>
      rintro ⟨b1,b2⟩ s' ⟨hb',rfl,vs,ws,as,bs,hz,hvi,hwi,hlen,hR⟩
      simp only at hb'
      subst hb'
      have hv:lexLt bs as=decide (ys.size < xs.size):=by
        cases hvi with
        | nil=>
          cases hwi with
          | nil=>
            simp only [List.length_nil] at hlen
            rw [nk]
            exact (decide_eq_false (by omega)).symm
          | cons c u hw=>
            simp only [List.length_nil,List.length_cons] at hlen
            rw [lR]
            exact (decide_eq_false (by omega)).symm
        | cons a t hv=>
          cases hwi with
          | nil=>
            simp only [List.length_nil,List.length_cons] at hlen
            rw [lQ]
            exact (decide_eq_true (by omega)).symm
          | cons c u hw=>
            rw [List.zip_cons_cons] at hz
            cases hz
      rw [hv] at hR
      wp_walk
      exact ⟨_,rfl,by simpa [Builtin.Tuple.tupleCompareSizes] using hR⟩
    case h=>
      exact ⟨rfl,rfl,xs.toList,ys.toList,ns,ms,rfl,hi,hj,by omega,h⟩
end
section
variable {prog:Program} {w:World} {A:Around} {E:Value→Shared→Prop} {s:Shared}
theorem fY {l b:Addr} {xs ys:Array Value} {ns ms:List Int} {Q:Value→Shared→Prop} (hl:IsTup s.heap l xs) (hb:IsTup s.heap b ys) (hi:IntsAre xs.toList ns) (hj:IntsAre ys.toList ms)
    (hu:A.units < cLine) (h:Q (.bool (lexLt ms ns)) s):wpAny (model prog w) A (richCompare .Gt (.ref l) (.ref b)) Q E s:=by
  obtain ⟨⟨cls,dd,data,sl⟩,ho,hc,n,hd⟩:=id hl
  obtain ⟨⟨cls2,ee,data2,tl⟩,ho2,hc2,m,hd2⟩:=id hb
  simp only at hc hd hc2 hd2
  subst hc hd hc2 hd2
  exact richCompare_meets_room (op:=.Gt) ⟨_,ho,rfl⟩ ⟨_,ho2,rfl⟩ PySem.F.slot_tuple_gt PySem.F.entry_tuple_gt (PySem.F.args_tuple_gt_2 _ _) (mW l b xs ys n m dd ee sl tl ns ms hi hj)
    ⟨ho,ho2,show Value.bool (lexLt ms ns)≠Value.notImplemented∧Q (.bool (lexLt ms ns)) s from ⟨(fun x=>nomatch x),h⟩⟩ hu
end
end HT2
namespace L4
open PySem PySem.Spec PyProof.Rows L2 L3
def Kp (h0 h:Heap):Prop:=∀ b o,h0.get? b=some o→h.get? b=some o
def Ci (prog:Program) (w:World) (A:Around) (op:CmpOp) (P:Nat→Value→Prop) (bt:Nat→Nat→Bool) (h0:Heap):Prop:=
  ∀ i j vi vj (s:Shared) (Q E:Value→Shared→Prop),P i vi→P j vj→Kp h0 s.heap→Q (.bool (bt i j)) s→wpAny (model prog w) A (richCompare op vi vj) Q E s
section
variable {prog:Program} {w:World} {A:Around} {R:Result→Shared→Prop} {I S:Addr} {fp wr:List Addr} {n:Nat} {P:Nat→Value→Prop} {St:Nat→Heap→Prop} {bt:Nat→Nat→Bool} {h0:Heap} {kw:List (Str×Value)}
theorem GF (W:Walks prog w A.in1 I fp wr n P St) (hc:Ci prog w A.in1 .Gt P bt h0) (nS:S∉fp) (nw:∀ b∈wr,h0.get? b=none) (n0:h0.get? S=none) :
    ∀ (k j:Nat) (s:Shared) (vb:Value) (c:Nat),n - (j+1)=k→j+1≤n→St (j+1) s.heap→P (argBest bt j) vb→Kp h0 s.heap →
    s.heap.get? S=some { cls:=.type "list",dict:=none,data:=.seq #[vb,vb] c,slots:=#[] } →
    (∀ v h' tk,P (argBest bt (n - 1)) v→Kp h0 h'→R (.ok (.ret v)) { s with heap:=h',toks:=tk })→codeAny (model prog w) A (.builtin "max.loop" ⟨[.ref I,.none,.ref S],kw⟩) R s:=by
  have nSw:S∉wr:=fun h=>nS (W.sub _ h)
  have nm:(toString "max" ++ toString ".loop" : String) = "max.loop" := by decide
  intro k
  induction k with
  | zero=>
    intro j s vb c hk hj st hP kp hS hR
    have en:j+1=n:=by omega
    refine codeAny_builtin PySem.F.entry_max_loop ?_
    rw [Around.under_plainId PySem.F.plain_max_loop _]
    show wpAny _ A.in1 (seqItems? (.ref S) >>= _) _ _ s;refine wpAny_bind (wpAny_seqItems hS rfl ?_)
    show wpAny _ A.in1 (tryCatch (pyNext (.ref I)) _ >>= _) _ _ s;refine wpAny_bind (wpAny_tryCatch (W.done s _ _ (en▸st) fun h1 tk k1=>?_))
    have hS1:=k1 S _ nSw hS
    show wpAny _ A.in1 (updateSeq S (fun _=>#[]) >>= _) _ _ _;refine wpAny_bind ?_
    refine wpAny_updateSeq hS1 rfl (wpAny_bind (wpAny_letGo (wpAny_pure ?_)))
    refine hR vb _ tk (by rw [← en];exact hP) fun b o e=>(Heap.get?_update_other _ _ (fun z:S=b=>by rw [← z,n0] at e;cases e)).trans (k1 b o (fun z=>by rw [nw b z] at e;cases e) (kp b o e))
  | succ k ih=>
    intro j s vb c hk hj st hP kp hS hR
    have lt:j+1 < n:=by omega
    refine codeAny_builtin PySem.F.entry_max_loop ?_
    rw [Around.under_plainId PySem.F.plain_max_loop _]
    show wpAny _ A.in1 (seqItems? (.ref S) >>= _) _ _ s;refine wpAny_bind (wpAny_seqItems hS rfl ?_)
    show wpAny _ A.in1 (tryCatch (pyNext (.ref I)) _ >>= _) _ _ s;refine wpAny_bind (wpAny_tryCatch (W.item (j+1) s _ _ lt st fun v h1 tk p1 st1 k1=>?_))
    have hS1:=k1 S _ nSw hS
    have kp1:Kp h0 h1:=fun b o e=>k1 b o (fun z=>by rw [nw b z] at e;cases e) (kp b o e)
    show wpAny _ A.in1 (tryCatch (holding [v,v] (richCompare .Gt v vb >>= _)) _ >>= _) _ _ _
    refine wpAny_bind (wpAny_tryCatch (wpAny_holding (wpAny_bind (hc (j+1) (argBest bt j) v vb _ _ _ p1 hP kp1 ?_))))
    refine wpAny_bind (wpAny_holding (wpAny_truthy_bool ?_));refine wpAny_bind (wpAny_letGo (wpAny_pure ?_))
    cases hb:bt (j+1) (argBest bt j) with
    | true=>
      simp only [if_true];refine wpAny_bind ?_
      refine wpAny_updateSeq hS1 rfl (wpAny_bind (wpAny_letGo ?_));rw [nm]
      refine wpAny_pure ⟨plainId_quiet PySem.F.plain_max_loop _,ih (j+1) _ v _ (by omega) lt (W.frame _ _ _ st1 fun b hf o e=>?_) (by simp only [argBest,hb,if_true];exact p1) (fun b o e=>?_) (Heap.get?_update_self _ hS1 rfl) fun v2 h2 tk2 p2 k2=>hR v2 h2 tk2 p2 k2⟩
      · exact (Heap.get?_update_other _ _ (fun h:S=b=>nS (by rw [h];exact hf))).trans e
      · exact (Heap.get?_update_other _ _ (fun z:S=b=>by rw [← z,n0] at e;cases e)).trans (kp1 b o e)
    | false=>
      simp only [Bool.false_eq_true,if_false];refine wpAny_bind (wpAny_letGo ?_);rw [nm]
      exact wpAny_pure ⟨plainId_quiet PySem.F.plain_max_loop _,ih (j+1) _ vb c (by omega) lt st1 (by simp only [argBest,hb,Bool.false_eq_true,if_false];exact hP) kp1 hS1 fun v2 h2 tk2 p2 k2=>hR v2 h2 tk2 p2 k2⟩
theorem p9 (W:Walks prog w A.in1 I fp wr n P St) (hc:Ci prog w A.in1 .Gt P bt h0) (nS:S∉fp) (nw:∀ b∈wr,h0.get? b=none) (n0:h0.get? S=none) (hn : 0 < n) {s:Shared} {c:Nat} (st:St 0 s.heap) (kp:Kp h0 s.heap)
    (hS:s.heap.get? S=some { cls:=.type "list",dict:=none,data:=.seq #[] c,slots:=#[] })
    (hR:∀ v h' tk,P (argBest bt (n - 1)) v→Kp h0 h'→R (.ok (.ret v)) { s with heap:=h',toks:=tk }):codeAny (model prog w) A (.builtin "max.loop" ⟨[.ref I,.none,.ref S],kw⟩) R s:=by
  have nSw:S∉wr:=fun h=>nS (W.sub _ h)
  have nm:(toString "max" ++ toString ".loop" : String) = "max.loop" := by decide
  refine codeAny_builtin PySem.F.entry_max_loop ?_
  rw [Around.under_plainId PySem.F.plain_max_loop _]
  show wpAny _ A.in1 (seqItems? (.ref S) >>= _) _ _ s;refine wpAny_bind (wpAny_seqItems hS rfl ?_)
  show wpAny _ A.in1 (tryCatch (pyNext (.ref I)) _ >>= _) _ _ s;refine wpAny_bind (wpAny_tryCatch (W.item 0 s _ _ hn st fun v h1 tk p1 st1 k1=>?_))
  have hS1:=k1 S _ nSw hS
  have kp1:Kp h0 h1:=fun b o e=>k1 b o (fun z=>by rw [nw b z] at e;cases e) (kp b o e)
  show wpAny _ A.in1 (updateSeq S (fun _=>#[v,v]) >>= _) _ _ _;refine wpAny_bind ?_
  refine wpAny_updateSeq hS1 rfl ?_;rw [nm]
  refine wpAny_pure ⟨plainId_quiet PySem.F.plain_max_loop _,GF W hc nS nw n0 _ 0 _ v _ rfl hn (W.frame _ _ _ st1 fun b hf o e=>?_) p1 (fun b o e=>?_) (Heap.get?_update_self _ hS1 rfl) fun v2 h2 tk2 p2 k2=>hR v2 h2 tk2 p2 k2⟩
  · exact (Heap.get?_update_other _ _ (fun h:S=b=>nS (by rw [h];exact hf))).trans e
  · exact (Heap.get?_update_other _ _ (fun z:S=b=>by rw [← z,n0] at e;cases e)).trans (kp1 b o e)
end
section
variable {prog:Program} {w:World} {A:Around} {E:Value→Shared→Prop} {s:Shared}
theorem args_max3 (a b c:Value):argsOk "max" ⟨[a,b,c],[]⟩:=by unfold argsOk;kernel_rfl
theorem lM {vs:List Value} {bt:Nat→Nat→Bool} {Q:Value→Shared→Prop} (hh:A.handled=none) (hv : 0 < vs.length) (hc:Ci prog w A.in1 .Gt (fun i v=>vs.toArray[i]?=some v) bt s.heap)
    (hQ:∀ v h' tk,vs.toArray[argBest bt (vs.length - 1)]?=some v→Kp s.heap h'→Q v { s with heap:=h',toks:=tk }) :
    wpAny (model prog w) A.in1 (do let it ← pyIter (.ref s.heap.objs.size);again (.builtin "max.loop" ⟨[it,.none,← newList []],[]⟩)) (fun fin s'=>match fin with
      | .done f=>(match (Except.ok f:Result) with | .ok (.ret v)=>Q v s' | .ok _=>False | .error e=>E e s')
      | .again c'=>c'.quiet=true∧codeAny (model prog w) A c' (fun r s'=>match r with | .ok (.ret v)=>Q v s' | .ok _=>False | .error e=>E e s') s') E { s with heap:=s.heap.push { cls:=.type "tuple",data:=.seq vs.toArray } }:=by
  have ht:(s.heap.push { cls:=.type "tuple",data:=.seq vs.toArray }).IsTuple s.heap.objs.size vs.toArray:=⟨_,Heap.get?_push_size _ rfl,rfl,0,rfl⟩
  have z1:(s.heap.push { cls:=.type "tuple",data:=.seq vs.toArray }).objs.size=s.heap.objs.size+1:=Heap.size_push ..
  refine wpAny_bind (wpAny_pyIter_tuple ht ?_)
  refine wpAny_bind (wpAny_newObj_type ?_)
  have gone:∀ b,s.heap.objs.size≤b→s.heap.get? b=none:=fun b hb=>by
    cases q:s.heap.get? b with
    | none=>rfl
    | some o=>exact absurd (Heap.lt_size q) (Nat.not_lt.mpr hb)
  have W:=Walks.tuple (prog:=prog) (w:=w) (A:=A.in1) hh (s.heap.push { cls:=.type "tuple",data:=.seq vs.toArray }).objs.size s.heap.objs.size (by rw [z1];exact Nat.ne_of_lt (Nat.lt_succ_self _)) vs.toArray
  have z2:((s.heap.push { cls:=.type "tuple",data:=.seq vs.toArray }).push { cls:=.type "tuple_iterator",data:=.fields #[.ref s.heap.objs.size,.int 0 0] }).objs.size=s.heap.objs.size+2:=by rw [Heap.size_push,z1]
  refine wpAny_pure ⟨plainId_quiet PySem.F.plain_max_loop _,p9 W hc (h0:=s.heap) ?_ ?_ (gone _ (by rw [z2];omega)) (by simpa using hv) (W.frame 0 _ _ ⟨⟨_,Heap.get?_push_size _ rfl,rfl,rfl⟩,ht.push _⟩ fun b _ o e=>Heap.get?_push_of_some _ e)
    (fun b o e=>Heap.get?_push_of_some _ (Heap.get?_push_of_some _ (Heap.get?_push_of_some _ e))) (Heap.get?_push_size _ rfl) fun v h' tk p k=>?_⟩
  · intro hm
    rw [z2,z1] at hm
    simp at hm
  · intro b hb
    simp at hb
    rw [hb]
    exact gone _ (by first | omega | (rw [z1];omega))
  · exact hQ v h' tk (by simpa using p) k
theorem vC {a b:Value} {bt:Nat→Nat→Bool} {Q:Value→Shared→Prop} (hh:A.handled=none) (hc:Ci prog w A.in1 .Gt (fun i v=>#[a,b][i]?=some v) bt s.heap)
    (hQ:∀ v h' tk,#[a,b][argBest bt 1]?=some v→Kp s.heap h'→Q v { s with heap:=h',toks:=tk }):wpAny (model prog w) A (call (.builtin "max") [a,b]) Q E s:=by
  have nm:(toString "max" ++ toString ".loop" : String) = "max.loop" := by decide
  refine call_function_tree PySem.F.kind_max PySem.F.plain_max PySem.F.entry_max (PySem.F.args_max2 _ _) ?_
  show wpAny _ A.in1 (Builtin.Builtins.bindParams "max" ["key", "default"] 0 ⟨[],[]⟩ >>= _) _ _ s
  refine wpAny_bind (wpAny_of_eq (show Builtin.Builtins.bindParams "max" ["key", "default"] 0 ⟨[],[]⟩=pure [none,none] from rfl) ?_)
  show wpAny _ A.in1 (newTuple [a,b] >>= _) _ _ s
  refine wpAny_bind (wpAny_newObj_type ?_)
  have go:=lM (prog:=prog) (w:=w) (E:=E) (Q:=Q) (s:=s) (vs:=[a,b]) hh (Nat.zero_lt_succ _) hc hQ
  rw [← nm] at go
  exact go
theorem vB {a b c:Value} {bt:Nat→Nat→Bool} {Q:Value→Shared→Prop} (hh:A.handled=none) (hc:Ci prog w A.in1 .Gt (fun i v=>#[a,b,c][i]?=some v) bt s.heap)
    (hQ:∀ v h' tk,#[a,b,c][argBest bt 2]?=some v→Kp s.heap h'→Q v { s with heap:=h',toks:=tk }):wpAny (model prog w) A (call (.builtin "max") [a,b,c]) Q E s:=by
  have nm:(toString "max" ++ toString ".loop" : String) = "max.loop" := by decide
  refine call_function_tree PySem.F.kind_max PySem.F.plain_max PySem.F.entry_max (args_max3 _ _ _) ?_
  show wpAny _ A.in1 (Builtin.Builtins.bindParams "max" ["key", "default"] 0 ⟨[],[]⟩ >>= _) _ _ s
  refine wpAny_bind (wpAny_of_eq (show Builtin.Builtins.bindParams "max" ["key", "default"] 0 ⟨[],[]⟩=pure [none,none] from rfl) ?_)
  show wpAny _ A.in1 (newTuple [a,b,c] >>= _) _ _ s
  refine wpAny_bind (wpAny_newObj_type ?_)
  have go:=lM (prog:=prog) (w:=w) (E:=E) (Q:=Q) (s:=s) (vs:=[a,b,c]) hh (Nat.zero_lt_succ _) hc hQ
  rw [← nm] at go
  exact go
end
def FL (K:PySem.W.Frag):RL:=fun xs H Q=>∃ a b ns ms,xs=[.ref a,.ref b]∧SqT K H a (ns.map V.int)∧SqT K H b (ms.map V.int)∧Q (.ref (if HT.lexLt ns ms=true then b else a)) H
def FP:RL:=fun xs H Q=>∃ i j k,xs=[.int i,.int j,.int k]∧Q (.int (max (max i j) k)) H
section
variable {X:Cx}
theorem BZ (hc:X.calm=true):dj X (.builtin "max") FP:=by
  intro pins s σ H xs us Q I r h
  obtain ⟨i,j,k,rfl,q⟩:=h
  obtain ⟨a,b,c,rfl,ra,rb,rc⟩:∃ a b c,us=[a,b,c]∧RelV (.int i) a∧RelV (.int j) b∧RelV (.int k) c:=by
    cases r with
    | cons ra r=>cases r with
      | cons rb r=>cases r with
        | cons rc r=>cases r with
          | nil=>exact ⟨_,_,_,rfl,ra,rb,rc⟩
  obtain ⟨t1,rfl⟩:=ra
  obtain ⟨t2,rfl⟩:=rb
  obtain ⟨t3,rfl⟩:=rc
  refine vB (bt:=fun x y=>decide ([i,j,k].getD x 0 > [i,j,k].getD y 0)) (I.ok.hd hc) (fun x y vx vy s' Q' E' px py _ q'=>?_) (fun v h' tk pv kp=>?_)
  · exact CmpOf.ints_gt (P:=fun i' v=>#[Value.int i t1,.int j t2,.int k t3][i']?=some v) (fun x=>[i,j,k].getD x 0) (fun x v e=>by
      match x,e with
      | 0,e=>simp at e;exact ⟨t1,e.symm⟩
      | 1,e=>simp at e;exact ⟨t2,e.symm⟩
      | 2,e=>simp at e;exact ⟨t3,e.symm⟩
      | x+3,e=>simp at e) x y vx vy s' Q' E' px py q'
  · have e:∃ t,v=Value.int (max (max i j) k) t:=by
      have b1:argBest (fun x y=>decide ([i,j,k].getD x 0 > [i,j,k].getD y 0)) 1=if j > i then 1 else 0:=by
        show (if decide (j > i)=true then 1 else 0)=_
        simp
      have b2:argBest (fun x y=>decide ([i,j,k].getD x 0 > [i,j,k].getD y 0)) 2=if decide (k > [i,j,k].getD (if j > i then 1 else 0) 0)=true then 2 else (if j > i then 1 else 0):=by
        rw [argBest,b1];rfl
      rw [b2] at pv
      by_cases h1:j > i
      · simp only [if_pos h1] at pv
        by_cases h2:k > j
        · rw [if_pos (show decide (k > [i,j,k].getD 1 0)=true from decide_eq_true h2)] at pv
          cases pv;exact ⟨t3,by rw [show max (max i j) k=k by omega] <;> rfl⟩
        · rw [if_neg (show ¬ decide (k > [i,j,k].getD 1 0)=true from by simpa using h2)] at pv
          cases pv;exact ⟨t2,by rw [show max (max i j) k=j by omega] <;> rfl⟩
      · simp only [if_neg h1] at pv
        by_cases h2:k > i
        · rw [if_pos (show decide (k > [i,j,k].getD 0 0)=true from decide_eq_true h2)] at pv
          cases pv;exact ⟨t3,by rw [show max (max i j) k=k by omega] <;> rfl⟩
        · rw [if_neg (show ¬ decide (k > [i,j,k].getD 0 0)=true from by simpa using h2)] at pv
          cases pv;exact ⟨t1,by rw [show max (max i j) k=i by omega] <;> rfl⟩
    obtain ⟨t,rfl⟩:=e
    exact ⟨.int _,H,I.kept (t':=tk) kp,⟨t,rfl⟩,q⟩
theorem HW (hc:X.calm=true) (hu:X.A.units+1 < cLine):dj X (.builtin "max") (FL X.K):=by
  intro pins s σ H xs us Q I r h
  obtain ⟨a,b,ns,ms,rfl,ha,hb,q⟩:=h
  obtain ⟨u,v,rfl,ru,rv⟩:∃ u v,us=[u,v]∧RelV (.ref a) u∧RelV (.ref b) v:=by
    cases r with
    | cons ra r=>cases r with
      | cons rb r=>cases r with
        | nil=>exact ⟨_,_,rfl,ra,rb⟩
  cases ru;cases rv
  obtain ⟨its,r1,p1,_⟩:=I.tuple ha
  obtain ⟨its2,r2,p2,_⟩:=I.tuple hb
  have i1:IntsAre its.toArray.toList ns:=intsAre_of r1
  have i2:IntsAre its2.toArray.toList ms:=intsAre_of r2
  refine vC (bt:=fun x y=>if x=0 then (if y=0 then HT.lexLt ns ns else HT.lexLt ms ns) else (if y=0 then HT.lexLt ns ms else HT.lexLt ms ms)) (I.ok.hd hc) (fun x y vx vy s' Q' E' px py kp q'=>?_) (fun v h' tk pv kp=>?_)
  · have t1:IsTup s'.heap a its.toArray:=by obtain ⟨ob,e,c⟩:=p1;exact ⟨ob,kp _ _ e,c⟩
    have t2:IsTup s'.heap b its2.toArray:=by obtain ⟨ob,e,c⟩:=p2;exact ⟨ob,kp _ _ e,c⟩
    match x,y,px,py with
    | 0,0,px,py=>simp at px py;subst px py;exact HT2.fY t1 t1 i1 i1 hu (by simpa using q')
    | 0,1,px,py=>simp at px py;subst px py;exact HT2.fY t1 t2 i1 i2 hu (by simpa using q')
    | 1,0,px,py=>simp at px py;subst px py;exact HT2.fY t2 t1 i2 i1 hu (by simpa using q')
    | 1,1,px,py=>simp at px py;subst px py;exact HT2.fY t2 t2 i2 i2 hu (by simpa using q')
    | x+2,_,px,_=>simp at px
    | _,y+2,_,py=>simp at py
  · have e:v=Value.ref (if HT.lexLt ns ms=true then b else a):=by
      simp only [argBest] at pv
      cases hl:HT.lexLt ns ms with
      | true=>rw [hl] at pv;simp at pv;rw [if_pos rfl];exact pv.symm
      | false=>rw [hl] at pv;simp at pv;rw [if_neg Bool.false_ne_true];exact pv.symm
    subst e
    exact ⟨.ref _,H,I.kept (t':=tk) kp,rfl,q⟩
end
section
variable {H:Hp} {Q:VK}
theorem Hs {a b c:Int} (h:Q (.int (max (max a b) c)) H):FP [V.int a,V.int b,V.int c] H Q:=⟨a,b,c,rfl,h⟩
theorem JJ {i j:Bool} (h:Q (.bl (!decide (i=j))) H):rNe (.bl i) (.bl j) H Q:=⟨rfl,by
  have e:decide (V.bl i=V.bl j)=decide (i=j):=by
    by_cases z:i=j
    · subst z;simp
    · rw [decide_eq_false z,decide_eq_false fun w=>z (V.bl.inj w)]
  rw [e];exact h⟩
theorem EA {K:PySem.W.Frag} {a b:Addr} {m c m' c':Int} (ha:H a=some (.tup [.int m,.int c])) (hb:H b=some (.tup [.int m',.int c'])) (h:Q (.ref (if HT.lexLt [m,c] [m',c']=true then b else a)) H):FL K [.ref a,.ref b] H Q:=
  ⟨a,b,[m,c],[m',c'],rfl,SqT.of ha,SqT.of hb,h⟩
end
section
variable {K:PySem.W.Frag} {P:Addr→Prop} {H0 H H':Hp} {l l' l2:List (Addr×Ob)} {fs:List Pr} {p r:Addr} {Q:VK} {xs ys:List V} {lo hi:Option Int}
theorem Bv (L:Led P H0 H l fs) (s:SqL K H p xs) (h:∀ b H',H b=none→Led P H0 H' ((b,Eo (.lst (nA xs lo hi)))::l) fs→aM H H'→Q (.ref b) H'):Ja K (.ref p) lo hi H Q:=
  ⟨p,xs,rfl,s,fun b nb=>h b _ nb (L.nj nb rfl) (cU nb)⟩
theorem JY (L:Led P H0 H l fs) (m1:Put p (Eo (.lst xs)) (Eo (.lst xs)) l l') (m2:Put r (Eo (.lst ys)) (Eo (.lst ys)) l l2) (hz:xs.length+ys.length≤sizeLine)
    (h:∀ b H',H b=none→Led P H0 H' ((b,Eo (.lst (xs++ys)))::l) fs→aM H H'→Q (.ref b) H'):Je (.ref p) (.ref r) H Q:=
  ⟨p,r,xs,ys,rfl,rfl,L.eo m1,L.eo m2,hz,fun b nb=>h b _ nb (L.nj nb rfl) (cU nb)⟩
theorem lX (L:Led P H0 H l fs) (s:SqL K H p xs∨SqT K H p xs) (h:∀ b H',H b=none→Led P H0 H' ((b,Eo (.lst xs))::l) fs→aM H H'→Q (.ref b) H'):wK K [.ref p] H Q:=
  ⟨p,xs,rfl,s,fun b nb=>h b _ nb (L.nj nb rfl) (cU nb)⟩
end
end L4
namespace L4
open PySem PySem.Spec PyProof.Rows
def ExcAt (h:Heap) (x:Addr) (C:Value) (dx T:Option Addr) (fl:Value):Prop:=
  ∃ oe vs,h.get? x=some oe∧oe.cls=C∧oe.dict=dx∧oe.data = .fields vs∧vs[1]?=some (T.elim .none .ref)∧∀ t,T=some t→t≠x∧∃ oT ts,h.get? t=some oT∧oT.data = .fields ts∧ts[3]?=some fl
def HP (l:List Env):List Addr:=l.filterMap (·.frame)
structure But (x:Addr) (T:Option Addr) (fs:List Addr) (h h':Heap):Prop where
  keep:∀ b o,h.get? b=some o→b≠x→some b≠T→b∉fs→h'.get? b=some o
  slot:∀ b o,h.get? b=some o→b≠x→some b≠T→∃ sl,h'.get? b=some { o with slots:=sl }
  there:∀ b o,h.get? b=some o→∃ o',h'.get? b=some o'
theorem But.refl {x:Addr} {T:Option Addr} {fs:List Addr} {h:Heap}:But x T fs h h:=⟨fun _ _ e _ _ _=>e,fun _ o e _ _=>⟨o.slots,e⟩,fun _ o e=>⟨o,e⟩⟩
section
variable {M:Model} {A:Around} {E:Value→Shared→Prop} {s:Shared} {base:Heap} {env:Env} {outer:List Env} {L x t:Addr} {C fl:Value} {dx T:Option Addr} {Q:Unit→Shared→Prop}
theorem fQ {fr:Option Addr} (he:ExcAt s.heap x C dx (some t) fl) (h:∀ h',ExcAt h' x C dx (some t) (fr.elim .none fun f=>rawInt f)→But x (some t) [] s.heap h'→Q () { s with heap:=h' }):wpAny M A (setFlight (.ref x) fr) Q E s:=by
  obtain ⟨oe,vs,e1,e2,e3,e4,e5,e6⟩:=he
  obtain ⟨ne,oT,ts,f1,f2,f3⟩:=e6 t rfl
  have hz : 3 < ts.size:=(Array.getElem?_eq_some_iff.mp f3).1
  have oth:∀ b,b≠t→(s.heap.update t (Obj.mapFields (·.setIfInBounds 3 (fr.elim .none fun f=>rawInt f)))).get? b=s.heap.get? b:=fun b hb=>Heap.get?_update_other _ _ (Ne.symm hb)
  have d3:=Obj.data_mapFields f2 (·.setIfInBounds 3 (fr.elim .none fun f=>rawInt f))
  have self:=Heap.get?_update_self (Obj.mapFields (·.setIfInBounds 3 (fr.elim .none fun f=>rawInt f))) f1 (Obj.isFreed_of_fields d3)
  unfold setFlight
  refine wpAny_bind (wpAny_field e1 e4 e5 ?_)
  rw [if_pos (show (((some t).elim Value.none Value.ref) != Value.none)=true from by simp)]
  refine wpAny_setField f1 f2 hz (h _ ⟨oe,vs,(oth x (Ne.symm ne)).trans e1,e2,e3,e4,e5,fun t' ht=>?_⟩ ⟨fun b o q _ n _=>?_,fun b o q _ n=>?_,fun b o q=>?_⟩)
  · cases ht
    exact ⟨ne,_,_,self,d3,by simp [hz]⟩
  · exact (oth b fun z=>n (by rw [z])).trans q
  · exact ⟨o.slots,(oth b fun z=>n (by rw [z])).trans q⟩
  · by_cases z:b=t
    · exact ⟨_,by rw [z];exact self⟩
    · exact ⟨o,(oth b z).trans q⟩
theorem ou {head:Value} {hadNext:Bool} {oe:Obj} {vs:Array Value} (hfr:A.frames=some (env::outer)) (hl:s.heap.FunFrames base (env::outer)) (hf:env.frame=some L)
    (e1:s.heap.get? x=some oe) (e4:oe.data = .fields vs) (hz : 1 < vs.size)
    (h:∀ h' t',ExcAt h' x oe.cls oe.dict (some t') (rawInt L)→But x none (HP (env::outer)) s.heap h'→s.heap.objs.size≤t'→Q () { s with heap:=h' }) :
    wpAny M A (do let a ← frameOf env;let pl ← entryPlaceOf L hadNext;let b ← EntryCells.newEntry head a .none (rawInt L) .none pl;setField (.ref x) 1 b) Q E s:=by
  have nfr:x∉(env::outer).filterMap (·.frame):=fun hm=>by
    obtain ⟨_,o,ho,hn⟩:=hl.mem hm
    rw [e1] at ho;cases ho;exact hn vs e4
  refine wpAny_bind (wpAny_frameOf_fun hfr hl hf fun h1 s1=>?_)
  refine wpAny_bind (wpAny_entryPlaceOf fun pl hpl=>?_)
  unfold EntryCells.newEntry newFields
  refine wpAny_bind (wpAny_newObj_type ?_ (hpl.sizeOk5 _ _ _ _ _))
  have x1:h1.get? x=some oe:=(s1.2.1 x nfr).trans e1
  generalize hnew:({ cls:=.type "traceback",dict:=none,data:=.fields ([head,.ref L,.none,rawInt L,.none]++(if pl.isEmpty then List.replicate 6 Value.none else pl)).toArray }:Obj)=new
  have x2:=Heap.get?_push_of_some (h:=h1) new x1
  have x3:h1.objs.size≠x:=Nat.ne_of_gt (Heap.lt_size x1)
  have d3:=Obj.data_mapFields e4 (·.setIfInBounds 1 (Value.ref h1.objs.size))
  have x4:=Heap.get?_update_self (Obj.mapFields (·.setIfInBounds 1 (Value.ref h1.objs.size))) x2 (Obj.isFreed_of_fields d3)
  have x5:=(Heap.get?_update_other (h1.push new) (Obj.mapFields (·.setIfInBounds 1 (Value.ref h1.objs.size))) (Ne.symm x3)).trans (Heap.get?_push_size h1 (by subst hnew;rfl))
  have up:∀ b o,b≠x→h1.get? b=some o→((h1.push new).update x (Obj.mapFields (·.setIfInBounds 1 (Value.ref h1.objs.size)))).get? b=some o:=fun b o n q=>by
    rw [Heap.get?_update_other _ _ (Ne.symm n)];exact Heap.get?_push_of_some _ q
  refine wpAny_setField x2 e4 hz (h _ h1.objs.size ⟨_,_,x4,Obj.cls_mapFields _ _,?_,d3,by simp [hz],fun t' ht=>?_⟩ ⟨fun b o q n _ nf=>?_,fun b o q n _=>?_,fun b o q=>?_⟩ ?_)
  · cases oe with | mk c d da sl=>cases da <;> rfl
  · cases ht
    refine ⟨x3,new,_,x5,by subst hnew;rfl,?_⟩
    first | (simp;done) | (rcases hpl with rfl | ⟨_,_,_,_,_,_,_,rfl⟩ <;> simp)
  · exact up b o n ((s1.2.1 b nf).trans q)
  · obtain ⟨sl,e⟩:=s1.2.2 b o q
    exact ⟨sl,up b _ n e⟩
  · by_cases z:b=x
    · exact ⟨_,by rw [z];exact x4⟩
    · obtain ⟨sl,e⟩:=s1.2.2 b o q
      exact ⟨_,up b _ z e⟩
  · exact s1.1▸Nat.le_refl _
theorem lK (hfr:A.frames=some (env::outer)) (hl:s.heap.FunFrames base (env::outer)) (hf:env.frame=some L) (he:ExcAt s.heap x C dx T fl) (hfl:fl = .none∨fl=rawInt L)
    (h:∀ h' t',ExcAt h' x C dx (some t') (rawInt L)→But x T (HP (env::outer)) s.heap h'→(some t'=T∨s.heap.objs.size≤t')→Q () { s with heap:=h' }):wpAny M A (noteFrame (.ref x) env) Q E s:=by
  obtain ⟨oe,vs,e1,rfl,rfl,e4,e5,e6⟩:=he
  have hz : 1 < vs.size:=(Array.getElem?_eq_some_iff.mp e5).1
  unfold noteFrame
  simp only [hf]
  refine wpAny_bind (wpAny_field e1 e4 e5 ?_)
  cases T with
  | none=>
    rw [if_neg (by decide)]
    exact ou hfr hl hf e1 e4 hz fun h' t' a b c=>h h' t' a b (.inr c)
  | some t=>
    obtain ⟨ne,oT,ts,f1,f2,f3⟩:=e6 t rfl
    rw [if_pos (show (((some t).elim Value.none Value.ref) != Value.none)=true from by simp)]
    refine wpAny_bind (wpAny_field f1 f2 f3 ?_)
    by_cases z:fl=rawInt L
    · subst z
      rw [if_pos (by simp)]
      exact wpAny_pure (h _ t ⟨oe,vs,e1,rfl,rfl,e4,e5,fun t' ht=>by cases ht;exact ⟨ne,oT,ts,f1,f2,f3⟩⟩ But.refl (.inl rfl))
    · obtain rfl:fl = .none:=hfl.resolve_right z
      rw [if_neg (show ¬ ((Value.none == rawInt L)=true) from by simp [rawInt])]
      refine wpAny_bind (wpAny_setField f1 f2 (Array.getElem?_eq_some_iff.mp f3).1 ?_)
      have oth:∀ b,b≠t→(s.heap.update t (Obj.mapFields (·.setIfInBounds 3 Value.none))).get? b=s.heap.get? b:=fun b hb=>Heap.get?_update_other _ _ (Ne.symm hb)
      have self:=Heap.get?_update_self (Obj.mapFields (·.setIfInBounds 3 Value.none)) f1 (Obj.isFreed_of_fields (Obj.data_mapFields f2 _))
      refine ou (base:=base) (outer:=outer) hfr (hl.of_keeps fun b o q hn=>⟨o,(oth b fun z=>?_).trans q,rfl⟩) hf ((oth x (Ne.symm ne)).trans e1) e4 hz fun h' t' a b c=>h h' t' a ⟨fun b' o q n m nf=>?_,fun b' o q n m=>?_,fun b' o q=>?_⟩ (.inr ?_)
      · subst z;rw [f1] at q;cases q;exact hn ts f2
      · exact b.keep b' o ((oth b' fun z=>m (by rw [z])).trans q) n (by simp) nf
      · exact b.slot b' o ((oth b' fun z=>m (by rw [z])).trans q) n (by simp)
      · by_cases z:b'=t
        · exact b.there b' _ (by rw [z];exact self)
        · exact b.there b' o ((oth b' z).trans q)
      · simpa using c
theorem yR (hfr:A.frames=some (env::outer)) (hl:s.heap.FunFrames base (env::outer)) (hf:env.frame=some L) (he:ExcAt s.heap x C dx T fl) (hfl:fl = .none∨fl=rawInt L)
    (h:∀ h' t',ExcAt h' x C dx (some t') .none→But x T (HP (env::outer)) s.heap h'→(some t'=T∨s.heap.objs.size≤t')→Q () { s with heap:=h' }):wpAny M A (leaving env (.ref x)) Q E s:=by
  unfold leaving
  refine wpAny_bind (lK hfr hl hf he hfl fun h1 t1 a b c=>?_)
  refine fQ (fr:=none) a fun h2 a2 b2=>h h2 t1 a2 ⟨fun b' o q n m nf=>?_,fun b' o q n m=>?_,fun b' o q=>?_⟩ c
  · refine b2.keep b' o (b.keep b' o q n m nf) n (fun z=>?_) (by simp)
    rcases c with c | c
    · exact m (z.trans c)
    · have lt:=Heap.lt_size q;cases z;exact absurd lt (Nat.not_lt.mpr c)
  · obtain ⟨sl,e⟩:=b.slot b' o q n m
    refine ⟨sl,b2.keep b' _ e n (fun z=>?_) (by simp)⟩
    rcases c with c | c
    · exact m (z.trans c)
    · have lt:=Heap.lt_size q;cases z;exact absurd lt (Nat.not_lt.mpr c)
  · obtain ⟨o1,e⟩:=b.there b' o q
    exact b2.there b' o1 e
end
end L4
namespace L4
open PySem PySem.Spec PyProof.Rows L2 L3
structure gu (X:Cx) (pins:List (Addr×Obj)) (H:Hp) (b:Addr):Prop where
  no:H b=none
  ab:X.s₀.heap.objs.size≤b
  lo:b≠X.env.locals
  ce:∀ x c,X.env.cells.lookup x=some c→c≠b
  pi:∀ p∈X.pn++pins,p.1≠b
def CX1 (P:Program) (w:World):CXT:=fun outer H s E e s'=>∃ x C dx t H',e=Value.ref x∧s'.os=s.os∧AllBare s'.gens∧Un (frs outer) [] H H' s.heap s'.heap∧HOk P w H' s'.heap ∧
  ExcAt s'.heap x C dx (some t) .none∧s.heap.objs.size≤x∧s.heap.objs.size≤t∧H' x=none∧H' t=none∧E C dx H'
theorem uY {P:Program} {w:World}:bf (CX1 P w):=fun _ _ _ _ _ ⟨_,_,_,_,_,_,_,_,_,_,_,_,_,_,_,h⟩=>h
def XS (X:Cx) (Ex:St→XK) (e:Value) (s':Shared):Prop:=∃ pins σ H x C dx T fl,e=Value.ref x∧Inv X pins σ H s'∧ExcAt s'.heap x C dx T fl∧(fl = .none∨fl=rawInt X.env.locals)∧gu X pins H x∧(∀ t,T=some t→gu X pins H t)∧Ex σ C dx H
def PaX (X:Cx) (Ex:St→XK):Prop:=∀ e s',XS X Ex e s'→X.xe e s'
section
variable {X:Cx} {pins:List (Addr×Obj)} {σ : St} {H H':Hp} {s s':Shared} {Ex:St→XK} {e:Value}
theorem fT (I:Inv X pins σ H s) {b:Addr} (hb:s.heap.objs.size≤b) (n:H' b=none):gu X pins H' b:=
  ⟨n,Nat.le_trans I.sz hb,Nat.ne_of_gt (Nat.lt_of_lt_of_le I.lt hb),fun x c e z=>by
    obtain ⟨v,o,ho,_⟩:=I.cell x c e
    exact absurd (Heap.lt_size ho) (by rw [z];exact Nat.not_lt.mpr hb),fun p hp z=>by
    have:=(I.pin p hp).1
    exact absurd (Heap.lt_size this) (by rw [z];exact Nat.not_lt.mpr hb)⟩
theorem jA {x:Addr} {T:Option Addr} {h':Heap} (I:Inv X pins σ H s) (hx:gu X pins H x) (hT:∀ t,T=some t→gu X pins H t) (b:But x T (frs X.stack) s.heap h'):Inv X pins σ H { s with heap:=h' }:=by
  have nx:∀ c,c∉x::T.toList→c≠x∧some c≠T:=fun c hc=>⟨fun z=>hc (by rw [z];exact List.mem_cons_self),fun z=>hc (List.mem_cons_of_mem _ (by rw [← z];simp))⟩
  refine I.F6 (s':={ s with heap:=h' }) (ch:=x::T.toList) rfl ⟨fun c o q _ nf nc=>b.keep c o q (nx c nc).1 (nx c nc).2 nf,fun c o q _ _ nc=>b.slot c o q (nx c nc).1 (nx c nc).2,fun _ _ _ n _=>n,fun c o q _=>b.there c o q,fun _ _ q=>q,fun _ _ _ q=>q,fun _ ps q=>⟨#[],by rw [q];simp⟩⟩ (fun a o q=>?_) I.bare (fun c hc=>?_)
  · refine (I.hok a o q).stay (fun c u hc r=>?_) (fun _ r=>r) fun _ _ r=>r
    obtain ⟨v,hv⟩:∃ v,H c=some v:=by
      rcases hc with rfl | hc
      · exact ⟨_,q⟩
      · exact ⟨_,hc⟩
    refine b.keep c u r (fun z=>?_) (fun z=>?_) (fun z=>?_)
    · rw [z,hx.no] at hv;cases hv
    · rw [(hT c z.symm).no] at hv;cases hv
    · rw [I.o8 c z] at hv;cases hv
  · have w:gu X pins H c:=by
      rcases List.mem_cons.mp hc with rfl | hc
      · exact hx
      · exact hT c (by simpa using hc)
    exact ⟨.inr w.ab,w.lo,w.ce,w.pi⟩
theorem Ct (I:Inv X pins σ H s) (h:CX1 X.prog X.w X.stack H s (Ex σ) e s'):XS X Ex e s':=by
  obtain ⟨x,C,dx,t,H',rfl,os,bare,un,hok,ex,x1,t1,nx,nt,q⟩:=h
  exact ⟨pins,σ,H',x,C,dx,some t,.none,rfl,I.F6 (ch:=[]) os un hok bare (fun b z=>absurd z (by simp)),ex,.inl rfl,fT I x1 nx,fun t' z=>by cases z;exact fT I t1 nt,q⟩
theorem rf {P:Program} {w:World} {K:PySem.W.Frag} {mg:Str→Option Value} {base:Heap} {N:List Str} {qual:Str} {scope:Scope} {f:Addr} {cd:Value} {A:Around} {outer:List Env} {s0:Shared} {H0:Hp} {E:XK} :
    PaX (aY (CX1 P w) P w K mg base N qual scope f cd A outer s0 H0 E) (fun _=>E):=fun e s' h=>by
  obtain ⟨pins,σ,H,x,C,dx,T,fl,rfl,I,ex,hfl,ox,oT,q⟩:=h
  refine yR (base:=base) (outer:=outer) I.ok.frames I.stack rfl ex hfl fun h' t' a b c=>?_
  have J:=jA I ox oT b
  have ot:s0.heap.objs.size≤t'∧H t'=none:=by
    rcases c with c | c
    · exact ⟨(oT t' c.symm).ab,(oT t' c.symm).no⟩
    · exact ⟨Nat.le_trans I.sz c,I.hok.fresh c⟩
  exact ⟨x,C,dx,t',H,rfl,J.os,J.bare,J.base,J.hok,a,ox.ab,ot.1,ox.no,ot.2,q⟩
end
def zV (sp:Sp) (Ex:St→XK) (t:TA):TE:=fun σ H Q=>t σ H fun vs H1=>sp vs H1 Q (Ex σ)
section
variable {X:Cx} {k:Nat} {f C:Addr} {fd:FuncData} {ps:List Str} {sp:Sp} {Ex:St→XK} {x m:Str} {p pos apos:Pos} {e o:Expr} {es:List Expr} {ta:TE} {t:TA}
theorem pQ {pins:List (Addr×Obj)} {σ : St} {H:Hp} {s:Shared} {Q:VK} {us:List Value} {vs:List V} (F:eU X.prog X.w X.K X.mg X.base (CX1 X.prog X.w) k f fd ps sp) (hr:bY k X.A) (hb:Binds X.K fd ps []) (hx:PaX X Ex)
    (I:Inv X pins σ H s) (r:Vals vs us) (h:sp vs H Q (Ex σ)):wpAny (model X.prog X.w) X.A (call (.ref f) us) (EP X pins σ Q) X.xe s:=by
  have hl:us.length=ps.length:=by rw [← r.length];exact F.len _ _ _ _ h
  have hb':=hb s us I.kIn (by rw [List.append_nil];exact hl)
  rw [List.append_nil] at hb'
  refine wpAny_call (codeAny_mono (F.run X.A X.stack s H ⟨us,[]⟩ us vs Q (Ex σ) hr I.EM hb' r h) fun r s' hq=>?_)
  cases r with
  | error e=>exact hx e s' (Ct I hq)
  | ok fl=>
    cases fl with
    | ret u=>exact I.after hq
    | _=>exact False.elim hq
theorem cQ (C:Cal X.prog X.w X.K X.mg X.base (CX1 X.prog X.w) x k ps sp) (hr:bY k X.A) (hx:PaX X Ex) (ha:PA X (e::es) t) (hg:Gl X x:=by rfl)
    (hdb:(x == ("__debug__" : Str))=false:=by decide) (he:starEach (e::es) X.env=(false,eval e X.env)::starEach es X.env:=by rfl) (hpl:(backTo pos (starEach es X.env)).any (·.1)=false:=by rfl) :
    PE X (.Call (.Name x p) (e::es) [] pos) (zV sp Ex t):=by
  obtain ⟨f,fd,F,b,kp,m⟩:=C.ex
  intro pins s σ H Q I h
  refine wpAny_Call_Name_kw (eZ I hg m ?_ hdb)
  refine PySem.W.callWith_K (h₀:=X.base) I.ok.mod.kin kp (thn (ha pos pins s σ H _ I h) fun us s1 ⟨vs,H1,I1,r,q⟩=>⟨I1.kIn,?_⟩) he hpl
  exact pQ F hr b hx I1 r q
end
end L4
namespace L4
open PySem PySem.Spec PyProof.Rows L2 L3 PySem.W
section
variable {prog:Program} {w:World} {A:Around} {E:Value→Shared→Prop} {h:Heap} {g:Array GenState} {d:Drawn} {t:Nat} {os:OsState}
variable {nm q:Str} {C N:Addr} {bs bm bmB:List Value} {hdct:Bool} {sn:List Str} {sub:List Value} {ab:Bool} {col:Option Bool} {dd:Option Addr} {k0 k1 k2 k3 k5:Option Value} {B newId initId:String}
abbrev vq (h:Heap) (C:Addr) (rest:List Value):Heap:=(h.push { cls:=.type "tuple",data:=.seq rest.toArray }).push { cls:=.ref C,data:=.fields #[.ref h.objs.size,.none,.none,.none,.bool false,.none] }
theorem c6 {rest:List Value}:∀ b o,h.get? b=some o→(vq h C rest).get? b=some o:=fun _ _ e=>Heap.get?_push_of_some _ (Heap.get?_push_of_some _ e)
theorem g9 {rest:List Value}:(vq h C rest).get? (h.objs.size+1)=some { cls:=.ref C,data:=.fields #[.ref h.objs.size,.none,.none,.none,.bool false,.none] }:=by heap_get
theorem nu (F:ExcBaseFacts B newId initId bmB) (T:OwnTail h bmB bm) {rest:List Value} {init:Value} {Q:Fin→Shared→Prop}
    (hC:h.get? C=some (excClassObj nm q C N bs bm hdct sn sub ab col dd k0 k1 k2 k3 k5 newId)) (hi:Looks (model prog w) h (typeLookup (.ref C) "__init__") (some init)) (hb:∀ self,Looks (model prog w) h (bindSpecial init self) (init,[self]))
    (hq:wpAny (model prog w) A (call init (.ref (h.objs.size+1)::rest)) (fun r s'=>r = .none∧Q (.done (.ret (.ref (h.objs.size+1)))) s') E ⟨vq h C rest,g,d,t,os⟩) (hrest:rest.length≤sizeLine) :
    wpAny (model prog w) A (Builtin.«type.__call__» ⟨.ref C::rest,[]⟩) Q E ⟨h,g,d,t,os⟩:=by
  repeat (first | with_reducible refine wpAny_loadPart_at hC ?_ | with_reducible refine wpAny_madeBy_exc hC ?_ | wp_step)
  refine codeAny_call_builtin_code (Code.quiet_builtin _ F.quiet) (wpAny_check_new_subT F T hC ?_)
  refine codeAny_exc_new_subT F T hC ?_ hrest
  show wpAny _ _ _ _ _ _
  have hC1:=c6 (C:=C) (rest:=rest) _ _ hC
  have hg:=g9 (h:=h) (C:=C) (rest:=rest)
  have hcC:(Value.ref C::bm).contains (.ref C)=true:=by simp
  unfold isInstance
  repeat (first | with_reducible refine wpAny_loadPart_at hg ?_ | (with_reducible refine wpAny_isSubtype_exc hC1 ?_;rw [hcC]) | wp_step)
  show wpAny _ _ (typeLookup (.ref C) _) _ _ _
  refine hi _ _ _ _ c6 ?_
  refine wpAny_holding (wpAny_bind (hb _ _ _ _ _ c6 ?_))
  refine wpAny_bind (wpAny_mono hq (fun r s' hr=>?_) fun _ _ x=>x)
  obtain ⟨rfl,hQ⟩:=hr
  wp_walk
  exact hQ
theorem tK (F:ExcBaseFacts B newId initId bmB) (T:OwnTail h bmB bm) {rest:List Value} {init:Value} {Q:Value→Shared→Prop}
    (hC:h.get? C=some (excClassObj nm q C N bs bm hdct sn sub ab col dd k0 k1 k2 k3 k5 newId)) (hi:Looks (model prog w) h (typeLookup (.ref C) "__init__") (some init)) (hb:∀ self,Looks (model prog w) h (bindSpecial init self) (init,[self]))
    (hq:wpAny (model prog w) (A.under (.builtin "type.__call__" ⟨.ref C::rest,[]⟩)) (call init (.ref (h.objs.size+1)::rest)) (fun r s'=>r = .none∧Q (.ref (h.objs.size+1)) s') E ⟨vq h C rest,g,d,t,os⟩) (hrest:rest.length≤sizeLine) :
    wpAny (model prog w) A (call (.ref C) rest) Q E ⟨h,g,d,t,os⟩:=by
  have f1:=tc_lookup
  have f2:=tc_bind (.ref C)
  have hT:(⟨h,g,d,t,os⟩:Shared).TypeIs (.ref C) "type" := ⟨_,hC,rfl⟩
  refine wpAny_call (codeAny_of_tree ?_)
  show wpAny _ _ (callAny (.ref C) _) _ _ _
  repeat (any_goals (first | assumption | with_reducible refine wpAny_loadPart_at hC ?_ | wp_step))
  refine ⟨rfl,?_⟩
  exact codeAny_call_builtin_at (Code.quiet_builtin _ (by decide +kernel)) entry_typeCall (wpAny_check_type_call_sub hC (nu F T hC hi hb hq hrest))
theorem tH (F:ExcBaseFacts B newId initId bmB) (T:OwnTail h bmB bm) {e a0:Addr} {oe:Obj} {vs:Array Value} {rest:List Value} {Q:Value→Shared→Prop}
    (hC:h.get? C=some (excClassObj nm q C N bs bm hdct sn sub ab col dd k0 k1 k2 k3 k5 newId)) (he:h.get? e=some oe) (hcls:oe.cls = .ref C) (hd:oe.data = .fields vs) (hz : 0 < vs.size) (h0:vs[0]?=some (.ref a0))
    (hq:∀ h',h'=(h.push { cls:=.type "tuple",data:=.seq rest.toArray }).update e (Obj.mapFields (·.setIfInBounds 0 (.ref h.objs.size)))→Q .none ⟨h',g,d,t,os⟩) (hrest:rest.length≤sizeLine) :
    wpAny (model prog w) A (call (.builtin initId) (.ref e::rest)) Q E ⟨h,g,d,t,os⟩:=by
  refine wpAny_call (codeAny_call_builtin F.init.plain F.initEntry (wpAny_check_init_subT F T hC he hcls ?_))
  obtain ⟨oc,od,da,sl⟩:=oe
  dsimp only at hcls hd
  subst hcls hd
  unfold Builtin.«BaseException.__init__»
  repeat (first | with_reducible refine wpAny_loadPart_at he ?_ | wp_step)
  rw [h0]
  refine wpAny_pure ?_
  refine wpAny_bind (wpAny_setField (Heap.get?_push_of_some _ he) rfl hz (wpAny_letGo ?_))
  exact wpAny_pure (hq _ rfl)
end
section
variable {M:Model} {A:Around} {E:Value→Shared→Prop} {env:Env}
variable {nm q:Str} {C N:Addr} {bs bm:List Value} {hdct:Bool} {sn:List Str} {sub:List Value} {ab:Bool} {col:Option Bool} {dd:Option Addr} {k0 k1 k2 k3 k5:Option Value} {newId:String}
theorem lC {s:Shared} {x:Sem Value} {Q:Flow→Shared→Prop} (hbase:bm.contains (.type "BaseException")=true) (hh:A.handled=none)
    (h:wpAny M A x (fun v s₁=>∃ e oe vs,v = .ref e∧s₁.heap.get? C=some (excClassObj nm q C N bs bm hdct sn sub ab col dd k0 k1 k2 k3 k5 newId) ∧
      s₁.heap.get? e=some oe∧oe.cls = .ref C∧oe.data = .fields vs∧vs[1]?=some .none∧E (.ref e) s₁) E s) :
    wpAny M A (raiseStmt env (some x) none) Q E s:=by
  have hcB:(Value.ref C::bm).contains (.type "BaseException")=true:=by rw [List.contains_cons,hbase,Bool.or_true]
  unfold raiseStmt
  refine wpAny_bind (wpAny_mono h (fun v s₁ h₁=>?_) fun _ _ x=>x)
  obtain ⟨e,oe,vs,rfl,hC,he,hcls,hd,h1,hE⟩:=h₁
  obtain ⟨hp,g,d,tk,os⟩:=s₁
  have hnd:∀ cd,oe.data≠.cls cd:=fun cd z=>by rw [hd] at z;cases z
  obtain ⟨oc,od,da,sl⟩:=oe
  dsimp only at hcls hd
  subst hcls hd
  repeat (first | with_reducible refine wpAny_loadPart_at he ?_ | with_reducible refine wpAny_loadPart_at hC ?_ | (with_reducible refine wpAny_isSubtype_exc hC ?_;rw [hcB]) | wp_step)
  rw [h1]
  refine wpAny_pure ?_
  rw [if_neg (by decide)]
  exact wpAny_pure (wpAny_raiseNew_none hh hE)
end
abbrev xcx (X:Cx) (Ex:St→XK):Cx:=X.i0 (XS X Ex)
section
variable {X:Cx} {Ex:St→XK} {st:List Stmt} {t:TS}
theorem gu.dm {E:Value→Shared→Prop} {pins:List (Addr×Obj)} {H:Hp} {b:Addr} (o:gu (X.i0 E) pins H b):gu X pins H b:=⟨o.no,o.ab,o.lo,o.ce,o.pi⟩
theorem aV:PaX (xcx X Ex) Ex:=fun _ _ ⟨pins,σ,H,x,C,dx,T,fl,a,I,b,c,o,oT,q⟩=>
  ⟨pins,σ,H,x,C,dx,T,fl,a,I.dm,b,c,o.dm,fun t ht=>(oT t ht).dm,q⟩
theorem PSs.x (h:PSs (xcx X Ex) st t) (hx:PaX X Ex):PSs X st t:=fun pins s σ H D I hw=>wpAny_mono (h pins s σ H D (I.i0 _) hw) (fun _ _ q=>q.dm) hx
theorem But.mono {x:Addr} {T:Option Addr} {fs fs':List Addr} {h h':Heap} (b:But x T fs h h') (m:∀ a∈fs,a∈fs'):But x T fs' h h':=⟨fun c o q n k f=>b.keep c o q n k fun z=>f (m c z),b.slot,b.there⟩
end
section
variable {P:Program} {w:World} {K:Frag} {mg:Str→Option Value} {base:Heap} {x qual:Str} {st:Stmt} {N ps:List Str} {k:Nat} {sp:Sp} {C:Addr}
theorem _root_.L3.Dat.okR (D:Dat K mg x qual st ps) (S:ao N ps (ai st)) (len:∀ vs H Q E,sp vs H Q E→vs.length=ps.length)
    (hbody:∀ (f:Addr) (cdv:Value) (A:Around) (outer:List Env) (s:Shared) (H:Hp) (vs:List V) (Q:VK) (E:XK),bY k (A.deeper (envOfC qual (ai st) s.heap.objs.size f cdv))→sp vs H Q E →
      ∃ t,PSs (xcx (aY (CX1 P w) P w K mg base N qual (ai st) f cdv A outer s H E) (fun _=>E)) (aS st) t∧t { nx:=fun _ H'=>Q .non H',rt:=Q } (start N vs) H):Cal P w K mg base (CX1 P w) x (k+1) ps sp:=
  D.okX S len fun f cdv A outer s H vs Q E hr h=>by
    obtain ⟨t,ht,q⟩:=hbody f cdv A outer s H vs Q E hr h
    exact ⟨t,L4.PSs.x ht rf,q⟩
end
def d7:List Value:=[.type "ValueError",.type "Exception",.type "BaseException",.type "object"]
def dU (K:Frag) (C:Addr) (bmB:List Value) (newId:String):Bool:=match K.lookup C with
  | some ⟨.type "type",_,.cls cd,sl⟩=>(match cd.mro,sl.toList with
    | .ref c::bm,[_,_,_,_,some (.builtin n),_]=>c == C && n == newId && !cd.hasDel && tailIn K bmB bm
    | _,_=>false)
  | _=>false
theorem qy {K:Frag} {h:Heap} {C:Addr} {bmB:List Value} {newId:String} (X:K.In h) (z:dU K C bmB newId=true):∃ nm q N bs bm hdct sn sub ab col dd k0 k1 k2 k3 k5,
    h.get? C=some (excClassObj nm q C N bs bm hdct sn sub ab col dd k0 k1 k2 k3 k5 newId)∧OwnTail h bmB bm:=by
  unfold dU at z
  split at z
  · rename_i dd cd sl ho
    split at z
    · rename_i c bm k0 k1 k2 k3 n k5 hm hs
      simp only [Bool.and_eq_true,beq_iff_eq,Bool.not_eq_true'] at z
      obtain ⟨⟨⟨rfl,rfl⟩,Eg⟩,ht⟩:=z
      obtain ⟨nm,bs,mro,ns,qn,hd,sn,sub,ab,col,del⟩:=cd
      dsimp only at hm Eg
      subst hm Eg
      obtain ⟨l⟩:=sl
      simp only at hs
      subst hs
      exact ⟨nm,qn,ns,bs,bm,hd,sn,sub,ab,col,dd,k0,k1,k2,k3,k5,X _ _ ho,tail_of_in X ht⟩
    · cases z
  · cases z
structure nI (K:Frag) (mg:Str→Option Value) (x:Str) (C:Addr):Prop where
  ok:dU K C d7 "ValueError.__new__" = true
  init:findIn K (.ref C) "__init__" = some (some (.builtin "ValueError.__init__"))
  kp:keepIn K (.ref C)=true
  mg:mg x=some (.ref C)
def zQ (C:Addr) (Ex:St→XK) (tl:TA):TS:=fun _ σ H=>tl σ H fun vs H1=>vs.length≤1000∧Ex σ (.ref C) none H1
theorem gJ {X:Cx} {Ex:St→XK} {x:Str} {C:Addr} {e:Expr} {es:List Expr} {t:TA} {np cpos pos:Pos} (O:nI X.K X.mg x C) (hc:X.calm=true) (hx:PaX X Ex) (ha:PA X (e::es) t) (hg:Gl X x:=by rfl)
    (hdb:(x == ("__debug__" : Str))=false:=by decide) (he:starEach (e::es) X.env=(false,eval e X.env)::starEach es X.env:=by rfl) (hpl:(backTo cpos (starEach es X.env)).any (·.1)=false:=by rfl) :
    PS X (.Raise (some (.Call (.Name x np) (e::es) [] cpos)) none pos) (zQ C Ex t):=by
  intro pins s σ H D I h
  obtain ⟨nm,q,N,bs,bm,hdct,sn,sub,ab,col,dd,k0,k1,k2,k3,k5,hC,T⟩:=qy I.ok.mod.kin O.ok
  rw [arm_exec_Raise]
  refine wpAny_bind (wpAny_standAt (lC (C:=C) (nm:=nm) (q:=q) (N:=N) (bs:=bs) (bm:=bm) (hdct:=hdct) (sn:=sn) (sub:=sub) (ab:=ab) (col:=col) (dd:=dd) (k0:=k0) (k1:=k1) (k2:=k2) (k3:=k3) (k5:=k5) (newId:="ValueError.__new__") (T.hasType (by decide +kernel)) (I.ok.hd hc) (wpAny_bind ?_)))
  refine wpAny_Call_Name_kw (eZ I hg O.mg ?_ hdb)
  refine callWith_K (h₀:=X.base) I.ok.mod.kin O.kp (thn (ha cpos pins s σ H _ I h) fun us s1 ⟨vs,H1,I1,r,hz,qx⟩=>⟨I1.kIn,?_⟩) he hpl
  have hl:us.length≤sizeLine:=by rw [← r.length];exact Nat.le_of_lt (small1000 hz)
  have T1:=T.keeps I1.bk
  have hC1:=I1.bk _ _ hC
  obtain ⟨hp,g,d,tk,os⟩:=s1
  show wpAny (model X.prog X.w) X.A (call (.ref C) us) _ _ _
  refine tK PySem.F.excBase_ValueError T1 hC1 (looks_findIn I1.kIn O.init) (fun self=>Looks.of_pure (PySem.F.excBase_ValueError.init.bind self)) ?_ hl
  refine tH PySem.F.excBase_ValueError (T1.keeps c6) (c6 _ _ hC1) g9 rfl rfl (Nat.zero_lt_succ _) rfl (fun h3 e3=>⟨rfl,?_⟩) hl
  have kp:∀ b o,hp.get? b=some o→h3.get? b=some o:=fun b o z=>by
    rw [e3,Heap.get?_update_other _ _ (Nat.ne_of_gt (Nat.lt_succ_of_lt (Heap.lt_size z)))]
    exact Heap.get?_push_of_some _ (c6 _ _ z)
  have hz3:(vq hp C us).objs.size=hp.objs.size+2:=by rw [Heap.size_push,Heap.size_push]
  have g3:=Heap.get?_update_self (Obj.mapFields (·.setIfInBounds 0 (.ref (vq hp C us).objs.size))) (Heap.get?_push_of_some { cls:=.type "tuple",data:=.seq us.toArray } (g9 (h:=hp) (C:=C) (rest:=us))) rfl
  rw [← e3] at g3
  have I3:Inv X pins σ H1 ⟨h3,g,d,tk,os⟩:=I1.kept (t':=tk) kp
  refine wpAny_bind (wpAny_standAt (wpAny_pure ⟨_,_,_,rfl,kp _ _ hC1,g3,rfl,rfl,rfl,hx _ _ ⟨pins,σ,H1,hp.objs.size+1,.ref C,none,none,.none,rfl,I3,⟨_,_,g3,rfl,rfl,rfl,rfl,fun t ht=>by cases ht⟩,.inl rfl,fT I1 (Nat.le_succ _) (I1.hok.fresh (Nat.le_succ _)),(fun t ht=>by cases ht),qx⟩⟩))
def Lj (x:Addr) (C:Value) (dx:Option Addr):Heap→Prop:=fun h=>∃ oe vs,h.get? x=some oe∧oe.cls=C∧oe.dict=dx∧oe.data = .fields vs
abbrev Lk (x:Addr) (C:Value) (dx:Option Addr):HO:=.ext (Lj x C dx)
section
variable {X:Cx} {pins:List (Addr×Obj)} {σ : St} {H:Hp} {s:Shared}
theorem yW {x:Addr} {φ : Heap→Prop} (I:Inv X pins σ H s) (o:gu X pins H x) (p : φ s.heap) (th:∃ ob,s.heap.get? x=some ob) (st:∀ h1 h2:Heap,φ h1→(∀ ob,h1.get? x=some ob→h2.get? x=some ob)→φ h2):Inv X pins σ (upd H x (.ext φ)) s:=by
  have ne:∀ b u,H b=some u→b≠x:=fun b u e z=>by rw [z,o.no] at e;cases e
  refine ⟨I.ok,I.os,I.bare,⟨I.base.keep,I.base.slot,fun b ob e n hx=>?_,I.base.there,fun b xs e=>?_,fun b ob u e=>?_,fun b ps e=>?_⟩,I.loc,I.cell,?_,fun y c e=>?_,fun q hq=>?_,fun b u e=>?_,I.len⟩
  · rw [au (Nat.ne_of_lt (Nat.lt_of_lt_of_le (Heap.lt_size e) o.ab))];exact I.base.free b ob e n hx
  · have:=I.base.tups b xs e;rw [au (ne _ _ this)];exact this
  · have:=I.base.ji b ob u e;rw [au (ne _ _ this)];exact this
  · obtain ⟨m,h⟩:=I.base.i7 b ps e
    exact ⟨m,by rw [au (ne _ _ h)];exact h⟩
  · rw [au (Ne.symm o.lo)];exact I.free
  · rw [au (o.ce y c e)];exact I.freeC y c e
  · obtain ⟨a,b,r⟩:=I.pin q hq
    exact ⟨a,by rw [au (o.pi q hq)];exact b,r⟩
  · by_cases z:b=x
    · subst z;rw [aB] at e;cases e;exact ⟨p,th,st⟩
    · rw [au z] at e
      exact (I.hok b u e).stay (fun _ _ _ q=>q) (fun c q=>by rw [au (ne _ _ q)];exact q) fun c xs q=>by rw [au (ne _ _ q)];exact q
end
abbrev Cx.pinned (X:Cx) (pins:List (Addr×Obj)):Cx:={ X with pn:=X.pn++pins }
abbrev Cx.hand (X:Cx) (x:Addr):Cx:={ X with A:=X.A.mark (some (.ref x)),calm:=false,xe:=fun _ _=>False }
section
variable {X:Cx} {pins lG:List (Addr×Obj)} {σ : St} {H:Hp} {s:Shared}
theorem Gz (ok:X.Ok):(Cx.pinned X pins).Ok:=⟨ok.mod,ok.kind,ok.glob,ok.blt,ok.above,ok.inj,ok.has,ok.cab,ok.hd,ok.frames,ok.stk,ok.exf,ok.bs,ok.bsz,ok.noex,ok.exfs,ok.g8,ok.frf⟩
theorem AU (ok:(Cx.pinned X pins).Ok):X.Ok:=⟨ok.mod,ok.kind,ok.glob,ok.blt,ok.above,ok.inj,ok.has,ok.cab,ok.hd,ok.frames,ok.stk,ok.exf,ok.bs,ok.bsz,ok.noex,ok.exfs,ok.g8,ok.frf⟩
theorem Ec (I:Inv X pins σ H s):Inv (Cx.pinned X pins) [] σ H s:=⟨Gz I.ok,I.os,I.bare,I.base,I.loc,I.cell,I.free,I.freeC,fun p hp=>I.pin p (by simpa using hp),I.hok,I.len⟩
theorem fK (I:Inv (Cx.pinned X pins) lG σ H s):Inv X pins σ H s:=⟨AU I.ok,I.os,I.bare,I.base,I.loc,I.cell,I.free,I.freeC,fun p hp=>I.pin p (List.mem_append_left _ hp),I.hok,I.len⟩
theorem jW {b:Addr} (o:gu (Cx.pinned X pins) lG H b):gu X pins H b:=⟨o.no,o.ab,o.lo,o.ce,fun p hp=>o.pi p (List.mem_append_left _ hp)⟩
theorem sX {x:Addr} (I:Inv X pins σ H s):Inv (Cx.hand X x) pins σ H s:=
  ⟨⟨I.ok.mod,I.ok.kind,I.ok.glob,I.ok.blt,I.ok.above,I.ok.inj,I.ok.has,I.ok.cab,(fun z=>absurd z Bool.false_ne_true),I.ok.frames,I.ok.stk,I.ok.exf,I.ok.bs,I.ok.bsz,I.ok.noex,I.ok.exfs,I.ok.g8,I.ok.frf⟩,I.os,I.bare,I.base,I.loc,I.cell,I.free,I.freeC,I.pin,I.hok,I.len⟩
theorem fW {x:Addr} (ok:X.Ok) (I:Inv (Cx.hand X x) pins σ H s):Inv X pins σ H s:=⟨ok,I.os,I.bare,I.base,I.loc,I.cell,I.free,I.freeC,I.pin,I.hok,I.len⟩
theorem z0 {E:Value→Shared→Prop} {D:Ends} {f:Flow} {s':Shared} (h:SP ((Cx.pinned X pins).i0 E) lG D f s'):SP X pins D f s':=by
  have h:=h.dm
  cases f with
  | next=>obtain ⟨σ',H',I,q⟩:=h;exact ⟨σ',H',fK I,q⟩
  | brk=>obtain ⟨σ',H',I,q⟩:=h;exact ⟨σ',H',fK I,q⟩
  | cont=>obtain ⟨σ',H',I,q⟩:=h;exact ⟨σ',H',fK I,q⟩
  | ret u=>obtain ⟨v,σ',H',I,r,q⟩:=h;exact ⟨v,σ',H',fK I,r,q⟩
theorem vJ {M:Model} {E:Value→Shared→Prop} {Q:Shared→Prop} {x:Addr} {C fl:Value} {dx T:Option Addr} (hs:X.stack=X.env::X.outer) (hf:X.env.frame=some X.env.locals) (I:Inv X pins σ H s) (ex:ExcAt s.heap x C dx T fl) (hfl:fl = .none∨fl=rawInt X.env.locals) (ox:gu X pins H x) (oT:∀ t,T=some t→gu X pins H t)
    (h:∀ s' t,Inv X pins σ H s'→ExcAt s'.heap x C dx (some t) .none→gu X pins H t→Q s') :
    wpAny M X.A (noteFrame (.ref x) X.env) (fun _ s2=>wpAny M X.A (setFlight (.ref x) none) (fun _ s3=>Q s3) E s2) E s:=by
  have hfr:=I.ok.frames
  have hst:=I.stack
  rw [hs] at hfr hst
  refine lK (base:=X.base) hfr hst hf ex hfl fun h1 t1 a b c=>?_
  have ot:gu X pins H t1:=by
    rcases c with c | c
    · exact oT t1 c.symm
    · exact fT I c (I.hok.fresh c)
  have J:=jA I ox oT (by rw [hs];exact b)
  exact fQ (fr:=none) a fun h2 a2 b2=>h _ t1 (jA J ox (fun t ht=>by cases ht;exact ot) (b2.mono fun _ z=>absurd z (by simp))) a2 ot
end
def Ge (K:Frag) (CH:Value) (tb:(St→XK)→TS) (th:TS) (Ex:St→XK):TS:=fun D σ H=>
  tb (fun σ' C dx H'=>∃ b,exmOne K C CH=some b∧if b=true then th D σ' H' else Ex σ' C dx H') D σ H
section
variable {X:Cx} {Ex:St→XK} {body suite:List Stmt} {b₀ : Stmt} {cx n:Str} {np hpos pos:Pos} {CH:Addr} {i:Nat} {tb:(St→XK)→TS} {th:TS}
theorem yO {M:Model} {h:Heap} {x:Addr} {C:Value} {dx T:Option Addr} {fl:Value} (ex:ExcAt h x C dx T fl):Looks M h (typeOf (.ref x)) C:=by
  obtain ⟨oe,vs,e1,e2,_⟩:=ex
  rw [← e2]
  exact (Looks.ld e1).andThen .now
theorem DC {pins:List (Addr×Obj)} {σ : St} {H:Hp} {s:Shared} {x t:Addr} {C fl:Value} {dx:Option Addr} {Q:Flow→Shared→Prop} (hf:X.env.frame=some X.env.locals) (hx:PaX X Ex) (I:Inv X pins σ H s) (ex:ExcAt s.heap x C dx (some t) fl) (ox:gu X pins H x) (ot:gu X pins H t) (q:Ex σ C dx H) :
    wpAny (model X.prog X.w) X.A (handleBy (.ref x) X.env []) Q X.xe s:=by
  refine wpAny_handleBy_nil ?_
  unfold PySem.passOn
  obtain ⟨oe,vs,e1,e2,e3,e4,e5,e6⟩:=id ex
  refine wpAny_bind (wpAny_field e1 e4 e5 ?_)
  rw [if_neg (by simp)]
  refine wpAny_bind (fQ (fr:=X.env.frame) ex fun h2 a2 b2=>wpAny_throw (hx _ _ ?_))
  exact ⟨pins,σ,H,x,C,dx,some t,_,rfl,jA I ox (fun t ht=>by cases ht;exact ot) (b2.mono fun _ z=>absurd z (by simp)),a2,.inr (by rw [hf];rfl),ox,fun t ht=>by cases ht;exact ot,q⟩
theorem Gu (hs:X.stack=X.env::X.outer) (hf:X.env.frame=some X.env.locals) (hm:X.mg cx=some (.ref CH)) (hx:PaX X Ex)
    (hb:∀ pins Exb,PSs (xcx (Cx.pinned X pins) Exb) body (tb Exb)) (hh:∀ x,PSs (Cx.hand X x) (b₀ :: suite) th) (hg:Gl X cx:=by rfl) (hdb:(cx == ("__debug__" : Str))=false:=by decide) :
    PS X (.Try body [.ExceptHandler (some (.Name cx np)) none (b₀ :: suite) hpos] [] [] pos) (Ge X.K (.ref CH) tb th Ex):=by
  intro pins s σ H D I h
  refine wpAny_Try_except (wpAny_mono (hb pins _ [] s σ H D ((Ec I).i0 _) h) (fun f s1 q=>?_) (fun e s1 q=>?_))
  · have q:=z0 q
    cases f with
    | next=>obtain ⟨σ',H',I',q⟩:=q;exact aK pins s1 σ' H' D I' q
    | _=>exact q
  · obtain ⟨lG,σ',H',x,C,dx,T,fl,rfl,I',ex,hfl,ox,oT,b,hm2,q⟩:=q
    refine vJ hs hf (fK I') ex hfl (jW ox) (fun t ht=>jW (oT t ht)) fun s2 t I2 ex2 ot=>?_
    have ox:=jW ox
    refine wpAny_handleBy_cons (codeAny_handlers_test ?_) (by intro z;cases z)
    refine eZ (X:=Cx.hand X x) (sX I2) hg hm ?_ hdb
    refine (exm_one I2.kIn (yO ex2) hm2).here ?_
    cases b with
    | false=>exact DC hf hx I2 ex2 ox ot q
    | true=>
      refine codeAny_handlers_suite ?_
      refine fQ (fr:=none) ex2 fun h3 a3 b3=>?_
      have I3:=jA I2 ox (fun t ht=>by cases ht;exact ot) (b3.mono fun _ z=>absurd z (by simp))
      refine wpAny_mono (hh x pins _ _ _ D (sX I3) q) (fun f s6 r=>?_) fun _ _ z=>False.elim z
      cases f with
      | next=>obtain ⟨σ6,H6,I6,q6⟩:=r;exact ⟨_,H6,fW I.ok I6,q6⟩
      | brk=>obtain ⟨σ6,H6,I6,q6⟩:=r;exact ⟨_,H6,fW I.ok I6,q6⟩
      | cont=>obtain ⟨σ6,H6,I6,q6⟩:=r;exact ⟨_,H6,fW I.ok I6,q6⟩
      | ret u=>obtain ⟨v,σ6,H6,I6,r6,q6⟩:=r;exact ⟨v,_,H6,fW I.ok I6,r6,q6⟩
end
structure zw (K:Frag) (C:Addr):Prop where
  ga:findIn K (.ref C) "__getattribute__" = some (some (.builtin "BaseException.__getattribute__"))
  gh:findIn K (.ref C) "__getattr__" = some none
  bs:mroIn K C (.type "BaseException")=some true
  ob:mroIn K C (.type "object")=some true
  ca:findIn K (.ref C) "__class__" = some (some (.builtin "object.__class__"))
  cg:specialIn K (.builtin "object.__class__") "__get__" = some (some (.builtin "getset_descriptor.__get__"))
  ct:takesIn K (.builtin "object.__class__")=some true
  cd:(clsIn K C).isSome=true
def ExD (H:Hp):Option Addr→Prop
  | none=>True
  | some d=>∃ fs,H d=some (.xd fs)
structure ExA (K:Frag) (H:Hp) (x C:Addr) (dx:Option Addr):Prop where
  at_:H x=some (Lk x (.ref C) dx)
  g:zw K C
  d:ExD H dx
theorem Gy {X:Cx}:PaX X.nox (fun _ _ _ _=>False):=fun _ _ ⟨_,_,_,_,_,_,_,_,_,_,_,_,_,_,q⟩=>q
section
variable {X:Cx} {K:Frag} {Ex:St→XK} {body suite:List Stmt} {b₀ : Stmt} {cx n:Str} {np hpos pos:Pos} {CH:Addr} {i:Nat} {tb:(St→XK)→TS} {th:TS}
theorem Dq (hK:X.K=K) (hs:X.stack=X.env::X.outer) (hf:X.env.frame=some X.env.locals) (hm:X.mg cx=some (.ref CH)) (hx:PaX X Ex)
    (hb:∀ pins Exb,PSs (xcx (Cx.pinned X pins) Exb) body (tb Exb)) (hh:∀ x,PSs (Cx.hand X x) (b₀ :: suite) th) (hg:Gl X cx:=by rfl) (hdb:(cx == ("__debug__" : Str))=false:=by decide) :
    PS X (.Try body [.ExceptHandler (some (.Name cx np)) none (b₀ :: suite) hpos] [] [] pos) (Ge K (.ref CH) tb th Ex):=by
  subst hK
  exact Gu hs hf hm hx hb hh hg hdb
end
section
variable {K:Frag} {σ : St} {H:Hp} {Q:VK} {D:Ends} {tl:TA} {ta:TE} {sp:Sp} {Ex:St→XK} {C:Addr}
theorem EJ (h:tl σ H fun vs H1=>sp vs H1 Q (Ex σ)):zV sp Ex tl σ H Q:=h
def Raises (C:Addr) (Ex:XK) (vs:List V) (H:Hp):Prop:=vs.length≤1000∧Ex (.ref C) none H
theorem Ew (h:tl σ H fun vs H1=>Raises C (Ex σ) vs H1):zQ C Ex tl D σ H:=h
theorem By {E:XK} {v:V} (h:E (.ref C) none H):Raises C E [v] H:=⟨(by show 1≤1000;decide),h⟩
def Fx (K:Frag) (CH:Value) (th:TS) (Ex:St→XK) (D:Ends):St→XK:=fun σ' C dx H'=>∃ b,exmOne K C CH=some b∧if b=true then th D σ' H' else Ex σ' C dx H'
theorem JB {CH:Value} {tb:(St→XK)→TS} {th:TS} (h:tb (Fx K CH th Ex D) D σ H):Ge K CH tb th Ex D σ H:=h
theorem jh {CH C:Value} {th:TS} {dx:Option Addr} (e:exmOne K C CH=some true) (h:th D σ H):Fx K CH th Ex D σ C dx H:=⟨true,e,by rw [if_pos rfl];exact h⟩
end
open Builtin Builtin.ObjectAttr
inductive cZ:List Value→Prop
  | base:cZ d7
  | own {c:Addr} {r:List Value}:cZ r→cZ (.ref c::r)
theorem rX (self:Value) {l:List Value} (h:cZ l):refuseLoop self "__setattr__" l=pure ():=by
  induction h with
  | base=>exact PySem.F.store_ValueError.passes self
  | own _ ih=>rw [refuseLoop_ref];exact ih
section
variable {prog:Program} {w:World} {A:Around} {E:Value→Shared→Prop} {s:Shared} {K:Frag} {x C:Addr} {ox:Obj} {od:Option Obj} {name:Str} {v:Value} {cd:ClassData}
theorem jH {R:Result→Shared→Prop} {tk:Tok} {r:Option Value} (X:K.In s.heap) (I:InstAt s.heap x ox C od) (G:zw K C) (hc:clsIn K C=some cd) (ho:cZ cd.mro) (ht:takerIn K C name=some r)
    (h:∀ b,wpAny (model prog w) A.in1 (match r with | some a=>setByDescriptor a (.ref x) v | none=>storeInOwnDict (.ref x) (.ref C) (.str name tk) name v b)
      (fun fin s'=>match fin with | .done f=>R (.ok f) s' | .again c'=>c'.quiet=true∧codeAny (model prog w) A c' R s') (fun e s'=>R (.error e) s') s) :
    codeAny (model prog w) A (.call (.builtin "object.__setattr__") ⟨[.ref x,.str name tk,v],[]⟩) R s:=by
  have SF:=PySem.F.store_object
  have sub:Looks (model prog w) s.heap (isInstance (.ref x) (.type "object")) true:=I.type.andThen (looks_mroIn X G.ob)
  refine codeAny_call_builtin SF.slot.plain SF.entry (@check_slot (model prog w) _ _ s "object.__setattr__" "object" "__setattr__" (.ref x) [.str name tk,v] [] _ SF.kind SF.split sub (SF.args (.ref x) (.str name tk) v) ?_)
  obtain ⟨attr,ha,hr⟩:=Option.bind_eq_some_iff.mp ht
  have hm:Looks (model prog w) s.heap (mroOf (.ref C)) cd.mro:=(looks_clsIn X hc).andThen .now
  have L3:Looks (model prog w) s.heap (storeTaker? attr) r:=by
    cases attr with
    | none=>cases hr;exact .now
    | some a=>
      obtain ⟨b,hb,rfl⟩:=Option.map_eq_some_iff.mp hr
      refine (looks_takesIn X hb).andThen ?_
      cases b <;> exact .now
  rw [osa_eq,refuse_eq]
  refine wpAny_bind (wpAny_bind (I.type.here (wpAny_bind (hm.here ?_))))
  rw [rX _ ho]
  refine wpAny_pure (wpAny_bind (I.type.here (wpAny_bind ((looks_findIn X ha).here (wpAny_bind (L3.here ?_))))))
  exact h _
theorem BI {Q:Unit→Shared→Prop} {vs:Array Value} (X:K.In s.heap) (I:InstAt s.heap x ox C none) (G:zw K C) (hs:findIn K (.ref C) "__setattr__" = some (some (.builtin "object.__setattr__")))
    (hc:clsIn K C=some cd) (ho:cZ cd.mro) (hh:cd.hasDict=true) (ht:takerIn K C name=some none) (hdn:ox.dict=none) (hda:ox.data = .fields vs)
    (h:∀ h' t,h'.get? x=some { ox with dict:=some s.heap.objs.size }→h'.Ns1 s.heap.objs.size (fun y=>if y=name then some v else none)→(∀ b o,b≠x→s.heap.get? b=some o→h'.get? b=some o)→Q () { s with heap:=h',toks:=t }) :
    wpAny (model prog w) A (setAttr (.ref x) name v) Q E s:=by
  refine set_plain X I hs (jH (s:={ s with toks:=s.toks+1 }) (r:=none) X I G hc ho ht fun b=>?_)
  have hx:=I.at_
  have hcl:=I.cls
  obtain ⟨oc,odi,oda,osl⟩:=ox
  dsimp only at hcl hdn hda hx
  subst hcl hdn hda
  refine wpAny_bind (wpAny_pure (wpAny_bind (wpAny_bind (wpAny_loadPart hx (wpAny_bind (PySem.W.Looks.here (s:={ s with toks:=s.toks+1 }) (PySem.W.looks_clsIn X hc) ?_))))))
  rw [hh,if_neg (by decide)]
  have hxs:x≠s.heap.objs.size:=Nat.ne_of_lt (Heap.lt_size hx)
  have hx1:(s.heap.push { cls:=.type "dict",data:=.dict #[] }).get? x=some ⟨.ref C,none,.fields vs,osl⟩:=Heap.get?_push_of_some _ hx
  show wpAny (model prog w) A.in1 (alloc { cls:=Value.type "dict",data:=Data.dict #[] } >>= fun d=>update x (fun o=>{ cls:=o.cls,dict:=some d,data:=o.data,slots:=o.slots }) >>= fun _=>dictMade (.ref C) x d) _ _ _
  refine wpAny_bind (wpAny_alloc' ?_)
  refine wpAny_bind (wpAny_update' hx1 ?_)
  refine wpAny_pure ?_
  have hgd:((s.heap.push { cls:=.type "dict",data:=.dict #[] }).update x fun o=>{ cls:=o.cls,dict:=some s.heap.objs.size,data:=o.data,slots:=o.slots }).get? s.heap.objs.size
      = some { cls:=.type "dict",data:=.dict #[] }:=(Heap.get?_update_ne _ _ _ _ hxs.symm).trans (Heap.get?_push_at rfl rfl)
  have hnd:((s.heap.push { cls:=.type "dict",data:=.dict #[] }).update x fun o=>{ cls:=o.cls,dict:=some s.heap.objs.size,data:=o.data,slots:=o.slots }).Ns s.heap.objs.size (fun _=>none):=
    ⟨_,#[],_,hgd,rfl,fun e he=>absurd he (by simp),fun _=>rfl⟩
  show wpAny _ _ (storeInDict s.heap.objs.size (.str name _) name v) _ _ _
  unfold storeInDict newKeyGuard
  refine wpAny_bind (wpAny_pure (wpAny_bind (wpAny_nsSet1 (Heap.Ns1.of_empty hnd) fun h' hn' sb=>?_)))
  obtain ⟨oD,esD,epD,hoD,hdD,hcD⟩:=hn'.count (PySem.Within.cons name v PySem.Within.nil)
  refine wpAny_bind (wpAny_lookBehind hoD (by rw [hdD];exact pastItsLine_dict (Nat.le_trans hcD (by rw [List.length_cons,List.length_nil,sizeLine_eq];omega))) ?_)
  refine wpAny_pure (h h' _ ?_ hn' fun b o nb hb=>?_)
  · exact (sb.2 x hxs).trans (Heap.get?_update_self _ hx1 rfl)
  · exact (sb.2 b (Nat.ne_of_lt (Heap.lt_size hb))).trans ((Heap.get?_update_ne _ _ _ _ nb).trans (Heap.get?_push_of_some _ hb))
theorem BH {Q:Unit→Shared→Prop} {dx:Addr} {mA:Str→Option Value} {ns:List Str} {oD:Obj} (X:K.In s.heap) (I:InstAt s.heap x ox C (some oD)) (G:zw K C) (hs:findIn K (.ref C) "__setattr__" = some (some (.builtin "object.__setattr__")))
    (hc:clsIn K C=some cd) (ho:cZ cd.mro) (hh:cd.hasDict=true) (ht:takerIn K C name=some none) (hdn:ox.dict=some dx) (hN:s.heap.Ns1 dx mA) (hw:PySem.Within mA ns) (hsz:ns.length≤sizeLine)
    (h:∀ h' t,h'.Ns1 dx (fun y=>if y=name then some v else mA y)→Heap.SameBut dx s.heap h'→Q () { s with heap:=h',toks:=t }) :
    wpAny (model prog w) A (setAttr (.ref x) name v) Q E s:=by
  refine set_plain X I hs (jH (s:={ s with toks:=s.toks+1 }) (r:=none) X I G hc ho ht fun b=>?_)
  have hx:=I.at_
  have hcl:=I.cls
  obtain ⟨oc,odi,oda,osl⟩:=ox
  dsimp only at hcl hdn hx
  subst hcl hdn
  refine wpAny_bind (wpAny_pure (wpAny_bind (wpAny_bind (wpAny_loadPart hx (wpAny_bind (PySem.W.Looks.here (s:={ s with toks:=s.toks+1 }) (PySem.W.looks_clsIn X hc) ?_))))))
  rw [hh]
  refine wpAny_pure (a:=some dx) (wpAny_bind (wpAny_pure (wpAny_bind ?_)))
  refine wpAny_nsSet1 (s:={ s with toks:=s.toks+1 }) hN fun h' hn2 hs2=>?_
  obtain ⟨oD,esD,epD,hoD,hdD,hcD⟩:=hn2.count (PySem.Within.cons name v hw)
  refine wpAny_bind (wpAny_lookBehind hoD (by rw [hdD];exact pastItsLine_dict (Nat.le_trans hcD (by rw [List.length_cons];omega))) ?_)
  exact wpAny_pure (h _ _ hn2 hs2)
end
def ExN (x:Addr) (C:Value) (dx:Option Addr):Heap→Prop:=fun h=>∃ oe a0,h.get? x=some oe∧oe.cls=C∧oe.dict=dx∧oe.data = .fields #[.ref a0,.none,.none,.none,.bool false,.none]
abbrev gD (x:Addr) (C:Value) (dx:Option Addr):HO:=.ext (ExN x C dx)
def XdP (d:Addr) (fs:List (Str×V)):Heap→Prop:=fun h=>∃ mA,h.Ns1 d mA∧(∀ f,gq (fs.lookup f) (mA f))∧PySem.Within mA (fs.map (·.1))
abbrev XdO (d:Addr) (fs:List (Str×V)):HO:=.ext (XdP d fs)
def ers (H:Hp) (x:Addr):Hp:=fun b=>if b=x then none else H b
theorem l8 {H:Hp} {x:Addr}:ers H x x=none:=if_pos rfl
theorem ia {H:Hp} {x b:Addr} (h:b≠x):ers H x b=H b:=if_neg h
theorem ExN.stay {x:Addr} {C:Value} {dx:Option Addr}:∀ h1 h2:Heap,ExN x C dx h1→(∀ ob,h1.get? x=some ob→h2.get? x=some ob)→ExN x C dx h2:=fun _ _ ⟨oe,a,e,b⟩ k=>⟨oe,a,k _ e,b⟩
theorem XdP.stay {d:Addr} {fs:List (Str×V)}:∀ h1 h2:Heap,XdP d fs h1→(∀ ob,h1.get? d=some ob→h2.get? d=some ob)→XdP d fs h2:=fun _ _ ⟨mA,N,r⟩ k=>⟨mA,N.at k,r⟩
section
variable {X:Cx} {pins:List (Addr×Obj)} {σ : St} {H:Hp} {s:Shared} {x C:Addr} {dx:Option Addr}
theorem yX {φ : Heap→Prop} (I:Inv X pins σ H s) (e:H x=some (.ext φ)):Inv X pins σ (ers H x) s:=by
  have nn:∀ b,H b=none→ers H x b=none:=fun b n=>by unfold ers;split <;> first | rfl | exact n
  have ne:∀ b u,H b=some u→(∀ ψ,u≠.ext ψ)→b≠x:=fun b u q n z=>by rw [z,e] at q;cases q;exact n _ rfl
  refine ⟨I.ok,I.os,I.bare,⟨I.base.keep,I.base.slot,fun b ob q n hx=>nn _ (I.base.free b ob q n hx),I.base.there,fun b xs q=>?_,fun b ob u q=>?_,fun b ps q=>?_⟩,I.loc,I.cell,nn _ I.free,fun y c q=>nn _ (I.freeC y c q),fun q hq=>?_,fun b u q=>?_,I.len⟩
  · have:=I.base.tups b xs q;rw [ia (ne _ _ this fun _ z=>by cases z)];exact this
  · have:=I.base.ji b ob u q;rw [ia (ne _ _ this fun _ z=>by cases z)];exact this
  · obtain ⟨m,h⟩:=I.base.i7 b ps q
    exact ⟨m,by rw [ia (ne _ _ h fun _ z=>by cases z)];exact h⟩
  · obtain ⟨a,b,r⟩:=I.pin q hq
    exact ⟨a,nn _ b,r⟩
  · by_cases z:b=x
    · rw [z,l8] at q;cases q
    · rw [ia z] at q
      exact (I.hok b u q).stay (fun _ _ _ r=>r) (fun c r=>by rw [ia (ne _ _ r fun _ z=>by cases z)];exact r) fun c xs r=>by rw [ia (ne _ _ r fun _ z=>by cases z)];exact r
end
structure xC (K:Frag) (mg:Str→Option Value) (R:Str) (CR:Addr):Prop where
  gm:mg R=some (.ref CR)
  sg:specialIn K (.ref CR) "__getattribute__" = some (some (.builtin "type.__getattribute__"))
  rd:readsIn K CR (.type "type")=true
  fc:findCls K (.ref CR) (.type "type") "__init__" = some (.val (.builtin "ValueError.__init__"))
def uN (K:Frag):RL:=fun vs H Q=>∃ (x C:Addr) (dx:Option Addr) (rest:List V),vs = .ref x::rest∧H x=some (gD x (.ref C) dx)∧dU K C d7 "ValueError.__new__" = true∧rest.length≤1000∧Q .non H
def zX (K:Frag) (t:TA):TE:=fun σ H Q=>t σ H fun vs H1=>uN K vs H1 Q
theorem Cu {H:Hp} {x:Addr} {o:HO} (h:H x=some o):upd H x o=H:=by
  funext b
  by_cases z:b=x
  · subst z;rw [aB,h]
  · rw [au z]
section
variable {X:Cx}
theorem se {R:Str} {CR:Addr} {np apos pos:Pos} {e:Expr} {es:List Expr} {t:TA} {pl:Sem Bool} (B:xC X.K X.mg R CR) (ha:PA X (e::es) t) (hg:Gl X R:=by rfl) (hdb:(R == ("__debug__" : Str))=false:=by decide)
    (hst:starEach (e::es) X.env=(false,eval e X.env)::starEach es X.env:=by rfl) (hpl:(backTo pos (starEach es X.env)).any (·.1)=false:=by rfl)
    (ht:eval (.Call (.Attribute (.Name R np) "__init__" apos) (e::es) [] pos) X.env=(do
      let ov ← eval (.Name R np) X.env
      standAt apos.atName
      let (f,first) ← holding [ov] (getMethod ov "__init__" pl)
      callWith pos f first (backTo pos (starEach (e::es) X.env)) (backToKw pos (keywordEach [] X.env))):=by rfl) :
    PE X (.Call (.Attribute (.Name R np) "__init__" apos) (e::es) [] pos) (zX X.K t):=by
  intro pins s σ H Q I h
  refine PySem.W.methodCall_KW (pl:=pl) (eZ I hg B.gm ?_ hdb) ht
  refine method_cls I.kIn B.sg (cls_value I.kIn B.rd B.fc rfl ?_)
  have I0:=I.tok (s.toks+1)
  refine PyProof.Rows.callWith_method1 (first:=[]) (thn (ha pos pins _ σ H _ I0 h) fun us s1 ⟨vs,H1,I1,r,x,C,dx,rest,ev,hx,hC,hz,q⟩=>?_) hst hpl
  subst ev
  cases r with
  | @cons _ u _ us' r0 r1=>
    obtain rfl:u=Value.ref x:=r0
    obtain ⟨⟨oe,a0,e1,e2,e3,e4⟩,_⟩:=(show bJ X.prog X.w H1 s1.heap x (gD x (.ref C) dx) from I1.hok x _ hx)
    obtain ⟨nm,q',N,bs,bm,hdct,sn,sub,ab,col,dd,k0,k1,k2,k3,k5,hCC,T⟩:=qy I1.kIn hC
    have hl:us'.length≤sizeLine:=by rw [← r1.length];exact Nat.le_of_lt (small1000 hz)
    obtain ⟨hp,g,d,tk,os⟩:=s1
    show wpAny (model X.prog X.w) X.A (call (.builtin "ValueError.__init__") (.ref x::us')) _ _ _
    refine tH PySem.F.excBase_ValueError T hCC e1 e2 e4 (Nat.zero_lt_succ _) rfl (fun h3 eh=>?_) hl
    obtain ⟨oc,odd,da,sl⟩:=oe
    dsimp only at e2 e3 e4
    subst e2 e3 e4
    have g3:=Heap.get?_update_self (Obj.mapFields (·.setIfInBounds 0 (.ref hp.objs.size))) (Heap.get?_push_of_some { cls:=.type "tuple",data:=.seq us'.toArray } e1) rfl
    rw [← eh] at g3
    have J:=I1.write (x:=x) (e:=x) (o:=gD x (.ref C) odd) (h':=h3) (t':=tk) (by rw [hx];exact True.intro) (.inl rfl) (fun b u nb hb=>by rw [eh,Heap.get?_update_other _ _ (Ne.symm nb)];exact Heap.get?_push_of_some _ hb) ⟨_,g3⟩ ⟨⟨_,_,g3,rfl,rfl,rfl⟩,⟨_,g3⟩,ExN.stay⟩
    rw [Cu hx] at J
    exact ⟨.non,H1,J,rfl,q⟩
end
structure vN (K:Frag) (C:Addr) (f:Str):Prop where
  g:zw K C
  sa:findIn K (.ref C) "__setattr__" = some (some (.builtin "object.__setattr__"))
  cd:∃ cd,clsIn K C=some cd∧cZ cd.mro∧cd.hasDict=true
  tk:takerIn K C f=some none
def Fb (K:Frag) (f:Str) (x y:V) (H:Hp) (R:Hp→Prop):Prop:=∃ a C dx,x = .ref a∧H a=some (gD a (.ref C) dx)∧vN K C f ∧
  (dx=none→∀ d,H d=none→R (upd (upd H a (gD a (.ref C) (some d))) d (XdO d [(f,y)])))∧∀ d,dx=some d→∃ fs,H d=some (XdO d fs)∧fs.length < 1000∧R (upd H d (XdO d (bN f y fs)))
def FG (K:Frag) (ta tv:TE) (f:Str):TS:=fun D σ H=>tv σ H fun y H1=>ta σ H1 fun x H2=>Fb K f x y H2 fun H3=>D.nx σ H3
section
variable {X:Cx} {pins:List (Addr×Obj)} {σ : St} {H:Hp} {s:Shared}
theorem CZ {A:Around} {E:Value→Shared→Prop} {f:Str} {a:Addr} {x y:V} {u:Value} {R:Hp→Prop} {Q:Unit→Shared→Prop} (I:Inv X pins σ H s) (ex:x = .ref a) (ry:RelV y u) (h:Fb X.K f x y H R)
    (hq:∀ H' s',Inv X pins σ H' s'→R H'→Q () s'):wpAny (model X.prog X.w) A (setAttr (.ref a) f u) Q E s:=by
  obtain ⟨a',C,dx,ex',ha,P,h0,h1⟩:=h
  rw [ex] at ex'
  cases ex'
  obtain ⟨⟨oe,a0,e1,e2,e3,e4⟩,_⟩:=(show bJ X.prog X.w H s.heap a (gD a (.ref C) dx) from I.hok a _ ha)
  obtain ⟨cd,c1,c2,c3⟩:=P.cd
  have nc:notCls oe=true:=by unfold notCls;rw [e4]
  cases dx with
  | none=>
    have J:InstAt s.heap a oe C none:=⟨e1,e2,nc,by rw [e3];trivial⟩
    refine BI I.kIn J P.g P.sa c1 c2 c3 P.tk e3 e4 fun h' t b1 b2 b3=>?_
    have hd:=I.hok.fresh (Nat.le_refl s.heap.objs.size)
    have na:a≠s.heap.objs.size:=Nat.ne_of_lt (Heap.lt_size e1)
    have I1:=I.write (x:=a) (e:=a) (o:=gD a (.ref C) (some s.heap.objs.size)) (h':=h') (t':=t) (by rw [ha];exact True.intro) (.inl rfl) (fun b u nb hb=>b3 b u nb hb) ⟨_,b1⟩ ⟨⟨_,a0,b1,e2,rfl,e4⟩,⟨_,b1⟩,ExN.stay⟩
    have o1:gu X pins (upd H a (gD a (.ref C) (some s.heap.objs.size))) s.heap.objs.size:=fT I (Nat.le_refl _) (by rw [au na.symm];exact hd)
    have pd:XdP s.heap.objs.size [(f,y)] h':=⟨_,b2,fun g=>by
      show gq (List.lookup g [(f,y)]) (if g=f then some u else none)
      by_cases z:g=f
      · subst z;rw [if_pos rfl,lk_hit];exact ry
      · rw [if_neg z,lk_miss (beq_eq_false_iff_ne.mpr z)];trivial,fun g hg=>by
      by_cases z:g=f
      · rw [z];exact List.mem_cons_self
      · exact absurd (show (if g=f then some u else none)=none by rw [if_neg z]) hg⟩
    have I2:=yW I1 o1 pd (let ⟨o,_,_,e,_⟩:=b2;⟨o,e⟩) XdP.stay
    exact hq _ _ I2 (h0 rfl _ hd)
  | some d=>
    obtain ⟨fs,hd,hz,r⟩:=h1 d rfl
    obtain ⟨⟨mA,N,rel,wi⟩,_⟩:=(show bJ X.prog X.w H s.heap d (XdO d fs) from I.hok d _ hd)
    obtain ⟨oD,hoD⟩:∃ o,s.heap.get? d=some o:=let ⟨o,_,_,e,_⟩:=N;⟨o,e⟩
    have J:InstAt s.heap a oe C (some oD):=⟨e1,e2,nc,by rw [e3];exact hoD⟩
    have hz':(fs.map (·.1)).length≤sizeLine:=by rw [List.length_map,sizeLine_eq];omega
    refine BH I.kIn J P.g P.sa c1 c2 c3 P.tk e3 N wi hz' fun h' t b2 sb=>?_
    refine hq _ _ (I.write (x:=d) (e:=d) (o:=XdO d (bN f y fs)) (h':=h') (t':=t) (by rw [hd];exact True.intro) (.inl rfl) (fun b u nb hb=>(sb.2 b nb).trans hb) (let ⟨o,_,_,e,_⟩:=b2;⟨o,e⟩) ⟨⟨_,b2,fun g=>?_,fun g hg=>?_⟩,(let ⟨o,_,_,e,_⟩:=b2;⟨o,e⟩),XdP.stay⟩) r
    · show gq ((bN f y fs).lookup g) (if g=f then some u else mA g)
      rw [gQ]
      by_cases z:g=f
      · rw [if_pos z,if_pos z];exact ry
      · rw [if_neg z,if_neg z];exact rel g
    · by_cases z:g=f
      · rw [z];exact (fG f y fs).1
      · refine (fG f y fs).2 g (wi g fun n=>hg ?_)
        show (if g=f then some u else mA g)=none
        rw [if_neg z];exact n
theorem wM {o value:Expr} {f:Str} {pos pos':Pos} {ta tv:TE} (ha:PE X o ta) (hv:PE X value tv) (hs:swapsWith value (some (.Attribute o f pos')) pos.line X.env=pure false):PS X (.Assign [.Attribute o f pos'] value pos) (FG X.K ta tv f):=by
  intro pins s σ H D I h
  refine plainObj_wpAny_Assign_Attribute (thn (hv pins s σ H _ I h) fun u s1 ⟨y,H1,I1,ry,q⟩=>thn (ha pins s1 σ H1 _ I1 q) fun ov s2 ⟨x,H2,I2,rx,q2⟩=>?_) hs
  obtain ⟨a,C,dx,ex,r⟩:=id q2
  subst ex
  obtain rfl:ov=Value.ref a:=rx
  exact CZ I2 rfl ry q2 fun H3 s3 I3 q3=>⟨σ,H3,I3,q3⟩
end
structure zv (P:Program) (w:World) (K:Frag) (mg:Str→Option Value) (base:Heap) (x:Str) (C:Addr) (k:Nat) (ps:List Str) (sp:Sp):Prop where
  ok:dU K C d7 "ValueError.__new__" = true
  kp:keepIn K (.ref C)=true
  gm:mg x=some (.ref C)
  fn:∃ f fd,findIn K (.ref C) "__init__" = some (some (.ref f))∧typeIn K (.ref f)=some (.type "function")∧eU P w K mg base (CX1 P w) k f fd ps sp∧Binds K fd ps []
def Rz (C x:Addr) (Ex:XK) (r:V) (H:Hp):Prop:=r = .non∧∃ dx,H x=some (gD x (.ref C) dx)∧(dx=none→Ex (.ref C) none (ers H x))∧∀ d,dx=some d→∃ fs,H d=some (XdO d fs)∧d≠x∧Ex (.ref C) (some d) (upd (ers H x) d (.xd fs))
def we (C:Addr) (sp:Sp) (Ex:St→XK) (tl:TA):TS:=fun _ σ H=>tl σ H fun vs H1=>vs.length≤1000∧∀ x,H1 x=none→sp (.ref x::vs) (upd H1 x (gD x (.ref C) none)) (Rz C x (Ex σ)) fun _ _ _=>False
theorem n9 {X:Cx} {Ex:St→XK} {x:Str} {C:Addr} {k:Nat} {ps:List Str} {sp:Sp} {e:Expr} {es:List Expr} {t:TA} {np cpos pos:Pos} (O:zv X.prog X.w X.K X.mg X.base x C k ps sp) (hr:bY (k+1) X.A) (hc:X.calm=true) (hx:PaX X Ex) (ha:PA X (e::es) t) (hg:Gl X x:=by rfl)
    (hdb:(x == ("__debug__" : Str))=false:=by decide) (he:starEach (e::es) X.env=(false,eval e X.env)::starEach es X.env:=by rfl) (hpl:(backTo cpos (starEach es X.env)).any (·.1)=false:=by rfl) :
    PS X (.Raise (some (.Call (.Name x np) (e::es) [] cpos)) none pos) (we C sp Ex t):=by
  intro pins s σ H D I h
  obtain ⟨f,fd,fi,ft,F,fb⟩:=O.fn
  obtain ⟨nm,q,N,bs,bm,hdct,sn,sub,ab,col,dd,k0,k1,k2,k3,k5,hC,T⟩:=qy I.ok.mod.kin O.ok
  rw [arm_exec_Raise]
  refine wpAny_bind (wpAny_standAt (lC (C:=C) (nm:=nm) (q:=q) (N:=N) (bs:=bs) (bm:=bm) (hdct:=hdct) (sn:=sn) (sub:=sub) (ab:=ab) (col:=col) (dd:=dd) (k0:=k0) (k1:=k1) (k2:=k2) (k3:=k3) (k5:=k5) (newId:="ValueError.__new__") (T.hasType (by decide +kernel)) (I.ok.hd hc) (wpAny_bind ?_)))
  refine wpAny_Call_Name_kw (eZ I hg O.gm ?_ hdb)
  refine callWith_K (h₀:=X.base) I.ok.mod.kin O.kp (thn (ha cpos pins s σ H _ I h) fun us s1 ⟨vs,H1,I1,r,hz,qx⟩=>⟨I1.kIn,?_⟩) he hpl
  have hl:us.length≤sizeLine:=by rw [← r.length];exact Nat.le_of_lt (small1000 hz)
  have T1:=T.keeps I1.bk
  have hC1:=I1.bk _ _ hC
  have nx:=I1.hok.fresh (Nat.le_succ s1.heap.objs.size)
  have hq:=qx _ nx
  have I2:=I1.laid (a:=s1.heap.objs.size+1) (o:=gD (s1.heap.objs.size+1) (.ref C) none) (h':=vq s1.heap C us) (t':=s1.toks) c6 (Nat.le_succ _) ⟨⟨_,_,g9,rfl,rfl,rfl⟩,⟨_,g9⟩,ExN.stay⟩
  have r2:Vals (V.ref (s1.heap.objs.size+1)::vs) (Value.ref (s1.heap.objs.size+1)::us):=.cons rfl r
  have hl2:(Value.ref (s1.heap.objs.size+1)::us).length=ps.length:=by rw [← r2.length];exact F.len _ _ _ _ hq
  have hb':=fb _ (Value.ref (s1.heap.objs.size+1)::us) I2.kIn (by rw [List.append_nil];exact hl2)
  rw [List.append_nil] at hb'
  obtain ⟨hp,g,d,tk,os⟩:=s1
  show wpAny (model X.prog X.w) X.A (call (.ref C) us) _ _ _
  refine tK PySem.F.excBase_ValueError T1 hC1 (looks_findIn I1.kIn fi) (fun self=>bind_fn I1.kIn self ft) ?_ hl
  refine wpAny_call (codeAny_mono (F.run _ X.stack _ _ ⟨Value.ref (hp.objs.size+1)::us,[]⟩ (Value.ref (hp.objs.size+1)::us) _ _ (fun _ _ _=>False) (hr.make C us []) (I2.EM.make C us []) hb' r2 hq) fun r s' hq'=>?_)
  cases r with
  | error e=>exact (uY _ _ _ _ _ hq').elim
  | ok fl=>
    cases fl with
    | ret u=>
      obtain ⟨v,H3,I3,rv,ev,dx,hx3,q0,q1⟩:=I2.after hq'
      subst ev
      refine ⟨rv,?_⟩
      obtain ⟨⟨oe,a0,e1,e2,e3,e4⟩,_⟩:=(show bJ X.prog X.w H3 s'.heap (hp.objs.size+1) (gD (hp.objs.size+1) (.ref C) dx) from I3.hok _ _ hx3)
      have ea:ExcAt s'.heap (hp.objs.size+1) (.ref C) dx none .none:=⟨oe,_,e1,e2,e3,e4,rfl,fun t ht=>by cases ht⟩
      have I4:=yX I3 hx3
      have hCs:=I3.bk _ _ hC
      refine wpAny_bind (wpAny_standAt (wpAny_pure ⟨_,oe,_,rfl,hCs,e1,e2,e4,rfl,hx _ _ ?_⟩))
      cases dx with
      | none=>exact ⟨pins,σ,_,hp.objs.size+1,.ref C,none,none,.none,rfl,I4,ea,.inl rfl,fT I1 (Nat.le_succ _) l8,(fun t ht=>by cases ht),q0 rfl⟩
      | some d=>
        obtain ⟨fs,hd,nd,qd⟩:=q1 d rfl
        obtain ⟨⟨mA,N',rel,_⟩,od,_⟩:=(show bJ X.prog X.w H3 s'.heap d (XdO d fs) from I3.hok _ _ hd)
        have hd4:ers H3 (hp.objs.size+1) d=some (XdO d fs):=by rw [ia nd];exact hd
        have I5:=I4.write (x:=d) (e:=d) (o:=.xd fs) (h':=s'.heap) (t':=s'.toks) (by rw [hd4];exact True.intro) (.inl rfl) (fun b u _ hb=>hb) od ⟨mA,N',rel⟩
        exact ⟨pins,σ,_,hp.objs.size+1,.ref C,some d,none,.none,rfl,I5,ea,.inl rfl,fT I1 (Nat.le_succ _) (by rw [au (Ne.symm nd)];exact l8),(fun t ht=>by cases ht),qd⟩
    | _=>exact False.elim hq'
structure mQ (k:Nat) (A:Around):Prop where
  dp:A.depth+3 * k+5 < recursionLimit
  un:A.units+16 * k+200 < cLine
theorem I8 {k:Nat} {A:Around} (r:bY k A):mQ k A:=⟨r.dp,r.un⟩
theorem mQ.deeper {k:Nat} {A:Around} (r:mQ (k+1) A) (env:Env):mQ k (A.deeper env):=
  ⟨by have:=r.dp;show A.depth+1+3 * k+5 < _;omega,by have:=r.un;show A.units+3+16 * k+200 < _;omega⟩
structure xB (P:Program) (w:World) (K:Frag) (mg:Str→Option Value) (base:Heap) (CX:CXT) (k:Nat) (f:Addr) (fd:FuncData) (ps:List Str) (sp:Sp):Prop where
  len:∀ vs H Q E,sp vs H Q E→vs.length=ps.length
  run:∀ (A:Around) (outer:List Env) (s:Shared) (H:Hp) (args:Args) (us:List Value) (vs:List V) (Q:VK) (E:XK),mQ k A→nH P w K mg base A outer s H→BindsTo s fd args (ps.zip us)→Vals vs us→sp vs H Q E →
    codeAny (model P w) A (.call (.ref f) args) (CR CX outer P w H s Q E) s
abbrev cxU (CX:CXT) (P:Program) (w:World) (K:Frag) (mg:Str→Option Value) (base:Heap) (N:List Str) (qual:Str) (scope:Scope) (f:Addr) (cd:Value) (A:Around) (outer:List Env) (s:Shared) (H:Hp) (E:XK):Cx:=
  { aY CX P w K mg base N qual scope f cd A outer s H E with calm:=false }
section
variable {CX:CXT} {P:Program} {w:World} {K:Frag} {mg:Str→Option Value} {base:Heap} {k:Nat} {f:Addr} {N ps:List Str} {sp:Sp}
theorem xB.fn {fd:FuncData} (F:xB P w K mg base CX k f fd ps sp):eU P w K mg base CX k f fd ps sp:=⟨F.len,fun A outer s H args us vs Q E hr=>F.run A outer s H args us vs Q E (I8 hr)⟩
theorem ve {qual:Str} {scope:Scope} {cd:Value} {A:Around} {outer:List Env} {s s1:Shared} {H:Hp} {E:XK} {us:List Value} {vs:List V} (S:ao N ps scope) (e0:nH P w K mg base A outer s H) (hl:vs.length=ps.length) (r:Vals vs us)
    (x:InCallC s s.heap.objs.size (bindL (envOfC qual scope s.heap.objs.size f cd).kindOf (ps.zip us) fun _=>none) (cellsFrom (s.heap.objs.size+1) scope.names []) (bindC (envOfC qual scope s.heap.objs.size f cd).kindOf (ps.zip us) fun _=>none) s1) :
    Inv (cxU CX P w K mg base N qual scope f cd A outer s H E) [] (start N vs) H s1:=by
  have e1:nH P w K mg base { A with handled:=none } outer s H:=⟨e0.frames,e0.mod,e0.bs,e0.bsz,e0.g8,e0.frf,e0.hok,e0.bare⟩
  have I:=oG (CX:=CX) (E:=E) S rfl e1 hl r x
  exact ⟨⟨I.ok.mod,I.ok.kind,I.ok.glob,I.ok.blt,I.ok.above,I.ok.inj,I.ok.has,I.ok.cab,(fun z=>absurd z Bool.false_ne_true),Around.frames_deeper e0.frames,I.ok.stk,I.ok.exf,I.ok.bs,I.ok.bsz,I.ok.noex,I.ok.exfs,I.ok.g8,I.ok.frf⟩,I.os,I.bare,I.base,I.loc,I.cell,I.free,I.freeC,I.pin,I.hok,I.len⟩
theorem HQ {name qual:Str} {params:Arguments} {body:List Stmt} {scope:Scope} {dV kV doc pm cdv ct oc:Value} {an od:Option Addr} {osl:Array (Option Value)}
    (lk:K.lookup f=some ⟨oc,od,.func (PySem.W.fnOf name qual params body scope dV kV doc pm an cdv ct),osl⟩) (hcd:PySem.W.codeIn K cdv qual=true) (S:ao N ps scope)
    (len:∀ vs H Q E,sp vs H Q E→vs.length=ps.length)
    (hbody:∀ (A:Around) (outer:List Env) (s:Shared) (H:Hp) (vs:List V) (Q:VK) (E:XK),mQ k (A.deeper (envOfC qual scope s.heap.objs.size f cdv))→sp vs H Q E →
      ∃ t,PSs (cxU CX P w K mg base N qual scope f cdv A outer s H E) body t∧t { nx:=fun _ H'=>Q .non H',rt:=Q } (start N vs) H) :
    xB P w K mg base CX (k+1) f (PySem.W.fnOf name qual params body scope dV kV doc pm an cdv ct) ps sp:=by
  refine ⟨len,fun A outer s H args us vs Q E hr e0 hb r hsp=>?_⟩
  have hl:=len _ _ _ _ hsp
  have KX:K.In s.heap:=e0.mod.kin.keeps fun b o e=>(e0.bs b o e).1
  have lim:s.heap.NoLimit:=e0.mod.nolimit.keeps fun b o e=>(e0.bs b o e).1
  have hkind:∀ y∈ps.zip us,scope.names.lookup y.1=some .local∨(scope.names.lookup y.1=some .cell∧((cellsFrom (s.heap.objs.size+1) scope.names []).lookup y.1).isSome=true):=fun ⟨n,v⟩ hy=>by
    rcases S.par n (List.of_mem_zip hy).1 with q | q
    · exact .inl q
    · exact .inr ⟨q,PySem.W.cellsFrom_some _ _ _ (.inl q)⟩
  refine codeAny_call_function (by have:=hr.dp;omega) (KX _ _ lk) rfl S.co S.gen rfl (PySem.W.codeRec_of KX hcd) (hb _ _ _ _ ?_)
  refine wpAny_newFunctionEnv_cells S.kind hkind fun env he s1 x=>?_
  subst he
  refine ⟨lim.keeps x.toInCall.keep,codeAny_func ?_⟩
  obtain ⟨t,ht,hq⟩:=hbody A outer s H vs Q E (hr.deeper _) hsp
  have I:Inv (cxU CX P w K mg base N qual scope f cdv A outer s H E) [] (start N vs) H s1:=ve S e0 hl r x
  refine wpAny_mono (ht [] s1 (start N vs) H _ I hq) (fun fl s' hs=>?_) fun e s' hs=>hs
  have fin:∀ {σ':St} {H':Hp} {v:V} {u:Value},Inv (cxU CX P w K mg base N qual scope f cdv A outer s H E) [] σ' H' s'→RelV v u→Q v H'→CE outer P w H s Q u s':=
    fun {σ' H' v u} J rv q=>⟨v,H',J.os,J.bare,J.base,J.hok,rv,q⟩
  cases fl with
  | ret u=>
    obtain ⟨v,σ',H',J,rv,q⟩:=hs
    exact fin J rv q
  | next=>
    obtain ⟨σ',H',J,q⟩:=hs
    exact fin (v:=V.non) (u:=Value.none) J rfl q
  | brk=>
    obtain ⟨_,_,_,q⟩:=hs
    exact False.elim q
  | cont=>
    obtain ⟨_,_,_,q⟩:=hs
    exact False.elim q
end
structure Cr (P:Program) (w:World) (K:Frag) (mg:Str→Option Value) (base:Heap) (CX:CXT) (x:Str) (k:Nat) (ps:List Str) (sp:Sp):Prop where
  ex:∃ f fd,xB P w K mg base CX k f fd ps sp∧Binds K fd ps []∧PySem.W.keepIn K (.ref f)=true∧mg x=some (.ref f)
section
variable {P:Program} {w:World} {K:Frag} {mg:Str→Option Value} {base:Heap} {CX:CXT} {x qual:Str} {st:Stmt} {N ps:List Str} {k:Nat} {sp:Sp}
theorem Cr.cal (c:Cr P w K mg base CX x k ps sp):Cal P w K mg base CX x k ps sp:=let ⟨f,fd,F,r⟩:=c.ex;⟨f,fd,F.fn,r⟩
theorem _root_.L3.Dat.okU (D:Dat K mg x qual st ps) (S:ao N ps (ai st)) (len:∀ vs H Q E,sp vs H Q E→vs.length=ps.length)
    (hbody:∀ (f:Addr) (cdv:Value) (A:Around) (outer:List Env) (s:Shared) (H:Hp) (vs:List V) (Q:VK) (E:XK),mQ k (A.deeper (envOfC qual (ai st) s.heap.objs.size f cdv))→sp vs H Q E →
      ∃ t,PSs (cxU CX P w K mg base N qual (ai st) f cdv A outer s H E).nox (aS st) t∧t { nx:=fun _ H'=>Q .non H',rt:=Q } (start N vs) H):Cr P w K mg base CX x (k+1) ps sp:=by
  obtain ⟨f,fd,F,b,m⟩:=D.ex
  have kp:=F.kp
  obtain ⟨oc,od,kV,doc,pm,an,cdv,ct,osl,rfl,lk,hcd⟩:=F.ex
  refine ⟨f,_,HQ lk hcd S len fun A outer s H vs Q E hr hsp=>?_,b,kp,m⟩
  obtain ⟨t,h,q⟩:=hbody f cdv A outer s H vs Q E hr hsp
  exact ⟨t,h.nox,q⟩
end
theorem CP {α : Type} {o:Option α} {x : α} (e:o=some x):o.isSome=true:=by rw [e];rfl
theorem iN {K:Frag} {C:Addr} {bmB:List Value} {newId:String} (q:excIn K C bmB newId=true):dU K C bmB newId=true:=by
  unfold excIn at q
  unfold dU
  split at q
  · rename_i dd cd sl ho
    split at q
    · rename_i C' bm k0 k1 k2 k3 n k5 hm hs
      simp only [Bool.and_eq_true] at q
      simp only [ho,hm,hs,Bool.and_eq_true]
      exact q.1.1
    · cases q
  · cases q
theorem BJ {K:Frag} {C CR:Addr} {newId:String} {dd:Option Addr} {cd:ClassData} {k0 k1 k2 k3 k5:Option Value} (l:K.lookup C=some ⟨.type "type",dd,.cls cd,#[k0,k1,k2,k3,some (.builtin newId),k5]⟩) (hm:cd.mro = .ref C::.ref CR::d7) (Eg:cd.hasDel=false) (q:excIn K CR d7 newId=true):dU K C d7 newId=true:=by
  have hv:tailIn K d7 d7=true:=by
    show tailIn K d7 (.type "ValueError" :: [.type "Exception",.type "BaseException",.type "object"])=true
    unfold tailIn
    rw [show ((Value.type "ValueError" :: [Value.type "Exception",.type "BaseException",.type "object"]) == d7)=true from beq_self_eq_true d7,Bool.true_or]
  have ht:tailIn K d7 (.ref CR::d7)=true:=by
    unfold excIn at q
    unfold tailIn
    refine Bool.or_eq_true_iff.mpr (.inr ?_)
    split at q
    · rename_i ho
      split at q
      · simp only [Bool.and_eq_true] at q
        simp only [ho,Bool.and_eq_true]
        exact ⟨⟨q.1.2,q.2⟩,hv⟩
      · cases q
    · cases q
  unfold dU
  simp only [l,hm]
  simp [Eg,ht]
theorem cZ.two {C CR:Addr}:cZ (.ref C::.ref CR::d7):=.own (.own .base)
structure tZ (K:Frag) (mg:Str→Option Value) (x qual:Str) (C:Addr) (st:Stmt) (ps:List Str):Prop where
  ok:dU K C d7 "ValueError.__new__" = true
  kp:keepIn K (.ref C)=true
  gm:mg x=some (.ref C)
  ex:∃ f fd,Fun K "__init__" qual st f fd∧Binds K fd ps []∧findIn K (.ref C) "__init__" = some (some (.ref f))∧typeIn K (.ref f)=some (.type "function")
section
variable {P:Program} {w:World} {K:Frag} {mg:Str→Option Value} {base:Heap} {x qual:Str} {C:Addr} {st:Stmt} {N ps:List Str} {k:Nat} {sp:Sp}
theorem EN {h:Heap} (X:K.In h) (G:h.Ns mainGlobals mg) {f:Addr} {oc:Value} {od an:Option Addr} {osl:Array (Option Value)} {kV doc pm cdv ct:Value} (aC:nsIn K mainGlobals x=some (some (.ref C))) (o:dU K C d7 "ValueError.__new__" = true)
    (a:findIn K (.ref C) "__init__" = some (some (.ref f))) (i:typeIn K (.ref f)=some (.type "function"))
    (l:K.lookup f=some ⟨oc,od,.func (fnOf "__init__" qual (bw st) (aS st) (ai st) .none kV doc pm an cdv ct),osl⟩) (c:codeIn K cdv qual=true) (kp:keepIn K (.ref f)=true) (kc:keepIn K (.ref C)=true)
    (b:∀ (kV doc pm:Value) (an:Option Addr) (cdv ct:Value) (us:List Value),us.length=ps.length→bindArgs (fnOf "__init__" qual (bw st) (aS st) (ai st) .none kV doc pm an cdv ct) ⟨us,[]⟩=pure (ps.zip us)):tZ K mg x qual C st ps:=by
  have F:=l6 (st:=st) l c kp
  exact ⟨o,kc,mg_of X G aC,f,_,F,F.binds b,a,i⟩
theorem tZ.ok' (D:tZ K mg x qual C st ps) (S:ao N ps (ai st)) (len:∀ vs H Q E,sp vs H Q E→vs.length=ps.length)
    (hbody:∀ (f:Addr) (cdv:Value) (A:Around) (outer:List Env) (s:Shared) (H:Hp) (vs:List V) (Q:VK) (E:XK),bY k (A.deeper (envOfC qual (ai st) s.heap.objs.size f cdv))→sp vs H Q E →
      ∃ t,PSs (aY (CX1 P w) P w K mg base N qual (ai st) f cdv A outer s H E).nox (aS st) t∧t { nx:=fun _ H'=>Q .non H',rt:=Q } (start N vs) H):zv P w K mg base x C (k+1) ps sp:=by
  obtain ⟨f,fd,F,b,a,i⟩:=D.ex
  exact ⟨D.ok,D.kp,D.gm,f,fd,a,i,l0 F S len hbody,b⟩
end
section
variable {K:Frag} {σ : St} {H:Hp} {Q:VK} {D:Ends} {tl:TA} {ta tv:TE} {sp:Sp} {Ex:St→XK} {C:Addr}
theorem EK (h:tl σ H fun vs H1=>uN K vs H1 Q):zX K tl σ H Q:=h
theorem tG {x:Addr} {dx:Option Addr} {v:V} (e:H x=some (gD x (.ref C) dx)) (k:dU K C d7 "ValueError.__new__" = true) (h:Q .non H):uN K [.ref x,v] H Q:=⟨x,C,dx,[v],rfl,e,k,(by show 1≤1000;decide),h⟩
theorem Es {f:Str} (h:tv σ H fun y H1=>ta σ H1 fun x H2=>Fb K f x y H2 fun H3=>D.nx σ H3):FG K ta tv f D σ H:=h
theorem Bw {f:Str} {a:Addr} {y:V} {R:Hp→Prop} (e:H a=some (gD a (.ref C) none)) (P:vN K C f) (h:∀ d,H d=none→R (upd (upd H a (gD a (.ref C) (some d))) d (XdO d [(f,y)]))):Fb K f (.ref a) y H R:=⟨a,C,none,rfl,e,P,fun _=>h,fun d z=>by cases z⟩
def xy (C:Addr) (sp:Sp) (Ex:XK) (vs:List V) (H:Hp):Prop:=vs.length≤1000∧∀ x,H x=none→sp (.ref x::vs) (upd H x (gD x (.ref C) none)) (Rz C x Ex) fun _ _ _=>False
theorem Bx (h:tl σ H fun vs H1=>xy C sp (Ex σ) vs H1):we C sp Ex tl D σ H:=h
def jr (C:Addr) (f:Str):Sp:=fun vs H Q _=>∃ x v,vs=[.ref x,v]∧H x=some (gD x (.ref C) none)∧∀ d,H d=none→Q .non (upd (upd H x (gD x (.ref C) (some d))) d (XdO d [(f,v)]))
theorem oH {E:XK} {v:V} {f:Str} (h:∀ d H',aM H H'→H' d=some (.xd [(f,v)])→E (.ref C) (some d) H'):xy C (jr C f) E [v] H:=by
  refine ⟨(by show 1≤1000;decide),fun x nx=>⟨x,v,rfl,aB,fun d nd=>⟨rfl,some d,?_,(fun z=>by cases z),fun d' z=>?_⟩⟩⟩
  · have ne:x≠d:=fun z=>by rw [z,aB] at nd;cases nd
    rw [au ne,aB]
  · cases z
    have ne:d≠x:=fun z=>by rw [z,aB] at nd;cases nd
    have nd':H d=none:=by rw [au ne] at nd;exact nd
    refine ⟨_,aB,ne,h d _ (fun b o e=>?_) aB⟩
    rw [au (aq e nd'),ia (aq e nx),au (aq e nd'),au (aq e nx),au (aq e nx)]
    exact e
end
end L4
namespace L4
open PySem PySem.Spec PyProof.Rows L2 L3
theorem Kq {bs:List Bool} {us:List Value} (rv:Vals (bs.map V.bl) us) {i:Nat} {v:Value} (e:us[i]?=some v):∃ b,bs[i]?=some b∧v = .bool b:=by
  have hi:i < bs.length:=by
    have h1:=(List.getElem?_eq_some_iff.mp e).1
    have h2:=rv.length
    rw [List.length_map] at h2
    omega
  obtain ⟨u,hu,ru⟩:=rv.get (i:=i) (x:=V.bl bs[i]) (by rw [List.getElem?_map,List.getElem?_eq_getElem hi];rfl)
  rw [e] at hu
  cases hu
  cases ru
  exact ⟨_,List.getElem?_eq_getElem hi,rfl⟩
theorem uM (bs:List Bool):((List.range bs.length).all fun i=>(bs[i]?).getD true)=bs.all id:=by
  rw [Bool.eq_iff_iff,List.all_eq_true,List.all_eq_true]
  constructor
  · intro h b hb
    obtain ⟨i,hi,e⟩:=List.getElem_of_mem hb
    have:=h i (List.mem_range.mpr hi)
    rw [List.getElem?_eq_getElem hi,Option.getD_some,e] at this
    exact this
  · intro h i hi
    have hi':=List.mem_range.mp hi
    rw [List.getElem?_eq_getElem hi',Option.getD_some]
    exact h _ (List.getElem_mem hi')
theorem Ea {s:Shared} {h':Heap} {o:Obj} (hk:∀ b x,b∉[s.heap.objs.size]→(s.heap.push o).get? b=some x→h'.get? b=some x):∀ b x,s.heap.get? b=some x→h'.get? b=some x:=
  fun b x e=>hk b x (fun hm=>by rw [List.mem_singleton.mp hm] at e;exact Nat.lt_irrefl _ (Heap.lt_size e)) (Heap.get?_push_of_some _ e)
def Jf (K:PySem.W.Frag):RL:=fun xs H Q=>∃ (p:Addr) (bs:List Bool),xs=[.ref p]∧SqL K H p (bs.map V.bl)∧Q (.bl (bs.all id)) H
section
variable {X:Cx}
theorem BW (hc:X.calm=true):dj X (.builtin "all") (Jf X.K):=by
  intro pins s σ H xs us Q I r h
  obtain ⟨p,bs,rfl,hq,q⟩:=h
  obtain ⟨u,rfl,rx⟩:=vals1 r
  cases rx
  obtain ⟨its,rv,pl,hz⟩:=I.list hq
  have hl:=pl.isList
  have hlt:p < s.heap.objs.size:=by obtain ⟨_,e,_⟩:=hl;exact Heap.lt_size e
  have hlen:its.length=bs.length:=by rw [← rv.length,List.length_map]
  refine call_all_walk (wpAny_pyIter_list hl ?_)
  refine ⟨s.heap.objs.size,[s.heap.objs.size,p],[s.heap.objs.size],its.toArray.size,_,_,fun i=>(bs[i]?).getD true,rfl,Walks.list (A:=X.A.in1) (I.ok.hd hc) _ p (Nat.ne_of_lt hlt) its.toArray,
    ⟨⟨_,Heap.get?_push_size _ rfl,rfl,rfl⟩,hl.push _⟩,fun i v s' Q' E' hP hQ=>?_,fun h' tk hk=>?_⟩
  · obtain ⟨b,e,rfl⟩:=Kq rv (i:=i) (v:=v) (by simpa using hP)
    simp only [e,Option.getD_some] at hQ
    exact wpAny_truthy_bool hQ
  · have e:((List.range its.toArray.size).all fun i=>(bs[i]?).getD true)=bs.all id:=by
      rw [List.size_toArray,hlen];exact uM bs
    rw [e]
    exact ⟨.bl _,H,I.kept (Ea hk),rfl,q⟩
theorem cY {K:PySem.W.Frag} (h:X.K=K):IxR X (Dm K):=h▸aE
end
section
variable {K:PySem.W.Frag} {H:Hp} {Q:VK} {p:Addr} {P:Addr→Prop} {H0:Hp} {l:List (Addr×Ob)} {fs:List Pr} {a b:Addr} {xs ys:List V}
theorem HN {bs:List Bool} (s:SqL K H p (bs.map V.bl)) (h:Q (.bl (bs.all id)) H):Jf K [.ref p] H Q:=⟨p,bs,rfl,s,h⟩
end
end L4
namespace L4
open PySem PySem.Spec PyProof.Rows L2 L3 PySem.W
structure bF (P:Program) (w:World) (K:Frag) (mg:Str→Option Value) (base:Heap) (CX:CXT) (C:Addr) (m:Str) (k:Nat) (ps:List Str) (sp:Sp):Prop where
  cl:Cls K C
  ex:∃ f fd,Meth K C m f∧eU P w K mg base CX k f fd ps sp∧Binds K fd ps []
section
variable {P:Program} {w:World} {K:Frag} {mg:Str→Option Value} {base:Heap} {CX:CXT} {x qual:Str} {C:Addr} {st:Stmt} {N ps:List Str} {k j:Nat} {sp sp':Sp}
theorem iK (D:dc K C x qual st ps) (S:ao N ps (ai st)) (len:∀ vs H Q E,sp vs H Q E→vs.length=ps.length)
    (hbody:∀ (f:Addr) (cdv:Value) (A:Around) (outer:List Env) (s:Shared) (H:Hp) (vs:List V) (Q:VK) (E:XK),bY k (A.deeper (envOfC qual (ai st) s.heap.objs.size f cdv))→sp vs H Q E →
      ∃ t,PSs (aY CX P w K mg base N qual (ai st) f cdv A outer s H E).nox (aS st) t∧t { nx:=fun _ H'=>Q .non H',rt:=Q } (start N vs) H):bF P w K mg base CX C x (k+1) ps sp:=by
  obtain ⟨f,fd,F,b,m,c⟩:=D.ex
  exact ⟨c,f,fd,m,l0 F S len hbody,b⟩
theorem dN (D:dc K C x qual st ps) (S:ao N ps (ai st)) (len:∀ vs H Q E,sp vs H Q E→vs.length=ps.length)
    (hbody:∀ (f:Addr) (cdv:Value) (A:Around) (outer:List Env) (s:Shared) (H:Hp) (vs:List V) (Q:VK) (E:XK),bY k (A.deeper (envOfC qual (ai st) s.heap.objs.size f cdv))→sp vs H Q E →
      ∃ t,PSs (xcx (aY (CX1 P w) P w K mg base N qual (ai st) f cdv A outer s H E) (fun _=>E)) (aS st) t∧t { nx:=fun _ H'=>Q .non H',rt:=Q } (start N vs) H):bF P w K mg base (CX1 P w) C x (k+1) ps sp:=by
  obtain ⟨f,fd,F,b,m,c⟩:=D.ex
  obtain ⟨oc,od,kV,doc,pm,an,cdv,ct,osl,rfl,lk,hcd⟩:=F.ex
  refine ⟨c,f,_,m,oJ lk hcd S len fun A outer s H vs Q E hr hsp=>?_,b⟩
  obtain ⟨t,ht,q⟩:=hbody f cdv A outer s H vs Q E hr hsp
  exact ⟨t,L4.PSs.x ht rf,q⟩
theorem cS {f:Addr} {oc:Value} {od an:Option Addr} {osl:Array (Option Value)} {kV doc pm cdv ct:Value} (c:Cls K C) (a:findIn K (.ref C) x=some (some (.ref f))) (i:isFn K (.ref f)=true)
    (l:K.lookup f=some ⟨oc,od,.func (fnOf x qual (bw st) (aS st) (ai st) .none kV doc pm an cdv ct),osl⟩) (cd:codeIn K cdv qual=true) (kp:keepIn K (.ref f)=true)
    (b:∀ (kV doc pm:Value) (an:Option Addr) (cdv ct:Value) (us:List Value),us.length=ps.length→bindArgs (fnOf x qual (bw st) (aS st) (ai st) .none kV doc pm an cdv ct) ⟨us,[]⟩=pure (ps.zip us)):dc K C x qual st ps:=by
  have F:=l6 (st:=st) l cd kp
  exact ⟨f,_,F,F.binds b,⟨a,i,kp⟩,c⟩
end
section
variable {X:Cx} {CX:CXT} {k:Nat} {C:Addr} {ps:List Str} {sp:Sp} {E:XK} {Ex:St→XK} {m:Str} {pos apos:Pos} {e o:Expr} {es:List Expr} {ta:TE} {t:TA}
theorem lI {pl:Sem Bool} (M:bF X.prog X.w X.K X.mg X.base CX C m k ps sp) (hr:bY k X.A) (hx:Passes CX X E) (he:PE X o ta) (ha:PA X (e::es) t)
    (hst:starEach (e::es) X.env=(false,eval e X.env)::starEach es X.env:=by rfl) (hpl:(backTo pos (starEach es X.env)).any (·.1)=false:=by rfl)
    (ht:eval (.Call (.Attribute o m apos) (e::es) [] pos) X.env=(do
      let ov ← eval o X.env
      standAt apos.atName
      let (f,first) ← holding [ov] (getMethod ov m pl)
      callWith pos f first (backTo pos (starEach (e::es) X.env)) (backToKw pos (keywordEach [] X.env))):=by rfl) :
    PE X (.Call (.Attribute o m apos) (e::es) [] pos) (rq C m sp [] E ta t):=by
  obtain ⟨f,fd,hm,F,b⟩:=M.ex
  exact Du he M.cl hm F hr b .nil hx ha hst hpl ht
theorem cj {pl:Sem Bool} (M:bF X.prog X.w X.K X.mg X.base CX C m k ps sp) (hr:bY k X.A) (hx:Passes CX X E) (he:PE X o ta)
    (ht:eval (.Call (.Attribute o m apos) [] [] pos) X.env=(do
      let ov ← eval o X.env
      standAt apos.atName
      let (f,first) ← holding [ov] (getMethod ov m pl)
      callWith pos f first (backTo pos (starEach [] X.env)) (backToKw pos (keywordEach [] X.env))):=by rfl) :
    PE X (.Call (.Attribute o m apos) [] [] pos) (rq C m sp [] E ta o5):=by
  obtain ⟨f,fd,hm,F,b⟩:=M.ex
  exact AI he M.cl hm F hr b .nil hx ht
def uw (C:Addr) (m:Str) (sp:Sp) (Ex:St→XK) (ta:TE) (t:TA):TE:=fun σ H Q=>ta σ H fun x H1=>∃ a dx fs,x = .ref a∧H1 a=some (.ins C dx fs)∧fs.lookup m=none∧t σ H1 fun vs H2=>sp (x::vs) H2 Q (Ex σ)
theorem pY {pl:Sem Bool} (M:bF X.prog X.w X.K X.mg X.base (CX1 X.prog X.w) C m k ps sp) (hr:bY k X.A) (hx:PaX X Ex) (he:PE X o ta) (ha:PA X (e::es) t)
    (hst:starEach (e::es) X.env=(false,eval e X.env)::starEach es X.env:=by rfl) (hpl:(backTo pos (starEach es X.env)).any (·.1)=false:=by rfl)
    (ht:eval (.Call (.Attribute o m apos) (e::es) [] pos) X.env=(do
      let ov ← eval o X.env
      standAt apos.atName
      let (f,first) ← holding [ov] (getMethod ov m pl)
      callWith pos f first (backTo pos (starEach (e::es) X.env)) (backToKw pos (keywordEach [] X.env))):=by rfl) :
    PE X (.Call (.Attribute o m apos) (e::es) [] pos) (uw C m sp Ex ta t):=by
  obtain ⟨f,fd,hm,F,b⟩:=M.ex
  intro pins s σ H Q I h
  refine methodCall_KW (pl:=pl) (thn (he pins s σ H _ I h) fun u s1 ⟨x,H1,I1,rx,a,dx,fs,ex,ea,l,q⟩=>?_) ht
  subst ex
  obtain rfl:u=Value.ref a:=rx
  refine fZ I1 ea M.cl hm l ?_
  refine callWith_K (first:=[.ref a]) (h₀:=X.base) I.ok.mod.kin hm.kp (thn (ha pos pins s1 σ H1 _ I1 q) fun us s2 ⟨vs,H2,I2,r,q2⟩=>⟨I2.kIn,?_⟩) hst hpl
  exact pQ (us:=.ref a::us) (vs:=.ref a::vs) F hr b hx I2 (.cons rfl r) q2
theorem pX {pl:Sem Bool} (M:bF X.prog X.w X.K X.mg X.base (CX1 X.prog X.w) C m k ps sp) (hr:bY k X.A) (hx:PaX X Ex) (he:PE X o ta)
    (ht:eval (.Call (.Attribute o m apos) [] [] pos) X.env=(do
      let ov ← eval o X.env
      standAt apos.atName
      let (f,first) ← holding [ov] (getMethod ov m pl)
      callWith pos f first (backTo pos (starEach [] X.env)) (backToKw pos (keywordEach [] X.env))):=by rfl) :
    PE X (.Call (.Attribute o m apos) [] [] pos) (uw C m sp Ex ta o5):=by
  obtain ⟨f,fd,hm,F,b⟩:=M.ex
  intro pins s σ H Q I h
  refine methodCall_KW (pl:=pl) (thn (he pins s σ H _ I h) fun u s1 ⟨x,H1,I1,rx,a,dx,fs,ex,ea,l,q⟩=>?_) ht
  subst ex
  obtain rfl:u=Value.ref a:=rx
  refine fZ I1 ea M.cl hm l ?_
  exact callWith_K0 (first:=[.ref a]) I1.kIn hm.kp (pQ (us:=[.ref a]) (vs:=[.ref a]) F hr b hx I1 (.cons rfl .nil) q)
def Mth (C:Addr) (m:Str) (sp:Sp) (E:XK) (t:TA) (σ : St) (x:V) (H:Hp) (Q:VK):Prop:=∃ a dx fs,x = .ref a∧H a=some (.ins C dx fs)∧fs.lookup m=none∧t σ H fun vs H2=>sp (x::vs) H2 Q E
theorem Hl {σ : St} {H:Hp} {Q:VK} (h:ta σ H fun x H1=>Mth C m sp E t σ x H1 Q):rq C m sp [] E ta t σ H Q:=by
  have e:(fun x H1=>Mth C m sp E t σ x H1 Q)=fun x H1=>∃ a dx fs,x = .ref a∧H1 a=some (.ins C dx fs)∧fs.lookup m=none∧t σ H1 fun vs H2=>sp (x::(vs++[])) H2 Q E:=by
    funext x H1
    unfold Mth
    simp only [List.append_nil]
  rw [e] at h
  exact h
theorem Ez {σ : St} {H:Hp} {Q:VK} (h:ta σ H fun x H1=>Mth C m sp (Ex σ) t σ x H1 Q):uw C m sp Ex ta t σ H Q:=h
theorem aZ {σ : St} {H:Hp} {Q:VK} {a dx:Addr} {fs:List (Str×V)} (hx:H a=some (.ins C dx fs)) (hl:fs.lookup m=none) (h:t σ H fun vs H2=>sp (.ref a::vs) H2 Q E):Mth C m sp E t σ (.ref a) H Q:=⟨a,dx,fs,rfl,hx,hl,h⟩
end
end L4
namespace L4
open PySem PySem.Spec PyProof.Rows L2 L3
section
variable {K:PySem.W.Frag} {P:Addr→Prop} {H0 H:Hp} {l l':List (Addr×Ob)} {fs:List Pr} {Q:VK} {σ : St} {r r':R2} {ta tb tc te:TE} {ts:TO} {tl:TA}
theorem EI (h:ta σ H fun x H1=>tb σ H1 fun y H2=>r x y H2 fun z H3=>IsB z H3 fun k H3=>if k=true then tc σ H3 fun w' H4=>r' y w' H4 Q else Q (.bl false) H3):zU r r' ta tb tc σ H Q:=h
end
def FN (K:PySem.W.Frag):RL:=fun xs H Q=>∃ (p:Addr) (ns:List Int),xs=[.ref p]∧SqL K H p (ns.map V.int)∧0 < ns.length∧∀ M,M∈ns→(∀ a∈ns,a≤M)→Q (.int M) H
def FJ (K:PySem.W.Frag):RL:=fun xs H Q=>∃ (p:Addr) (ns:List Int),xs=[.ref p]∧SqL K H p (ns.map V.int)∧0 < ns.length∧∀ M,M∈ns→(∀ a∈ns,M≤a)→Q (.int M) H
section
variable {X:Cx}
theorem mC (hc:X.calm=true):dj X (.builtin "max") (FN X.K):=by
  intro pins s σ H xs us Q I r h
  obtain ⟨p,ns,rfl,hq,hne,q⟩:=h
  obtain ⟨u,rfl,rx⟩:=vals1 r
  cases rx
  obtain ⟨its,rv,pl,hz⟩:=I.list hq
  have hi:=ints_of rv
  obtain ⟨xs,e⟩:=hi.allInts.items
  have hl:s.heap.IsList p (intItems xs):=e▸pl.isList
  have hns:ns=xs.toList.map (·.1):=by
    rw [← nums_intItems,← e]
    exact (show numsOf its.toArray.toList=ns from hi.numsOf).symm
  have hsz : 0 < xs.size:=by
    have h3:=hne;rw [hns,List.length_map,Array.length_toList] at h3;exact h3
  refine max_intList (I.ok.hd hc) hl hsz fun v h' tk hv hk=>?_
  obtain ⟨t,rfl⟩:=intItems_at hv
  obtain ⟨h1,h2⟩:=argBest_gt (numAt xs) (xs.size - 1)
  refine ⟨.int _,H,I.kept hk,⟨_,rfl⟩,q _ ?_ fun a ha=>?_⟩
  · rw [hns,numAt_eq];exact getD_mem (by rw [List.length_map,Array.length_toList];omega)
  · rw [hns] at ha
    obtain ⟨j,hj,rfl⟩:=mem_getD ha
    rw [List.length_map,Array.length_toList] at hj
    rw [← numAt_eq];exact h2 j (by omega)
theorem HV (hc:X.calm=true):dj X (.builtin "min") (FJ X.K):=by
  intro pins s σ H xs us Q I r h
  obtain ⟨p,ns,rfl,hq,hne,q⟩:=h
  obtain ⟨u,rfl,rx⟩:=vals1 r
  cases rx
  obtain ⟨its,rv,pl,hz⟩:=I.list hq
  have hi:=ints_of rv
  obtain ⟨xs,e⟩:=hi.allInts.items
  have hl:s.heap.IsList p (intItems xs):=e▸pl.isList
  have hns:ns=xs.toList.map (·.1):=by
    rw [← nums_intItems,← e]
    exact (show numsOf its.toArray.toList=ns from hi.numsOf).symm
  have hsz : 0 < xs.size:=by
    have h3:=hne;rw [hns,List.length_map,Array.length_toList] at h3;exact h3
  refine min_intList (I.ok.hd hc) hl hsz fun v h' tk hv hk=>?_
  obtain ⟨t,rfl⟩:=intItems_at hv
  obtain ⟨h1,h2⟩:=argBest_lt (numAt xs) (xs.size - 1)
  refine ⟨.int _,H,I.kept hk,⟨_,rfl⟩,q _ ?_ fun a ha=>?_⟩
  · rw [hns,numAt_eq];exact getD_mem (by rw [List.length_map,Array.length_toList];omega)
  · rw [hns] at ha
    obtain ⟨j,hj,rfl⟩:=mem_getD ha
    rw [List.length_map,Array.length_toList] at hj
    rw [← numAt_eq];exact h2 j (by omega)
end
section
variable {K:PySem.W.Frag} {H:Hp} {Q:VK} {p:Addr} {ns:List Int} {P:Addr→Prop} {H0:Hp} {l:List (Addr×Ob)} {fs:List Pr}
theorem lW (s:SqL K H p (ns.map V.int)) (hne : 0 < ns.length) (h:∀ M,M∈ns→(∀ a∈ns,a≤M)→Q (.int M) H):FN K [.ref p] H Q:=⟨p,ns,rfl,s,hne,h⟩
theorem Hj (s:SqL K H p (ns.map V.int)) (hne : 0 < ns.length) (h:∀ M,M∈ns→(∀ a∈ns,M≤a)→Q (.int M) H):FJ K [.ref p] H Q:=⟨p,ns,rfl,s,hne,h⟩
end
section
variable {prog:Program} {w:World} {A:Around} {E:Value→Shared→Prop} {s:Shared} {R:Result→Shared→Prop} {I S:Addr} {fp wr:List Addr} {n:Nat} {P:Nat→Value→Prop} {St:Nat→Heap→Prop}
def IE (val:Nat→Int) (i:Nat) (old:Array Value):Prop:=(old=#[]∧i=0)∨∃ (m:Int) (t:Tok),old=#[.int m t,.int m t]∧1≤i∧(∃ j,j < i∧val j=m)∧∀ j,j < i→val j≤m
theorem D0 (W:Walks prog w A.in1 I fp wr n P St) (val:Nat→Int) (hval:∀ i v,P i v→∃ t,v = .int (val i) t) (hSf:S∉fp) (d:Value) :
    ∀ (r i:Nat) (s:Shared) (old:Array Value) (c:Nat),n - i=r→i≤n→St i s.heap→IE val i old→s.heap.get? S=some { cls:=.type "list",dict:=none,data:=.seq old c,slots:=#[] } →
    (∀ v h' tk,((n=0∧v=d)∨∃ m t,v = .int m t∧(∃ j,j < n∧val j=m)∧∀ j,j < n→val j≤m)→(∀ b o,b∉wr→b≠S→s.heap.get? b=some o→h'.get? b=some o)→R (.ok (.ret v)) { s with heap:=h',toks:=tk }) →
    codeAny (model prog w) A (.builtin "max.loop" ⟨[.ref I,.none,.ref S],[("default",d)]⟩) R s:=by
  have hSw:S∉wr:=fun h=>hSf (W.sub _ h)
  have hnm:(toString "max" ++ toString ".loop" : String) = "max.loop" := by decide
  have hcmp:=CmpOf.ints_gt (prog:=prog) (w:=w) (A:=A.in1) val hval
  intro r
  induction r with
  | zero=>
    intro i s old c hr hi hst hb hS hR
    have hin:i=n:=by omega
    subst hin
    refine codeAny_builtin F.entry_max_loop ?_
    rw [Around.under_plainId F.plain_max_loop _]
    show wpAny _ A.in1 (seqItems? (.ref S) >>= _) _ _ s
    refine wpAny_bind (wpAny_seqItems hS rfl ?_)
    show wpAny _ A.in1 (tryCatch (pyNext (.ref I)) _ >>= _) _ _ s
    refine wpAny_bind (wpAny_tryCatch (W.done s _ _ hst fun h' tk hk'=>?_))
    have hS':=hk' S _ hSw hS
    rcases hb with ⟨rfl,rfl⟩ | ⟨m,t,rfl,_,hm1,hm2⟩
    · show wpAny _ A.in1 (rule _ >>= _) _ _ _
      refine wpAny_bind (wpAny_rule (wpAny_pure ?_))
      exact hR d _ tk (.inl ⟨rfl,rfl⟩) fun b o hbw _ e=>hk' b o hbw e
    · show wpAny _ A.in1 (updateSeq S (fun _=>#[]) >>= _) _ _ _
      refine wpAny_bind (wpAny_updateSeq hS' rfl (wpAny_bind (wpAny_letGo (wpAny_pure ?_))))
      exact hR _ _ tk (.inr ⟨m,t,rfl,hm1,hm2⟩) fun b o hbw hbS e=>(Heap.get?_update_other _ _ (Ne.symm hbS)).trans (hk' b o hbw e)
  | succ r ih=>
    intro i s old c hr hi hst hb hS hR
    have hlt:i < n:=by omega
    refine codeAny_builtin F.entry_max_loop ?_
    rw [Around.under_plainId F.plain_max_loop _]
    show wpAny _ A.in1 (seqItems? (.ref S) >>= _) _ _ s
    refine wpAny_bind (wpAny_seqItems hS rfl ?_)
    show wpAny _ A.in1 (tryCatch (pyNext (.ref I)) _ >>= _) _ _ s
    refine wpAny_bind (wpAny_tryCatch (W.item i s _ _ hlt hst fun v h' tk hP hst' hk'=>?_))
    have hS':=hk' S _ hSw hS
    obtain ⟨tv,ev⟩:=hval i v hP
    rcases hb with ⟨rfl,rfl⟩ | ⟨m,t,rfl,h1,hm1,hm2⟩
    · show wpAny _ A.in1 (updateSeq S (fun _=>#[v,v]) >>= _) _ _ _
      refine wpAny_bind (wpAny_updateSeq hS' rfl ?_)
      rw [hnm]
      refine wpAny_pure ⟨plainId_quiet F.plain_max_loop _,ih 1 _ _ _ (by omega) hlt (W.frame _ _ _ hst' fun b hbf o e=>(Heap.get?_update_other _ _ (fun h:S=b=>hSf (by rw [h];exact hbf))).trans e) (.inr ⟨val 0,tv,by rw [ev],Nat.le_refl 1,⟨0,Nat.zero_lt_one,rfl⟩,fun j hj=>by rw [show j=0 by omega];exact Int.le_refl _⟩) (Heap.get?_update_self _ hS' rfl) fun v' h2 tk2 hv hk2=>?_⟩
      exact hR v' h2 tk2 hv fun b o hbw hbS e=>hk2 b o hbw hbS ((Heap.get?_update_other _ _ (Ne.symm hbS)).trans (hk' b o hbw e))
    · obtain ⟨jb,hjb,ejb⟩:=hm1
      show wpAny _ A.in1 (tryCatch (holding [v,v] (richCompare .Gt v (.int m t) >>= _)) _ >>= _) _ _ _
      subst ev
      refine wpAny_bind (wpAny_tryCatch (wpAny_holding (wpAny_bind (richCompare_gives (op:=.Gt) (typeIs_int _ _ tv) (typeIs_int _ _ t) F.slot_int_gt F.entry_int_gt (F.args_int_gt_2 _ _) (gives_int_gt _ _ tv t) (fun x=>nomatch x) ?_))))
      refine wpAny_bind (wpAny_holding (wpAny_truthy_bool ?_))
      refine wpAny_bind (wpAny_letGo (wpAny_pure ?_))
      by_cases hgt:val i > m
      · simp only [hgt,decide_true,if_true]
        refine wpAny_bind (wpAny_updateSeq hS' rfl (wpAny_bind (wpAny_letGo ?_)))
        rw [hnm]
        refine wpAny_pure ⟨plainId_quiet F.plain_max_loop _,ih (i+1) _ _ _ (by omega) hlt (W.frame _ _ _ hst' fun b hbf o e=>(Heap.get?_update_other _ _ (fun h:S=b=>hSf (by rw [h];exact hbf))).trans e) (.inr ⟨val i,tv,rfl,by omega,⟨i,Nat.lt_succ_self i,rfl⟩,fun j hj=>?_⟩) (Heap.get?_update_self _ hS' rfl) fun v' h2 tk2 hv hk2=>?_⟩
        · rcases Nat.lt_succ_iff_lt_or_eq.mp hj with z | z
          · have:=hm2 j z;omega
          · rw [z];exact Int.le_refl _
        · exact hR v' h2 tk2 hv fun b o hbw hbS e=>hk2 b o hbw hbS ((Heap.get?_update_other _ _ (Ne.symm hbS)).trans (hk' b o hbw e))
      · simp only [hgt,decide_false,Bool.false_eq_true,if_false]
        refine wpAny_bind (wpAny_letGo ?_)
        rw [hnm]
        refine wpAny_pure ⟨plainId_quiet F.plain_max_loop _,ih (i+1) _ _ c (by omega) hlt hst' (.inr ⟨m,t,rfl,by omega,⟨jb,by omega,ejb⟩,fun j hj=>?_⟩) hS' fun v' h2 tk2 hv hk2=>?_⟩
        · rcases Nat.lt_succ_iff_lt_or_eq.mp hj with z | z
          · exact hm2 j z
          · rw [z];omega
        · exact hR v' h2 tk2 hv fun b o hbw hbS e=>hk2 b o hbw hbS (hk' b o hbw e)
theorem qH {id:String} {b:Builtin} {args:List Value} {kw:List (Str×Value)} {Q:Value→Shared→Prop} (hk:builtinKind id=none) (hp:plainId id=true) (hb:entryFor table id=some b) (ha:argsOk id ⟨args,kw⟩)
    (hc:wpAny (model prog w) A.in1 (b ⟨args,kw⟩) (fun fin s'=>match fin with
      | .done f=>(match (Except.ok f:Result) with | .ok (.ret v)=>Q v s' | .ok _=>False | .error e=>E e s')
      | .again c'=>c'.quiet=true∧codeAny (model prog w) A c' (fun r s'=>match r with | .ok (.ret v)=>Q v s' | .ok _=>False | .error e=>E e s') s') E s) :
    wpAny (model prog w) A (call (.builtin id) args kw) Q E s:=by
  refine wpAny_call (codeAny_call_builtin hp hb ?_)
  simp only [checkBuiltinCall,hk]
  cases hsig:Manifest.signature? id with
  | none=>exact wpAny_pure hc
  | some sig=>
    have ha':Bind.checkArgs id sig ⟨args,kw⟩=pure ():=by simpa only [argsOk,hsig] using ha
    simp only [ha']
    exact wpAny_pure hc
theorem zp (a d:Value):argsOk "max" ⟨[a],[("default",d)]⟩:=by unfold argsOk;kernel_rfl
theorem sS {l:Addr} {xs:Array (Int×Tok)} {d:Value} {Q:Value→Shared→Prop} (hh:A.handled=none) (hl:s.heap.IsList l (intItems xs))
    (h:∀ v h' tk,((xs.size=0∧v=d)∨∃ m t,v = .int m t∧(∃ j,j < xs.size∧numAt xs j=m)∧∀ j,j < xs.size→numAt xs j≤m)→(∀ b o,s.heap.get? b=some o→h'.get? b=some o)→Q v { s with heap:=h',toks:=tk }) :
    wpAny (model prog w) A (call (.builtin "max") [.ref l] [("default",d)]) Q E s:=by
  have hnm:(toString "max" ++ toString ".loop" : String) = "max.loop" := by decide
  refine qH F.kind_max F.plain_max F.entry_max (zp _ _) ?_
  show wpAny _ A.in1 (Builtin.Builtins.bindParams "max" ["key", "default"] 0 ⟨[],[("default",d)]⟩ >>= _) _ _ s
  refine wpAny_bind (wpAny_of_eq (show Builtin.Builtins.bindParams "max" ["key", "default"] 0 ⟨[],[("default",d)]⟩=pure [none,some d] from rfl) ?_)
  refine wpAny_bind (wpAny_pure ?_)
  refine wpAny_bind (iter_intList hl fun s₂ e st hfp hlI=>?_)
  subst e
  have hsz:(intItems xs).size=xs.size:=by simp [intItems]
  have W:=Walks.list (prog:=prog) (w:=w) (A:=A.in1) hh s.heap.objs.size l hlI (intItems xs)
  refine wpAny_bind (wpAny_newObj_type ?_)
  rw [hnm]
  refine wpAny_pure ⟨plainId_quiet F.plain_max_loop _,D0 W (numAt xs) (fun _ _=>intItems_at) (fun hm=>Nat.lt_irrefl _ (hfp _ hm)) d _ 0 _ #[] _ rfl (Nat.zero_le _) (W.frame _ _ _ st fun b _ o e=>Heap.get?_push_of_some _ e) (.inl ⟨rfl,rfl⟩) (Heap.get?_push_size _ rfl) fun v h' tk hv hk=>?_⟩
  rw [hsz] at hv
  exact h v h' tk hv (old_kept fun b o hbw e=>hk b o hbw (Nat.ne_of_lt (Heap.lt_size e)) (Heap.get?_push_of_some _ e))
end
def AF (K:PySem.W.Frag) (x y:V) (H:Hp) (Q:VK):Prop:=∃ (p:Addr) (ns:List Int) (d:Int),x = .ref p∧y = .int d∧SqL K H p (ns.map V.int)∧(ns=[]→Q (.int d) H)∧∀ M,M∈ns→(∀ a∈ns,a≤M)→Q (.int M) H
def Fw (K:PySem.W.Frag) (te td:TE):TE:=fun σ H Q=>te σ H fun x H1=>td σ H1 fun y H2=>AF K x y H2 Q
section
variable {X:Cx} {p pos kp:Pos} {e d:Expr} {te td:TE}
theorem Dw (hc:X.calm=true) (hg:Gl X "max") (hm:X.mg "max" = none) (he:PE X e te) (hd:PE X d td) (hst:starEach [e] X.env=[(false,eval e X.env)]:=by rfl) :
    PE X (.Call (.Name "max" p) [e] [⟨some "default",d,kp⟩] pos) (Fw X.K te td):=by
  intro pins s σ H Q I h
  refine wpAny_Call_Name_kw (fV I hg hm L3.cI ?_)
  refine callWith_kw ?_ (by rw [hst];rfl) (by rw [hst];rfl)
  rw [hst]
  show wpAny (model X.prog X.w) X.A (spliced ((false,eval e X.env)::[])) _ X.xe s
  refine Calls.spliced_cons (thn (he pins s σ H _ I h) fun u s1 ⟨x,H1,I1,r1,q1⟩=>Calls.spliced_nil ?_)
  refine kws_cons (thn (hd pins s1 σ H1 _ I1 q1) fun v s2 ⟨y,H2,I2,r2,q2⟩=>kws_nil ?_)
  show wpAny (model X.prog X.w) X.A (call (.builtin "max") [u] [("default",v)]) (EP X pins σ Q) X.xe s2
  obtain ⟨p,ns,d,rfl,rfl,hq,q0,q⟩:=q2
  cases r1
  obtain ⟨t,rfl⟩:=r2
  obtain ⟨its,rv,pl,hz⟩:=I2.list hq
  have hi:=ints_of rv
  obtain ⟨xs,e⟩:=hi.allInts.items
  have hl:s2.heap.IsList p (intItems xs):=e▸pl.isList
  have hns:ns=xs.toList.map (·.1):=by
    rw [← nums_intItems,← e]
    exact (show numsOf its.toArray.toList=ns from hi.numsOf).symm
  refine sS (I.ok.hd hc) hl fun v h' tk hv hk=>?_
  rcases hv with ⟨h0,rfl⟩ | ⟨m,t,rfl,⟨j,hj,ej⟩,hm⟩
  · exact ⟨.int d,H2,I2.kept hk,⟨_,rfl⟩,q0 (by rw [hns,List.map_eq_nil_iff];exact List.eq_nil_of_length_eq_zero (by rw [Array.length_toList];exact h0))⟩
  · refine ⟨.int m,H2,I2.kept hk,⟨_,rfl⟩,q m ?_ fun a ha=>?_⟩
    · rw [hns,← ej,numAt_eq];exact getD_mem (by rw [List.length_map,Array.length_toList];exact hj)
    · rw [hns] at ha
      obtain ⟨j,hj,rfl⟩:=mem_getD ha
      rw [List.length_map,Array.length_toList] at hj
      rw [← numAt_eq];exact hm j hj
end
section
variable {K:PySem.W.Frag} {H:Hp} {Q:VK} {p:Addr} {ns:List Int} {d:Int} {te td:TE} {σ : St}
theorem Hq (h:te σ H fun x H1=>td σ H1 fun y H2=>AF K x y H2 Q):Fw K te td σ H Q:=h
theorem Hr (s:SqL K H p (ns.map V.int)) (h0:ns=[]→Q (.int d) H) (h:∀ M,M∈ns→(∀ a∈ns,a≤M)→Q (.int M) H):AF K (.ref p) (.int d) H Q:=⟨p,ns,d,rfl,rfl,s,h0,h⟩
theorem fk {xs:List V} {i:Int} {v:V} (hs:SqT K H p xs) (e:atI xs i=some v) (h:Q v H):Dm K (.ref p) (.int i) H Q:=⟨p,xs,i,v,rfl,rfl,hs,e,h⟩
end
def bM:List Str→List Str→List Str
  | acc,[]=>acc
  | acc,x::xs=>bM (if x∈acc then acc else acc++[x]) xs
theorem mO:∀ (xs ys acc:List Str),bM acc (xs++ys)=bM (bM acc xs) ys
  | [],_,_=>rfl
  | x::xs,ys,acc=>mO xs ys _
theorem kD {xs:List Str} {i:Nat} {x:Str} (h:xs[i]?=some x):bM [] (xs.take (i+1))=if x∈bM [] (xs.take i) then bM [] (xs.take i) else bM [] (xs.take i)++[x]:=by
  rw [List.take_add_one,h,mO];rfl
theorem mL:∀ (xs acc:List Str),(bM acc xs).length≤acc.length+xs.length
  | [],_=>Nat.le_refl _
  | x::xs,acc=>by
    have:=mL xs (if x∈acc then acc else acc++[x])
    show (bM (if x∈acc then acc else acc++[x]) xs).length≤_
    rw [List.length_cons]
    by_cases c:x∈acc
    · rw [if_pos c] at this ⊢;omega
    · rw [if_neg c] at this ⊢;rw [List.length_append,List.length_singleton] at this;omega
theorem mP:∀ (xs acc:List Str),xs.Nodup→(∀ x∈xs,¬ x∈acc)→(bM acc xs).length=acc.length+xs.length
  | [],_,_,_=>rfl
  | x::xs,acc,h,hn=>by
    rw [List.nodup_cons] at h
    show (bM (if x∈acc then acc else acc++[x]) xs).length=_
    rw [if_neg (hn x List.mem_cons_self),mP xs (acc++[x]) h.2 fun y hy z=>?_]
    · rw [List.length_append,List.length_singleton,List.length_cons];omega
    · rcases List.mem_append.mp z with z | z
      · exact hn y (List.mem_cons_of_mem _ hy) z
      · rw [List.mem_singleton.mp z] at hy;exact h.1 hy
section
variable {prog:Program} {w:World} {A:Around} {E:Value→Shared→Prop} {s:Shared} {R:Result→Shared→Prop} {I S:Addr} {fp wr:List Addr} {G:Array GenState→Array GenState→Prop} {P:Nat→Value→Prop} {St:Nat→Shared→Prop} {xs:List Str}
theorem nZ {h h':Heap} {f:Str→Bool} {c:Nat} (hS:h.SetOf (strKind prog w) S f c) (k:∀ o,h.get? S=some o→h'.get? S=some o):h'.SetOf (strKind prog w) S f c:=by
  obtain ⟨o,es,ep,t,ho,rest⟩:=hS
  exact ⟨o,es,ep,t,k o ho,rest⟩
theorem CY (W:WalksS prog w A.in1 I fp wr G xs.length P St) (hSf:S∉fp) (hval:∀ i v,P i v→∃ x t,xs[i]?=some x∧v = .str x t) (hb:xs.length+1 < scanBound) :
    ∀ (r i:Nat) (s:Shared),xs.length - i=r→i≤xs.length→St i s→s.heap.SetOf (strKind prog w) S (fun k=>decide (k∈bM [] (xs.take i))) (bM [] (xs.take i)).length →
      (∀ s',Moved (S::wr) G s s'→s'.heap.SetOf (strKind prog w) S (fun k=>decide (k∈bM [] xs)) (bM [] xs).length→R (.ok (.ret .none)) s') →
      codeAny (model prog w) A (.builtin "set.update.loop" ⟨[.ref S,.ref I],[]⟩) R s:=by
  have hSw:S∉wr:=fun h=>hSf (W.sub _ h)
  have up:∀ b∈wr,b∈S::wr:=fun b hb=>List.mem_cons_of_mem _ hb
  intro r
  induction r with
  | zero=>
    intro i s hr hi st hS k
    obtain rfl:i=xs.length:=by omega
    rw [List.take_length] at hS
    refine codeAny_builtin F.entry_set_update_loop ?_
    rw [Around.under_plainId F.plain_set_update_loop _]
    show wpAny _ A.in1 (pyNext (.ref I) >>= _) _ _ s
    refine wpAny_bind (W.done s _ _ st fun s' hm=>?_)
    exact wpAny_pure (k s' (hm.mono up) (nZ hS fun o e=>hm.heap S o hSw e))
  | succ r ih=>
    intro i s hr hi st hS k
    have hlt:i < xs.length:=by omega
    refine codeAny_builtin F.entry_set_update_loop ?_
    rw [Around.under_plainId F.plain_set_update_loop _]
    show wpAny _ A.in1 (pyNext (.ref I) >>= _) _ _ s
    refine wpAny_bind (W.item i s _ _ hlt st fun v s1 hP st1 hm=>?_)
    obtain ⟨x,t,hx,rfl⟩:=hval i v hP
    have hS1:=nZ hS fun o e=>hm.heap S o hSw e
    have hl:=mL (xs.take i) []
    rw [List.length_take] at hl
    show wpAny _ A.in1 (holding [Value.str x t] (setAdd S (.str x t)) >>= _) _ _ s1
    refine wpAny_bind (wpAny_holding ?_)
    unfold setAdd
    refine wpAny_holding (wpAny_bind ((strKind prog w).pyHash (k:=x) (strKind_is _ _ _ _) ?_))
    refine wpAny_setAddHashed_of (knd:=strKind prog w) (s:={ s1 with toks:=s1.toks+1 }) (strKind_is _ _ _ _) rfl hS1 (by simp at hl;omega) fun h2 same hS2=>?_
    have hS3:h2.SetOf (strKind prog w) S (fun k=>decide (k∈bM [] (xs.take (i+1)))) (bM [] (xs.take (i+1))).length:=by
      refine SetOf_congr hS2 (fun k'=>?_) ?_
      · rw [kD hx]
        by_cases c:x∈bM [] (xs.take i)
        · rw [if_pos c]
          by_cases e:k'=x
          · subst e;simp [c]
          · simp [e]
        · rw [if_neg c];simp [List.mem_append]
      · rw [kD hx]
        by_cases c:x∈bM [] (xs.take i)
        · rw [if_pos c,if_pos (decide_eq_true c)]
        · rw [if_neg c,if_neg (by rw [decide_eq_false c];exact Bool.false_ne_true),List.length_append,List.length_singleton]
    refine wpAny_pure ⟨plainId_quiet F.plain_set_update_loop _,ih (i+1) _ (by omega) hlt (W.frame _ s1 _ _ st1 (Nat.le_succ _) fun b hb o e=>?_) hS3 fun s' hm' hS'=>?_⟩
    · rw [same.2 b (fun h:b=S=>hSf (by rw [← h];exact hb))];exact e
    · refine k s' (Moved.trans W.gtrans ((hm.mono up).then_heap (Nat.le_succ _) fun b o hb e=>?_) hm') hS'
      rw [same.2 b (fun h:b=S=>hb (by rw [h];exact List.mem_cons_self))];exact e
set_option maxRecDepth 100000 in
set_option maxHeartbeats 3200000 in
theorem xS {l:Addr} {items:Array Value} {Q:Value→Shared→Prop} (hh:A.handled=none) (hl:s.heap.IsList l items) (hn:items.size=xs.length) (hi:∀ (i:Nat) (v:Value),items[i]?=some v→∃ x t,xs[i]?=some x∧v=Value.str x t) (hb:xs.length+1 < scanBound)
    (h:∀ (h':Heap) (tk:Nat),h'.SetOf (strKind prog w) s.heap.objs.size (fun k=>decide (k∈bM [] xs)) (bM [] xs).length→(∀ b o,s.heap.get? b=some o→h'.get? b=some o)→Q (.ref s.heap.objs.size) { s with heap:=h',toks:=tk }) :
    wpAny (model prog w) A (call (.type "set") [.ref l]) Q E s:=by
  obtain ⟨c,tl,hmro⟩:=F.called_set.mro
  have hmade:=F.called_set.made
  have hsub:=F.called_set.sub
  have h1:=F.called_set.notType
  have h2:=F.called_set.canCreate
  have hct:=F.typeCall_set_1 (.ref l)
  refine wpAny_call (codeAny_of_tree ?_)
  show wpAny _ _ (callAny (.type "set") _) _ _ _
  refine wpAny_pure ⟨Code.quiet_builtin _ (by decide +kernel),codeAny_builtin F.entry_type_call ?_⟩
  rw [Around.under_plain (weight_type_call_type "set" [.ref l] []) rfl]
  repeat (any_goals (first | assumption | wp_step))
  refine codeAny_mono (code_set_new_1 (.ref l) (E:=E) (Q₁:=fun obj s₁=>∃ led:Bool,obj = .ref s.heap.objs.size∧s₁={ s with heap:=s.heap.push { cls:=.type "set",dict:=none,data:=.set #[] 0 (.fresh 0 0 led) } }) fun led=>⟨led,rfl,rfl⟩) fun r s₁ hr=>?_
  rcases r with e | fl
  · exact hr
  cases fl with
  | ret obj=>
    obtain ⟨led,rfl,rfl⟩:=hr
    generalize ho:({ cls:=.type "set",dict:=none,data:=.set #[] 0 (.fresh 0 0 led) }:Obj)=so at *
    have hS:(s.heap.push so).get? s.heap.objs.size=some so:=Heap.get?_push_size _ (by rw [← ho];rfl)
    have hT:Shared.TypeIs { s with heap:=s.heap.push so } (.ref s.heap.objs.size) "set" := ⟨_,hS,by rw [← ho]⟩
    have hli:=F.called_set.init.lookup
    have hbi:=F.called_set.init.bind (.ref s.heap.objs.size)
    repeat (any_goals (first | assumption | wp_step))
    refine codeAny_mono (codeAny_call_builtin (R:=wants (fun r s₂=>r = .none∧∃ h' tk,s₂={ s with heap:=h',toks:=tk }∧h'.SetOf (strKind prog w) s.heap.objs.size (fun k=>decide (k∈bM [] xs)) (bM [] xs).length∧∀ b o,s.heap.get? b=some o→h'.get? b=some o) E) F.called_set.init.plain F.entry_set_init (check_set_init_1 hT ?_)) fun r₂ s₂ hr₂=>?_
    · have hlS:l < s.heap.objs.size:=by obtain ⟨_,e,_⟩:=hl;exact Heap.lt_size e
      subst ho
      have hl1:=hl.push { cls:=.type "set",dict:=none,data:=.set #[] 0 (.fresh 0 0 led) }
      obtain ⟨⟨lc,ld,ldat,lsl⟩,e1,e2,nl,e3⟩:=id hl1
      simp only at e2 e3
      subst e2 e3
      have Lo:=F.sub_list_set
      have Lp:=F.sub_list_frozenset
      have hne:(Value.type "list" == Value.type "dict")=false:=by decide
      unfold Builtin.«set.__init__» noKeywords Builtin.Frozenset.updateFrom
      generalize hPI:pyIter=PI
      wp_walk
      subst hPI
      refine wpAny_pyIter_list hl1 ?_
      refine wpAny_bind (wpAny_runValue ?_)
      have hsz:(s.heap.push { cls:=.type "set",dict:=none,data:=.set #[] 0 (.fresh 0 0 led) }).objs.size=s.heap.objs.size+1:=Heap.size_push ..
      have W:=(Walks.list (prog:=prog) (w:=w) (A:=A.in1.in1.in1) (by simp [hh]) (s.heap.push { cls:=.type "set",dict:=none,data:=.set #[] 0 (.fresh 0 0 led) }).objs.size l (by rw [hsz];exact Nat.ne_of_lt (Nat.lt_succ_of_lt hlS)) items).toS
      rw [hn] at W
      refine CY (xs:=xs) W (by rw [hsz];simp only [List.mem_cons,List.not_mem_nil,or_false,not_or];exact ⟨Nat.ne_of_lt (Nat.lt_succ_self _),Nat.ne_of_gt hlS⟩) (fun i v hv=>hi i v hv) hb _ 0 _ rfl (Nat.zero_le _) ⟨⟨_,Heap.get?_push_size _ rfl,rfl,rfl⟩,hl1.push _⟩ ?_ fun s' hm hS'=>?_
      · exact SetOf_congr ((setObjOf_fresh (knd:=strKind prog w) led).setOf (Heap.get?_push_of_some _ hS) (by unfold scanBound;decide)) (fun _=>rfl) rfl
      · obtain ⟨h',g',d',tk',os'⟩:=s'
        obtain rfl:g'=s.gens:=hm.gens
        obtain rfl:d'=s.drawn:=hm.drawn
        obtain rfl:os'=s.os:=hm.os
        refine wpAny_pure (wpAny_pure ⟨rfl,h',tk',rfl,hS',fun b o e=>?_⟩)
        have hb1:=Heap.lt_size e
        exact hm.heap b o (by rw [hsz];simp only [List.mem_cons,List.not_mem_nil,or_false,not_or];exact ⟨Nat.ne_of_lt hb1,Nat.ne_of_lt (Nat.lt_succ_of_lt hb1)⟩) (Heap.get?_push_of_some _ (Heap.get?_push_of_some _ e))
    · rcases r₂ with e | fl₂
      · exact hr₂
      cases fl₂ with
      | ret r=>
        obtain ⟨rfl,h',tk,rfl,hS',hk'⟩:=hr₂
        repeat (any_goals (first | assumption | wp_step))
        exact h _ _ hS' hk'
      | _=>exact hr₂.elim
  | _=>exact hr.elim
end
def pW (K:PySem.W.Frag) (x:V) (H:Hp) (Q:VK):Prop:=∃ (a:Addr) (xs:List Str),x = .ref a∧SqL K H a (xs.map V.str)∧xs.length≤1000∧Q (.int (((bM [] xs).length:Nat):Int)) H
def wj (K:PySem.W.Frag) (te:TE):TE:=fun σ H Q=>te σ H fun x H1=>pW K x H1 Q
section
variable {X:Cx} {e:Expr} {te:TE} {p p2 pos pos2:Pos}
theorem yp (hc:X.calm=true) (hg:Gl X "len") (hg2:Gl X "set") (hm:X.mg "len" = none) (hm2:X.mg "set" = none) (he:PE X e te) (hs1:starEach [.Call (.Name "set" p2) [e] [] pos2] X.env=[(false,eval (.Call (.Name "set" p2) [e] [] pos2) X.env)]:=by rfl) (hs2:starEach [e] X.env=[(false,eval e X.env)]:=by rfl) :
    PE X (.Call (.Name "len" p) [.Call (.Name "set" p2) [e] [] pos2] [] pos) (wj X.K te):=by
  intro pins s σ H Q I h
  refine wpAny_Call_Name_kw (fV I hg hm L3.jm ?_)
  refine PyProof.Rows.callWith_builtin1 ?_ (by rw [hs1];rfl) (by rfl)
  rw [hs1]
  show wpAny (model X.prog X.w) X.A (spliced ((false,eval (.Call (.Name "set" p2) [e] [] pos2) X.env)::[])) _ X.xe s
  refine Calls.spliced_cons (wpAny_Call_Name_kw (fV I hg2 hm2 L3.Ic ?_))
  refine PyProof.Rows.callWith_type1 ?_ (by rw [hs2];rfl) (by rfl)
  rw [hs2]
  show wpAny (model X.prog X.w) X.A (spliced ((false,eval e X.env)::[])) _ X.xe s
  refine Calls.spliced_cons (thn (he pins s σ H _ I h) fun u s1 ⟨x,H1,I1,r1,q1⟩=>Calls.spliced_nil ?_)
  obtain ⟨a,xs,rfl,hq,h1000,q⟩:=q1
  cases r1
  obtain ⟨its,rv,pl,hz⟩:=I1.list hq
  have hlen:its.length=xs.length:=by rw [← rv.length,List.length_map]
  have hsb:xs.length+1 < scanBound:=by unfold scanBound;omega
  refine xS (I.ok.hd hc) pl.isList (by rw [List.size_toArray];exact hlen) (fun i v hv=>?_) hsb fun h' tk hS hk=>?_
  · have hv':its[i]?=some v:=by simpa using hv
    have hi:i < xs.length:=by
      have:=(List.getElem?_eq_some_iff.mp hv').1
      omega
    obtain ⟨u,hu,ru⟩:=rv.get (i:=i) (x:=V.str xs[i]) (by rw [List.getElem?_map,List.getElem?_eq_getElem hi];rfl)
    rw [hv'] at hu
    cases hu
    obtain ⟨t,rfl⟩:=ru
    exact ⟨_,t,List.getElem?_eq_getElem hi,rfl⟩
  · have I2:=I1.kept (t':=tk) hk
    refine Calls.spliced_nil ?_
    obtain ⟨o,es,ep,t,ho,hex,hd,_,_,hb,hf,hn⟩:=hS
    have h63:(es.size:Int) < 2 ^ 63:=by unfold scanBound at hb;omega
    exact call_len_set ho hex hd hf h63 ⟨.int es.size,H1,I2.tok _,⟨_,rfl⟩,by rw [hn];exact q⟩
theorem BB {K:PySem.W.Frag} {σ : St} {H:Hp} {Q:VK} (h:te σ H fun x H1=>pW K x H1 Q):wj K te σ H Q:=h
theorem za {K:PySem.W.Frag} {H:Hp} {Q:VK} {a:Addr} {xs:List Str} (s:SqL K H a (xs.map V.str)) (hl:xs.length≤1000) (h:Q (.int (((bM [] xs).length:Nat):Int)) H):pW K (.ref a) H Q:=⟨a,xs,rfl,s,hl,h⟩
end
structure oW (K:PySem.W.Frag) (mg:Str→Option Value) (x qual:Str) (C:Addr) (st:Stmt) (ps:List Str):Prop where
  ex:∃ (f:Addr) (oc dV kV doc pm cdv ct:Value) (od an:Option Addr) (osl:Array (Option Value)),K.lookup f=some ⟨oc,od,.func (PySem.W.fnOf "__init__" qual (bw st) (aS st) (ai st) dV kV doc pm an cdv ct),osl⟩∧PySem.W.codeIn K cdv qual=true ∧
    Binds K (PySem.W.fnOf "__init__" qual (bw st) (aS st) (ai st) dV kV doc pm an cdv ct) ps []∧mg x=some (.ref C)∧Mk K C f
  cl:Cls K C
section
variable {P:Program} {w:World} {K:PySem.W.Frag} {mg:Str→Option Value} {base:Heap} {CX:CXT} {x qual:Str} {C:Addr} {st:Stmt} {N ps:List Str} {k:Nat} {sp:Sp}
theorem oW.ok (D:oW K mg x qual C st ps) (S:ao N ps (ai st)) (len:∀ vs H Q E,sp vs H Q E→vs.length=ps.length)
    (hbody:∀ (f:Addr) (cdv:Value) (A:Around) (outer:List Env) (s:Shared) (H:Hp) (vs:List V) (Q:VK) (E:XK),bY k (A.deeper (envOfC qual (ai st) s.heap.objs.size f cdv))→sp vs H Q E →
      ∃ t,PSs (aY CX P w K mg base N qual (ai st) f cdv A outer s H E).nox (aS st) t∧t { nx:=fun _ H'=>Q .non H',rt:=Q } (start N vs) H):Mak P w K mg base CX x C (k+1) ps sp:=by
  obtain ⟨f,oc,dV,kV,doc,pm,cdv,ct,od,an,osl,lk,hcd,b,m,mk⟩:=D.ex
  refine ⟨f,_,mk,oJ lk hcd S len fun A outer s H vs Q E hr hsp=>?_,b,m⟩
  obtain ⟨t,h,q⟩:=hbody f cdv A outer s H vs Q E hr hsp
  exact ⟨t,h.nox,q⟩
theorem BS {h:Heap} (X:K.In h) (G:h.Ns mainGlobals mg) {f T:Addr} {oc tc:Value} {od td an:Option Addr} {osl tsl:Array (Option Value)} {its:Array Value} {tn:Nat} {kV doc pm cdv ct:Value} (aC:PySem.W.nsIn K mainGlobals x=some (some (.ref C)))
    (a:PySem.W.findIn K (.ref C) "__init__" = some (some (.ref f))) (i:PySem.W.isFn K (.ref f)=true)
    (l:K.lookup f=some ⟨oc,od,.func (PySem.W.fnOf "__init__" qual (bw st) (aS st) (ai st) (.ref T) kV doc pm an cdv ct),osl⟩) (tl:K.lookup T=some ⟨tc,td,.seq its tn,tsl⟩) (c:PySem.W.codeIn K cdv qual=true)
    (pg:PySem.W.plainGet K C Str.empty=true) (hd:PySem.W.hasDictIn K C=true) (po:PySem.W.plainOver K C=true) (sa:PySem.W.findIn K (.ref C) "__setattr__" = some (some (.builtin "object.__setattr__"))) (mk:PySem.W.makesIn K C=true) (kc:PySem.W.keepIn K (.ref C)=true)
    (b:∀ (T:Addr) (kV doc pm:Value) (an:Option Addr) (cdv ct:Value) (us:List Value),us.length=ps.length→∃ k:Option (Array Value)→Sem (List (Str×Value)),bindArgs (PySem.W.fnOf "__init__" qual (bw st) (aS st) (ai st) (.ref T) kV doc pm an cdv ct) ⟨us,[]⟩=(seqItems? (.ref T) >>= k)∧k (some its)=pure (ps.zip us)):oW K mg x qual C st ps:=
  ⟨⟨f,oc,.ref T,kV,doc,pm,cdv,ct,od,an,osl,l,c,fun s us hK hl=>by
    rw [List.append_nil] at hl ⊢
    obtain ⟨k,h1,h2⟩:=b T kV doc pm an cdv ct us hl
    exact BindsTo.of_defaults (T:=T) rfl (hK _ _ tl) rfl h1 h2,PySem.W.mg_of X G aC,⟨mk,a,i,kc⟩⟩,⟨pg,hd,po,sa⟩⟩
end
def AG (K:PySem.W.Frag):RL:=fun vs H Q=>∃ (x:V) (t:Value) (tp:Addr) (Ts:List String) (b:Bool),vs=[x,.ref tp]∧iR K H x t∧H tp=some (.tup (Ts.map V.ty))∧PySem.W.kitAny K t (Ts.map Value.type)=some b∧Q (.bl b) H
theorem rg:∀ {Ts:List String} {us:List Value},Vals (Ts.map V.ty) us→us=Ts.map Value.type
  | [],_,.nil=>rfl
  | T::Ts,_,.cons r t=>by rw [List.map_cons,rg t];cases (show _=Value.type T from r);rfl
section
variable {X:Cx}
theorem zj:dj X (.builtin "isinstance") (AG X.K):=by
  intro pins s σ H xs us Q I r h
  obtain ⟨x,t,tp,Ts,b,rfl,ty,ht,e,q⟩:=h
  obtain ⟨u,w',rfl,rx,rc⟩:=vals2 r
  cases (show w'=Value.ref tp from rc)
  obtain ⟨_,its,rv,⟨⟨oc,od',da,sl⟩,h1,h2,n,h3⟩⟩:=(show bJ X.prog X.w H s.heap tp (.tup (Ts.map V.ty)) from I.hok tp _ ht)
  have ei:=rg rv
  subst ei
  dsimp only at h2 h3
  subst h2 h3
  have fin:∀ tk,EP X pins σ Q (.bool b) { s with toks:=tk }:=fun tk=>⟨.bl b,H,I.tok _,rfl,q⟩
  cases ty with
  | non=>cases (show u=Value.none from rx);exact PySem.W.kia_tup PySem.W.kitx_none I.kIn True.intro h1 e (fun z=>nomatch z) fin
  | bl y=>cases (show u=Value.bool y from rx);exact PySem.W.kia_tup PySem.W.kitx_bool I.kIn True.intro h1 e (fun z=>nomatch z) fin
  | int i=>obtain ⟨t,q⟩:=(show ∃ t,u=Value.int i t from rx);cases q;exact PySem.W.kia_tup PySem.W.kitx_int I.kIn True.intro h1 e (fun z=>nomatch z) fin
  | str y=>obtain ⟨t,q⟩:=(show ∃ t,u=Value.str y t from rx);cases q;exact PySem.W.kia_tup PySem.W.kitx_str I.kIn True.intro h1 e (fun z=>nomatch z) fin
  | flt y=>obtain ⟨t,q⟩:=(show ∃ t,u=Value.float y t from rx);cases q;exact PySem.W.kia_tup PySem.W.kitx_float I.kIn True.intro h1 e (fun z=>nomatch z) fin
  | @lst a xs ea=>
    cases (show u=Value.ref a from rx)
    obtain ⟨_,_,n,_,h4⟩:=(show bJ X.prog X.w H s.heap a (.lst xs) from I.hok a _ ea)
    exact PySem.W.kia_tup PySem.W.kitx_list I.kIn ⟨_,h4,rfl⟩ h1 e (fun z=>nomatch z) fin
  | @frz a ob xs ea=>
    cases (show u=Value.ref a from rx)
    obtain ⟨_,_,_,n,_,h4⟩:=(show bJ X.prog X.w H s.heap a (.frz ob (.lst xs)) from I.hok a _ ea)
    exact PySem.W.kia_tup PySem.W.kitx_list I.kIn ⟨_,h4,rfl⟩ h1 e (fun z=>nomatch z) fin
  | @tup a xs ea=>
    cases (show u=Value.ref a from rx)
    obtain ⟨_,_,_,p⟩:=(show bJ X.prog X.w H s.heap a (.tup xs) from I.hok a _ ea)
    obtain ⟨o,h4,h5,_⟩:=p
    exact PySem.W.kia_tup PySem.W.kitx_tuple I.kIn ⟨o,h4,h5⟩ h1 e (fun z=>nomatch z) fin
  | @dK a kvs ea=>
    cases (show u=Value.ref a from rx)
    obtain ⟨_,_,vs,_,p⟩:=(show bJ X.prog X.w H s.heap a (.dK kvs) from I.hok a _ ea)
    obtain ⟨o,es,ep,h4,h5,_⟩:=p
    exact PySem.W.kia_tup PySem.W.kitx_dict I.kIn ⟨o,h4,h5.1⟩ h1 e (fun z=>nomatch z) fin
  | @dT a kvs ea=>
    cases (show u=Value.ref a from rx)
    obtain ⟨_,_,xs,_,o,es,ep,h4,h5,_⟩:=(show bJ X.prog X.w H s.heap a (.dT kvs) from I.hok a _ ea)
    exact PySem.W.kia_tup PySem.W.kitx_dict I.kIn ⟨o,h4,h5.1⟩ h1 e (fun z=>nomatch z) fin
  | @ins a C dx fs ea cl ha hn htk hm=>
    cases (show u=Value.ref a from rx)
    obtain ⟨mA,O,_⟩:=jC I.hok ea
    obtain ⟨od,J,_⟩:=O.look
    exact PySem.W.kia_tup (PySem.W.kitx_own (cl.get _) cl.hd ha hn htk hm) I.kIn J h1 e (fun z=>nomatch z) fin
theorem Dy {e:Expr} {te:TE} {p pos:Pos} {es:List Expr} {ec:Nat} {tpos:Pos} {tl:TA} (hm:X.mg "isinstance" = none) (he:PE X e te) (ht:PE X (.Tuple es ec tpos) (CG tl)) (hg:Gl X "isinstance" := by rfl)
    (hs:starEach [e,.Tuple es ec tpos] X.env=(false,eval e X.env)::starEach [.Tuple es ec tpos] X.env:=by rfl) (hs2:starEach [.Tuple es ec tpos] X.env=(false,eval (.Tuple es ec tpos) X.env)::starEach [] X.env:=by rfl) (hpl:(backTo pos (starEach [.Tuple es ec tpos] X.env)).any (·.1)=false:=by rfl) :
    PE X (.Call (.Name "isinstance" p) [e,.Tuple es ec tpos] [] pos) (tCB (AG X.K) (nO te (nO (CG tl) o5))):=
  aX zj hg hm iZ (aa he (aa ht ah hs2) hs) (by decide) (by decide) hs hpl
end
theorem Ed (z:Str) (ws:List Str):inV (.str z) (ws.map V.str)=decide (z∈ws):=by
  unfold inV
  rw [List.any_map,Bool.eq_iff_iff,List.any_eq_true,decide_eq_true_iff]
  constructor
  · rintro ⟨x,hx,e⟩
    have e:(x == z)=true:=e
    exact (eq_of_beq e)▸hx
  · intro h
    exact ⟨z,h,by show (z == z)=true;exact beq_self_eq_true z⟩
theorem BF (ws:List Str):(ws.map V.str).all cG=true:=by
  rw [List.all_map,List.all_eq_true]
  intro _ _;rfl
section
variable {K:PySem.W.Frag} {H:Hp} {Q:VK} {p a:Addr} {z:Str} {ws:List Str} {P:Addr→Prop} {H0:Hp} {l:List (Addr×Ob)} {fs:List Pr}
theorem Hu {x:V} {t:Value} {tp:Addr} {b:Bool} (Ts:List String) (ty:iR K H x t) (ht:H tp=some (.tup (Ts.map V.ty))) (e:PySem.W.kitAny K t (Ts.map Value.type)=some b) (h:Q (.bl b) H):AG K [x,.ref tp] H Q:=⟨x,t,tp,Ts,b,rfl,ty,ht,e,h⟩
theorem F0 (s:SqT K H p (ws.map V.str)) (h:Q (.bl (decide (z∈ws))) H):rIn K false (.str z) (.ref p) H Q:=
  ⟨p,_,rfl,.inr s,rfl,BF ws,by rw [if_neg Bool.false_ne_true,Ed];exact h⟩
theorem Er (L:Led P H0 H l fs) (s:SqL K H p (ws.map V.str)) (hl:ws.length < 64) (h:∀ (b:Addr) (ms:List Str) (H':Hp),H b=none→ms.Perm ws→sortedS ms=true→Led P H0 H' ((b,Eo (.lst (ms.map V.str)))::l) fs→aM H H'→Q (.ref b) H'):AE K [.ref p] H Q:=
  ⟨p,ws,rfl,s,hl,fun b ms nb pm pw=>h b ms _ nb pm pw (L.nj nb rfl) (cU nb)⟩
theorem Bu {ys:List V} (L:Led P H0 H l fs) (s:SqL K H p ys) (h:∀ (t:Addr) (H':Hp),H t=none→Led P H0 H' l (aO t ys::fs)→aM H H'→Q (.ref t) H'):AD K [.ref p] H Q:=
  ⟨p,ys,rfl,.inl ⟨s,fun t nt=>h t _ nt (L.Jo nt) (cU nt)⟩⟩
end
end L4
namespace LS
open PySem PySem.W PyProof.Rows
structure Pm (n:Nat) (p:Array Nat):Prop where
  size:p.size=n
  perm:p.toList.Perm (List.range n)
end LS
set_option hygiene false
local macro_rules | `(tactic| walk_at "put")=>`(tactic| first | exact L4.Put.head | (apply L4.Put.tail;walk_at "put"))
local macro_rules | `(tactic| walk_at "mem")=>`(tactic| first | exact List.mem_cons_self | (refine List.mem_cons_of_mem _ ?_;walk_at "mem"))
local macro_rules | `(tactic| walk_at "lk")=>`(tactic| first | exact L4.lk_hit | (refine (L4.lk_miss (by decide +kernel)).trans ?_;walk_at "lk"))
local macro_rules | `(tactic| walk_at "sz")=>`(tactic| first | (show (_:Nat)≤sizeLine;exact Nat.le_of_lt (L2.small1000 (by first | decide | omega | (simp only [List.length_cons,List.length_nil,List.length_append,List.length_map];omega)))) | exact L2.small1000 (by first | decide | omega | (simp only [List.length_cons,List.length_nil,List.length_append,List.length_map];omega)))
local macro_rules | `(tactic| walk_at "side")=>`(tactic| first
  | omega
  | (show (0:Int) < _;first | omega | decide)
  | (refine ⟨⟨?_,?_⟩,?_,?_⟩ <;> first | omega | decide)
  | (refine ⟨?_,?_⟩ <;> first | omega | decide)
  | (refine ⟨?_,?_,?_⟩ <;> first | omega | decide))
local macro_rules | `(tactic| walk_at "g0")=>`(tactic| first
  | (with_reducible refine L4.JZ ?_)
  | (with_reducible refine L4.Jz (by with_unfolding_all exact rfl) ?_)
  | (with_reducible refine L4.g_c ?_)
  | (with_reducible refine L4.Hz ?_)
  | (with_reducible refine L4.JG ?_)
  | (with_reducible refine L4.K7 ?_)
  | (with_reducible refine L4.JD ?_)
  | (with_reducible refine L4.K8 ?_)
  | (with_reducible refine L4.G0 ?_)
  | (with_reducible refine L4.JQ ?_)
  | (with_reducible refine L4.JW ?_)
  | (with_reducible refine L4.JV ?_)
  | (with_reducible refine L4.g_eqB ?_)
  | (with_reducible refine L4.JH ?_)
  | (with_reducible refine L4.g_neS ?_)
  | (with_reducible refine L4.HF ?_)
  | (with_reducible refine L4.K9 ?_)
  | (with_reducible refine L4.JC ?_)
  | (with_reducible refine L4.Hf ?_)
  | (with_reducible refine L4.Hy ?_)
  | (with_reducible refine L4.g_b ?_)
  | (with_reducible refine L4.J1 ?_)
  | (with_reducible refine L4.K6 ?_)
  | (with_reducible refine L4.JF ?_)
  | (with_reducible refine L4.HL ?_)
  | (with_reducible refine L4.JE ?_)
  | (with_reducible refine L4.G8 ?_)
  | (with_reducible refine L4.JP ?_)
  | (with_reducible refine L4.G9 ?_)
  | (with_reducible refine L4.K3 ?_)
  | (with_reducible refine L4.K5 ?_)
  | (with_reducible refine L4.JA ?_)
  | (with_reducible refine L4.JN ?_)
  | (with_reducible refine L4.JU ?_)
  | (with_reducible refine L4.Ht ?_)
  | (with_reducible refine L4.G3 ?_)
  | (with_reducible refine L4.JS ?_)
  | (with_reducible refine L4.K4 ?_)
  | (with_reducible refine L4.BA ?_)
  | (with_reducible refine L4.G7 ?_)
  | (with_reducible refine L4.Ey ?_)
  | (with_reducible refine L4.EF ?_)
  | (with_reducible refine L4.Hw ?_)
  | (with_reducible refine L4.g_gSub ?_)
  | (with_reducible refine L4.g_retN ?_)
  | (with_reducible refine L4.g_break ?_)
  | (with_reducible refine L4.g_cont ?_)
  | (with_reducible refine L4.tF ?_)
  | (with_reducible refine L4.lY ?_)
  | (with_reducible refine L4.EE ?_)
  | (with_reducible refine L4.g_ifNbF ?_)
  | (with_reducible refine L4.La ?_)
  | (with_reducible refine L4.g_bm0 ?_)
  | (with_reducible refine L4.JT ?_)
  | (with_reducible refine L4.G5 ?_)
  | (with_reducible refine L4.G4 ?_)
  | (with_reducible refine L4.Jy ?_)
  | (with_reducible refine L4.g_wkT ?_)
  | (with_reducible refine L4.g_zip ?_)
  | (with_reducible refine L4.g_enum ?_)
  | (with_reducible refine L4.Hl ?_)
  | (with_reducible refine L4.Ez ?_)
  | (with_reducible refine L4.HE ?_)
  | (with_reducible refine L4.EG ?_)
  | (with_reducible refine L4.G1 ?_)
  | (with_reducible refine L4.g_rev ?_)
  | (with_reducible refine L4.Hq ?_)
  | (with_reducible refine L4.BB ?_)
  | (with_reducible refine L4.EI ?_)
  | (with_reducible refine L4.g_revSq (by assumption) (L2.SqL.of (L4.Led.eo (by assumption) (by walk_at "put"))) fun l' H' n' L' _=>?_)
  | (with_reducible refine L4.g_divm (by assumption) (by constructor <;> omega) fun t' H' n' L' _=>?_)
  | (with_reducible refine L4.g_tTru ?_)
  | (with_reducible refine L4.g_addS (by walk_at "sz") ?_)
  | (with_reducible refine L4.g_lenStr (by first | assumption | walk_at "sz") ?_)
  | (with_reducible refine L4.g_mulS (by refine ⟨?_,?_,?_⟩ <;> first | omega | decide) ?_)
  | (with_reducible refine L4.JY (by assumption) (by walk_at "put") (by walk_at "put") (by first | assumption | walk_at "sz") fun l' H' n' L' _=>?_)
  | (with_reducible refine L4.g_slI (by assumption) (by assumption) (by first | exact not_false | assumption) fun l' H' n' L' _=>?_)
  | (with_reducible refine L4.EJ ?_)
  | (with_reducible refine L4.g_makeX ?_)
  | (with_reducible refine L4.Ew ?_)
  | (with_reducible refine L4.By ?_)
  | (with_reducible refine L4.EK ?_)
  | (with_reducible refine L4.Es ?_)
  | (with_reducible refine L4.Bx ?_)
  | (with_reducible refine L4.g_undo ?_)
  | (with_reducible refine L4.g_undoR ?_)
  | (with_reducible refine L4.g_tryAs ?_)
  | (with_reducible refine L4.JB ?_)
  | (with_reducible refine L4.g_fldX ?_)
  | (with_reducible refine L4.JM ?_)
  | (with_reducible refine L4.Hs ?_)
  | (with_reducible refine L4.g_isBlB ?_)
  | (with_reducible refine L4.g_isNotBlB ?_)
  | (with_reducible refine L4.g_intB ?_)
  | (with_reducible refine L4.JJ ?_)
  | (with_reducible refine L4.JK ?_)
  | ((with_reducible refine L4.Eu ?_ ?_);(focus (walk_at "side";done)))
  | ((with_reducible refine L4.Et ?_ ?_);(focus (walk_at "side";done)))
  | (with_reducible refine L4.xg (L2.SqL.of (L4.Led.eo (by assumption) (by walk_at "put"))) ?_)
  | (with_reducible refine L4.g_tyS ?_)
  | (with_reducible refine L4.gZ (L2.SqL.of (L4.Led.eo (by assumption) (by walk_at "put"))) ?_)
  | (with_reducible refine L4.g_wkTv (L2.SqT.of (L4.Led.tup (by assumption) (by walk_at "mem"))) ?_)
  | (with_reducible refine L4.g_lenI (by assumption) (by assumption) (by first | exact not_false | assumption) ?_)
  | (with_reducible refine L4.iM (L2.SqL.of (L4.Led.eo (by assumption) (by walk_at "put"))) ?_)
  | (with_reducible refine L4.EC (L2.SqT.of (L4.Led.tup (by assumption) (by walk_at "mem"))) ?_)
  | (with_reducible refine L4.jD (by assumption) (by walk_at "put") (by walk_at "sz") fun H' L' _=>?_)
  | (with_reducible refine L4.Hg (by assumption) (by walk_at "sz") fun t' H' n' L' _=>?_)
  | (with_reducible refine L4.Hh (by assumption) (by walk_at "sz") fun l' H' n' L' _=>?_)
  | ((with_reducible refine L4.G6 ?_ ?_);(focus (walk_at "side";done)))
  | (with_reducible refine L4.Hv (by assumption) (by walk_at "mem") (by with_unfolding_all exact rfl) ?_)
  | (with_reducible refine L4.g_geT2 (L4.Led.tup (by assumption) (by walk_at "mem")) (L4.Led.tup (by assumption) (by walk_at "mem")) ?_)
  | (with_reducible refine L4.g_leT2 (L4.Led.tup (by assumption) (by walk_at "mem")) (L4.Led.tup (by assumption) (by walk_at "mem")) ?_)
  | (with_reducible refine L4.g5 (by assumption) (by walk_at "put") (by with_unfolding_all exact rfl) ?_)
  | (with_reducible refine L4.JO (by assumption) (by walk_at "mem") (by with_unfolding_all exact rfl) ?_)
  | (with_reducible refine L4.fk (by assumption) (by with_unfolding_all exact rfl) ?_)
  | (with_reducible refine L4.g_fldL (by assumption) (by walk_at "put") (by assumption) (by assumption) (by walk_at "lk") ?_)
  | (with_reducible refine L4.lZ (by first | omega | assumption | exact rfl | (simp only [List.length_cons,List.length_nil,List.length_append,List.length_map];omega)) ?_)
  | (with_reducible refine L4.bW (by first | omega | assumption | exact rfl | (simp only [List.length_cons,List.length_nil,List.length_append,List.length_map];omega)) ?_)
  | (with_reducible refine L4.qj (by first | omega | assumption | exact rfl | (simp only [List.length_cons,List.length_nil,List.length_append,List.length_map];omega)) ?_)
  | (with_reducible refine L4.qk (by first | omega | assumption | exact rfl | (simp only [List.length_cons,List.length_nil,List.length_append,List.length_map];omega)) ?_))
local macro_rules | `(tactic| walk_at "g1")=>`(tactic| first | (with_reducible refine L4.g_seq ?_) | walk_at "g0")
local macro_rules | `(tactic| walk_at "one")=>`(tactic| repeat walk_at "g0")
local macro_rules | `(tactic| walk_at "go")=>`(tactic| repeat walk_at "g1")
local macro_rules | `(tactic| walk_at "s")=>`(tactic| exact ⟨rfl,rfl,rfl,by decide +kernel,rfl,by decide +kernel,by decide +kernel⟩)
local macro_rules | `(tactic| walk_at "d")=>`(tactic| refine D.ok S (fun vs H Q E h=>?_) (fun f cdv A outer s H vs Q E hr h=>?_))
namespace Law
open PySem PySem.Spec PyProof.Rows L2 L3 L4
abbrev St:=L2.St
def top (i:Nat):Stmt:=PySem.Challenge.pw_risemarks_k38_whole_marks_rise.main.body.getD i (.Pass ⟨0,0,0,0⟩)
theorem tp6:(10:Int) ^ Int.toNat 6=10 ^ 6:=rfl
theorem Cy:(10:Int) ^ Int.toNat 12=10 ^ 12:=rfl
theorem Cw:(10:Int) ^ Int.toNat 29=10 ^ 29:=rfl
theorem cE {t u:TS} {D:Ends} {σ : St} {H:Hp} (P:St→Hp→Prop) (h1:∀ nx:St→Hp→Prop,(∀ σ H,P σ H→nx σ H)→t { D with nx:=nx } σ H) (h2:∀ σ H,P σ H→u D σ H):Gf t u D σ H:=h1 (u D) h2
def Oth (p:Addr) (H H':Hp):Prop:=∀ q o,H q=some o→q≠p→H' q=some o
theorem Oth.refl (p:Addr) (H:Hp):Oth p H H:=fun _ _ h _=>h
theorem Oth.trans {p:Addr} {H H1 H2:Hp} (a:Oth p H H1) (b:Oth p H1 H2):Oth p H H2:=fun q o h n=>b q o (a q o h n) n
theorem Oth.upd {p:Addr} {H H1:Hp} (a:Oth p H H1) (o:HO):Oth p H (upd H1 p o):=fun q u h n=>by rw [au n];exact a q u h n
theorem gI {H:Hp} {p:Addr} (h:H p=none) (o:HO):aM H (upd H p o):=fun b u q=>by rw [au (aq q h)];exact q
def bI (H:Hp) (p:Addr) (n:Int):Prop:=∃ a b c:Int,H p=some (.lst [.int a,.int b,.int c])∧0≤a∧a < 10 ^ 121∧0≤b∧b≤n
theorem bI.mono {H:Hp} {p:Addr} {n m:Int} (h:bI H p n) (l:n≤m):bI H p m:=by
 obtain ⟨a,b,c,e,h1,h2,h3,h4⟩:=h
 exact ⟨a,b,c,e,h1,h2,h3,Int.le_trans h4 l⟩
section
variable {P:Program} {w:World} {K:PySem.W.Frag} {mg:Str→Option Value} {base:Heap} {CX:CXT}
theorem Dat.none {x qual:Str} {st:Stmt} {ps:List Str} {sp:Sp} (D:Dat K mg x qual st ps) (no:∀ vs H Q E,¬ sp vs H Q E):Cal P w K mg base CX x 0 ps sp:=by
 obtain ⟨f,fd,F,b,m⟩:=D.ex
 exact ⟨f,fd,⟨fun vs H Q E h=>absurd h (no vs H Q E),fun A outer s H args us vs Q E _ _ _ _ h=>absurd h (no vs H Q E)⟩,b,F.kp,m⟩
end
section
variable {P:Program} {w:World} {K:PySem.W.Frag} {mg:Str→Option Value} {base:Heap} {CX:CXT}
theorem Df:ao ["_law_script", "_law_k", "_law_hand_here"] ["_law_script", "_law_k"] (ai (top 66)):=by walk_at "s"
def jT (K:PySem.W.Frag):Sp:=fun vs H Q _=>∃ (a:Addr) (ns:List Int) (k:Int),vs=[.ref a,.int k]∧SqL K H a (ns.map V.int)∧ns.length≤63∧0≤k ∧
 ∀ (p:Addr) (H':Hp),H p=none→bI H' p 0→aM H H'→Q (.ref p) H'
theorem tX {ns:List Int} {k:Int} (h0 : 0≤k) (h:k < (ns.length:Int)):∃ v:Int,atI (ns.map V.int) k=some (.int v):=by
 have hk:k.toNat < ns.length:=by omega
 have ek:k=((k.toNat:Nat):Int):=by omega
 have q:atI (ns.map V.int) ((k.toNat:Nat):Int)=some (.int ns[k.toNat]):=gn (by rw [List.getElem?_map,List.getElem?_eq_getElem hk] <;> rfl)
 rw [← ek] at q
 exact ⟨_,q⟩
theorem DT (D:Dat K mg "_law_hand" "_law_hand" (top 66) ["_law_script", "_law_k"]) (BT:Bt mg):Cal P w K mg base CX "_law_hand" 1 ["_law_script", "_law_k"] (jT K):=by
 have S:=Df
 walk_at "d"
 ·obtain ⟨a,ns,k,rfl,_⟩:=h
  rfl
 obtain ⟨a,ns,k,rfl,hS,h63,h0,q⟩:=h
 refine ⟨_,(aj (aL (i:=2) S.nd rfl (by first | exact Or.inl rfl | exact Or.inr rfl) (br (aa af (aa af (aa af ah)))))
   (aj (bg (aJ gB (pv 1) (aX oM rfl BT.len L3.jm (aa (pv 0) ah)) (aI _)) (ak (ff (aP fj (ay bu (pv 0) (pv 1) (fun _ _=>rfl)) (aP eY (aP fU af af) (aP fU af af))) (lH (pv 2) af set_list))) aK)
   (aj (bg (PW.pt (lD (aJ sj (ay bu (pv 2) af (fun _ _=>rfl)) (aP fU af af) (aI _)) (jv (aJ cC (aP fj (ay bu (pv 0) af (fun _ _=>rfl)) af) af (aI _))))) (ak (ff af (lH (pv 2) af set_list))) aK)
   (aj (bg (aJ cC (pv 1) af (aI _)) (ak (ff (aP dw (ay bu (pv 2) af (fun _ _=>rfl)) af) (lH (pv 2) af set_list))) aK)
   (ak (az (pv 2))))))),?_⟩
 have hl:(ns.map V.int).length=ns.length:=List.length_map _
 refine ⟨(by show 3≤sizeLine;decide),fun p hp=>?_⟩
 have sq:∀ o,SqL K (upd H p o) a (ns.map V.int):=fun o=>(gI hp o).seq hS
 -- the number
 dsimp only [bE]
 refine cE (fun σ H'=>∃ x:Int,σ=[some (.ref a),some (.int k),some (.ref p)]∧H'=upd H p (.lst [.int x,.int 0,.int 1])∧0≤x∧x < 10 ^ 121∧(x=0∨k < (ns.length:Int))) (fun nx kk=>?_) ?_
 ·refine ⟨_,rfl,_,rfl,a,_,rfl,.inl (sq _),_,_,rfl,rfl,_,rfl,?_⟩
  refine yV (fun c=>?_) (fun c=>?_)
  ·have c':k < ((ns.map V.int).length:Int):=of_decide_eq_true c
   rw [hl] at c'
   obtain ⟨v,hv⟩:=tX h0 c'
   refine ⟨_,rfl,_,rfl,a,_,_,_,rfl,rfl,sq _,hv,_,_,rfl,rfl,⟨by decide,by decide,by decide⟩,_,_,rfl,rfl,⟨by decide,by decide,by decide⟩,_,_,rfl,rfl,⟨⟨by decide,by decide⟩,by decide,by decide⟩,_,_,rfl,rfl,(by show (0:Int) < _;decide),?_⟩
   refine ⟨_,rfl,p,_,_,0,rfl,rfl,aB,rfl,?_⟩
   refine kk _ _ ⟨_,rfl,eV,?_,?_,.inr c'⟩
   ·exact Int.emod_nonneg _ (by decide)
   ·exact Int.lt_trans (Int.emod_lt_of_pos _ (by decide)) (by decide)
  ·exact kk _ _ ⟨0,rfl,rfl,by decide,by decide,.inl rfl⟩
 rintro σ H' ⟨x,rfl,rfl,x0,x1,xk⟩
 -- the way
 refine cE (fun σ H'=>∃ m:Int,σ=[some (.ref a),some (.int k),some (.ref p)]∧H'=upd H p (.lst [.int x,.int 0,.int m])) (fun nx kk=>?_) ?_
 ·refine ⟨_,rfl,p,_,_,_,rfl,rfl,SqL.of aB,rfl,_,_,rfl,rfl,⟨by decide,by decide,by decide⟩,_,_,rfl,rfl,_,rfl,?_⟩
  refine yV (fun c=>?_) (fun c=>?_)
  ·have c':(10:Int) ^ 18≤x:=of_decide_eq_true c
   have hk:k < (ns.length:Int):=by
    rcases xk with z | z
    ·rw [z] at c';exact absurd c' (by decide)
    ·exact z
   obtain ⟨v,hv⟩:=tX (k:=0) (ns:=ns) (Int.le_refl 0) (by omega)
   refine ⟨_,rfl,a,_,_,_,rfl,rfl,sq _,hv,_,_,rfl,rfl,(by show (0:Int) < _;decide),rfl,_,rfl,?_⟩
   refine yV (fun c=>?_) (fun c=>?_)
   ·refine ⟨_,rfl,p,_,_,2,rfl,rfl,aB,rfl,?_⟩
    exact kk _ _ ⟨0,rfl,eV⟩
   ·exact kk _ _ ⟨1,rfl,rfl⟩
  ·refine KU ?_
   exact kk _ _ ⟨1,rfl,rfl⟩
 rintro σ H' ⟨m,rfl,rfl⟩
 refine cE (fun σ H'=>∃ y:Int,σ=[some (.ref a),some (.int k),some (.ref p)]∧H'=upd H p (.lst [.int y,.int 0,.int m])∧0≤y∧y < 10 ^ 121) (fun nx kk=>?_) ?_
 ·refine ⟨_,rfl,rfl,_,rfl,?_⟩
  refine yV (fun c=>?_) (fun c=>?_)
  ·refine ⟨_,rfl,p,_,_,_,rfl,rfl,SqL.of aB,rfl,_,_,rfl,rfl,⟨by decide,by decide⟩,_,rfl,p,_,_,0,rfl,rfl,aB,rfl,?_⟩
   exact kk _ _ ⟨x / 2,rfl,eV,by omega,by omega⟩
  ·exact kk _ _ ⟨x,rfl,rfl,x0,x1⟩
 rintro σ H' ⟨y,rfl,rfl,y0,y1⟩
 refine ⟨_,rfl,?_⟩
 exact q p _ hp ⟨y,0,m,aB,y0,y1,Int.le_refl _,Int.le_refl _⟩ (gI hp _)
theorem C7:ao ["_law_hand_here", "_law_many", "_law_found", "_law_low", "_law_by", "_law_one", "_law_two"] ["_law_hand_here", "_law_many"] (ai (top 67)):=by walk_at "s"
def lim (n:Nat):Int:=10 ^ (6+5 * n)
def CO:Nat→Sp
 | 0=>fun _ _ _ _=>False
 | n+1=>fun vs H Q _=>∃ (p:Addr) (many b:Int),vs=[.ref p,.int many]∧0 < many∧many≤lim n∧bI H p b∧b+2 ^ n≤2 ^ 60∧n≤12 ∧
  ∀ (r:Int) (H':Hp),0≤r→r < many→bI H' p (b+2 ^ n)→Oth p H H'→Q (.int r) H'
theorem Bj {n:Nat} {m:Int} (h0 : 0 < m) (h:m≤lim (n+1)):m / 1000000+1≤lim n:=by
 have e:lim (n+1)=100000 * lim n:=by
  unfold lim
  rw [show 6+5 * (n+1)=(6+5 * n)+5 from by omega,Int.pow_add]
  rw [show (10:Int) ^ 5=100000 from by decide,Int.mul_comm]
 have e1:(1000000:Int)≤lim n:=by
  unfold lim
  rw [Int.pow_add]
  have:(0:Int) < 10 ^ (5 * n):=Int.pow_pos (by decide)
  rw [show (10:Int) ^ 6=1000000 from by decide]
  have h1:(1:Int)≤10 ^ (5 * n):=this
  have:=Int.mul_le_mul_of_nonneg_left h1 (show (0:Int)≤1000000 by decide)
  rw [Int.mul_one] at this
  exact this
 omega
theorem D5 {n:Nat}:(1000000:Int)≤lim n:=by
 unfold lim
 rw [Int.pow_add]
 have:(0:Int) < 10 ^ (5 * n):=Int.pow_pos (by decide)
 rw [show (10:Int) ^ 6=1000000 from by decide]
 have h1:(1:Int)≤10 ^ (5 * n):=this
 have:=Int.mul_le_mul_of_nonneg_left h1 (show (0:Int)≤1000000 by decide)
 rw [Int.mul_one] at this
 exact this
theorem Bk {n:Nat} (h:n≤12):lim n < 2 ^ 250:=by
 unfold lim
 refine Int.lt_of_le_of_lt (b:=10 ^ 66) ?_ (by decide)
 have:(10:Nat) ^ (6+5 * n)≤10 ^ 66:=Nat.pow_le_pow_right (by decide) (by omega)
 exact_mod_cast this
theorem GD {u v A B:Int} (h1 : 0≤u) (h2:u≤A) (h3 : 0≤v) (h4:v≤B) : 0≤u * v∧u * v≤A * B:=
 ⟨Int.mul_nonneg h1 h3,Int.le_trans (Int.mul_le_mul_of_nonneg_right h2 h3) (Int.mul_le_mul_of_nonneg_left h4 (Int.le_trans h1 h2))⟩
theorem FQ {n:Nat} (h:n≤12):(1:Int)≤2 ^ n∧(2:Int) ^ n≤1048576:=by
 have h1 : 1≤2 ^ n:=Nat.one_le_two_pow
 have h2 : 2 ^ n≤2 ^ 20:=Nat.pow_le_pow_right (by decide) (by omega)
 have e:((2:Int) ^ n)=((2 ^ n:Nat):Int):=by norm_cast
 rw [e]
 omega
theorem sC (D:Dat K mg "_law_pick" "_law_pick" (top 67) ["_law_hand_here", "_law_many"]) (NE:bf CX):∀ n:Nat,Cal P w K mg base CX "_law_pick" n ["_law_hand_here", "_law_many"] (CO n)
 | 0=>Dat.none D fun _ _ _ _ h=>h
 | n+1=>by
  have aH:=sC D NE n
  have S:=C7
  walk_at "d"
  ·obtain ⟨p,many,b,rfl,_⟩:=h
   rfl
  obtain ⟨p,many,b,rfl,hm,hlm,hh,hb,hn,q⟩:=h
  have hm6:=Int.lt_of_le_of_lt hlm (Bk hn)
  refine ⟨_,(aj (bg (aJ cC (ay bu (pv 0) af (fun _ _=>rfl)) af (aI _)) (aj (aL (i:=2) S.nd rfl (by first | exact Or.inl rfl | exact Or.inr rfl) (aP fj (ay bu (pv 0) af (fun _ _=>rfl)) (pv 1)))
    (aj (ff (aP dw (ay bu (pv 0) af (fun _ _=>rfl)) (pv 1)) (lH (pv 0) af set_list))
    (ak (az (pv 2))))) aK)
   (aj (bg (aJ iV (pv 1) af (aI _)) (aj (aL (i:=3) S.nd rfl (by first | exact Or.inl rfl | exact Or.inr rfl) (aG aH (hr.mono (by first | decide | omega)) NE.pass (aa (pv 0) (aa af ah))))
    (ak (az (aP fj (aP bK (pv 3) (aP eY af (aG aH (hr.mono (by first | decide | omega)) NE.pass (aa (pv 0) (aa (aP bK (aP dw (pv 1) af) af) ah))))) (pv 1))))) aK)
   (aj (ff (aP bK (ay bu (pv 0) af (fun _ _=>rfl)) af) (lH (pv 0) af set_list))
   (aj (aL (i:=4) S.nd rfl (by first | exact Or.inl rfl | exact Or.inr rfl) (aP bK af (aP eY (aP eY af (ay bu (pv 0) af (fun _ _=>rfl))) (ay bu (pv 0) af (fun _ _=>rfl)))))
   (aj (aL (i:=5) S.nd rfl (by first | exact Or.inl rfl | exact Or.inr rfl) (aP fj (aP eY (aP bK (aP fj (ay bu (pv 0) af (fun _ _=>rfl)) af) af) (pv 4)) af))
   (aj (aL (i:=6) S.nd rfl (by first | exact Or.inl rfl | exact Or.inr rfl) (aP fj (aP bK (aP eY (pv 5) (pv 5)) (aP eY af (pv 5))) af))
   (ak (az (aP fj (aP dw (aP fj (aP eY (pv 6) af) af) af) (pv 1)))))))))),?_⟩
  obtain ⟨a,d,c,hp,a0,a1,d0,d1⟩:=id hh
  have p20:=FQ hn
  refine ⟨_,rfl,p,_,_,_,rfl,rfl,SqL.of hp,rfl,rfl,_,rfl,?_⟩
  refine yV (fun cc=>?_) (fun cc=>?_)
  ·refine ⟨_,rfl,p,_,_,_,rfl,rfl,SqL.of hp,rfl,_,rfl,_,_,rfl,rfl,hm,?_⟩
   refine ⟨_,rfl,p,_,_,_,rfl,rfl,SqL.of hp,rfl,_,rfl,_,_,rfl,rfl,⟨hm,hm6⟩,_,rfl,p,_,_,0,rfl,rfl,hp,rfl,_,rfl,?_⟩
   refine q _ _ (Int.emod_nonneg _ (by omega)) (Int.emod_lt_of_pos _ hm) ⟨a / many,d,c,aB,Int.ediv_nonneg a0 (by omega),Int.lt_of_le_of_lt (Int.ediv_le_self _ a0) a1,d0,by omega⟩ ((Oth.refl p H).upd _)
  refine ⟨_,rfl,_,_,rfl,rfl,_,rfl,?_⟩
  refine yV (fun cg=>?_) (fun cg=>?_)
  ·have cg':(1000000:Int) < many:=of_decide_eq_true cg
   -- two smaller ones
   cases n with
   | zero=>
    have:many≤1000000:=hlm
    omega
   | succ n=>
    have p21:=FQ (n:=n) (by omega)
    have e2:(2:Int) ^ (n+1)=2 * 2 ^ n:=by rw [Int.pow_succ,Int.mul_comm]
    have hm2:=Bj hm hlm
    have hm3:=Bk (n:=n) (by omega)
    have hm4:=Int.ediv_nonneg (Int.le_of_lt hm) (show (0:Int)≤1000000 by decide)
    rw [e2] at hb
    refine ⟨_,rfl,p,1000000,b,rfl,by decide,D5,hh,by omega,by omega,fun r1 H1 r10 r11 hh1 o1=>?_⟩
    refine ⟨_,rfl,_,rfl,_,rfl,_,_,rfl,rfl,⟨by decide,by decide⟩,_,_,rfl,rfl,p,_,_,rfl,by omega,hm2,hh1,by omega,by omega,fun r2 H2 r20 r21 hh2 o2=>?_⟩
    ·refine ⟨_,_,rfl,rfl,⟨⟨by decide,by decide⟩,by omega,by omega⟩,_,_,rfl,rfl,_,rfl,_,_,rfl,rfl,hm,?_⟩
     refine q _ _ (Int.emod_nonneg _ (by omega)) (Int.emod_lt_of_pos _ hm) (hh2.mono ?_) (o1.trans o2)
     show b+2 ^ n+2 ^ n≤b+2 ^ (n+1)
     omega
  ·have Lv:b≤1152921504606846976:=by omega
   refine ⟨_,rfl,p,_,_,_,rfl,rfl,SqL.of hp,rfl,_,_,rfl,rfl,_,rfl,p,_,_,1,rfl,rfl,hp,rfl,?_⟩
   have hp1:(upd H p (HO.lst [.int a,.int (d+1),.int c])) p=some (.lst [.int a,.int (d+1),.int c]):=aB
   have m1:=GD (u:=39916801 * (d+1)) (v:=d+1) (A:=2 ^ 90) (B:=2 ^ 62) (by omega) (by omega) (by omega) (by omega)
   have m0:=Int.emod_nonneg a (show (2147483629:Int)≠0 by decide)
   have m0':=Int.emod_lt_of_pos a (show (0:Int) < 2147483629 by decide)
   refine ⟨_,rfl,p,_,_,_,rfl,rfl,SqL.of hp1,rfl,_,_,rfl,rfl,⟨⟨by decide,by decide⟩,by omega,by omega⟩,_,rfl,p,_,_,_,rfl,rfl,SqL.of hp1,rfl,_,_,rfl,rfl,⟨⟨by omega,by omega⟩,by omega,by omega⟩,_,_,rfl,rfl,?_⟩
   refine ⟨_,rfl,p,_,_,_,rfl,rfl,SqL.of hp1,rfl,_,_,rfl,rfl,(by show (0:Int) < _;decide),_,_,rfl,rfl,_,rfl,_,_,rfl,rfl,⟨⟨by omega,by omega⟩,by omega,by omega⟩,_,_,rfl,rfl,(by show (0:Int) < _;decide),?_⟩
   generalize hx:(a % 2147483629+11) * (716151937+39916801 * (d+1) * (d+1)) % 998244353=x
   have x0 : 0≤x:=hx▸Int.emod_nonneg _ (by decide)
   have x1:x < 998244353:=hx▸Int.emod_lt_of_pos _ (by decide)
   refine ⟨_,rfl,_,rfl,_,_,rfl,rfl,⟨⟨by omega,by omega⟩,by omega,by omega⟩,_,rfl,_,_,rfl,rfl,⟨⟨by decide,by decide⟩,by omega,by omega⟩,_,_,rfl,rfl,_,_,rfl,rfl,(by show (0:Int) < _;decide),?_⟩
   generalize hy:(x * x+48271 * x) % 1000000007=y
   have y0 : 0≤y:=hy▸Int.emod_nonneg _ (by decide)
   have y1:y < 1000000007:=hy▸Int.emod_lt_of_pos _ (by decide)
   refine ⟨_,rfl,_,_,rfl,rfl,⟨⟨by omega,by omega⟩,by decide,by decide⟩,_,_,rfl,rfl,(by show (0:Int) < _;decide),_,_,rfl,rfl,⟨by decide,by decide⟩,_,rfl,_,_,rfl,rfl,hm,?_⟩
   exact q _ _ (Int.emod_nonneg _ (by omega)) (Int.emod_lt_of_pos _ hm) ⟨a,d+1,c,hp1,a0,a1,by omega,by omega⟩ ((Oth.refl p H).upd _)
def dQ:Sp:=fun vs H Q _=>∃ (p:Addr) (many b:Int),vs=[.ref p,.int many]∧0 < many∧many≤10 ^ 50∧bI H p b∧b≤1000000000 ∧
  ∀ (r:Int) (H':Hp),0≤r→r < many→bI H' p (b+1024)→Oth p H H'→Q (.int r) H'
theorem DM (D:Dat K mg "_law_pick" "_law_pick" (top 67) ["_law_hand_here", "_law_many"]) (NE:bf CX):Cal P w K mg base CX "_law_pick" 11 ["_law_hand_here", "_law_many"] dQ:=
 (sC D NE 11).imp fun vs H Q E ⟨p,many,b,e,h1,h2,hh,hb,q⟩=>⟨p,many,b,e,h1,Int.le_trans h2 (by decide),hh,(by show b+1024≤1152921504606846976;omega),by decide,q⟩
end
def cD (n:Int):Ob:=⟨fun _ o=>∃ a b c:Int,o = .lst [.int a,.int b,.int c]∧0≤a∧a < 10 ^ 121∧0≤b∧b≤n,fun _ h=>h⟩
theorem cD.at {n:Int} {H:Hp} {p:Addr} (h:∃ o,H p=some o∧(cD n).p H o):bI H p n:=by
 obtain ⟨o,e,a,b,c,rfl,r⟩:=h
 exact ⟨a,b,c,e,r⟩
theorem bI.ob {n:Int} {H:Hp} {p:Addr} (h:bI H p n):∃ o,H p=some o∧(cD n).p H o:=by
 obtain ⟨a,b,c,e,r⟩:=h
 exact ⟨_,e,a,b,c,rfl,r⟩
theorem bI.ts {n:Int} {H H':Hp} {p:Addr} (h:bI H p n) (o:Oth p H H'):Chg p H H':=by
 obtain ⟨a,b,c,e,_⟩:=h
 exact ⟨o,fun q xs hq=>o q _ hq fun z=>by rw [z,e] at hq;cases hq⟩
section
variable {K:PySem.W.Frag} {P:Addr→Prop} {H0 H:Hp} {l l':List (Addr×Ob)} {fs:List Pr} {p:Addr} {Q:VK} {E:XK}
theorem k9 {a:Addr} {ns:List Int} {k:Int} (L:Led P H0 H l fs) (hS:SqL K H a (ns.map V.int)) (h63:ns.length≤63) (h0 : 0≤k)
  (q:∀ p H',H p=none→Led P H0 H' ((p,cD 0)::l) fs→aM H H'→Q (.ref p) H'):jT K [.ref a,.int k] H Q E:=
 ⟨a,ns,k,rfl,hS,h63,h0,fun p H' np hh s=>q p H' np ⟨fun x hx=>by
   rcases List.mem_cons.mp hx with rfl | hx
   ·exact hh.ob
   ·exact (L.keep s).at_ x hx,
  by
   rw [List.map_cons,List.nodup_cons]
   refine ⟨fun z=>?_,L.nd⟩
   obtain ⟨x,hx,e⟩:=List.mem_map.mp z
   exact (L.fresh np).1 x hx e,
  fun x hx=>by
   rcases List.mem_cons.mp hx with rfl | hx
   ·exact (L.fresh np).2
   ·exact L.own x hx,(L.keep s).fr,(L.keep s).st⟩ s⟩
theorem bD {many b:Int} (L:Led P H0 H l fs) (m:Put p (cD b) (cD (b+1024)) l l') (h0 : 0 < many) (h1:many≤10 ^ 50) (hb:b≤1000000000)
  (q:∀ r H',0≤r→r < many→Led P H0 H' l' fs→Chg p H H'→Q (.int r) H'):dQ [.ref p,.int many] H Q E:=
 have hh:=cD.at (L.at_ _ m.mem)
 ⟨p,many,b,rfl,h0,h1,hh,hb,fun r H' r0 r1 hh' o=>q r H' r0 r1 (L.set m (hh.ts o) hh'.ob) (hh.ts o)⟩
theorem eL {b:Int} (h:bI H p b):Led (·=p) H H [(p,cD b)] []:=
 ⟨fun x hx=>by rw [List.mem_singleton.mp hx];exact h.ob,by simp,fun x hx=>.inl (by rw [List.mem_singleton.mp hx]),fun _ _ h _=>h,fun _ h=>by simp at h⟩
end
structure ShN (c s:Int):Prop where
 c1 : 1≤c
 c2:c≤1000
 s1 : 1≤s
 s2:s≤1000
theorem Kh:¬ (("counts" : Str) = "slots"):=by decide +kernel
def shF (c s:Int):List (Str×V):=[("counts",.int c),("slots",.int s)]
theorem CV (c s:Int):bN "slots" (.int s) (bN "counts" (.int c) [])=shF c s:=by
 show (if ("counts" : Str) = "slots" then _ else (("counts" : Str),V.int c)::[(("slots" : Str),V.int s)])=_
 rw [if_neg Kh]
 rfl
theorem FF (c s:Int):(shF c s).lookup ("counts" : Str)=some (.int c):=by unfold shF;walk_at "lk"
theorem IW (c s:Int):(shF c s).lookup ("slots" : Str)=some (.int s):=by unfold shF;walk_at "lk"
def B8 (C:Addr) (c s:Int):Ob:=⟨fun _ o=>∃ dx,o = .ins C dx (shF c s),fun _ h=>h⟩
structure ShC (K:PySem.W.Frag) (C:Addr):Prop where
 cl:Cls K C
 nc:bq K C "counts"
 ns:bq K C "slots"
section
variable {P:Program} {w:World} {K:PySem.W.Frag} {mg:Str→Option Value} {base:Heap} {CX:CXT} {C:Addr}
theorem Af:ao ["thing"] ["thing"] (ai (top 12)):=by walk_at "s"
def fu:Sp:=fun vs H Q _=>∃ i:Int,vs=[.int i]∧Q (.bl true) H
theorem jg {H:Hp} {Q:VK} {x:V} {t:Value} {T:String} {b:Bool} (ty:iR K H x t) (e:PySem.W.kitOne K t (.type T)=some b) (h:Q (.bl b) H):Gr K [x,.ty T] H Q:=⟨x,_,t,b,rfl,ty,.inl ⟨T,rfl,e⟩,h⟩
theorem AS (D:Dat K mg "is_whole" "is_whole" (top 12) ["thing"]) (BT:Bt mg):Cal P w K mg base CX "is_whole" 1 ["thing"] fu:=by
 have S:=Af
 walk_at "d"
 ·obtain ⟨i,rfl,_⟩:=h
  rfl
 obtain ⟨i,rfl,q⟩:=h
 refine ⟨_,(ak (az (gO (ja BT.isinstance BT.int_ L3.B5 (pv 0)) (dS (AH (ja BT.isinstance BT.bool_ L3.qM (pv 0))))))),?_⟩
 dsimp only [aY]
 walk_at "go"
 refine jg (.int i) rfl ?_
 walk_at "go"
 refine jg (.int i) rfl ?_
 walk_at "go"
 exact q
theorem Dg:ao ["thing", "least"] ["thing", "least"] (ai (top 13)):=by walk_at "s"
def pH:Sp:=fun vs H Q _=>∃ i n:Int,vs=[.int i,.int n]∧Q (.bl (decide (n≤i))) H
theorem DU (D:Dat K mg "is_whole_from" "is_whole_from" (top 13) ["thing", "least"]) (NE:bf CX) (vF:Cal P w K mg base CX "is_whole" 1 ["thing"] fu):Cal P w K mg base CX "is_whole_from" 2 ["thing", "least"] pH:=by
 have S:=Dg
 walk_at "d"
 ·obtain ⟨i,n,rfl,_⟩:=h
  rfl
 obtain ⟨i,n,rfl,q⟩:=h
 refine ⟨_,(ak (az (gO (aG vF (hr.mono (by first | decide | omega)) NE.pass (aa (pv 0) ah)) (dS (cu jw (pv 1) (pv 0) (aI _)))))),?_⟩
 walk_at "go"
 refine ⟨i,rfl,?_⟩
 walk_at "go"
 exact q
theorem C4:ao ["thing"] ["thing"] (ai (top 14)):=by walk_at "s"
def z4:Sp:=fun vs H Q _=>∃ i:Int,vs=[.int i]∧1≤i∧i≤1000∧Q (.bl true) H
theorem DJ (D:Dat K mg "is_side" "is_side" (top 14) ["thing"]) (NE:bf CX) (kH:GlV mg "GREATEST_SIDE" (.int 1000)) (dW:Cal P w K mg base CX "is_whole_from" 2 ["thing", "least"] pH):Cal P w K mg base CX "is_side" 3 ["thing"] z4:=by
 have S:=C4
 walk_at "d"
 ·obtain ⟨i,rfl,_⟩:=h
  rfl
 obtain ⟨i,rfl,h1,h2,q⟩:=h
 refine ⟨_,(ak (az (gO (aG dW (hr.mono (by first | decide | omega)) NE.pass (aa (pv 0) (aa af ah))) (dS (cu jw (pv 0) (AJ kH) (aI _)))))),?_⟩
 walk_at "go"
 refine ⟨i,1,rfl,?_⟩
 rw [decide_eq_true h1]
 walk_at "go"
 rw [decide_eq_true h2]
 exact q
theorem Aj:ao ["self", "counts", "slots"] ["self", "counts", "slots"] (ai (inClass (top 15) 0)):=by walk_at "s"
def pe (C:Addr):Sp:=fun vs H Q _=>∃ (p dx:Addr) (c s:Int),vs=[.ref p,.int c,.int s]∧ShN c s∧H p=some (.ins C dx [])∧∀ H',H' p=some (.ins C dx (shF c s))→(∀ q o,H q=some o→q≠p→H' q=some o)→Q .non H'
theorem AX (D:uo K mg "Shape" "Shape.__init__" C (inClass (top 15) 0) ["self", "counts", "slots"]) (SC:ShC K C) (NE:bf CX) (oN:Cal P w K mg base CX "is_side" 3 ["thing"] z4):Mak P w K mg base CX "Shape" C 4 ["self", "counts", "slots"] (pe C):=by
 have S:=Aj
 walk_at "d"
 ·obtain ⟨p,dx,c,s,rfl,_⟩:=h
  rfl
 obtain ⟨p,dx,c,sl,rfl,n,hp,q⟩:=h
 refine ⟨_,(aj (bg (PW.pt (iU (cT (cK (aG oN (hr.mono (by first | decide | omega)) NE.pass (aa (pv 1) ah)))) (fR (cT (cK (aG oN (hr.mono (by first | decide | omega)) NE.pass (aa (pv 2) ah))))))) (ak gK) aK)
   (aj (dR (pv 0) (pv 1) rfl)
   (ak (dR (pv 0) (pv 2) rfl)))),?_⟩
 dsimp only [aY]
 walk_at "go"
 refine ⟨c,rfl,n.c1,n.c2,?_⟩
 walk_at "go"
 refine ⟨sl,rfl,n.s1,n.s2,?_⟩
 walk_at "go"
 refine ⟨p,C,dx,[],rfl,hp,SC.cl,SC.nc,by decide,?_⟩
 walk_at "go"
 refine ⟨p,C,dx,_,rfl,aB,SC.cl,SC.ns,(by show 1 < 1000;decide),?_⟩
 rw [eV,CV]
 exact q _ aB fun x o h z=>by rw [au z];exact h
theorem xF {PP:Addr→Prop} {H0 H:Hp} {l:List (Addr×Ob)} {fs:List Pr} {Q:VK} {E:XK} {c s:Int} (L:Led PP H0 H l fs) (n:ShN c s) (q:∀ x H',H x=none→Led PP H0 H' ((x,B8 C c s)::l) fs→aM H H'→Q (.ref x) H'):Made C (pe C) E [.int c,.int s] H Q:=by
 intro x dx nx nd ne
 refine ⟨x,dx,c,s,rfl,n,aB,fun H' h1 h2=>⟨rfl,?_⟩⟩
 have sm:aM H H':=fun b o e=>h2 b o (by rw [au (aq e nx),au (aq e nd)];exact e) (aq e nx)
 exact q x H' nx (L.add sm nx ⟨_,h1,dx,rfl⟩) sm
def mk (c s m l k:Int):Int:=(m * s+l) * c+k
def E9 (C:Addr) (H:Hp) (p:Addr) (c s:Int):Prop:=∃ dx,H p=some (.ins C dx (shF c s))
theorem C9:ao ["shape", "moment", "slot", "count"] ["shape", "moment", "slot", "count"] (ai (top 16)):=by walk_at "s"
def z7 (C:Addr):Sp:=fun vs H Q _=>∃ (p:Addr) (c s m l k:Int),vs=[.ref p,.int m,.int l,.int k]∧ShN c s∧E9 C H p c s∧Q (.int (mk c s m l k)) H
theorem DO (D:Dat K mg "mark_of" "mark_of" (top 16) ["shape", "moment", "slot", "count"]) (SC:ShC K C):Cal P w K mg base CX "mark_of" 1 ["shape", "moment", "slot", "count"] (z7 C):=by
 have S:=C9
 walk_at "d"
 ·obtain ⟨p,c,s,m,l,k,rfl,_⟩:=h
  rfl
 obtain ⟨p,c,sl,m,l,k,rfl,n,⟨dx,hp⟩,q⟩:=h
 obtain ⟨c1,c2,s1,s2⟩:=n
 refine ⟨_,(ak (az (aP bK (aP AQ (aP bK (aP AQ (pv 1) (bP (pv 0) rfl)) (pv 2)) (bP (pv 0) rfl)) (pv 3)))),?_⟩
 dsimp only [aY]
 walk_at "go"
 refine ⟨p,C,dx,_,_,rfl,hp,SC.cl,SC.ns,IW c sl,?_⟩
 refine G6 (show Cs _ _ from .inr ⟨by omega,by omega⟩) ?_
 walk_at "go"
 refine ⟨p,C,dx,_,_,rfl,hp,SC.cl,SC.nc,FF c sl,?_⟩
 refine G6 (show Cs _ _ from .inr ⟨by omega,by omega⟩) ?_
 walk_at "go"
 exact q
end
def n8:List Str:=["ahead", "apart", "ends", "once", "spoken"]
structure RuN (ws:List Str):Prop where
 sub:∀ x∈ws,x∈n8
 nd:ws.Nodup
def stF (sh:V) (far room term:Int) (tr:Addr):List (Str×V):=[("shape",sh),("far",.int far),("room",.int room),("term",.int term),("rules",.ref tr)]
structure StC (K:PySem.W.Frag) (C:Addr):Prop where
 cl:Cls K C
 n1:bq K C "shape"
 n2:bq K C "far"
 n3:bq K C "room"
 n4:bq K C "term"
 n5:bq K C "rules"
def qS (C:Addr) (H:Hp) (p:Addr) (sh:V) (far room term:Int) (ws:List Str):Prop:=∃ (dx tr:Addr) (ms:List Str),H p=some (.ins C dx (stF sh far room term tr))∧H tr=some (.tup (ms.map V.str))∧ms.Perm ws
structure StN (far room term:Int):Prop where
 f0 : 0≤far
 f1:far≤1000000000000
 r0 : 1≤room
 r1:room≤1000000000000
 t0 : 1≤term
 t1:term≤1000000000000
theorem CK (sh:V) (far room term:Int) (tr:Addr):bN "rules" (.ref tr) (bN "term" (.int term) (bN "room" (.int room) (bN "far" (.int far) (bN "shape" sh []))))=stF sh far room term tr:=by
 have a1:¬ (("shape" : Str) = "far"):=by decide +kernel
 have a2:¬ (("shape" : Str) = "room"):=by decide +kernel
 have a3:¬ (("shape" : Str) = "term"):=by decide +kernel
 have a4:¬ (("shape" : Str) = "rules"):=by decide +kernel
 have b2:¬ (("far" : Str) = "room"):=by decide +kernel
 have b3:¬ (("far" : Str) = "term"):=by decide +kernel
 have b4:¬ (("far" : Str) = "rules"):=by decide +kernel
 have c3:¬ (("room" : Str) = "term"):=by decide +kernel
 have c4:¬ (("room" : Str) = "rules"):=by decide +kernel
 have d4:¬ (("term" : Str) = "rules"):=by decide +kernel
 simp only [bN,if_neg a1,if_neg a2,if_neg a3,if_neg a4,if_neg b2,if_neg b3,if_neg b4,if_neg c3,if_neg c4,if_neg d4]
 rfl
theorem dM (f:Str) (v:V):∀ fs:List (Str×V),(bN f v fs).length≤fs.length+1
 | []=>Nat.le_refl 1
 | (g,x)::r=>by
  show (if g=f then (g,v)::r else (g,x)::bN f v r).length≤_
  have:=dM f v r
  by_cases c:g=f
  ·rw [if_pos c,List.length_cons,List.length_cons];omega
  ·rw [if_neg c,List.length_cons,List.length_cons];omega
theorem xR (sh:V) (far room term:Int) (tr:Addr):(stF sh far room term tr).lookup ("rules" : Str)=some (.ref tr):=by unfold stF;walk_at "lk"
theorem xQ (sh:V) (far room term:Int) (tr:Addr):(stF sh far room term tr).lookup ("shape" : Str)=some sh:=by unfold stF;walk_at "lk"
theorem CL (sh:V) (far room term:Int) (tr:Addr):(stF sh far room term tr).lookup ("far" : Str)=some (.int far):=by unfold stF;walk_at "lk"
theorem zY (sh:V) (far room term:Int) (tr:Addr):(stF sh far room term tr).lookup ("room" : Str)=some (.int room):=by unfold stF;walk_at "lk"
section
variable {P:Program} {w:World} {K:PySem.W.Frag} {mg:Str→Option Value} {base:Heap} {CX:CXT} {C aR:Addr}
theorem C3:ao ["thing", "least"] ["thing", "least"] (ai (top 42)):=by walk_at "s"
def z3:Sp:=fun vs H Q _=>∃ i n:Int,vs=[.int i,.int n]∧n≤i∧i≤1000000000000∧Q (.bl true) H
theorem DI (D:Dat K mg "is_span" "is_span" (top 42) ["thing", "least"]) (NE:bf CX) (kG:GlV mg "GREATEST_SPAN" (.int 1000000000000)) (dW:Cal P w K mg base CX "is_whole_from" 2 ["thing", "least"] pH):Cal P w K mg base CX "is_span" 3 ["thing", "least"] z3:=by
 have S:=C3
 walk_at "d"
 ·obtain ⟨i,n,rfl,_⟩:=h
  rfl
 obtain ⟨i,n,rfl,h1,h2,q⟩:=h
 refine ⟨_,(ak (az (gO (aG dW (hr.mono (by first | decide | omega)) NE.pass (aa (pv 0) (aa (pv 1) ah))) (dS (cu jw (pv 0) (AJ kG) (aI _)))))),?_⟩
 try dsimp only [aY]
 walk_at "go"
 refine ⟨i,n,rfl,?_⟩
 rw [decide_eq_true h1]
 walk_at "go"
 rw [decide_eq_true h2]
 exact q
theorem C5:ao ["thing"] ["thing"] (ai (top 43)):=by walk_at "s"
def z5:Sp:=fun vs H Q _=>∃ z:Str,vs=[.str z]∧z∈n8∧Q (.bl true) H
theorem DK (D:Dat K mg "is_rule" "is_rule" (top 43) ["thing"]) (BT:Bt mg) (e7:GlV mg "RULES" (.ref aR)) (hR:∀ H,SqT K H aR (n8.map V.str)):Cal P w K mg base CX "is_rule" 1 ["thing"] z5:=by
 have S:=C5
 walk_at "d"
 ·obtain ⟨z,rfl,_⟩:=h
  rfl
 obtain ⟨z,rfl,hz,q⟩:=h
 refine ⟨_,(ak (az (gO (ja BT.isinstance BT.str_ L3.Ib (pv 0)) (dS (cu om (pv 0) (AJ e7) (by with_unfolding_all rfl)))))),?_⟩
 try dsimp only [aY]
 walk_at "go"
 refine jg (.str z) rfl ?_
 walk_at "go"
 refine F0 (hR _) ?_
 rw [decide_eq_true hz]
 exact q
theorem Ak:ao ["thing"] ["thing"] (ai (top 44)):=by walk_at "s"
theorem AA {ws:List Str} (h:RuN ws):ws.length≤5:=by
 have:∀ (xs ys:List Str),xs.Nodup→(∀ x∈xs,x∈ys)→xs.length≤ys.length:=by
  intro xs
  induction xs with
  | nil=>intro ys _ _;exact Nat.zero_le _
  | cons x xs ih=>
   intro ys hn hs
   rw [List.nodup_cons] at hn
   have hx:=hs x List.mem_cons_self
   have:=ih (ys.erase x) hn.2 fun y hy=>(List.mem_erase_of_ne (fun e=>hn.1 (by rw [← e];exact hy))).mpr (hs y (List.mem_cons_of_mem _ hy))
   rw [List.length_erase_of_mem hx] at this
   have hp:=List.length_pos_of_mem hx
   rw [List.length_cons];omega
 exact this ws n8 h.nd h.sub
def lB:Sp:=fun vs H Q _=>∃ (a:Addr) (ws:List Str),vs=[.ref a]∧H a=some (.lst (ws.map V.str))∧RuN ws∧∀ H',aM H H'→Q (.bl true) H'
theorem AY (D:Dat K mg "are_rules" "are_rules" (top 44) ["thing"]) (BT:Bt mg) (NE:bf CX) (zm:Cal P w K mg base CX "is_rule" 1 ["thing"] z5):Cal P w K mg base CX "are_rules" 3 ["thing"] lB:=by
 have S:=Ak
 walk_at "d"
 ·obtain ⟨a,ws,rfl,_⟩:=h
  rfl
 obtain ⟨a,ws,rfl,ha,hw,q⟩:=h
 refine ⟨_,(aj (bg (e9 (jV (pv 0))) (ak (az dY)) aK)
   (aj (bg (cT (cK (Dy BT.isinstance (pv 0) (aQ (aa (pZ (v:=(V.ty "list")) rfl BT.list_ L3.kZ rfl) (aa (pZ (v:=(V.ty "tuple")) rfl BT.tuple_ L3.mH rfl) ah)))))) (ak (az dY)) aK)
   (aj (bg (cT (cK (aX (BW rfl) rfl BT.all L3.Ie (aa (iI (g:=(bE 0)) rfl (d8 (pv 0)) (iu (own:=["word"]) (cap:=[]) (ai (top 44)).names ["thing"] rfl rfl rfl (by decide +kernel)) (fun _ _ _ _=>(bB (i:=0) (show (mJ ["thing"] ["word"] []).Nodup by decide +kernel) rfl (by first | exact Or.inl rfl | exact Or.inr rfl))) (fun _ _ _ _=>r8) (fun _ _ _ _=>(aG zm (hr.mono (by first | decide | omega)) NE.pass (aa (pv 0) ah)))) ah)))) (ak (az dY)) aK)
   (ak (az (cu cC (yp rfl rfl rfl BT.len BT.set_ (pv 0)) (aX oM rfl BT.len L3.jm (aa (pv 0) ah)) (aI _))))))),?_⟩
 try dsimp only [aY]
 have hl5:=AA hw
 have L:=Led.start H (fun _=>False)
 walk_at "go"
 refine bS (fun z=>nomatch z) fun _=>?_
 walk_at "go"
 have s1:=L'.same
 refine Hu ["list", "tuple"] (.lst (s1 _ _ ha)) (L'.tup (by walk_at "mem")) rfl ?_
 clear L L'
 rename Hp=>H1
 walk_at "go"
 refine gZ (SqL.of (s1 _ _ ha)) ?_
 refine f7 (ws.map V.str) (fun i ys Hx=>ys=(List.replicate i true).map V.bl∧Hx=H1) ⟨rfl,rfl⟩ (fun i ys Hx hi ⟨e,e2⟩=>⟨e2▸SqL.of (s1 _ _ ha),by
  rw [e,List.length_map,List.length_replicate]
  rw [List.length_map] at hi
  exact Nat.le_of_lt (small1000 (by omega))⟩) ?_ ?_
 ·rintro i v ys H2 hv ⟨rfl,rfl⟩
  obtain ⟨z,hz,rfl⟩:∃ z,z∈ws∧v = .str z:=by
   obtain ⟨z,hz,e⟩:=List.mem_map.mp (List.mem_of_getElem? hv)
   exact ⟨z,hz,e.symm⟩
  try dsimp only [bE]
  walk_at "go"
  refine ⟨z,rfl,hw.sub z hz,?_⟩
  exact ⟨by rw [List.replicate_succ',List.map_append];rfl,rfl⟩
 ·rintro ys H2 ⟨rfl,rfl⟩ lc nlc
  rw [List.length_map]
  have s2:aM H2 (upd H2 lc (.lst ((List.replicate ws.length true).map V.bl))):=gI nlc _
  walk_at "go"
  refine HN (bs:=List.replicate ws.length true) (SqL.of aB) ?_
  rw [show (List.replicate ws.length true).all id=true by rw [List.all_eq_true];intro b hb;exact (List.mem_replicate.mp hb).2]
  walk_at "go"
  refine za (SqL.of (s2 _ _ (s1 _ _ ha))) (by omega) ?_
  walk_at "go"
  refine iM (SqL.of (s2 _ _ (s1 _ _ ha))) ?_
  walk_at "go"
  have e:decide ((((bM [] ws).length:Nat):Int)=(((ws.map V.str).length:Nat):Int))=true:=decide_eq_true (by rw [mP ws [] hw.nd (fun _ _ h=>by simp at h),List.length_nil,Nat.zero_add,List.length_map])
  rw [e]
  exact q _ (s1.trans s2)
theorem rM:ao ["self", "shape", "far", "room", "term", "rules"] ["self", "shape", "far", "room", "term", "rules"] (ai (inClass (top 45) 0)):=by walk_at "s"
def i8 (C:Addr):Sp:=fun vs H Q _=>∃ (p dx a:Addr) (sh:V) (far room term:Int) (ws:List Str),vs=[.ref p,sh,.int far,.int room,.int term,.ref a]∧StN far room term∧H a=some (.lst (ws.map V.str))∧RuN ws∧H p=some (.ins C dx []) ∧
 ∀ (tr:Addr) (ms:List Str) (H':Hp),ms.Perm ws→H' p=some (.ins C dx (stF sh far room term tr))→H' tr=some (.tup (ms.map V.str))→(∀ q o,H q=some o→q≠p→H' q=some o)→Q .non H'
theorem sy (D:oW K mg "Settings" "Settings.__init__" C (inClass (top 45) 0) ["self", "shape", "far", "room", "term", "rules"]) (SC:StC K C) (BT:Bt mg) (NE:bf CX) (e7:GlV mg "RULES" (.ref aR)) (kj:Cal P w K mg base CX "is_span" 3 ["thing", "least"] z3) (tT:Cal P w K mg base CX "are_rules" 3 ["thing"] lB):Mak P w K mg base CX "Settings" C 4 ["self", "shape", "far", "room", "term", "rules"] (i8 C):=by
 have S:=rM
 walk_at "d"
 ·obtain ⟨p,dx,a,sh,far,room,term,ws,rfl,_⟩:=h
  rfl
 obtain ⟨p,dx,a,sh,far,room,term,ws,rfl,n,ha,hw,hp,q⟩:=h
 refine ⟨_,(aj (bg (cT (cK (aG kj (hr.mono (by first | decide | omega)) NE.pass (aa (pv 2) (aa af ah))))) (ak gK) aK)
   (aj (bg (cT (cK (aG kj (hr.mono (by first | decide | omega)) NE.pass (aa (pv 3) (aa af ah))))) (ak gK) aK)
   (aj (bg (cT (cK (aG kj (hr.mono (by first | decide | omega)) NE.pass (aa (pv 4) (aa af ah))))) (ak gK) aK)
   (aj (bg (cT (cK (aG tT (hr.mono (by first | decide | omega)) NE.pass (aa (pv 5) ah)))) (ak gK) aK)
   (aj (dR (pv 0) (pv 1) rfl)
   (aj (dR (pv 0) (pv 2) rfl)
   (aj (dR (pv 0) (pv 3) rfl)
   (aj (dR (pv 0) (pv 4) rfl)
   (ak (dR (pv 0) (eG (e9 (jV (pv 5))) (AJ e7) (iJ EW rfl BT.tuple_ L3.mH (aa (aX EY rfl BT.sorted L3.zo (aa (pv 5) ah)) ah))) rfl)))))))))),?_⟩
 try dsimp only [aY]
 have hl5:=AA hw
 walk_at "go"
 refine ⟨far,0,rfl,n.f0,n.f1,?_⟩
 walk_at "go"
 refine ⟨room,1,rfl,n.r0,n.r1,?_⟩
 walk_at "go"
 refine ⟨term,1,rfl,n.t0,n.t1,?_⟩
 walk_at "go"
 refine ⟨a,ws,rfl,ha,hw,fun H1 s1=>?_⟩
 have ha1:=s1 _ _ ha
 have hp1:=s1 _ _ hp
 have npa:a≠p:=fun z=>by rw [z,hp] at ha;cases ha
 have k1:=dM ("shape" : Str) sh []
 have k2:=dM ("far" : Str) (.int far) (bN "shape" sh [])
 have k3:=dM ("room" : Str) (.int room) (bN "far" (.int far) (bN "shape" sh []))
 have k4:=dM ("term" : Str) (.int term) (bN "room" (.int room) (bN "far" (.int far) (bN "shape" sh [])))
 rw [List.length_nil] at k1
 walk_at "go"
 refine ⟨p,C,dx,[],rfl,hp1,SC.cl,SC.n1,by decide,?_⟩
 walk_at "go"
 refine ⟨p,C,dx,_,rfl,aB,SC.cl,SC.n2,by omega,?_⟩
 rw [eV]
 walk_at "go"
 refine ⟨p,C,dx,_,rfl,aB,SC.cl,SC.n3,by omega,?_⟩
 rw [eV]
 walk_at "go"
 refine ⟨p,C,dx,_,rfl,aB,SC.cl,SC.n4,by omega,?_⟩
 rw [eV]
 have key:=fun tr=>CK sh far room term tr
 generalize bN ("term" : Str) (.int term) (bN "room" (.int room) (bN "far" (.int far) (bN "shape" sh [])))=fs at *
 have hpc:(upd H1 p (.ins C dx fs)) p=some (.ins C dx fs):=aB
 have hac:(upd H1 p (.ins C dx fs)) a=some (.lst (ws.map V.str)):=by rw [au npa];exact ha1
 have oc:∀ q o,H q=some o→q≠p→(upd H1 p (.ins C dx fs)) q=some o:=fun q o e z=>by rw [au z];exact s1 _ _ e
 generalize upd H1 p (.ins C dx fs)=Hc at *
 have L:=Led.start Hc (fun _=>False)
 walk_at "go"
 refine bS (fun z=>nomatch z) fun _=>?_
 walk_at "go"
 refine Er L (SqL.of hac) (by omega) fun lb ms H2 nb pm _ L s2=>?_
 walk_at "go"
 refine Bu L (SqL.of (L.eo (p:=lb) .head)) fun tr H3 nt L s3=>?_
 walk_at "go"
 have hp3:=s3 _ _ (s2 _ _ hpc)
 have htr:=L.tup (r:=tr) (xs:=ms.map V.str) (by walk_at "mem")
 have KJ:tr≠p:=fun z=>by rw [z,hp3] at htr;cases htr
 refine ⟨p,C,dx,fs,rfl,hp3,SC.cl,SC.n5,by omega,?_⟩
 refine q tr ms _ pm (by rw [aB,key]) (by rw [au KJ];exact htr) fun x o e z=>by rw [au z];exact s3 _ _ (s2 _ _ (oc x o e z))
theorem oY {PP:Addr→Prop} {H0 H:Hp} {l:List (Addr×Ob)} {fs:List Pr} {Q:VK} {E:XK} {a:Addr} {sh:V} {far room term:Int} {ws:List Str} (n:StN far room term) (ha:H a=some (.lst (ws.map V.str))) (hw:RuN ws) (q:∀ x H',H x=none→qS C H' x sh far room term ws→aM H H'→Q (.ref x) H'):Made C (i8 C) E [sh,.int far,.int room,.int term,.ref a] H Q:=by
 intro x dx nx nd ne
 have sm0:∀ b o,H b=some o→(upd (upd H dx (.own x)) x (.ins C dx [])) b=some o:=fun b o e=>by rw [au (aq e nx),au (aq e nd)];exact e
 refine ⟨x,dx,a,sh,far,room,term,ws,rfl,n,sm0 _ _ ha,hw,aB,fun tr ms H' pm h1 h2 h3=>⟨rfl,?_⟩⟩
 exact q x H' nx ⟨dx,tr,ms,h1,h2,pm⟩ fun b o e=>h3 b o (sm0 _ _ e) (aq e nx)
theorem uG:ao ["settings", "word"] ["settings", "word"] (ai (top 46)):=by walk_at "s"
def fz (C:Addr):Sp:=fun vs H Q _=>∃ (p:Addr) (sh:V) (far room term:Int) (ws:List Str) (z:Str),vs=[.ref p,.str z]∧qS C H p sh far room term ws∧Q (.bl (decide (z∈ws))) H
theorem uU (D:Dat K mg "has_rule" "has_rule" (top 46) ["settings", "word"]) (SC:StC K C):Cal P w K mg base CX "has_rule" 1 ["settings", "word"] (fz C):=by
 have S:=uG
 walk_at "d"
 ·obtain ⟨p,sh,far,room,term,ws,z,rfl,_⟩:=h
  rfl
 obtain ⟨p,sh,far,room,term,ws,z,rfl,⟨dx,tr,ms,hp,ht,pm⟩,q⟩:=h
 refine ⟨_,(ak (az (cu om (pv 1) (bP (pv 0) rfl) (by with_unfolding_all rfl)))),?_⟩
 try dsimp only [aY]
 walk_at "go"
 refine ⟨p,C,dx,_,_,rfl,hp,SC.cl,SC.n5,xR sh far room term tr,?_⟩
 refine F0 (SqT.of ht) ?_
 rw [show decide (z∈ms)=decide (z∈ws) from decide_eq_decide.mpr pm.mem_iff]
 exact q
end
def xP (H:Hp) (t:Addr) (x y z:Int):Prop:=H t=some (.tup [.int x,.int y,.int z])
section
variable {P:Program} {w:World} {K:PySem.W.Frag} {mg:Str→Option Value} {base:Heap} {CX:CXT} {C:Addr}
theorem uB:ao ["area"] ["area"] (ai (top 18)):=by walk_at "s"
def Ab:Sp:=fun vs H Q _=>∃ (t:Addr) (x y z:Int),vs=[.ref t]∧xP H t x y z∧Q (.int x) H
def wG:Sp:=fun vs H Q _=>∃ (t:Addr) (x y z:Int),vs=[.ref t]∧xP H t x y z∧Q (.int y) H
def nY:Sp:=fun vs H Q _=>∃ (t:Addr) (x y z:Int),vs=[.ref t]∧xP H t x y z∧Q (.int z) H
theorem uP (D:Dat K mg "slot_of" "slot_of" (top 18) ["area"]):Cal P w K mg base CX "slot_of" 1 ["area"] Ab:=by
 have S:=uB
 walk_at "d"
 ·obtain ⟨t,x,y,z,rfl,_⟩:=h
  rfl
 obtain ⟨t,x,y,z,rfl,ht,q⟩:=h
 refine ⟨_,(ak (az (ay aE (pv 0) af (fun _ _=>rfl)))),?_⟩
 dsimp only [aY]
 have L:=(Led.start H (fun _=>False)).more (aO t [.int x,.int y,.int z]) ht
 walk_at "go"
 exact q
theorem rR:ao ["area"] ["area"] (ai (top 19)):=by walk_at "s"
theorem sJ (D:Dat K mg "first_of" "first_of" (top 19) ["area"]):Cal P w K mg base CX "first_of" 1 ["area"] wG:=by
 have S:=rR
 walk_at "d"
 ·obtain ⟨t,x,y,z,rfl,_⟩:=h
  rfl
 obtain ⟨t,x,y,z,rfl,ht,q⟩:=h
 refine ⟨_,(ak (az (ay aE (pv 0) af (fun _ _=>rfl)))),?_⟩
 dsimp only [aY]
 have L:=(Led.start H (fun _=>False)).more (aO t [.int x,.int y,.int z]) ht
 walk_at "go"
 exact q
theorem yk:ao ["area"] ["area"] (ai (top 20)):=by walk_at "s"
theorem yK (D:Dat K mg "end_of" "end_of" (top 20) ["area"]):Cal P w K mg base CX "end_of" 1 ["area"] nY:=by
 have S:=yk
 walk_at "d"
 ·obtain ⟨t,x,y,z,rfl,_⟩:=h
  rfl
 obtain ⟨t,x,y,z,rfl,ht,q⟩:=h
 refine ⟨_,(ak (az (ay aE (pv 0) af (fun _ _=>rfl)))),?_⟩
 dsimp only [aY]
 have L:=(Led.start H (fun _=>False)).more (aO t [.int x,.int y,.int z]) ht
 walk_at "go"
 exact q
end
inductive Ln
 | took (g sl f e:Int)
 | held (m:Int)
 | heard (m:Int)
 | ends (g e:Int)
inductive gA (H:Hp) (t:Addr):Ln→Prop
 | took {g sl f e:Int} {ar:Addr} (h:H t=some (.tup [.str "took",.int g,.ref ar])) (ha:H ar=some (.tup [.int sl,.int f,.int e])):gA H t (.took g sl f e)
 | held {m:Int} (h:H t=some (.tup [.str "held",.int m])):gA H t (.held m)
 | heard {m:Int} (h:H t=some (.tup [.str "heard",.int m])):gA H t (.heard m)
 | ends {g e:Int} (h:H t=some (.tup [.str "ends",.int g,.int e])):gA H t (.ends g e)
theorem gA.ts {H H':Hp} {t:Addr} {l:Ln} (h:gA H t l) (s:cB H H'):gA H' t l:=by
 cases h with
 | took h ha=>exact .took (s _ _ h) (s _ _ ha)
 | held h=>exact .held (s _ _ h)
 | heard h=>exact .heard (s _ _ h)
 | ends h=>exact .ends (s _ _ h)
theorem gA.same {H H':Hp} {t:Addr} {l:Ln} (h:gA H t l) (s:aM H H'):gA H' t l:=h.ts (bV s)
abbrev Lns:=List (Addr×Ln)
def lnV (ls:Lns):List V:=ls.map fun x=>.ref x.1
def bH (H:Hp) (ls:Lns):Prop:=∀ x∈ls,gA H x.1 x.2
theorem bH.ts {H H':Hp} {ls:Lns} (h:bH H ls) (s:cB H H'):bH H' ls:=fun x hx=>(h x hx).ts s
theorem bH.same {H H':Hp} {ls:Lns} (h:bH H ls) (s:aM H H'):bH H' ls:=fun x hx=>(h x hx).same s
theorem cN (ls:Lns):(lnV ls).length=ls.length:=List.length_map ..
theorem d9 {ls:Lns} {i:Nat} {v:V} (h:(lnV ls)[i]?=some v):∃ x,ls[i]?=some x∧v = .ref x.1:=by
 unfold lnV at h
 rw [List.getElem?_map] at h
 cases e:ls[i]? with
 | none=>rw [e] at h;cases h
 | some x=>rw [e] at h;cases h;exact ⟨x,rfl,rfl⟩
theorem vd {ls:Lns} {i:Nat} {x:Addr×Ln} (h:ls[i]?=some x):(lnV ls)[i]?=some (.ref x.1):=by
 unfold lnV;rw [List.getElem?_map,h];rfl
theorem eK {ls:Lns} {x:Addr×Ln}:lnV (ls++[x])=lnV ls++[.ref x.1]:=by
 unfold lnV;rw [List.map_append];rfl
theorem take_snoc {α : Type} {gs:List α} {i:Nat} {x : α} (h:gs[i]?=some x):gs.take (i+1)=gs.take i++[x]:=by
 rw [List.take_add_one,h];rfl
structure Nt where
 g:Int
 ar:Option (Int×Int×Int)
 hd:Int
 hr:Int
def Nt.nil:Nt:=⟨0,none,0,0⟩
def Nt.step (n:Nt):Ln→Nt
 | .took g sl f e=>⟨g,some (sl,f,e),n.hd,n.hr⟩
 | .held m=>⟨n.g,n.ar,max n.hd m,n.hr⟩
 | .heard m=>⟨n.g,n.ar,n.hd,max n.hr m⟩
 | .ends g e=>if g=n.g then ⟨n.g,n.ar.map fun x=>(x.1,x.2.1,min x.2.2 e),n.hd,n.hr⟩ else n
def bh (n:Nt) (ls:Lns):Nt:=ls.foldl (fun n x=>n.step x.2) n
theorem dg (n:Nt) (g e:Int):n.step (.ends g e)=if g=n.g then ⟨n.g,n.ar.map fun x=>(x.1,x.2.1,min x.2.2 e),n.hd,n.hr⟩ else n:=rfl
theorem vo {n:Nt} {ls:Lns} {i:Nat} {x:Addr×Ln} (h:ls[i]?=some x):bh n (ls.take (i+1))=(bh n (ls.take i)).step x.2:=by
 unfold bh
 rw [take_snoc h,List.foldl_append];rfl
theorem qv {α : Type} {p : α→Bool} {xs:List α} {i:Nat} {x : α} (h:xs[i]?=some x) (b:p x=true):(xs.take (i+1)).filter p=(xs.take i).filter p++[x]:=by
 rw [take_snoc h,List.filter_append,List.filter_cons_of_pos (by exact b),List.filter_nil]
theorem vp {α : Type} {p : α→Bool} {xs:List α} {i:Nat} {x : α} (h:xs[i]?=some x) (b:p x=false):(xs.take (i+1)).filter p=(xs.take i).filter p:=by
 rw [take_snoc h,List.filter_append,List.filter_cons_of_neg (by rw [b];exact Bool.false_ne_true),List.filter_nil,List.append_nil]
def isT (x:Addr×Ln):Bool:=match x.2 with
 | .took ..=>true
 | _=>false
def gOf (x:Addr×Ln):Int:=match x.2 with
 | .took g ..=>g
 | _=>0
def gts (ls:Lns):List Int:=(ls.filter isT).map gOf
theorem f9:∀ (T:List Int) (z:Int),z≤T.foldl max z∧(∀ a∈T,a≤T.foldl max z)∧(T.foldl max z=z∨T.foldl max z∈T)
 | [],z=>⟨Int.le_refl _,(fun _ h=>by simp at h),.inl rfl⟩
 | x::T,z=>by
  obtain ⟨h1,h2,h3⟩:=f9 T (max z x)
  rw [List.foldl_cons]
  refine ⟨by omega,fun a ha=>?_,?_⟩
  ·rcases List.mem_cons.mp ha with rfl | ha
   ·omega
   ·exact h2 a ha
  ·rcases h3 with h3 | h3
   ·by_cases c:z≤x
    ·exact .inr (by rw [h3,show max z x=x by omega];exact List.mem_cons_self)
    ·exact .inl (by rw [h3];omega)
   ·exact .inr (List.mem_cons_of_mem _ h3)
theorem jF {T:List Int} {z M:Int} (h1:M=z∨M∈T) (h2:∀ a∈T,a≤M) (h3:z≤M):T.foldl max z=M:=by
 obtain ⟨k1,k2,k3⟩:=f9 T z
 refine Int.le_antisymm ?_ ?_
 ·rcases k3 with k | k
  ·omega
  ·exact h2 _ k
 ·rcases h1 with rfl | h
  ·exact k1
  ·exact k2 _ h
def tY:Ln→Prop
 | .took g _ _ _=>1≤g
 | .ends g _=>1≤g
 | _=>True
def bX (ls:Lns):Prop:=∀ x∈ls,tY x.2
structure zu (n:Nt):Prop where
 no:n.ar=none→n.g=0
 yes:n.ar.isSome=true→1≤n.g
theorem Nt.DH {n:Nt} {l:Ln} (h:zu n) (g:tY l):zu (n.step l):=by
 cases l with
 | took g' sl f e=>exact ⟨(fun z=>by cases z),fun _=>g⟩
 | held m=>exact ⟨h.no,h.yes⟩
 | heard m=>exact ⟨h.no,h.yes⟩
 | ends g' e=>
  rw [dg]
  by_cases c:g'=n.g
  ·rw [if_pos c]
   exact ⟨fun z=>h.no (Option.map_eq_none_iff.mp z),fun z=>h.yes (by simpa using z)⟩
  ·rw [if_neg c];exact h
theorem l7:∀ {ls:Lns} {n:Nt},zu n→bX ls→zu (bh n ls)
 | [],_,h,_=>h
 | x::ls,n,h,g=>l7 (ls:=ls) (Nt.DH h (g x List.mem_cons_self)) fun y hy=>g y (List.mem_cons_of_mem _ hy)
theorem A1:zu Nt.nil:=⟨fun _=>rfl,fun z=>by cases z⟩
def nG (K:PySem.W.Frag) (H:Hp) (t:Addr) (n:Nt):Prop:=∃ v,SqT K H t [.int n.g,v,.int n.hd,.int n.hr]∧((n.ar=none∧v = .non)∨∃ (a:Addr) (sl f e:Int),n.ar=some (sl,f,e)∧v = .ref a∧H a=some (.tup [.int sl,.int f,.int e]))
theorem rT {K:PySem.W.Frag} {H H':Hp} {a:Addr} {xs:List V} (e:aM H H') (h:SqT K H a xs):SqT K H' a xs:=by
 rcases h with (h | ⟨o,h⟩) | h
 ·exact .inl (.inl (e _ _ h))
 ·exact .inl (.inr ⟨o,e _ _ h⟩)
 ·exact .inr h
theorem nG.same {K:PySem.W.Frag} {H H':Hp} {t:Addr} {n:Nt} (h:nG K H t n) (s:aM H H'):nG K H' t n:=by
 obtain ⟨v,hs,hv⟩:=h
 refine ⟨v,rT s hs,?_⟩
 rcases hv with z | ⟨a,sl,f,e,ea,ev,ha⟩
 ·exact .inl z
 ·exact .inr ⟨a,sl,f,e,ea,ev,s _ _ ha⟩
section
variable {P:Program} {w:World} {K:PySem.W.Frag} {mg:Str→Option Value} {base:Heap} {CX:CXT}
theorem Aw:ao ["area", "end"] ["area", "end"] (ai (top 21)):=by walk_at "s"
def wD:Sp:=fun vs H Q _=>∃ (t:Addr) (sl f e x:Int),vs=[.ref t,.int x]∧xP H t sl f e∧∀ t' H',H' t'=some (.tup [.int sl,.int f,.int x])→aM H H'→Q (.ref t') H'
theorem A9 (D:Dat K mg "ended_at" "ended_at" (top 21) ["area", "end"]) (NE:bf CX) (kh:Cal P w K mg base CX "slot_of" 1 ["area"] Ab) (eS:Cal P w K mg base CX "first_of" 1 ["area"] wG):Cal P w K mg base CX "ended_at" 2 ["area", "end"] wD:=by
 have S:=Aw
 walk_at "d"
 ·obtain ⟨t,sl,f,e,x,rfl,_⟩:=h
  rfl
 obtain ⟨t,sl,f',e,x,rfl,ht,q⟩:=h
 refine ⟨_,(ak (az (aQ (aa (aG kh (hr.mono (by first | decide | omega)) NE.pass (aa (pv 0) ah)) (aa (aG eS (hr.mono (by first | decide | omega)) NE.pass (aa (pv 0) ah)) (aa (pv 1) ah)))))),?_⟩
 try dsimp only [aY]
 have L:=Led.start H (fun _=>False)
 walk_at "go"
 refine ⟨t,_,_,_,rfl,ht,?_⟩
 walk_at "go"
 refine ⟨t,_,_,_,rfl,ht,?_⟩
 walk_at "go"
 exact q _ _ (L'.tup (by walk_at "mem")) L'.same
theorem xX:ao ["told", "line"] ["told", "line"] (ai (top 30)):=by walk_at "s"
def rE (K:PySem.W.Frag):Sp:=fun vs H Q _=>∃ (t l:Addr) (n:Nt) (ln:Ln),vs=[.ref t,.ref l]∧nG K H t n∧zu n∧gA H l ln∧tY ln∧∀ t' H',nG K H' t' (n.step ln)→aM H H'→Q (.ref t') H'
theorem yv (D:Dat K mg "read_on" "read_on" (top 30) ["told", "line"]) (BT:Bt mg) (NE:bf CX) (cX:Cal P w K mg base CX "end_of" 1 ["area"] nY) (vG:Cal P w K mg base CX "ended_at" 2 ["area", "end"] wD):Cal P w K mg base CX "read_on" 3 ["told", "line"] (rE K):=by
 have S:=xX
 walk_at "d"
 ·obtain ⟨t,l,n,ln,rfl,_⟩:=h
  rfl
 obtain ⟨t,l,n,ln,rfl,hn,hok,hl,hg,q⟩:=h
 refine ⟨_,(aj (bg (aJ cC (ay aE (pv 1) af (fun _ _=>rfl)) aF (aI _)) (ak (az (aQ (aa (ay aE (pv 1) af (fun _ _=>rfl)) (aa (ay aE (pv 1) af (fun _ _=>rfl)) (aa (ay aE (pv 0) af (fun _ _=>rfl)) (aa (ay aE (pv 0) af (fun _ _=>rfl)) ah))))))) aK)
   (aj (bg (aJ cC (ay aE (pv 1) af (fun _ _=>rfl)) aF (aI _)) (ak (az (aQ (aa (ay aE (pv 0) af (fun _ _=>rfl)) (aa (ay aE (pv 0) af (fun _ _=>rfl)) (aa (aX (iY rfl) rfl BT.max L3.cI (aa (ay aE (pv 0) af (fun _ _=>rfl)) (aa (ay aE (pv 1) af (fun _ _=>rfl)) ah))) (aa (ay aE (pv 0) af (fun _ _=>rfl)) ah))))))) aK)
   (aj (bg (aJ cC (ay aE (pv 1) af (fun _ _=>rfl)) aF (aI _)) (ak (az (aQ (aa (ay aE (pv 0) af (fun _ _=>rfl)) (aa (ay aE (pv 0) af (fun _ _=>rfl)) (aa (ay aE (pv 0) af (fun _ _=>rfl)) (aa (aX (iY rfl) rfl BT.max L3.cI (aa (ay aE (pv 0) af (fun _ _=>rfl)) (aa (ay aE (pv 1) af (fun _ _=>rfl)) ah))) ah))))))) aK)
   (aj (bg (aJ sf (ay aE (pv 1) af (fun _ _=>rfl)) (ay aE (pv 0) af (fun _ _=>rfl)) (aI _)) (ak (az (pv 0))) aK)
   (ak (az (aQ (aa (ay aE (pv 0) af (fun _ _=>rfl)) (aa (aG vG (hr.mono (by first | decide | omega)) NE.pass (aa (ay aE (pv 0) af (fun _ _=>rfl)) (aa (aX (F7 rfl) rfl BT.min L3.vH (aa (aG cX (hr.mono (by first | decide | omega)) NE.pass (aa (ay aE (pv 0) af (fun _ _=>rfl)) ah)) (aa (ay aE (pv 1) af (fun _ _=>rfl)) ah))) ah))) (aa (ay aE (pv 0) af (fun _ _=>rfl)) (aa (ay aE (pv 0) af (fun _ _=>rfl)) ah))))))))))),?_⟩
 try dsimp only [aY]
 obtain ⟨v,hs,hv⟩:=id hn
 have x1:¬ (("held" : Str) = "took"):=by decide +kernel
 have x2:¬ (("heard" : Str) = "took"):=by decide +kernel
 have x3:¬ (("ends" : Str) = "took"):=by decide +kernel
 have x4:¬ (("heard" : Str) = "held"):=by decide +kernel
 have x5:¬ (("ends" : Str) = "held"):=by decide +kernel
 have x6:¬ (("ends" : Str) = "heard"):=by decide +kernel
 cases hl with
 | took h ha=>
  have L:=(Led.start H (fun _=>False)).more (aO l [_,_,_]) h
  walk_at "go"
  exact q _ _ ⟨_,SqT.of (L'.tup (by walk_at "mem")),.inr ⟨_,_,_,_,rfl,rfl,L'.same _ _ ha⟩⟩ L'.same
 | held h=>
  have L:=(Led.start H (fun _=>False)).more (aO l [_,_]) h
  walk_at "go"
  refine q _ _ ⟨v,SqT.of (L'.tup (by walk_at "mem")),?_⟩ L'.same
  rcases hv with z | ⟨a,sl,f',e,ea,ev,ha⟩
  ·exact .inl z
  ·exact .inr ⟨a,sl,f',e,ea,ev,L'.same _ _ ha⟩
 | heard h=>
  have L:=(Led.start H (fun _=>False)).more (aO l [_,_]) h
  walk_at "go"
  refine q _ _ ⟨v,SqT.of (L'.tup (by walk_at "mem")),?_⟩ L'.same
  rcases hv with z | ⟨a,sl,f',e,ea,ev,ha⟩
  ·exact .inl z
  ·exact .inr ⟨a,sl,f',e,ea,ev,L'.same _ _ ha⟩
 | @ends g' e' h=>
  have L:=(Led.start H (fun _=>False)).more (aO l [_,_,_]) h
  have g1 : 1≤g':=hg
  rw [dg] at q
  walk_at "go"
  refine JR (fun z=>?_) (fun z=>?_)
  ·rw [if_pos z] at q
   rcases hv with ⟨e,rfl⟩ | ⟨a,sl,f',e,ea,rfl,ha⟩
   ·exact absurd (hok.no e) (by omega)
   rw [ea] at q
   walk_at "go"
   refine ⟨a,_,_,_,rfl,ha,?_⟩
   walk_at "go"
   refine ⟨a,_,_,_,_,rfl,ha,fun t2 H2 ht2 s2=>?_⟩
   have hs2:=rT s2 hs
   have M:=(Led.start H2 (fun _=>False)).more (aO t2 [_,_,_]) ht2
   clear L
   walk_at "go"
   exact q _ _ ⟨_,SqT.of (L'.tup (by walk_at "mem")),.inr ⟨t2,sl,f',_,rfl,rfl,L'.tup (r:=t2) (by walk_at "mem")⟩⟩ (s2.trans L'.same)
  ·rw [if_neg z] at q
   walk_at "go"
   exact q _ _ hn (aM.refl _)
theorem Al:ao ["lines", "told", "line"] ["lines"] (ai (top 31)):=by walk_at "s"
def eX (K:PySem.W.Frag):Sp:=fun vs H Q _=>∃ (a:Addr) (ls:Lns),vs=[.ref a]∧SqL K H a (lnV ls)∧bH H ls∧bX ls∧∀ t H',nG K H' t (bh Nt.nil ls)→aM H H'→Q (.ref t) H'
theorem AZ {aN:Addr} (D:Dat K mg "read_note" "read_note" (top 31) ["lines"]) (NE:bf CX) (fL:GlV mg "NOTHING" (.ref aN)) (hN:∀ H,SqT K H aN [.int 0,.non,.int 0,.int 0]) (zk:Cal P w K mg base CX "read_on" 3 ["told", "line"] (rE K)):Cal P w K mg base CX "read_note" 4 ["lines"] (eX K):=by
 have S:=Al
 walk_at "d"
 ·obtain ⟨a,ls,rfl,_⟩:=h
  rfl
 obtain ⟨a,ls,rfl,hS,hL,hg,q⟩:=h
 refine ⟨_,(aj (aL (i:=1) S.nd rfl (by first | exact Or.inl rfl | exact Or.inr rfl) (AJ fL))
   (aj (lF PassesOwn.never rfl (d8 (pv 0)) (bB (i:=2) S.nd rfl (by first | exact Or.inl rfl | exact Or.inr rfl)) (ak (aL (i:=1) S.nd rfl (by first | exact Or.inl rfl | exact Or.inr rfl) (aG zk (hr.mono (by first | decide | omega)) NE.pass (aa (pv 1) (aa (pv 2) ah))))))
   (ak (az (pv 1))))),?_⟩
 try dsimp only [aY]
 walk_at "go"
 refine gZ hS ?_
 refine BC (lnV ls) (fun i σ H'=>∃ (t:Addr) (u2:Option V),σ=[some (.ref a),some (.ref t),u2]∧nG K H' t (bh Nt.nil (ls.take i))∧aM H H') ⟨aN,_,rfl,⟨.non,hN H,.inl ⟨rfl,rfl⟩⟩,aM.refl _⟩ (fun i σ H' _ ⟨_,_,_,_,sm⟩=>sm.seq hS) ?_ ?_
 ·rintro i v σ HG hv ⟨t,u2,rfl,hn,sm⟩
  obtain ⟨x,hx,rfl⟩:=d9 hv
  have xm:=List.mem_of_getElem? hx
  try dsimp only [bE]
  walk_at "go"
  refine ⟨t,x.1,_,x.2,rfl,hn,l7 A1 fun y hy=>hg y (List.mem_of_mem_take hy),(hL x xm).same sm,hg x xm,fun t2 H2 hn2 s2=>?_⟩
  walk_at "go"
  exact ⟨t2,_,rfl,by rw [vo hx];exact hn2,sm.trans s2⟩
 ·rintro σ HG ⟨t,u2,rfl,hn,sm⟩
  rw [cN,List.take_length] at hn
  walk_at "go"
  exact q _ _ hn sm
theorem Ag:ao ["lines"] ["lines"] (ai (top 35)):=by walk_at "s"
def kM (K:PySem.W.Frag):Sp:=fun vs H Q _=>∃ (a:Addr) (ls:Lns),vs=[.ref a]∧SqL K H a (lnV ls)∧bH H ls∧ls.length≤400∧∀ l H',H l=none→H' l=some (.lst (lnV (ls.filter isT)))→aM H H'→Q (.ref l) H'
theorem oF {H:Hp} {x:Addr×Ln} (h:gA H x.1 x.2):(isT x=true∧∃ g ar,H x.1=some (.tup [.str "took",.int g,.ref ar])∧gOf x=g)∨(isT x=false∧∃ w v,¬ (w=("took" : Str))∧H x.1=some (.tup (.str w::v))):=by
 obtain ⟨t,l⟩:=x
 cases h with
 | took h ha=>exact .inl ⟨rfl,_,_,h,rfl⟩
 | held h=>exact .inr ⟨rfl,_,_,by decide +kernel,h⟩
 | heard h=>exact .inr ⟨rfl,_,_,by decide +kernel,h⟩
 | ends h=>exact .inr ⟨rfl,_,_,by decide +kernel,h⟩
theorem iP {v:V} {xs:List V}:atI (v::xs) 0=some v:=gn (j:=0) rfl
theorem sr (D:Dat K mg "tooks_of" "tooks_of" (top 35) ["lines"]):Cal P w K mg base CX "tooks_of" 2 ["lines"] (kM K):=by
 have S:=Ag
 walk_at "d"
 ·obtain ⟨a,ls,rfl,_⟩:=h
  rfl
 obtain ⟨a,ls,rfl,hS,hL,h100,q⟩:=h
 refine ⟨_,(ak (az (iI (g:=(bE 0)) rfl (d8 (pv 0)) (iu (own:=["line"]) (cap:=[]) (ai (top 35)).names ["lines"] rfl rfl rfl (by decide +kernel)) (fun _ _ _ _=>(bB (i:=0) (show (mJ ["lines"] ["line"] []).Nodup by decide +kernel) rfl (by first | exact Or.inl rfl | exact Or.inr rfl))) (fun _ _ _ _=>fD (aJ cC (ay (cY (K:=K) rfl) (pv 0) af (fun _ _=>rfl)) aF (aI _))) (fun _ _ _ _=>(pv 0))))),?_⟩
 try dsimp only [aY]
 walk_at "go"
 refine gZ hS ?_
 refine f7 (lnV ls) (fun i ys H'=>ys=lnV ((ls.take i).filter isT)∧H'=H) ⟨rfl,rfl⟩ (fun i ys H' hi ⟨e,e2⟩=>⟨e2▸hS,by
  rw [e,cN]
  have h1:=List.length_filter_le isT (ls.take i)
  rw [List.length_take] at h1
  exact Nat.le_of_lt (small1000 (by omega))⟩) ?_ ?_
 ·rintro i v ys H1 hv ⟨rfl,rfl⟩
  obtain ⟨x,hx,rfl⟩:=d9 hv
  try dsimp only [bE]
  rcases oF (hL x (List.mem_of_getElem? hx)) with ⟨b,g,ar,ht,_⟩ | ⟨b,wd,vs,nw,ht⟩
  ·have L:=(Led.start H1 (fun _=>False)).more (aO x.1 [_,_,_]) ht
   walk_at "go"
   exact ⟨by rw [qv hx b,eK],rfl⟩
  ·walk_at "go"
   refine fk (SqT.of ht) iP ?_
   walk_at "go"
   exact ⟨by rw [vp hx b],rfl⟩
 ·rintro ys H1 ⟨rfl,rfl⟩ lc nlc
  rw [cN,List.take_length]
  exact q _ _ nlc aB (gI nlc _)
theorem rP:ao ["lines"] ["lines"] (ai (top 36)):=by walk_at "s"
def lz (K:PySem.W.Frag):Sp:=fun vs H Q _=>∃ (a:Addr) (ls:Lns),vs=[.ref a]∧SqL K H a (lnV ls)∧bH H ls∧bX ls∧ls.length≤400∧∀ H',aM H H'→Q (.int ((gts ls).foldl max 0)) H'
theorem Ep {ls:Lns} (h:bX ls):∀ a∈gts ls,1≤a:=fun a ha=>by
 obtain ⟨x,hx,rfl⟩:=List.mem_map.mp ha
 obtain ⟨hm,hb⟩:=List.mem_filter.mp hx
 have:=h x hm
 obtain ⟨t,l⟩:=x
 cases l with
 | took g sl f e=>exact this
 | held m=>cases hb
 | heard m=>cases hb
 | ends g e=>cases hb
theorem sH (D:Dat K mg "greatest_taken" "greatest_taken" (top 36) ["lines"]) (BT:Bt mg) (NE:bf CX) (eO:Cal P w K mg base CX "tooks_of" 2 ["lines"] (kM K)):Cal P w K mg base CX "greatest_taken" 3 ["lines"] (lz K):=by
 have S:=rP
 walk_at "d"
 ·obtain ⟨a,ls,rfl,_⟩:=h
  rfl
 obtain ⟨a,ls,rfl,hS,hL,hg,h100,q⟩:=h
 refine ⟨_,(ak (az (Dw rfl rfl BT.max (iI (g:=(bE 0)) rfl (d8 (aG eO (hr.mono (by first | decide | omega)) NE.pass (aa (pv 0) ah))) (iu (own:=["line"]) (cap:=[]) (ai (top 36)).names ["lines"] rfl rfl rfl (by decide +kernel)) (fun _ _ _ _=>(bB (i:=0) (show (mJ ["lines"] ["line"] []).Nodup by decide +kernel) rfl (by first | exact Or.inl rfl | exact Or.inr rfl))) (fun _ _ _ _=>r8) (fun _ _ _ _=>(ay (cY (K:=K) rfl) (pv 0) af (fun _ _=>rfl)))) af))),?_⟩
 try dsimp only [aY]
 walk_at "go"
 refine ⟨a,ls,rfl,hS,hL,h100,fun l1 H1 nl1 hl1 s1=>?_⟩
 walk_at "go"
 refine gZ (SqL.of hl1) ?_
 have hfl:=List.length_filter_le isT ls
 refine f7 (lnV (ls.filter isT)) (fun i ys H'=>ys=(((ls.filter isT).take i).map gOf).map V.int∧H'=H1) ⟨rfl,rfl⟩ (fun i ys H' hi ⟨e,e2⟩=>⟨e2▸SqL.of hl1,by
  rw [e,List.length_map,List.length_map,List.length_take]
  exact Nat.le_of_lt (small1000 (by omega))⟩) ?_ ?_
 ·rintro i v ys H2 hv ⟨rfl,rfl⟩
  obtain ⟨x,hx,rfl⟩:=d9 hv
  obtain ⟨xm,xb⟩:=List.mem_filter.mp (List.mem_of_getElem? hx)
  try dsimp only [bE]
  rcases oF ((hL x xm).same s1) with ⟨b,g,ar,ht,eg⟩ | ⟨b,_⟩
  ·have L:=(Led.start H2 (fun _=>False)).more (aO x.1 [_,_,_]) ht
   walk_at "go"
   exact ⟨by rw [take_snoc hx,List.map_append,List.map_append,← eg];rfl,rfl⟩
  ·rw [xb] at b;cases b
 ·rintro ys H2 ⟨rfl,rfl⟩ lc nlc
  rw [cN,List.take_length]
  walk_at "go"
  have sx:=s1.trans (gI nlc (.lst (((ls.filter isT).map gOf).map V.int)))
  have hp:=Ep hg
  refine Hr (ns:=gts ls) (SqL.of aB) (fun e=>?_) (fun M hM hx=>?_)
  ·have:=q _ sx
   rw [e] at this
   exact this
  ·have:=q _ sx
   rw [jF (.inr hM) hx (by have:=hp M hM;omega)] at this
   exact this
end
def rm (H:Hp) (t:Addr) (x y:Int):Prop:=H t=some (.tup [.int x,.int y])
def bnd (m c:Int):Int:=if c=0 then m else m+1
theorem yQ {m c b:Int} (c0 : 0≤c):HT.lexLt [m,c] [b,0]=decide (m < b):=by
 rw [HT.jf]
 by_cases h:m=b
 ·rw [if_pos h,HT.jf,decide_eq_false (show ¬ m < b by omega)]
  by_cases h2:c=0
  ·rw [if_pos h2];rfl
  ·rw [if_neg h2,decide_eq_false (show ¬ c < 0 by omega)]
 ·rw [if_neg h]
section
variable {P:Program} {w:World} {K:PySem.W.Frag} {mg:Str→Option Value} {base:Heap} {CX:CXT} {C:Addr}
theorem rS:ao ["place"] ["place"] (ai (top 23)):=by walk_at "s"
def kP:Sp:=fun vs H Q _=>∃ (t:Addr) (m c:Int),vs=[.ref t]∧rm H t m c∧Q (.int (bnd m c)) H
theorem sL (D:Dat K mg "bound_of" "bound_of" (top 23) ["place"]):Cal P w K mg base CX "bound_of" 1 ["place"] kP:=by
 have S:=rS
 walk_at "d"
 ·obtain ⟨t,m,c,rfl,_⟩:=h
  rfl
 obtain ⟨t,m,c,rfl,ht,q⟩:=h
 refine ⟨_,(ak (az (eG (aJ cC (ay aE (pv 0) af (fun _ _=>rfl)) af (aI _)) (ay aE (pv 0) af (fun _ _=>rfl)) (aP bK (ay aE (pv 0) af (fun _ _=>rfl)) af)))),?_⟩
 try dsimp only [aY]
 have L:=(Led.start H (fun _=>False)).more (aO t [.int m,.int c]) ht
 walk_at "go"
 unfold bnd at q
 refine bS (fun cc=>?_) (fun cc=>?_)
 ·rw [if_pos cc] at q
  walk_at "go"
  exact q
 ·rw [if_neg cc] at q
  walk_at "go"
  exact q
theorem xY:ao ["place", "bound"] ["place", "bound"] (ai (top 24)):=by walk_at "s"
def lg:Sp:=fun vs H Q _=>∃ (t:Addr) (m c b:Int),vs=[.ref t,.int b]∧rm H t m c∧0≤c∧∀ r H',rm H' r (if m < b then b else m) (if m < b then 0 else c)→aM H H'→Q (.ref r) H'
theorem yw (D:Dat K mg "raised" "raised" (top 24) ["place", "bound"]) (BT:Bt mg):Cal P w K mg base CX "raised" 1 ["place", "bound"] lg:=by
 have S:=xY
 walk_at "d"
 ·obtain ⟨t,m,c,b,rfl,_⟩:=h
  rfl
 obtain ⟨t,m,c,b,rfl,ht,c0,q⟩:=h
 refine ⟨_,(ak (az (aX (HW rfl (cF hr)) rfl BT.max L3.cI (aa (pv 0) (aa (aQ (aa (pv 1) (aa af ah))) ah))))),?_⟩
 try dsimp only [aY]
 have L:=(Led.start H (fun _=>False)).more (aO t [.int m,.int c]) ht
 walk_at "go"
 refine EA (L'.tup (by walk_at "mem")) (L'.tup (by walk_at "mem")) ?_
 rw [yQ c0]
 refine q _ _ ?_ L'.same
 by_cases h:m < b
 ·rw [if_pos h,if_pos h,if_pos (decide_eq_true h)]
  exact L'.tup (by walk_at "mem")
 ·rw [if_neg h,if_neg h,if_neg (by rw [decide_eq_false h];exact Bool.false_ne_true)]
  exact L'.tup (by walk_at "mem")
theorem mY:ao ["shape", "place"] ["shape", "place"] (ai (top 25)):=by walk_at "s"
def z6 (C:Addr):Sp:=fun vs H Q _=>∃ (p t:Addr) (c s m k:Int),vs=[.ref p,.ref t]∧E9 C H p c s∧rm H t m k∧∀ r H',rm H' r (if k+1=c then m+1 else m) (if k+1=c then 0 else k+1)→aM H H'→Q (.ref r) H'
theorem nh (D:Dat K mg "next_place" "next_place" (top 25) ["shape", "place"]) (SC:ShC K C):Cal P w K mg base CX "next_place" 1 ["shape", "place"] (z6 C):=by
 have S:=mY
 walk_at "d"
 ·obtain ⟨p,t,c,s,m,k,rfl,_⟩:=h
  rfl
 obtain ⟨p,t,c,s',m,k,rfl,⟨dx,hp⟩,ht,q⟩:=h
 refine ⟨_,(aj (bg (aJ cC (aP bK (ay aE (pv 1) af (fun _ _=>rfl)) af) (bP (pv 0) rfl) (aI _)) (ak (az (aQ (aa (aP bK (ay aE (pv 1) af (fun _ _=>rfl)) af) (aa af ah))))) aK)
   (ak (az (aQ (aa (ay aE (pv 1) af (fun _ _=>rfl)) (aa (aP bK (ay aE (pv 1) af (fun _ _=>rfl)) af) ah)))))),?_⟩
 try dsimp only [aY]
 have L:=(Led.start H (fun _=>False)).more (aO t [.int m,.int k]) ht
 walk_at "go"
 refine ⟨p,C,dx,_,_,rfl,hp,SC.cl,SC.nc,FF c s',?_⟩
 walk_at "go"
 refine bS (fun cc=>?_) (fun cc=>?_)
 ·walk_at "go"
  refine q _ _ ?_ L'.same
  rw [if_pos cc,if_pos cc]
  exact L'.tup (by walk_at "mem")
 ·walk_at "go"
  refine q _ _ ?_ L'.same
  rw [if_neg cc,if_neg cc]
  exact L'.tup (by walk_at "mem")
end
section
variable {P:Program} {w:World} {K:PySem.W.Frag} {mg:Str→Option Value} {base:Heap} {C CW CR CN:Addr}
theorem Dj:ao ["self", "reading"] ["self", "reading"] (ai (inClass (top 8) 0)):=by walk_at "s"
theorem DX (D:tZ K mg "Wait" "Wait.__init__" CW (inClass (top 8) 0) ["self", "reading"]) (iD:xC K mg "RiseError" CR) (EP:vN K CW "reading"):zv P w K mg base "Wait" CW 1 ["self", "reading"] (jr CW "reading"):=by
 have S:=Dj
 refine D.ok' S (fun vs H Q E h=>?_) (fun f cdv A outer s H vs Q E hr h=>?_)
 ·obtain ⟨x,v,rfl,_⟩:=h
  rfl
 obtain ⟨x,v,rfl,hx,q⟩:=h
 refine ⟨_,(aj (ck (se iD (aa (pv 0) (aa aF ah))))
   (ak (wM (pv 0) (pv 1) rfl))),?_⟩
 try dsimp only [aY]
 walk_at "go"
 refine tG hx D.ok ?_
 walk_at "go"
 exact Bw hx EP fun d nd=>q d nd
theorem pN:ao ["area", "place", "reading"] ["area", "place", "reading"] (ai (top 26)):=by walk_at "s"
def due (m f r:Int):Int:=max (max m r) f
def jq:Sp:=fun vs H Q _=>∃ (a t:Addr) (sl f e m k r:Int),vs=[.ref a,.ref t,.int r]∧xP H a sl f e∧rm H t m k∧Q (.int (due m f r)) H
theorem p6 {CX:CXT} (D:Dat K mg "moment_at" "moment_at" (top 26) ["area", "place", "reading"]) (BT:Bt mg) (NE:bf CX) (eS:Cal P w K mg base CX "first_of" 1 ["area"] wG):Cal P w K mg base CX "moment_at" 2 ["area", "place", "reading"] jq:=by
 have S:=pN
 walk_at "d"
 ·obtain ⟨a,t,sl,f,e,m,k,r,rfl,_⟩:=h
  rfl
 obtain ⟨a,t,sl,f',e,m,k,r,rfl,ha,ht,q⟩:=h
 refine ⟨_,(ak (az (aX (BZ rfl) rfl BT.max L3.cI (aa (ay aE (pv 1) af (fun _ _=>rfl)) (aa (pv 2) (aa (aG eS (hr.mono (by first | decide | omega)) NE.pass (aa (pv 0) ah)) ah)))))),?_⟩
 try dsimp only [aY]
 have L:=((Led.start H (fun _=>False)).more (aO t [.int m,.int k]) ht).more (aO a [.int sl,.int f',.int e]) ha
 walk_at "go"
 refine ⟨a,sl,f',e,rfl,ha,?_⟩
 walk_at "go"
 exact q
theorem Dd:ao ["shape", "far", "area", "place", "reading", "moment", "count", "mark"] ["shape", "far", "area", "place", "reading"] (ai (top 27)):=by walk_at "s"
def cnt (m f r k:Int):Int:=if due m f r=m then k else 0
def z8 (C CN CW:Addr):Sp:=fun vs H Q E=>∃ (p a t:Addr) (c s sl f e m k r fa:Int),vs=[.ref p,.int fa,.ref a,.ref t,.int r]∧ShN c s∧E9 C H p c s∧xP H a sl f e∧rm H t m k ∧
 (e≤due m f r→E (.ref CN) none H)∧(¬ e≤due m f r→r+fa < due m f r→∀ d H',aM H H'→H' d=some (.xd [("reading",.int (due m f r - fa))])→E (.ref CW) (some d) H') ∧
 (¬ e≤due m f r→¬ r+fa < due m f r→∀ x y H',H' x=some (.tup [.int (mk c s (due m f r) sl (cnt m f r k)),.ref y])→rm H' y (if cnt m f r k+1=c then due m f r+1 else due m f r) (if cnt m f r k+1=c then 0 else cnt m f r k+1)→aM H H'→Q (.ref x) H')
theorem DQ (D:Dat K mg "made" "made" (top 27) ["shape", "far", "area", "place", "reading"]) (BT:Bt mg) (NE:bf (CX1 P w)) (mR:nI K mg "NoRoom" CN) (vL:zv P w K mg base "Wait" CW 1 ["self", "reading"] (jr CW "reading"))
  (dP:Cal P w K mg base (CX1 P w) "moment_at" 2 ["area", "place", "reading"] jq) (cX:Cal P w K mg base (CX1 P w) "end_of" 1 ["area"] nY) (kh:Cal P w K mg base (CX1 P w) "slot_of" 1 ["area"] Ab)
  (zl:Cal P w K mg base (CX1 P w) "mark_of" 1 ["shape", "moment", "slot", "count"] (z7 C)) (qI:Cal P w K mg base (CX1 P w) "next_place" 1 ["shape", "place"] (z6 C)):Cal P w K mg base (CX1 P w) "made" 3 ["shape", "far", "area", "place", "reading"] (z8 C CN CW):=by
 have S:=Dd
 refine D.okR S (fun vs H Q E h=>?_) (fun f cdv A outer s H vs Q E hr h=>?_)
 ·obtain ⟨p,a,t,c,s,sl,f,e,m,k,r,fa,rfl,_⟩:=h
  rfl
 obtain ⟨p,a,t,c,s',sl,f',e,m,k,r,fa,rfl,N,hp,ha,ht,q1,q2,q3⟩:=h
 refine ⟨_,(aj (aL (i:=5) S.nd rfl (by first | exact Or.inl rfl | exact Or.inr rfl) (aG dP (hr.mono (by first | decide | omega)) NE.pass (aa (pv 2) (aa (pv 3) (aa (pv 4) ah)))))
   (aj (bg (aJ sj (pv 5) (aG cX (hr.mono (by first | decide | omega)) NE.pass (aa (pv 2) ah)) (aI _)) (ak (gJ mR rfl aV (aa aF ah))) aK)
   (aj (bg (aJ iV (pv 5) (aP bK (pv 4) (pv 1)) (aI _)) (ak (n9 vL (hr.mono (by first | decide | omega)) rfl aV (aa (aP AN (pv 5) (pv 1)) ah))) aK)
   (aj (aL (i:=6) S.nd rfl (by first | exact Or.inl rfl | exact Or.inr rfl) (eG (aJ cC (pv 5) (ay aE (pv 3) af (fun _ _=>rfl)) (aI _)) (ay aE (pv 3) af (fun _ _=>rfl)) af))
   (aj (aL (i:=7) S.nd rfl (by first | exact Or.inl rfl | exact Or.inr rfl) (aG zl (hr.mono (by first | decide | omega)) NE.pass (aa (pv 0) (aa (pv 5) (aa (aG kh (hr.mono (by first | decide | omega)) NE.pass (aa (pv 2) ah)) (aa (pv 6) ah))))))
   (ak (az (aQ (aa (pv 7) (aa (aG qI (hr.mono (by first | decide | omega)) NE.pass (aa (pv 0) (aa (aQ (aa (pv 5) (aa (pv 6) ah))) ah))) ah)))))))))),?_⟩
 try dsimp only [aY]
 have L:=((Led.start H (fun _=>False)).more (aO t [.int m,.int k]) ht).more (aO a [.int sl,.int f',.int e]) ha
 walk_at "go"
 refine ⟨a,t,sl,f',e,m,k,r,rfl,ha,ht,?_⟩
 have sh:=N
 have GS:cnt m f' r k=if due m f' r=m then k else 0:=rfl
 generalize due m f' r=du at *
 generalize cnt m f' r k=cn at *
 walk_at "go"
 refine ⟨a,sl,f',e,rfl,ha,?_⟩
 walk_at "go"
 refine bS (fun b1=>?_) (fun b1=>?_)
 ·walk_at "go"
  exact q1 b1
 walk_at "go"
 refine bS (fun b2=>?_) (fun b2=>?_)
 ·walk_at "go"
  exact oH fun d H' sm hd=>q2 (by omega) b2 d H' sm hd
 walk_at "go"
 refine bS (fun b3=>?_) (fun b3=>?_)
 all_goals (walk_at "go")
 all_goals (first | rw [if_pos b3] at GS | rw [if_neg b3] at GS)
 all_goals subst GS
 all_goals (refine ⟨a,sl,f',e,rfl,ha,?_⟩;walk_at "go")
 all_goals (refine ⟨p,c,s',_,sl,_,rfl,sh,hp,?_⟩;walk_at "go")
 all_goals (refine ⟨p,_,c,s',_,_,rfl,hp.elim fun dx h=>⟨dx,L'.same _ _ h⟩,L'.tup (by walk_at "mem"),fun y HY hy sY=>?_⟩)
 all_goals (have L:=L'.keep sY;walk_at "go")
 all_goals exact q3 (by omega) (by omega) _ y _ (L'.tup (by walk_at "mem")) (by have z:=L'.same;first | exact L'.st _ (by walk_at "mem") | exact (show aM HY _ by assumption) _ _ hy) L'.same
end
def fO (H:Hp) (v:V) (pl:Option (Int×Int)):Prop:=(pl=none∧v = .non)∨∃ (t:Addr) (m k:Int),pl=some (m,k)∧v = .ref t∧H t=some (.tup [.int m,.int k])
theorem fO.same {H H':Hp} {v:V} {pl:Option (Int×Int)} (h:fO H v pl) (s:aM H H'):fO H' v pl:=by
 rcases h with h | ⟨t,m,k,e,ev,ht⟩
 ·exact .inl h
 ·exact .inr ⟨t,m,k,e,ev,s _ _ ht⟩
def dZ (K:PySem.W.Frag) (H:Hp) (s:Addr) (pl:Option (Int×Int)) (n:Nt) (g:Int):Prop:=∃ (v:V) (t:Addr),H s=some (.tup [v,.ref t,.int g])∧fO H v pl∧nG K H t n
theorem dZ.same {K:PySem.W.Frag} {H H':Hp} {s:Addr} {pl:Option (Int×Int)} {n:Nt} {g:Int} (h:dZ K H s pl n g) (sm:aM H H'):dZ K H' s pl n g:=by
 obtain ⟨v,t,hs,hp,hn⟩:=h
 exact ⟨v,t,sm _ _ hs,hp.same sm,hn.same sm⟩
theorem qS.same {C:Addr} {H H':Hp} {p:Addr} {sh:V} {far room term:Int} {ws:List Str} (h:qS C H p sh far room term ws) (sm:aM H H'):qS C H' p sh far room term ws:=by
 obtain ⟨dx,tr,ms,h1,h2,pm⟩:=h
 exact ⟨dx,tr,ms,sm _ _ h1,sm _ _ h2,pm⟩
def fq (H:Hp) (v:V) (ar:Option (Int×Int×Int)):Prop:=(ar=none∧v = .non)∨∃ (a:Addr) (sl f e:Int),ar=some (sl,f,e)∧v = .ref a∧H a=some (.tup [.int sl,.int f,.int e])
section
variable {P:Program} {w:World} {K:PySem.W.Frag} {mg:Str→Option Value} {base:Heap} {CX:CXT} {CD CA CU CS:Addr}
theorem rQ:ao ["stand"] ["stand"] (ai (top 48)):=by walk_at "s"
def nW (K:PySem.W.Frag):Sp:=fun vs H Q _=>∃ (s:Addr) (pl:Option (Int×Int)) (n:Nt) (g:Int),vs=[.ref s]∧dZ K H s pl n g∧Q (.int n.g) H
theorem sI (D:Dat K mg "grant_in" "grant_in" (top 48) ["stand"]):Cal P w K mg base CX "grant_in" 1 ["stand"] (nW K):=by
 have S:=rQ
 walk_at "d"
 ·obtain ⟨s,pl,n,g,rfl,_⟩:=h
  rfl
 obtain ⟨s,pl,n,g,rfl,⟨v,t,hs,hp,av,hn,hv⟩,q⟩:=h
 refine ⟨_,(ak (az (ay aE (ay aE (pv 0) af (fun _ _=>rfl)) af (fun _ _=>rfl)))),?_⟩
 try dsimp only [aY]
 have L:=(Led.start H (fun _=>False)).more (aO s [_,_,_]) hs
 walk_at "go"
 exact q
theorem uD:ao ["stand"] ["stand"] (ai (top 50)):=by walk_at "s"
def jt (K:PySem.W.Frag):Sp:=fun vs H Q _=>∃ (s:Addr) (pl:Option (Int×Int)) (n:Nt) (g:Int),vs=[.ref s]∧dZ K H s pl n g∧Q (.int n.hd) H
theorem uR (D:Dat K mg "held_in" "held_in" (top 50) ["stand"]):Cal P w K mg base CX "held_in" 1 ["stand"] (jt K):=by
 have S:=uD
 walk_at "d"
 ·obtain ⟨s,pl,n,g,rfl,_⟩:=h
  rfl
 obtain ⟨s,pl,n,g,rfl,⟨v,t,hs,hp,av,hn,hv⟩,q⟩:=h
 refine ⟨_,(ak (az (ay aE (ay aE (pv 0) af (fun _ _=>rfl)) af (fun _ _=>rfl)))),?_⟩
 try dsimp only [aY]
 have L:=(Led.start H (fun _=>False)).more (aO s [_,_,_]) hs
 walk_at "go"
 exact q
theorem rO:ao ["stand"] ["stand"] (ai (top 51)):=by walk_at "s"
def nV (K:PySem.W.Frag):Sp:=fun vs H Q _=>∃ (s:Addr) (pl:Option (Int×Int)) (n:Nt) (g:Int),vs=[.ref s]∧dZ K H s pl n g∧Q (.int n.hr) H
theorem sF (D:Dat K mg "heard_in" "heard_in" (top 51) ["stand"]):Cal P w K mg base CX "heard_in" 1 ["stand"] (nV K):=by
 have S:=rO
 walk_at "d"
 ·obtain ⟨s,pl,n,g,rfl,_⟩:=h
  rfl
 obtain ⟨s,pl,n,g,rfl,⟨v,t,hs,hp,av,hn,hv⟩,q⟩:=h
 refine ⟨_,(ak (az (ay aE (ay aE (pv 0) af (fun _ _=>rfl)) af (fun _ _=>rfl)))),?_⟩
 try dsimp only [aY]
 have L:=(Led.start H (fun _=>False)).more (aO s [_,_,_]) hs
 walk_at "go"
 exact q
theorem uJ:ao ["stand"] ["stand"] (ai (top 49)):=by walk_at "s"
def gH (K:PySem.W.Frag):Sp:=fun vs H Q _=>∃ (s:Addr) (pl:Option (Int×Int)) (n:Nt) (g:Int),vs=[.ref s]∧dZ K H s pl n g∧∀ v,fq H v n.ar→Q v H
theorem uX (D:Dat K mg "area_in" "area_in" (top 49) ["stand"]):Cal P w K mg base CX "area_in" 1 ["stand"] (gH K):=by
 have S:=uJ
 walk_at "d"
 ·obtain ⟨s,pl,n,g,rfl,_⟩:=h
  rfl
 obtain ⟨s,pl,n,g,rfl,⟨v,t,hs,hp,av,hn,hv⟩,q⟩:=h
 refine ⟨_,(ak (az (ay aE (ay aE (pv 0) af (fun _ _=>rfl)) af (fun _ _=>rfl)))),?_⟩
 try dsimp only [aY]
 have L:=(Led.start H (fun _=>False)).more (aO s [_,_,_]) hs
 walk_at "go"
 exact q av hv
theorem rL:ao ["note"] ["note"] (ai (top 52)):=by walk_at "s"
def jS (K:PySem.W.Frag):Sp:=fun vs H Q _=>∃ (t:Addr) (n:Nt),vs=[.ref t]∧nG K H t n∧∀ p H',H' p=some (.tup [.int (max n.hd n.hr),.int 0])→aM H H'→Q (.ref p) H'
theorem su (D:Dat K mg "start_by" "start_by" (top 52) ["note"]) (BT:Bt mg):Cal P w K mg base CX "start_by" 1 ["note"] (jS K):=by
 have S:=rL
 walk_at "d"
 ·obtain ⟨t,n,rfl,_⟩:=h
  rfl
 obtain ⟨t,n,rfl,⟨av,hn,hv⟩,q⟩:=h
 refine ⟨_,(ak (az (aQ (aa (aX (iY rfl) rfl BT.max L3.cI (aa (ay aE (pv 0) af (fun _ _=>rfl)) (aa (ay aE (pv 0) af (fun _ _=>rfl)) ah))) (aa af ah))))),?_⟩
 try dsimp only [aY]
 have L:=Led.start H (fun _=>False)
 walk_at "go"
 exact q _ _ (L'.tup (by walk_at "mem")) L'.same
theorem uC:ao ["place"] ["place"] (ai (top 53)):=by walk_at "s"
def eF (CD:Addr):Sp:=fun vs H Q E=>∃ (v:V) (pl:Option (Int×Int)),vs=[v]∧fO H v pl∧(pl=none→E (.ref CD) none H)∧(pl.isSome=true→Q .non H)
theorem uQ (D:Dat K mg "need_up" "need_up" (top 53) ["place"]) (NE:bf (CX1 P w)) (Ij:nI K mg "Down" CD):Cal P w K mg base (CX1 P w) "need_up" 1 ["place"] (eF CD):=by
 have S:=uC
 refine D.okR S (fun vs H Q E h=>?_) (fun f cdv A outer s H vs Q E hr h=>?_)
 ·obtain ⟨v,pl,rfl,_⟩:=h
  rfl
 obtain ⟨v,pl,rfl,hp,qe,qq⟩:=h
 refine ⟨_,(ak (bg (e9 (jV (pv 0))) (ak (gJ Ij rfl aV (aa aF ah))) aK)),?_⟩
 try dsimp only [aY]
 walk_at "go"
 rcases hp with ⟨e,rfl⟩ | ⟨t,m,k,e,rfl,ht⟩
 ·refine lZ rfl ?_
  walk_at "go"
  exact qe e
 ·refine bS (fun z=>nomatch z) fun _=>?_
  walk_at "go"
  exact qq (by rw [e];rfl)
theorem pM:ao ["area"] ["area"] (ai (top 54)):=by walk_at "s"
def i9 (CA:Addr):Sp:=fun vs H Q E=>∃ (v:V) (ar:Option (Int×Int×Int)),vs=[v]∧fq H v ar∧(ar=none→E (.ref CA) none H)∧(ar.isSome=true→Q .non H)
theorem p5 (D:Dat K mg "need_area" "need_area" (top 54) ["area"]) (NE:bf (CX1 P w)) (Cb:nI K mg "NoArea" CA):Cal P w K mg base (CX1 P w) "need_area" 1 ["area"] (i9 CA):=by
 have S:=pM
 refine D.okR S (fun vs H Q E h=>?_) (fun f cdv A outer s H vs Q E hr h=>?_)
 ·obtain ⟨v,ar,rfl,_⟩:=h
  rfl
 obtain ⟨v,ar,rfl,hp,qe,qq⟩:=h
 refine ⟨_,(ak (bg (e9 (jV (pv 0))) (ak (gJ Cb rfl aV (aa aF ah))) aK)),?_⟩
 try dsimp only [aY]
 walk_at "go"
 rcases hp with ⟨e,rfl⟩ | ⟨a,sl,f',e',e,rfl,ht⟩
 ·refine lZ rfl ?_
  walk_at "go"
  exact qe e
 ·refine bS (fun z=>nomatch z) fun _=>?_
  walk_at "go"
  exact qq (by rw [e];rfl)
def fm (H0 H:Hp) (t:Addr) (v:V) (ls:Lns) (pv:V):Prop:=∃ l,H t=some (.tup [v,.ref l,pv])∧H0 l=none∧H l=some (.lst (lnV ls))∧bH H ls
theorem uH:ao ["stand"] ["stand"] (ai (top 55)):=by walk_at "s"
def nX (K:PySem.W.Frag) (CD:Addr):Sp:=fun vs H Q E=>∃ (s:Addr) (pl:Option (Int×Int)) (n:Nt) (g:Int),vs=[.ref s]∧dZ K H s pl n g∧(pl=none→E (.ref CD) none H)∧(pl.isSome=true→∀ t H',fm H H' t .non [] .non→aM H H'→Q (.ref t) H')
theorem uV (D:Dat K mg "falling" "falling" (top 55) ["stand"]) (NE:bf (CX1 P w)) (bC:Cal P w K mg base (CX1 P w) "need_up" 1 ["place"] (eF CD)):Cal P w K mg base (CX1 P w) "falling" 2 ["stand"] (nX K CD):=by
 have S:=uH
 refine D.okR S (fun vs H Q E h=>?_) (fun f cdv A outer s H vs Q E hr h=>?_)
 ·obtain ⟨s,pl,n,g,rfl,_⟩:=h
  rfl
 obtain ⟨s,pl,n,g,rfl,⟨v,t,hs,hp,hn⟩,qe,qq⟩:=h
 refine ⟨_,(aj (ck (cQ bC (hr.mono (by first | decide | omega)) aV (aa (ay aE (pv 0) af (fun _ _=>rfl)) ah)))
   (ak (az (aQ (aa fS (aa (br ah) (aa fS ah))))))),?_⟩
 try dsimp only [aY]
 have L:=(Led.start H (fun _=>False)).more (aO s [_,_,_]) hs
 walk_at "go"
 refine ⟨v,pl,rfl,hp,qe,fun hsome=>?_⟩
 walk_at "go"
 exact qq hsome _ _ ⟨_,L'.tup (by walk_at "mem"),by assumption,L'.eo .head,fun _ h=>by simp at h⟩ L'.same
theorem xW:ao ["stand"] ["stand"] (ai (top 56)):=by walk_at "s"
def rD (K:PySem.W.Frag) (CU:Addr):Sp:=fun vs H Q E=>∃ (s:Addr) (pl:Option (Int×Int)) (n:Nt) (g:Int),vs=[.ref s]∧dZ K H s pl n g∧(pl.isSome=true→E (.ref CU) none H)∧(pl=none→∀ t p H',fm H H' t .non [] (.ref p)→H' p=some (.tup [.int (max n.hd n.hr),.int 0])→aM H H'→Q (.ref t) H')
theorem yu (D:Dat K mg "rising" "rising" (top 56) ["stand"]) (NE:bf (CX1 P w)) (Lg:nI K mg "Up" CU) (dG:Cal P w K mg base (CX1 P w) "start_by" 1 ["note"] (jS K)):Cal P w K mg base (CX1 P w) "rising" 2 ["stand"] (rD K CU):=by
 have S:=xW
 refine D.okR S (fun vs H Q E h=>?_) (fun f cdv A outer s H vs Q E hr h=>?_)
 ·obtain ⟨s,pl,n,g,rfl,_⟩:=h
  rfl
 obtain ⟨s,pl,n,g,rfl,⟨v,t,hs,hp,hn⟩,qe,qq⟩:=h
 refine ⟨_,(aj (bg (e9 (kT (ay aE (pv 0) af (fun _ _=>rfl)))) (ak (gJ Lg rfl aV (aa aF ah))) aK)
   (ak (az (aQ (aa fS (aa (br ah) (aa (aG dG (hr.mono (by first | decide | omega)) NE.pass (aa (ay aE (pv 0) af (fun _ _=>rfl)) ah)) ah))))))),?_⟩
 try dsimp only [aY]
 have L:=(Led.start H (fun _=>False)).more (aO s [_,_,_]) hs
 walk_at "go"
 rcases hp with ⟨e,rfl⟩ | ⟨t2,m,k,e,rfl,ht⟩
 ·refine qk rfl ?_
  walk_at "go"
  obtain ⟨lx,elx⟩:∃ z,z=l':=⟨_,rfl⟩
  subst elx
  have nlx:H lx=none:=n'
  have M:=L'
  clear L L'
  refine ⟨t,n,rfl,hn.same M.same,fun p H2 hp2 s2=>?_⟩
  have N:=(M.keep s2).more (aO p [_,_]) hp2
  clear M
  walk_at "go"
  exact qq e _ p _ ⟨lx,L'.tup (by walk_at "mem"),nlx,L'.eo .head,fun _ h=>by simp at h⟩ (L'.tup (r:=p) (by walk_at "mem")) L'.same
 ·refine qj (fun z=>nomatch z) ?_
  walk_at "go"
  exact qe (by rw [e];rfl)
theorem xU:ao ["settings", "stand", "grant", "area", "place"] ["settings", "stand", "grant", "area"] (ai (top 57)):=by walk_at "s"
def iT (m k b:Int):Int×Int:=(if m < b then b else m,if m < b then 0 else k)
def rB (K:PySem.W.Frag) (CD CS:Addr):Sp:=fun vs H Q E=>∃ (p s a:Addr) (sh:V) (far room term:Int) (ws:List Str) (pl:Option (Int×Int)) (n:Nt) (g gr sl f e:Int),vs=[.ref p,.ref s,.int gr,.ref a]∧qS CS H p sh far room term ws∧dZ K H s pl n g∧(∀ m k,pl=some (m,k)→0≤k)∧H a=some (.tup [.int sl,.int f,.int e]) ∧
 (pl=none→E (.ref CD) none H) ∧
 (∀ m k,pl=some (m,k)→("once" : Str)∈ws→gr≤g→∀ t v H',fO H' v pl→fm H H' t (.bl false) [] v→aM H H'→Q (.ref t) H') ∧
 (∀ m k,pl=some (m,k)→¬ (("once" : Str)∈ws∧gr≤g)→∀ t l v H',fO H' v (some (iT m k (bnd m k)))→fm H H' t (.bl true) [(l,.took gr sl f e)] v→aM H H'→Q (.ref t) H')
theorem yr (D:Dat K mg "taking" "taking" (top 57) ["settings", "stand", "grant", "area"]) (NE:bf (CX1 P w)) (bC:Cal P w K mg base (CX1 P w) "need_up" 1 ["place"] (eF CD)) (c9:Cal P w K mg base (CX1 P w) "has_rule" 1 ["settings", "word"] (fz CS)) (eT:Cal P w K mg base (CX1 P w) "bound_of" 1 ["place"] kP) (fM:Cal P w K mg base (CX1 P w) "raised" 1 ["place", "bound"] lg):Cal P w K mg base (CX1 P w) "taking" 2 ["settings", "stand", "grant", "area"] (rB K CD CS):=by
 have S:=xU
 refine D.okR S (fun vs H Q E h=>?_) (fun f cdv A outer s H vs Q E hr h=>?_)
 ·obtain ⟨p,s,a,sh,far,room,term,ws,pl,n,g,gr,sl,f,e,rfl,_⟩:=h
  rfl
 obtain ⟨p,s,a,sh,far,room,term,ws,pl,n,g,gr,sl,f',e,rfl,hst,⟨v,t,hs,hp,hn⟩,hk,ha,qe,q0,q1⟩:=h
 refine ⟨_,(aj (aL (i:=4) S.nd rfl (by first | exact Or.inl rfl | exact Or.inr rfl) (ay aE (pv 1) af (fun _ _=>rfl)))
   (aj (ck (cQ bC (hr.mono (by first | decide | omega)) aV (aa (pv 4) ah)))
   (aj (bg (PW.pt (lD (cK (aG c9 (hr.mono (by first | decide | omega)) NE.pass (aa (pv 0) (aa aF ah)))) (jv (aJ jw (pv 2) (ay aE (pv 1) af (fun _ _=>rfl)) (aI _))))) (ak (az (aQ (aa dY (aa (br ah) (aa (pv 4) ah)))))) aK)
   (ak (az (aQ (aa dY (aa (br (aa (aQ (aa aF (aa (pv 2) (aa (pv 3) ah)))) ah)) (aa (aG fM (hr.mono (by first | decide | omega)) NE.pass (aa (pv 4) (aa (aG eT (hr.mono (by first | decide | omega)) NE.pass (aa (pv 4) ah)) ah))) ah))))))))),?_⟩
 try dsimp only [aY]
 have L:=((Led.start H (fun _=>False)).more (aO s [_,_,_]) hs).more (aO a [_,_,_]) ha
 walk_at "go"
 refine ⟨v,pl,rfl,hp,qe,fun hsome=>?_⟩
 rcases id hp with ⟨e1,rfl⟩ | ⟨tp,m,k,epl,rfl,htp⟩
 ·rw [e1] at hsome;cases hsome
 have q0:=q0 m k epl
 have q1:=q1 m k epl
 have k0:=hk m k epl
 walk_at "one"
 try dsimp only [bE]
 refine cE (fun σ H'=>H'=H∧σ=[some (.ref p),some (.ref s),some (.int gr),some (.ref a),some (.ref tp)]∧¬ (("once" : Str)∈ws∧gr≤g)) (fun nx kk=>?_) ?_
 ·walk_at "go"
  refine ⟨p,sh,far,room,term,ws,_,rfl,hst,?_⟩
  walk_at "go"
  refine bS (fun c1=>?_) (fun c1=>?_)
  ·walk_at "go"
   refine bS (fun c2=>?_) (fun c2=>?_)
   ·walk_at "go"
    exact q0 c1 c2 _ _ _ (hp.same L'.same) ⟨_,L'.tup (by walk_at "mem"),by assumption,L'.eo .head,fun _ h=>by simp at h⟩ L'.same
   ·walk_at "go"
    exact kk _ _ ⟨rfl,rfl,fun z=>c2 z.2⟩
  ·walk_at "go"
   exact kk _ _ ⟨rfl,rfl,fun z=>c1 z.1⟩
 rintro σ HA ⟨rfl,rfl,hno⟩
 walk_at "go"
 obtain ⟨lx,tk,elx,etk⟩:∃ z y,z=l'∧y=t':=⟨_,_,rfl,rfl⟩
 subst elx etk
 have M:=L'
 clear L L'
 have nlx:HA lx=none:=(M.own (lx,_) List.mem_cons_self).elim (fun z=>absurd z id) id
 refine ⟨tp,m,k,rfl,M.same _ _ htp,?_⟩
 walk_at "go"
 refine ⟨tp,m,k,_,rfl,M.same _ _ htp,k0,fun r H2 hr2 s2=>?_⟩
 have N:=(M.keep s2).more (aO r [_,_]) hr2
 clear M
 walk_at "go"
 exact q1 hno _ tk (.ref r) _ (.inr ⟨r,_,_,rfl,rfl,L'.tup (r:=r) (by walk_at "mem")⟩) ⟨lx,L'.tup (by walk_at "mem"),nlx,L'.eo .head,fun z hz=>by
  rw [List.mem_singleton.mp hz]
  exact .took (L'.tup (r:=tk) (by walk_at "mem")) (L'.tup (r:=a) (by walk_at "mem"))⟩ L'.same
theorem uE:ao ["settings", "stand", "bound", "is_written"] ["settings", "stand", "bound"] (ai (top 61)):=by walk_at "s"
def nU (K:PySem.W.Frag) (CD CS:Addr):Sp:=fun vs H Q E=>∃ (p s:Addr) (sh:V) (far room term:Int) (ws:List Str) (pl:Option (Int×Int)) (n:Nt) (g b:Int),vs=[.ref p,.ref s,.int b]∧qS CS H p sh far room term ws∧dZ K H s pl n g∧(∀ m k,pl=some (m,k)→0≤k) ∧
 (pl=none→E (.ref CD) none H) ∧
 (∀ m k,pl=some (m,k)→∀ t v ls H',((("spoken" : Str)∈ws∧n.hr < b∧∃ l,ls=[(l,.heard b)])∨(¬ (("spoken" : Str)∈ws∧n.hr < b)∧ls=[]))→fO H' v (some (iT m k b))→fm H H' t .non ls v→aM H H'→Q (.ref t) H')
theorem uS (D:Dat K mg "hearing" "hearing" (top 61) ["settings", "stand", "bound"]) (NE:bf (CX1 P w)) (bC:Cal P w K mg base (CX1 P w) "need_up" 1 ["place"] (eF CD)) (c9:Cal P w K mg base (CX1 P w) "has_rule" 1 ["settings", "word"] (fz CS)) (jl:Cal P w K mg base (CX1 P w) "heard_in" 1 ["stand"] (nV K)) (fM:Cal P w K mg base (CX1 P w) "raised" 1 ["place", "bound"] lg):Cal P w K mg base (CX1 P w) "hearing" 2 ["settings", "stand", "bound"] (nU K CD CS):=by
 have S:=uE
 refine D.okR S (fun vs H Q E h=>?_) (fun f cdv A outer s H vs Q E hr h=>?_)
 ·obtain ⟨p,s,sh,far,room,term,ws,pl,n,g,b,rfl,_⟩:=h
  rfl
 obtain ⟨p,s,sh,far,room,term,ws,pl,n,g,b,rfl,hst,hsd,hk,qe,q1⟩:=h
 obtain ⟨v,t,hs,hp,hn⟩:=id hsd
 refine ⟨_,(aj (ck (cQ bC (hr.mono (by first | decide | omega)) aV (aa (ay aE (pv 1) af (fun _ _=>rfl)) ah)))
   (aj (aL (i:=3) S.nd rfl (by first | exact Or.inl rfl | exact Or.inr rfl) (gO (aG c9 (hr.mono (by first | decide | omega)) NE.pass (aa (pv 0) (aa aF ah))) (dS (cu iV (pv 2) (aG jl (hr.mono (by first | decide | omega)) NE.pass (aa (pv 1) ah)) (aI _)))))
   (ak (az (aQ (aa fS (aa (eG (cK (pv 3)) (br (aa (aQ (aa aF (aa (pv 2) ah))) ah)) (br ah)) (aa (aG fM (hr.mono (by first | decide | omega)) NE.pass (aa (ay aE (pv 1) af (fun _ _=>rfl)) (aa (pv 2) ah))) ah)))))))),?_⟩
 try dsimp only [aY]
 have L:=(Led.start H (fun _=>False)).more (aO s [_,_,_]) hs
 walk_at "go"
 refine ⟨v,pl,rfl,hp,qe,fun hsome=>?_⟩
 rcases id hp with ⟨e1,rfl⟩ | ⟨tp,m,k,epl,rfl,htp⟩
 ·rw [e1] at hsome;cases hsome
 have q1:=q1 m k epl
 have k0:=hk m k epl
 walk_at "one"
 try dsimp only [bE]
 refine cE (fun σ H'=>H'=H∧σ=[some (.ref p),some (.ref s),some (.int b),some (.bl (decide (("spoken" : Str)∈ws∧n.hr < b)))]) (fun nx kk=>?_) ?_
 ·walk_at "go"
  refine ⟨p,sh,far,room,term,ws,_,rfl,hst,?_⟩
  walk_at "go"
  refine bS (fun c1=>?_) (fun c1=>?_)
  ·walk_at "go"
   refine ⟨s,pl,n,g,rfl,hsd,?_⟩
   walk_at "go"
   exact kk _ _ ⟨rfl,by rw [show decide (("spoken" : Str)∈ws∧n.hr < b)=decide (n.hr < b) from decide_eq_decide.mpr ⟨fun z=>z.2,fun z=>⟨c1,z⟩⟩];rfl⟩
  ·exact kk _ _ ⟨rfl,by rw [decide_eq_false (fun z=>c1 z.1)];rfl⟩
 rintro σ HA ⟨rfl,rfl⟩
 walk_at "go"
 refine bS (fun c=>?_) (fun c=>?_)
 ·walk_at "go"
  obtain ⟨lx,tk,elx,etk⟩:∃ z y,z=l'∧y=t':=⟨_,_,rfl,rfl⟩
  subst elx etk
  have M:=L'
  clear L L'
  have nlx:HA lx=none:=(M.own (lx,_) List.mem_cons_self).elim (fun z=>absurd z id) id
  refine ⟨tp,m,k,_,rfl,M.same _ _ htp,k0,fun r H2 hr2 s2=>?_⟩
  have N:=(M.keep s2).more (aO r [_,_]) hr2
  clear M
  walk_at "go"
  exact q1 _ (.ref r) [(tk,.heard b)] _ (.inl ⟨c.1,c.2,tk,rfl⟩) (.inr ⟨r,_,_,rfl,rfl,L'.tup (r:=r) (by walk_at "mem")⟩) ⟨lx,L'.tup (by walk_at "mem"),nlx,L'.eo .head,fun z hz=>by
   rw [List.mem_singleton.mp hz]
   exact .heard (L'.tup (r:=tk) (by walk_at "mem"))⟩ L'.same
 ·walk_at "go"
  obtain ⟨lx,elx⟩:∃ z,z=l':=⟨_,rfl⟩
  subst elx
  have M:=L'
  clear L L'
  have nlx:HA lx=none:=(M.own (lx,_) List.mem_cons_self).elim (fun z=>absurd z id) id
  refine ⟨tp,m,k,_,rfl,M.same _ _ htp,k0,fun r H2 hr2 s2=>?_⟩
  have N:=(M.keep s2).more (aO r [_,_]) hr2
  clear M
  walk_at "go"
  exact q1 _ (.ref r) [] _ (.inr ⟨c,rfl⟩) (.inr ⟨r,_,_,rfl,rfl,L'.tup (r:=r) (by walk_at "mem")⟩) ⟨lx,L'.tup (by walk_at "mem"),nlx,L'.eo .head,fun z hz=>by simp at hz⟩ L'.same
theorem yj:ao ["settings", "stand", "place", "end", "told"] ["settings", "stand"] (ai (top 62)):=by walk_at "s"
def cV (f m k hd:Int):Int:=max (max f (bnd m k)) hd
theorem mK {H:Hp} {v:V} {sl f e:Int} (h:fq H v (some (sl,f,e))):∃ a,v = .ref a∧H a=some (.tup [.int sl,.int f,.int e]):=by
 rcases h with ⟨z,_⟩ | ⟨a,_,_,_,z,ev,ha⟩
 ·cases z
 ·cases z;exact ⟨a,ev,ha⟩
def rH (K:PySem.W.Frag) (CD CA CN CS:Addr):Sp:=fun vs H Q E=>∃ (p s:Addr) (sh:V) (far room term:Int) (ws:List Str) (pl:Option (Int×Int)) (n:Nt) (g:Int),vs=[.ref p,.ref s]∧qS CS H p sh far room term ws∧dZ K H s pl n g ∧
 (pl=none→E (.ref CD) none H)∧(pl.isSome=true→n.ar=none→E (.ref CA) none H) ∧
 (∀ m k sl f e,pl=some (m,k)→n.ar=some (sl,f,e)→cV f m k n.hd≥e→E (.ref CN) none H) ∧
 (∀ m k sl f e,pl=some (m,k)→n.ar=some (sl,f,e)→¬ cV f m k n.hd≥e→∀ t tv v ls H',H' tv=some (.tup [.int n.g,.int (cV f m k n.hd)])→((("ends" : Str)∈ws∧∃ l,ls=[(l,.ends n.g (cV f m k n.hd))])∨(¬ ("ends" : Str)∈ws∧ls=[]))→fO H' v pl→fm H H' t (.ref tv) ls v→aM H H'→Q (.ref t) H')
theorem yJ {CN:Addr} (D:Dat K mg "giving" "giving" (top 62) ["settings", "stand"]) (BT:Bt mg) (NE:bf (CX1 P w)) (mR:nI K mg "NoRoom" CN) (bC:Cal P w K mg base (CX1 P w) "need_up" 1 ["place"] (eF CD)) (di:Cal P w K mg base (CX1 P w) "need_area" 1 ["area"] (i9 CA)) (bL:Cal P w K mg base (CX1 P w) "area_in" 1 ["stand"] (gH K)) (eS:Cal P w K mg base (CX1 P w) "first_of" 1 ["area"] wG) (cX:Cal P w K mg base (CX1 P w) "end_of" 1 ["area"] nY) (eT:Cal P w K mg base (CX1 P w) "bound_of" 1 ["place"] kP)
  (cP:Cal P w K mg base (CX1 P w) "held_in" 1 ["stand"] (jt K)) (gf:Cal P w K mg base (CX1 P w) "grant_in" 1 ["stand"] (nW K)) (c9:Cal P w K mg base (CX1 P w) "has_rule" 1 ["settings", "word"] (fz CS)):Cal P w K mg base (CX1 P w) "giving" 2 ["settings", "stand"] (rH K CD CA CN CS):=by
 have S:=yj
 refine D.okR S (fun vs H Q E h=>?_) (fun f cdv A outer s H vs Q E hr h=>?_)
 ·obtain ⟨p,s,sh,far,room,term,ws,pl,n,g,rfl,_⟩:=h
  rfl
 obtain ⟨p,s,sh,far,room,term,ws,pl,n,g,rfl,hst,hsd,qd,qa,qn,q1⟩:=h
 obtain ⟨v,t,hs,hp,hn⟩:=id hsd
 refine ⟨_,(aj (aL (i:=2) S.nd rfl (by first | exact Or.inl rfl | exact Or.inr rfl) (ay aE (pv 1) af (fun _ _=>rfl)))
   (aj (ck (cQ bC (hr.mono (by first | decide | omega)) aV (aa (pv 2) ah)))
   (aj (ck (cQ di (hr.mono (by first | decide | omega)) aV (aa (aG bL (hr.mono (by first | decide | omega)) NE.pass (aa (pv 1) ah)) ah)))
   (aj (aL (i:=3) S.nd rfl (by first | exact Or.inl rfl | exact Or.inr rfl) (aX (BZ rfl) rfl BT.max L3.cI (aa (aG eS (hr.mono (by first | decide | omega)) NE.pass (aa (aG bL (hr.mono (by first | decide | omega)) NE.pass (aa (pv 1) ah)) ah)) (aa (aG eT (hr.mono (by first | decide | omega)) NE.pass (aa (pv 2) ah)) (aa (aG cP (hr.mono (by first | decide | omega)) NE.pass (aa (pv 1) ah)) ah)))))
   (aj (bg (aJ sj (pv 3) (aG cX (hr.mono (by first | decide | omega)) NE.pass (aa (aG bL (hr.mono (by first | decide | omega)) NE.pass (aa (pv 1) ah)) ah)) (aI _)) (ak (gJ mR rfl aV (aa aF ah))) aK)
   (aj (aL (i:=4) S.nd rfl (by first | exact Or.inl rfl | exact Or.inr rfl) (aQ (aa (aG gf (hr.mono (by first | decide | omega)) NE.pass (aa (pv 1) ah)) (aa (pv 3) ah))))
   (ak (az (aQ (aa (pv 4) (aa (eG (cK (aG c9 (hr.mono (by first | decide | omega)) NE.pass (aa (pv 0) (aa aF ah)))) (br (aa (aQ (aa aF (aa (aG gf (hr.mono (by first | decide | omega)) NE.pass (aa (pv 1) ah)) (aa (pv 3) ah)))) ah)) (br ah)) (aa (pv 2) ah)))))))))))),?_⟩
 try dsimp only [aY]
 have L:=(Led.start H (fun _=>False)).more (aO s [_,_,_]) hs
 walk_at "go"
 refine ⟨v,pl,rfl,hp,qd,fun hsome=>?_⟩
 rcases id hp with ⟨e1,rfl⟩ | ⟨tp,m,k,epl,rfl,htp⟩
 ·rw [e1] at hsome;cases hsome
 walk_at "go"
 refine ⟨s,pl,n,g,rfl,hsd,fun av hav=>?_⟩
 walk_at "go"
 refine ⟨av,n.ar,rfl,hav,qa hsome,fun hars=>?_⟩
 obtain ⟨⟨sl,f',e⟩,ear⟩:=Option.isSome_iff_exists.mp hars
 have qn:=qn m k sl f' e epl ear
 have q1:=q1 m k sl f' e epl ear
 rw [ear] at hav
 walk_at "go"
 refine ⟨s,pl,n,g,rfl,hsd,fun av2 hav2=>?_⟩
 rw [ear] at hav2
 obtain ⟨a2,rfl,ha2⟩:=mK hav2
 walk_at "go"
 refine ⟨a2,_,_,_,rfl,ha2,?_⟩
 walk_at "go"
 refine ⟨tp,m,k,rfl,htp,?_⟩
 walk_at "go"
 refine ⟨s,pl,n,g,rfl,hsd,?_⟩
 walk_at "go"
 refine ⟨s,pl,n,g,rfl,hsd,fun av3 hav3=>?_⟩
 rw [ear] at hav3
 obtain ⟨a3,rfl,ha3⟩:=mK hav3
 walk_at "go"
 refine ⟨a3,_,_,_,rfl,ha3,?_⟩
 walk_at "go"
 refine bS (fun c=>?_) (fun c=>?_)
 ·walk_at "go"
  exact qn c
 walk_at "go"
 refine ⟨s,pl,n,g,rfl,hsd,?_⟩
 walk_at "go"
 obtain ⟨tv,etv⟩:∃ z,z=t':=⟨_,rfl⟩
 subst etv
 have M:=L'
 clear L L'
 have sM:=M.same
 refine ⟨p,sh,far,room,term,ws,_,rfl,hst.same sM,?_⟩
 walk_at "go"
 refine bS (fun c1=>?_) (fun c1=>?_)
 ·walk_at "go"
  refine ⟨s,pl,n,g,rfl,hsd.same sM,?_⟩
  walk_at "go"
  refine q1 c _ tv (.ref tp) [(_,.ends n.g _)] _ (L'.tup (r:=tv) (by walk_at "mem")) (.inl ⟨c1,_,rfl⟩) (hp.same L'.same) ⟨l',L'.tup (by walk_at "mem"),(L'.own (l',_) List.mem_cons_self).elim (fun z=>absurd z id) id,L'.eo .head,fun z hz=>?_⟩ L'.same
  rw [List.mem_singleton.mp hz]
  exact .ends (L'.tup (by walk_at "mem"))
 ·walk_at "go"
  exact q1 c _ tv (.ref tp) [] _ (L'.tup (r:=tv) (by walk_at "mem")) (.inr ⟨c1,rfl⟩) (hp.same L'.same) ⟨l',L'.tup (by walk_at "mem"),(L'.own (l',_) List.mem_cons_self).elim (fun z=>absurd z id) id,L'.eo .head,fun z hz=>by simp at hz⟩ L'.same
end
def MkE (CD CA CN CW:Addr) (H:Hp) (pl:Option (Int×Int)) (n:Nt) (far r:Int) (E:XK):Prop:=(pl=none→E (.ref CD) none H)∧(pl.isSome=true→n.ar=none→E (.ref CA) none H) ∧
 (∀ m k sl f e,pl=some (m,k)→n.ar=some (sl,f,e)→e≤due m f r→E (.ref CN) none H) ∧
 (∀ m k sl f e,pl=some (m,k)→n.ar=some (sl,f,e)→¬ e≤due m f r→r+far < due m f r→∀ d H',aM H H'→H' d=some (.xd [("reading",.int (due m f r - far))])→E (.ref CW) (some d) H')
def nxP (c m f r k:Int):Int×Int:=(if cnt m f r k+1=c then due m f r+1 else due m f r,if cnt m f r k+1=c then 0 else cnt m f r k+1)
def nF (C CS:Addr) (H:Hp) (p sp:Addr) (c s far room term:Int) (ws:List Str):Prop:=qS CS H p (.ref sp) far room term ws∧E9 C H sp c s∧ShN c s
theorem nF.same {C CS:Addr} {H H':Hp} {p sp:Addr} {c s far room term:Int} {ws:List Str} (h:nF C CS H p sp c s far room term ws) (sm:aM H H'):nF C CS H' p sp c s far room term ws:=
 ⟨h.1.same sm,h.2.1.elim fun dx e=>⟨dx,sm _ _ e⟩,h.2.2⟩
section
variable {P:Program} {w:World} {K:PySem.W.Frag} {mg:Str→Option Value} {base:Heap} {C CD CA CN CW CT CS CR:Addr}
theorem ym:ao ["self", "moment"] ["self", "moment"] (ai (inClass (top 9) 0)):=by walk_at "s"
theorem yM (D:tZ K mg "NoNote" "NoNote.__init__" CT (inClass (top 9) 0) ["self", "moment"]) (iD:xC K mg "RiseError" CR) (EP:vN K CT "moment"):zv P w K mg base "NoNote" CT 1 ["self", "moment"] (jr CT "moment"):=by
 have S:=ym
 refine D.ok' S (fun vs H Q E h=>?_) (fun f cdv A outer s H vs Q E hr h=>?_)
 ·obtain ⟨x,v,rfl,_⟩:=h
  rfl
 obtain ⟨x,v,rfl,hx,q⟩:=h
 refine ⟨_,(aj (ck (se iD (aa (pv 0) (aa aF ah))))
   (ak (wM (pv 0) (pv 1) rfl))),?_⟩
 try dsimp only [aY]
 walk_at "go"
 refine tG hx D.ok ?_
 walk_at "go"
 exact Bw hx EP fun d nd=>q d nd
theorem Gj:ao ["settings", "stand", "reading"] ["settings", "stand", "reading"] (ai (top 58)):=by walk_at "s"
def z9 (K:PySem.W.Frag) (C CD CA CN CW CS:Addr):Sp:=fun vs H Q E=>∃ (p s sp:Addr) (c s' far room term:Int) (ws:List Str) (pl:Option (Int×Int)) (n:Nt) (g r:Int),vs=[.ref p,.ref s,.int r]∧nF C CS H p sp c s' far room term ws∧dZ K H s pl n g∧MkE CD CA CN CW H pl n far r E ∧
 (∀ m k sl f e,pl=some (m,k)→n.ar=some (sl,f,e)→¬ e≤due m f r→¬ r+far < due m f r→∀ x y H',H' x=some (.tup [.int (mk c s' (due m f r) sl (cnt m f r k)),.ref y])→fO H' (.ref y) (some (nxP c m f r k))→aM H H'→Q (.ref x) H')
theorem GA (D:Dat K mg "mark_and_place" "mark_and_place" (top 58) ["settings", "stand", "reading"]) (SS:StC K CS) (NE:bf (CX1 P w)) (bC:Cal P w K mg base (CX1 P w) "need_up" 1 ["place"] (eF CD)) (di:Cal P w K mg base (CX1 P w) "need_area" 1 ["area"] (i9 CA)) (bL:Cal P w K mg base (CX1 P w) "area_in" 1 ["stand"] (gH K))
  (vE:Cal P w K mg base (CX1 P w) "made" 3 ["shape", "far", "area", "place", "reading"] (z8 C CN CW)):Cal P w K mg base (CX1 P w) "mark_and_place" 4 ["settings", "stand", "reading"] (z9 K C CD CA CN CW CS):=by
 have S:=Gj
 refine D.okR S (fun vs H Q E h=>?_) (fun f cdv A outer s H vs Q E hr h=>?_)
 ·obtain ⟨p,s,sp,c,s',far,room,term,ws,pl,n,g,r,rfl,_⟩:=h
  rfl
 obtain ⟨p,s,sp,c,s',far,room,term,ws,pl,n,g,r,rfl,⟨⟨dx,tr,ms,hp0,htr,pm⟩,hsh,shn⟩,hsd,⟨qd,qa,qn,qw⟩,q1⟩:=h
 obtain ⟨v,t,hs,hp,hn⟩:=id hsd
 refine ⟨_,(aj (ck (cQ bC (hr.mono (by first | decide | omega)) aV (aa (ay aE (pv 1) af (fun _ _=>rfl)) ah)))
   (aj (ck (cQ di (hr.mono (by first | decide | omega)) aV (aa (aG bL (hr.mono (by first | decide | omega)) NE.pass (aa (pv 1) ah)) ah)))
   (ak (az (cQ vE (hr.mono (by first | decide | omega)) aV (aa (bP (pv 0) rfl) (aa (bP (pv 0) rfl) (aa (aG bL (hr.mono (by first | decide | omega)) NE.pass (aa (pv 1) ah)) (aa (ay aE (pv 1) af (fun _ _=>rfl)) (aa (pv 2) ah)))))))))),?_⟩
 try dsimp only [aY]
 have L:=(Led.start H (fun _=>False)).more (aO s [_,_,_]) hs
 walk_at "go"
 refine ⟨v,pl,rfl,hp,qd,fun hsome=>?_⟩
 rcases id hp with ⟨e1,rfl⟩ | ⟨tp,m,k,epl,rfl,htp⟩
 ·rw [e1] at hsome;cases hsome
 walk_at "go"
 refine ⟨s,pl,n,g,rfl,hsd,fun av hav=>?_⟩
 walk_at "go"
 refine ⟨av,n.ar,rfl,hav,qa hsome,fun hars=>?_⟩
 obtain ⟨⟨sl,f',e⟩,ear⟩:=Option.isSome_iff_exists.mp hars
 have qn:=qn m k sl f' e epl ear
 have qw:=qw m k sl f' e epl ear
 have q1:=q1 m k sl f' e epl ear
 walk_at "go"
 refine ⟨p,CS,dx,_,_,rfl,hp0,SS.cl,SS.n1,xQ _ far room term tr,?_⟩
 walk_at "go"
 refine ⟨p,CS,dx,_,_,rfl,hp0,SS.cl,SS.n2,CL _ far room term tr,?_⟩
 walk_at "go"
 refine ⟨s,pl,n,g,rfl,hsd,fun av2 hav2=>?_⟩
 rw [ear] at hav2
 obtain ⟨a2,rfl,ha2⟩:=mK hav2
 walk_at "go"
 exact ⟨sp,a2,tp,c,s',sl,f',e,m,k,r,far,rfl,shn,hsh,ha2,htp,qn,qw,fun b1 b2 x y H' hx hy sm=>q1 b1 b2 x y H' hx (.inr ⟨y,_,_,rfl,rfl,hy⟩) sm⟩
theorem uA:ao ["settings", "stand", "reading", "ahead"] ["settings", "stand", "reading"] (ai (top 59)):=by walk_at "s"
def nR (K:PySem.W.Frag) (C CD CA CN CW CS:Addr):Sp:=fun vs H Q E=>∃ (p s sp:Addr) (c s' far room term:Int) (ws:List Str) (pl:Option (Int×Int)) (n:Nt) (g r:Int),vs=[.ref p,.ref s,.int r]∧nF C CS H p sp c s' far room term ws∧dZ K H s pl n g∧MkE CD CA CN CW H pl n far r E ∧
 (∀ m k sl f e,pl=some (m,k)→n.ar=some (sl,f,e)→¬ e≤due m f r→¬ r+far < due m f r→∀ t v ls H',(n.hd < due m f r+room∧(∃ l,ls=[(l,.held (due m f r+room))])∨¬ n.hd < due m f r+room∧ls=[])→fO H' v pl→fm H H' t (.int (max n.hd (due m f r+room))) ls v→aM H H'→Q (.ref t) H')
theorem uO (D:Dat K mg "writing" "writing" (top 59) ["settings", "stand", "reading"]) (SS:StC K CS) (NE:bf (CX1 P w)) (dH:Cal P w K mg base (CX1 P w) "mark_and_place" 4 ["settings", "stand", "reading"] (z9 K C CD CA CN CW CS)) (bL:Cal P w K mg base (CX1 P w) "area_in" 1 ["stand"] (gH K)) (cP:Cal P w K mg base (CX1 P w) "held_in" 1 ["stand"] (jt K))
  (dP:Cal P w K mg base (CX1 P w) "moment_at" 2 ["area", "place", "reading"] jq):Cal P w K mg base (CX1 P w) "writing" 5 ["settings", "stand", "reading"] (nR K C CD CA CN CW CS):=by
 have S:=uA
 refine D.okR S (fun vs H Q E h=>?_) (fun f cdv A outer s H vs Q E hr h=>?_)
 ·obtain ⟨p,s,sp,c,s',far,room,term,ws,pl,n,g,r,rfl,_⟩:=h
  rfl
 obtain ⟨p,s,sp,c,s',far,room,term,ws,pl,n,g,r,rfl,hss,hsd,he,q1⟩:=h
 refine ⟨_,(aj (ck (cQ dH (hr.mono (by first | decide | omega)) aV (aa (pv 0) (aa (pv 1) (aa (pv 2) ah)))))
   (aj (aL (i:=3) S.nd rfl (by first | exact Or.inl rfl | exact Or.inr rfl) (aP bK (aG dP (hr.mono (by first | decide | omega)) NE.pass (aa (aG bL (hr.mono (by first | decide | omega)) NE.pass (aa (pv 1) ah)) (aa (ay aE (pv 1) af (fun _ _=>rfl)) (aa (pv 2) ah)))) (bP (pv 0) rfl)))
   (aj (bg (aJ iV (pv 3) (aG cP (hr.mono (by first | decide | omega)) NE.pass (aa (pv 1) ah)) (aI _)) (ak (az (aQ (aa (pv 3) (aa (br (aa (aQ (aa aF (aa (pv 3) ah))) ah)) (aa (ay aE (pv 1) af (fun _ _=>rfl)) ah)))))) aK)
   (ak (az (aQ (aa (aG cP (hr.mono (by first | decide | omega)) NE.pass (aa (pv 1) ah)) (aa (br ah) (aa (ay aE (pv 1) af (fun _ _=>rfl)) ah))))))))),?_⟩
 try dsimp only [aY]
 walk_at "go"
 refine ⟨p,s,sp,c,s',far,room,term,ws,pl,n,g,r,rfl,hss,hsd,he,fun m k sl f' e epl ear b1 b2 x y H1 hx hy s1=>?_⟩
 have q1:=q1 m k sl f' e epl ear b1 b2
 have tu:=hsd.same s1
 obtain ⟨v,t,hs,hp,hn⟩:=id tu
 obtain ⟨⟨dx,tr,ms,hp0,htr,pm⟩,hsh,shn⟩:=hss.same s1
 rcases id hp with ⟨e1,rfl⟩ | ⟨tp,m2,k2,epl2,rfl,htp⟩
 ·rw [epl] at e1;cases e1
 rw [epl] at epl2
 cases epl2
 have L:=(Led.start H1 (fun _=>False)).more (aO s [_,_,_]) hs
 walk_at "go"
 refine ⟨s,pl,n,g,rfl,tu,fun av2 hav2=>?_⟩
 rw [ear] at hav2
 obtain ⟨a2,rfl,ha2⟩:=mK hav2
 walk_at "go"
 refine ⟨a2,tp,sl,f',e,m,k,r,rfl,ha2,htp,?_⟩
 generalize due m f' r=du at *
 walk_at "go"
 refine ⟨p,CS,dx,_,_,rfl,hp0,SS.cl,SS.n3,zY _ far room term tr,?_⟩
 walk_at "go"
 refine ⟨s,pl,n,g,rfl,tu,?_⟩
 walk_at "go"
 refine bS (fun c=>?_) (fun c=>?_)
 ·rw [show max n.hd (du+room)=du+room by omega] at q1
  walk_at "go"
  exact q1 _ (.ref tp) [(_,.held _)] _ (.inl ⟨c,_,rfl⟩) (hp.same L'.same) ⟨l',L'.tup (by walk_at "mem"),(by
   cases e0:H l' with
   | none=>rfl
   | some o=>exact absurd (s1 _ _ e0) (by rw [(L'.own (l',_) List.mem_cons_self).elim (fun z=>absurd z id) id];exact fun z=>nomatch z)),L'.eo .head,fun z hz=>by
   rw [List.mem_singleton.mp hz]
   exact .held (L'.tup (by walk_at "mem"))⟩ (s1.trans L'.same)
 ·rw [show max n.hd (du+room)=n.hd by omega] at q1
  walk_at "go"
  refine ⟨s,pl,n,g,rfl,tu,?_⟩
  walk_at "go"
  exact q1 _ (.ref tp) [] _ (.inr ⟨c,rfl⟩) (hp.same L'.same) ⟨l',L'.tup (by walk_at "mem"),(by
   cases e0:H l' with
   | none=>rfl
   | some o=>exact absurd (s1 _ _ e0) (by rw [(L'.own (l',_) List.mem_cons_self).elim (fun z=>absurd z id) id];exact fun z=>nomatch z)),L'.eo .head,fun z hz=>by simp at hz⟩ (s1.trans L'.same)
theorem xZ:ao ["settings", "stand", "reading", "told", "moment"] ["settings", "stand", "reading"] (ai (top 60)):=by walk_at "s"
def rF (K:PySem.W.Frag) (C CD CA CN CW CT CS:Addr):Sp:=fun vs H Q E=>∃ (p s sp:Addr) (c s' far room term:Int) (ws:List Str) (pl:Option (Int×Int)) (n:Nt) (g r:Int),vs=[.ref p,.ref s,.int r]∧nF C CS H p sp c s' far room term ws∧dZ K H s pl n g∧MkE CD CA CN CW H pl n far r E ∧
 (∀ m k sl f e,pl=some (m,k)→n.ar=some (sl,f,e)→¬ e≤due m f r→¬ r+far < due m f r→("ahead" : Str)∈ws→n.hd≤due m f r→∀ d H',aM H H'→H' d=some (.xd [("moment",.int (due m f r))])→E (.ref CT) (some d) H') ∧
 (∀ m k sl f e,pl=some (m,k)→n.ar=some (sl,f,e)→¬ e≤due m f r→¬ r+far < due m f r→¬ (("ahead" : Str)∈ws∧n.hd≤due m f r)→∀ t v H',fO H' v (some (nxP c m f r k))→fm H H' t (.int (mk c s' (due m f r) sl (cnt m f r k))) [] v→aM H H'→Q (.ref t) H')
theorem yx (D:Dat K mg "making" "making" (top 60) ["settings", "stand", "reading"]) (NE:bf (CX1 P w)) (mS:zv P w K mg base "NoNote" CT 1 ["self", "moment"] (jr CT "moment")) (dH:Cal P w K mg base (CX1 P w) "mark_and_place" 4 ["settings", "stand", "reading"] (z9 K C CD CA CN CW CS)) (bL:Cal P w K mg base (CX1 P w) "area_in" 1 ["stand"] (gH K)) (cP:Cal P w K mg base (CX1 P w) "held_in" 1 ["stand"] (jt K))
  (dP:Cal P w K mg base (CX1 P w) "moment_at" 2 ["area", "place", "reading"] jq) (c9:Cal P w K mg base (CX1 P w) "has_rule" 1 ["settings", "word"] (fz CS)):Cal P w K mg base (CX1 P w) "making" 5 ["settings", "stand", "reading"] (rF K C CD CA CN CW CT CS):=by
 have S:=xZ
 refine D.okR S (fun vs H Q E h=>?_) (fun f cdv A outer s H vs Q E hr h=>?_)
 ·obtain ⟨p,s,sp,c,s',far,room,term,ws,pl,n,g,r,rfl,_⟩:=h
  rfl
 obtain ⟨p,s,sp,c,s',far,room,term,ws,pl,n,g,r,rfl,hss,hsd,he,qt,q1⟩:=h
 refine ⟨_,(aj (aL (i:=3) S.nd rfl (by first | exact Or.inl rfl | exact Or.inr rfl) (cQ dH (hr.mono (by first | decide | omega)) aV (aa (pv 0) (aa (pv 1) (aa (pv 2) ah)))))
   (aj (aL (i:=4) S.nd rfl (by first | exact Or.inl rfl | exact Or.inr rfl) (aG dP (hr.mono (by first | decide | omega)) NE.pass (aa (aG bL (hr.mono (by first | decide | omega)) NE.pass (aa (pv 1) ah)) (aa (ay aE (pv 1) af (fun _ _=>rfl)) (aa (pv 2) ah)))))
   (aj (bg (PW.pt (lD (cK (aG c9 (hr.mono (by first | decide | omega)) NE.pass (aa (pv 0) (aa aF ah)))) (jv (aJ sj (pv 4) (aG cP (hr.mono (by first | decide | omega)) NE.pass (aa (pv 1) ah)) (aI _))))) (ak (n9 mS (hr.mono (by first | decide | omega)) rfl aV (aa (pv 4) ah))) aK)
   (ak (az (aQ (aa (ay aE (pv 3) af (fun _ _=>rfl)) (aa (br ah) (aa (ay aE (pv 3) af (fun _ _=>rfl)) ah))))))))),?_⟩
 try dsimp only [aY]
 walk_at "go"
 refine ⟨p,s,sp,c,s',far,room,term,ws,pl,n,g,r,rfl,hss,hsd,he,fun m k sl f' e epl ear b1 b2 x y H1 hx hy s1=>?_⟩
 have qt:=qt m k sl f' e epl ear b1 b2
 have q1:=q1 m k sl f' e epl ear b1 b2
 have tu:=hsd.same s1
 obtain ⟨v,t,hs,hp,hn⟩:=id tu
 have KY:=hss.same s1
 rcases id hp with ⟨e1,rfl⟩ | ⟨tp,m2,k2,epl2,rfl,htp⟩
 ·rw [epl] at e1;cases e1
 rw [epl] at epl2
 cases epl2
 have L:=((Led.start H1 (fun _=>False)).more (aO s [_,_,_]) hs).more (aO x [_,_]) hx
 walk_at "go"
 refine ⟨s,pl,n,g,rfl,tu,fun av2 hav2=>?_⟩
 rw [ear] at hav2
 obtain ⟨a2,rfl,ha2⟩:=mK hav2
 walk_at "go"
 refine ⟨a2,tp,sl,f',e,m,k,r,rfl,ha2,htp,?_⟩
 generalize nxP c m f' r k=np at *
 generalize mk c s' (due m f' r) sl (cnt m f' r k)=mm at *
 generalize due m f' r=du at *
 walk_at "one"
 try dsimp only [bE]
 refine cE (fun σ H'=>H'=H1∧σ=[some (.ref p),some (.ref s),some (.int r),some (.ref x),some (.int du)]∧¬ (("ahead" : Str)∈ws∧n.hd≤du)) (fun nx kk=>?_) ?_
 ·walk_at "go"
  refine ⟨p,_,far,room,term,ws,_,rfl,KY.1,?_⟩
  walk_at "go"
  refine bS (fun c1=>?_) (fun c1=>?_)
  ·walk_at "go"
   refine ⟨s,pl,n,g,rfl,tu,?_⟩
   walk_at "go"
   refine bS (fun c2=>?_) (fun c2=>?_)
   ·walk_at "go"
    exact oH fun d H' sm hd=>qt c1 c2 d H' (s1.trans sm) hd
   ·walk_at "go"
    exact kk _ _ ⟨rfl,rfl,fun z=>c2 z.2⟩
  ·walk_at "go"
   exact kk _ _ ⟨rfl,rfl,fun z=>c1 z.1⟩
 rintro σ HA ⟨rfl,rfl,hno⟩
 walk_at "go"
 exact q1 hno _ (.ref y) _ (hy.same L'.same) ⟨l',L'.tup (by walk_at "mem"),(by
   cases e0:H l' with
   | none=>rfl
   | some o=>exact absurd (s1 _ _ e0) (by rw [(L'.own (l',_) List.mem_cons_self).elim (fun z=>absurd z id) id];exact fun z=>nomatch z)),L'.eo .head,fun z hz=>by simp at hz⟩ (s1.trans L'.same)
end
end Law
namespace L4
open PySem PySem.Spec PyProof.Rows L2 L3
structure Cc (P:Program) (w:World) (K:PySem.W.Frag) (mg:Str→Option Value) (base:Heap) (CX:CXT) (x:Str) (C:Addr) (k:Nat) (ps:List Str) (sp:Sp):Prop where
 ex:∃ f fd,Mk K C f∧eU P w K mg base CX k f fd ps sp∧Binds K fd ps [.none]∧mg x=some (.ref C)
structure oX (K:PySem.W.Frag) (mg:Str→Option Value) (x qual:Str) (C:Addr) (st:Stmt) (ps:List Str):Prop where
 ex:∃ (f:Addr) (oc dV kV doc pm cdv ct:Value) (od an:Option Addr) (osl:Array (Option Value)),K.lookup f=some ⟨oc,od,.func (PySem.W.fnOf "__init__" qual (bw st) (aS st) (ai st) dV kV doc pm an cdv ct),osl⟩∧PySem.W.codeIn K cdv qual=true ∧
  Binds K (PySem.W.fnOf "__init__" qual (bw st) (aS st) (ai st) dV kV doc pm an cdv ct) ps []∧Binds K (PySem.W.fnOf "__init__" qual (bw st) (aS st) (ai st) dV kV doc pm an cdv ct) ps [.none]∧mg x=some (.ref C)∧Mk K C f
 cl:Cls K C
section
variable {P:Program} {w:World} {K:PySem.W.Frag} {mg:Str→Option Value} {base:Heap} {CX:CXT} {x qual:Str} {C:Addr} {st:Stmt} {N ps:List Str} {k:Nat} {sp:Sp}
theorem oX.ok (D:oX K mg x qual C st ps) (S:ao N ps (ai st)) (len:∀ vs H Q E,sp vs H Q E→vs.length=ps.length)
  (hbody:∀ (f:Addr) (cdv:Value) (A:Around) (outer:List Env) (s:Shared) (H:Hp) (vs:List V) (Q:VK) (E:XK),bY k (A.deeper (envOfC qual (ai st) s.heap.objs.size f cdv))→sp vs H Q E →
   ∃ t,PSs (aY CX P w K mg base N qual (ai st) f cdv A outer s H E).nox (aS st) t∧t { nx:=fun _ H'=>Q .non H',rt:=Q } (start N vs) H):Mak P w K mg base CX x C (k+1) ps sp∧Cc P w K mg base CX x C (k+1) ps sp:=by
 obtain ⟨f,oc,dV,kV,doc,pm,cdv,ct,od,an,osl,lk,hcd,b,b1,m,mk⟩:=D.ex
 have F:eU P w K mg base CX (k+1) f _ ps sp:=oJ lk hcd S len fun A outer s H vs Q E hr hsp=>by
  obtain ⟨t,h,q⟩:=hbody f cdv A outer s H vs Q E hr hsp
  exact ⟨t,h.nox,q⟩
 exact ⟨⟨f,_,mk,F,b,m⟩,⟨f,_,mk,F,b1,m⟩⟩
theorem BU {h:Heap} (X:K.In h) (G:h.Ns mainGlobals mg) {f T:Addr} {oc tc:Value} {od td an:Option Addr} {osl tsl:Array (Option Value)} {its:Array Value} {tn:Nat} {kV doc pm cdv ct:Value} (aC:PySem.W.nsIn K mainGlobals x=some (some (.ref C)))
  (a:PySem.W.findIn K (.ref C) "__init__" = some (some (.ref f))) (i:PySem.W.isFn K (.ref f)=true)
  (l:K.lookup f=some ⟨oc,od,.func (PySem.W.fnOf "__init__" qual (bw st) (aS st) (ai st) (.ref T) kV doc pm an cdv ct),osl⟩) (tl:K.lookup T=some ⟨tc,td,.seq its tn,tsl⟩) (c:PySem.W.codeIn K cdv qual=true)
  (pg:PySem.W.plainGet K C Str.empty=true) (hd:PySem.W.hasDictIn K C=true) (po:PySem.W.plainOver K C=true) (sa:PySem.W.findIn K (.ref C) "__setattr__" = some (some (.builtin "object.__setattr__"))) (mk:PySem.W.makesIn K C=true) (kc:PySem.W.keepIn K (.ref C)=true)
  (b:∀ (T:Addr) (kV doc pm:Value) (an:Option Addr) (cdv ct:Value) (us:List Value),us.length=ps.length→∃ k:Option (Array Value)→Sem (List (Str×Value)),bindArgs (PySem.W.fnOf "__init__" qual (bw st) (aS st) (ai st) (.ref T) kV doc pm an cdv ct) ⟨us,[]⟩=(seqItems? (.ref T) >>= k)∧k (some its)=pure (ps.zip us))
  (b1:∀ (T:Addr) (kV doc pm:Value) (an:Option Addr) (cdv ct:Value) (us:List Value),us.length+1=ps.length→∃ k:Option (Array Value)→Sem (List (Str×Value)),bindArgs (PySem.W.fnOf "__init__" qual (bw st) (aS st) (ai st) (.ref T) kV doc pm an cdv ct) ⟨us,[]⟩=(seqItems? (.ref T) >>= k)∧k (some its)=pure (ps.zip (us++[.none]))):oX K mg x qual C st ps:=
 ⟨⟨f,oc,.ref T,kV,doc,pm,cdv,ct,od,an,osl,l,c,(fun s us hK hl=>by
  rw [List.append_nil] at hl ⊢
  obtain ⟨k,h1,h2⟩:=b T kV doc pm an cdv ct us hl
  exact BindsTo.of_defaults (T:=T) rfl (hK _ _ tl) rfl h1 h2),(fun s us hK hl=>by
  rw [List.length_append,List.length_singleton] at hl
  obtain ⟨k,h1,h2⟩:=b1 T kV doc pm an cdv ct us hl
  exact BindsTo.of_defaults (T:=T) rfl (hK _ _ tl) rfl h1 h2),PySem.W.mg_of X G aC,⟨mk,a,i,kc⟩⟩,⟨pg,hd,po,sa⟩⟩
end
section
variable {X:Cx} {CX:CXT} {k:Nat} {ps:List Str} {sp:Sp} {E:XK} {x:Str} {C:Addr} {p pos:Pos} {e:Expr} {es:List Expr} {t:TA}
theorem Gw (M:Cc X.prog X.w X.K X.mg X.base CX x C k ps sp) (hr:bY (k+1) X.A) (hx:Passes CX X E) (ha:PA X (e::es) t) (hg:Gl X x:=by rfl)
  (hdb:(x == ("__debug__" : Str))=false:=by decide) (he:starEach (e::es) X.env=(false,eval e X.env)::starEach es X.env:=by rfl) (hpl:(backTo pos (starEach es X.env)).any (·.1)=false:=by rfl) :
  PE X (.Call (.Name x p) (e::es) [] pos) (rz C sp [.non] E t):=by
 obtain ⟨f,fd,m,F,b,g⟩:=M.ex
 exact wR m F hr hg g b (.cons rfl .nil) hx ha hdb he hpl
theorem EB {H:Hp} {σ : St} {Q:VK} (h:t σ H fun vs H1=>Made C sp E (vs++[.non]) H1 Q):rz C sp [.non] E t σ H Q:=h
end
end L4
namespace Law
open PySem PySem.Spec PyProof.Rows L2 L3 L4
structure Hd where
 p:Addr
 l:Addr
 ps:Addr
 sp:Addr
 nm:Str
 c:Int
 s:Int
 far:Int
 room:Int
 term:Int
 ws:List Str
def hdF (nm:Str) (ps l:Addr) (sv:V):List (Str×V):=[("name",.str nm),("settings",.ref ps),("lines",.ref l),("spot",sv)]
structure HdC (K:PySem.W.Frag) (CH:Addr):Prop where
 cl:Cls K CH
 n1:bq K CH "name"
 n2:bq K CH "settings"
 n3:bq K CH "lines"
 n4:bq K CH "spot"
theorem Eh (nm:Str) (ps l:Addr) (sv sv':V):bN "spot" sv' (hdF nm ps l sv)=hdF nm ps l sv':=by
 have a1:¬ (("name" : Str) = "spot"):=by decide +kernel
 have a2:¬ (("settings" : Str) = "spot"):=by decide +kernel
 have a3:¬ (("lines" : Str) = "spot"):=by decide +kernel
 unfold hdF
 simp only [bN,if_neg a1,if_neg a2,if_neg a3,if_pos]
theorem GR (nm:Str) (ps l:Addr) (sv:V):bN "spot" sv (bN "lines" (.ref l) (bN "settings" (.ref ps) (bN "name" (.str nm) [])))=hdF nm ps l sv:=by
 have a1:¬ (("name" : Str) = "spot"):=by decide +kernel
 have a2:¬ (("settings" : Str) = "spot"):=by decide +kernel
 have a3:¬ (("lines" : Str) = "spot"):=by decide +kernel
 have b1:¬ (("name" : Str) = "lines"):=by decide +kernel
 have b2:¬ (("settings" : Str) = "lines"):=by decide +kernel
 have c1:¬ (("name" : Str) = "settings"):=by decide +kernel
 simp only [bN,if_neg a1,if_neg a2,if_neg a3,if_neg b1,if_neg b2,if_neg c1]
 rfl
theorem tE (nm:Str) (ps l:Addr) (sv:V):(hdF nm ps l sv).lookup ("lines" : Str)=some (.ref l):=by unfold hdF;walk_at "lk"
theorem tD (nm:Str) (ps l:Addr) (sv:V):(hdF nm ps l sv).lookup ("spot" : Str)=some sv:=by unfold hdF;walk_at "lk"
theorem gX (nm:Str) (ps l:Addr) (sv:V):(hdF nm ps l sv).lookup ("settings" : Str)=some (.ref ps):=by unfold hdF;walk_at "lk"
theorem wU (f:Str) (v:V):∀ fs:List (Str×V),(bN f v fs).lookup f=some v
 | []=>lk_hit
 | (g,x)::r=>by
  show (if g=f then (g,v)::r else (g,x)::bN f v r).lookup f=some v
  by_cases c:g=f
  ·rw [if_pos c,c];exact lk_hit
  ·rw [if_neg c,lk_miss (by rw [beq_eq_false_iff_ne];exact fun z=>c z.symm)]
   exact wU f v r
def bA (C CS CH:Addr) (H:Hp) (d:Hd) (ls:Lns) (pl:Option (Int×Int)):Prop:=(∃ dx sv,H d.p=some (.ins CH dx (hdF d.nm d.ps d.l sv))∧fO H sv pl)∧H d.l=some (.lst (lnV ls))∧bH H ls∧nF C CS H d.ps d.sp d.c d.s d.far d.room d.term d.ws
theorem bA.same {C CS CH:Addr} {H H':Hp} {d:Hd} {ls:Lns} {pl:Option (Int×Int)} (h:bA C CS CH H d ls pl) (s:aM H H'):bA C CS CH H' d ls pl:=by
 obtain ⟨⟨dx,sv,h1,h2⟩,h3,h4,h5⟩:=h
 exact ⟨⟨dx,sv,s _ _ h1,h2.same s⟩,s _ _ h3,h4.same s,h5.same s⟩
structure cO (ls:Lns) (pl:Option (Int×Int)):Prop where
 good:bX ls
 k0:∀ m k,pl=some (m,k)→0≤k
 len:ls.length≤398
def Fr2 (p l:Addr) (H H':Hp):Prop:=∀ q o,H q=some o→q≠p→q≠l→H' q=some o
theorem Fr2.trans {p l:Addr} {H H1 H2:Hp} (a:Fr2 p l H H1) (b:Fr2 p l H1 H2):Fr2 p l H H2:=fun q o h n1 n2=>b q o (a q o h n1 n2) n1 n2
theorem Fr2.of {p l:Addr} {H H1:Hp} (a:aM H H1):Fr2 p l H H1:=fun q o h _ _=>a q o h
def nt (ls:Lns):Nt:=bh Nt.nil ls
def gmx (ls:Lns):Int:=(gts ls).foldl max 0
section
variable {P:Program} {w:World} {K:PySem.W.Frag} {mg:Str→Option Value} {base:Heap} {CX:CXT} {C CS CH CD CU CA CN CW CT:Addr}
theorem uI:ao ["lines"] ["lines"] (ai (top 32)):=by walk_at "s"
def rJ (K:PySem.W.Frag):Sp:=fun vs H Q _=>∃ (a:Addr) (ls:Lns),vs=[.ref a]∧SqL K H a (lnV ls)∧bH H ls∧bX ls∧∀ v H',fq H' v (nt ls).ar→aM H H'→Q v H'
theorem uW (D:Dat K mg "area_of" "area_of" (top 32) ["lines"]) (NE:bf CX) (bx:Cal P w K mg base CX "read_note" 4 ["lines"] (eX K)):Cal P w K mg base CX "area_of" 5 ["lines"] (rJ K):=by
 have S:=uI
 walk_at "d"
 ·obtain ⟨a,ls,rfl,_⟩:=h
  rfl
 obtain ⟨a,ls,rfl,hS,hL,hg,q⟩:=h
 refine ⟨_,(ak (az (ay aE (aG bx (hr.mono (by first | decide | omega)) NE.pass (aa (pv 0) ah)) af (fun _ _=>rfl)))),?_⟩
 try dsimp only [aY]
 walk_at "go"
 refine ⟨a,ls,rfl,hS,hL,hg,fun t H' ⟨av,hn,hv⟩ sm=>?_⟩
 walk_at "go"
 exact q av H' hv sm
theorem Au:ao ["self", "name", "settings", "lines"] ["self", "name", "settings", "lines"] (ai (inClass (top 64) 0)):=by walk_at "s"
def AL (H:Hp) (v:V) (ls:Lns):Prop:=(v = .non∧ls=[])∨∃ a,v = .ref a∧H a=some (.lst (lnV ls))
def fP (CH:Addr):Sp:=fun vs H Q _=>∃ (p dx ps:Addr) (nm:Str) (v:V) (ls:Lns),vs=[.ref p,.str nm,.ref ps,v]∧AL H v ls∧bH H ls∧bX ls∧ls.length≤398∧H p=some (.ins CH dx []) ∧
 ∀ (l:Addr) (sv:V) (H':Hp),H l=none→H' p=some (.ins CH dx (hdF nm ps l sv))→fO H' sv (some (max (nt ls).hd (nt ls).hr,0))→H' l=some (.lst (lnV ls))→(∀ q o,H q=some o→q≠p→H' q=some o)→Q .non H'
theorem A7 (D:oX K mg "Hand" "Hand.__init__" CH (inClass (top 64) 0) ["self", "name", "settings", "lines"]) (SC:HdC K CH) (BT:Bt mg) (NE:bf CX) (bx:Cal P w K mg base CX "read_note" 4 ["lines"] (eX K)) (dG:Cal P w K mg base CX "start_by" 1 ["note"] (jS K)):Mak P w K mg base CX "Hand" CH 5 ["self", "name", "settings", "lines"] (fP CH)∧Cc P w K mg base CX "Hand" CH 5 ["self", "name", "settings", "lines"] (fP CH):=by
 have S:=Au
 walk_at "d"
 ·obtain ⟨p,dx,ps,nm,v,ls,rfl,_⟩:=h
  rfl
 obtain ⟨p,dx,ps,nm,v,ls,rfl,hal,hL,hg,hlen,hp,q⟩:=h
 refine ⟨_,(aj (dR (pv 0) (pv 1) rfl)
   (aj (dR (pv 0) (pv 2) rfl)
   (aj (dR (pv 0) (eG (e9 (jV (pv 3))) (br ah) (iJ mE rfl BT.list_ L3.kZ (aa (pv 3) ah))) rfl)
   (ak (dR (pv 0) (aG dG (hr.mono (by first | decide | omega)) NE.pass (aa (aG bx (hr.mono (by first | decide | omega)) NE.pass (aa (bP (pv 0) rfl) ah)) ah)) rfl))))),?_⟩
 try dsimp only [aY]
 have k1:=dM ("name" : Str) (.str nm) []
 have k2:=dM ("settings" : Str) (.ref ps) (bN "name" (.str nm) [])
 rw [List.length_nil] at k1
 walk_at "go"
 refine ⟨p,CH,dx,[],rfl,hp,SC.cl,SC.n1,by decide,?_⟩
 walk_at "go"
 refine ⟨p,CH,dx,_,rfl,aB,SC.cl,SC.n2,by omega,?_⟩
 rw [eV]
 have key:=fun l sv=>GR nm ps l sv
 generalize bN ("settings" : Str) (.ref ps) (bN "name" (.str nm) [])=fs at *
 have k3:∀ l,(bN ("lines" : Str) (.ref l) fs).length≤fs.length+1:=fun l=>dM _ _ _
 have hpc:(upd H p (.ins CH dx fs)) p=some (.ins CH dx fs):=aB
 have oc:∀ q o,H q=some o→q≠p→(upd H p (.ins CH dx fs)) q=some o:=fun q o e z=>by rw [au z];exact e
 have hLc:bH (upd H p (.ins CH dx fs)) ls:=hL.ts (uu hp fun xs z=>nomatch z)
 have ic:∀ q,(upd H p (.ins CH dx fs)) q=none→H q=none:=fun q e=>by
  by_cases z:q=p
  ·rw [z,aB] at e;cases e
  ·rwa [au z] at e
 have hac:AL (upd H p (.ins CH dx fs)) v ls:=by
  rcases hal with z | ⟨a,rfl,ha⟩
  ·exact .inl z
  ·exact .inr ⟨a,rfl,oc _ _ ha fun z=>by rw [z,hp] at ha;cases ha⟩
 generalize upd H p (.ins CH dx fs)=Hc at *
 try dsimp only [bE]
 refine cE (fun σ H'=>∃ l,Hc l=none∧H' p=some (.ins CH dx (bN "lines" (.ref l) fs))∧H' l=some (.lst (lnV ls))∧bH H' ls∧(∀ q o,Hc q=some o→q≠p→H' q=some o)∧σ=[some (.ref p),some (.str nm),some (.ref ps),some v]) (fun nx kk=>?_) ?_
 ·have L:=Led.start Hc (fun _=>False)
  walk_at "go"
  rcases hac with ⟨rfl,rfl⟩ | ⟨a,rfl,ha⟩
  ·refine lZ rfl ?_
   walk_at "go"
   have np:p≠l':=fun z=>by rw [z,n'] at hpc;cases hpc
   refine ⟨p,CH,dx,fs,rfl,L'.same _ _ hpc,SC.cl,SC.n3,by omega,?_⟩
   exact kk _ _ ⟨l',n',aB,by rw [au (Ne.symm np)];exact L'.eo .head,fun _ h=>by simp at h,fun q o e z=>by rw [au z];exact L'.same _ _ e,rfl⟩
  ·refine bS (fun z=>nomatch z) fun _=>?_
   walk_at "go"
   refine lX L (.inl (SqL.of ha)) fun b HB nb L' sB=>?_
   have np:p≠b:=fun z=>by rw [z,nb] at hpc;cases hpc
   walk_at "go"
   refine ⟨p,CH,dx,fs,rfl,sB _ _ hpc,SC.cl,SC.n3,by omega,?_⟩
   exact kk _ _ ⟨b,nb,aB,by rw [au (Ne.symm np)];exact L'.eo .head,(hLc.same sB).ts (uu (sB _ _ hpc) fun xs z=>nomatch z),fun q o e z=>by rw [au z];exact sB _ _ e,rfl⟩
 rintro σ H1 ⟨l,nl,hp1,hl1,hL1,o1,rfl⟩
 walk_at "go"
 refine ⟨p,CH,dx,_,_,rfl,hp1,SC.cl,SC.n3,wU _ _ _,?_⟩
 walk_at "go"
 refine ⟨l,ls,rfl,SqL.of hl1,hL1,hg,fun t H2 hn s2=>?_⟩
 walk_at "go"
 refine ⟨t,_,rfl,hn,fun pt H3 hpt s3=>?_⟩
 walk_at "go"
 have hp3:=s3 _ _ (s2 _ _ hp1)
 have k4:=k3 l
 refine ⟨p,CH,dx,_,rfl,hp3,SC.cl,SC.n4,by omega,?_⟩
 rw [key]
 have npl:l≠p:=fun z=>by rw [z,hpc] at nl;cases nl
 have KL:pt≠p:=fun z=>by rw [z,hp3] at hpt;cases hpt
 exact q l (.ref pt) _ (ic _ nl) aB (.inr ⟨pt,_,_,rfl,rfl,by rw [au KL];exact hpt⟩) (by rw [au npl];exact s3 _ _ (s2 _ _ hl1)) fun x o e z=>by rw [au z];exact s3 _ _ (s2 _ _ (o1 x o (oc x o e z) z))
theorem eB {C CS:Addr} {H:Hp} {Q:VK} {E:XK} {ps sp:Addr} {nm:Str} {v:V} {ls:Lns} {c s far room term:Int} {ws:List Str} (ha:AL H v ls) (hL:bH H ls) (hg:bX ls) (hl:ls.length≤398) (hs:nF C CS H ps sp c s far room term ws)
  (q:∀ x l H',H x=none→H l=none→bA C CS CH H' ⟨x,l,ps,sp,nm,c,s,far,room,term,ws⟩ ls (some (max (nt ls).hd (nt ls).hr,0))→aM H H'→Q (.ref x) H'):Made CH (fP CH) E [.str nm,.ref ps,v] H Q:=by
 intro x dx nx nd ne
 have sm0:aM H (upd (upd H dx (.own x)) x (.ins CH dx [])):=fun b o e=>by rw [au (aq e nx),au (aq e nd)];exact e
 have ha':AL (upd (upd H dx (.own x)) x (.ins CH dx [])) v ls:=by
  rcases ha with z | ⟨a,rfl,h⟩
  ·exact .inl z
  ·exact .inr ⟨a,rfl,sm0 _ _ h⟩
 refine ⟨x,dx,ps,nm,v,ls,rfl,ha',hL.same sm0,hg,hl,aB,fun l sv H' nl h1 h2 h3 h4=>⟨rfl,?_⟩⟩
 have sm:aM H H':=fun b o e=>h4 b o (sm0 _ _ e) (aq e nx)
 have nl':H l=none:=by
  cases e:H l with
  | none=>rfl
  | some o=>rw [sm0 _ _ e] at nl;cases nl
 exact q x l H' nx nl' ⟨⟨dx,sv,h1,h2⟩,h3,hL.same sm,hs.same sm⟩ sm
end
theorem dB {m:Str} {nm:Str} {ps l:Addr} {sv:V} (a1:(m == ("name" : Str))=false) (a2:(m == ("settings" : Str))=false) (a3:(m == ("lines" : Str))=false) (a4:(m == ("spot" : Str))=false):(hdF nm ps l sv).lookup m=none:=by
 unfold hdF
 rw [lk_miss a1,lk_miss a2,lk_miss a3,lk_miss a4];rfl
section
variable {P:Program} {w:World} {K:PySem.W.Frag} {mg:Str→Option Value} {base:Heap} {CX:CXT} {C CS CH CD CU CA CN CW CT:Addr}
theorem As:ao ["self"] ["self"] (ai (inClass (top 64) 1)):=by walk_at "s"
def uy (C CS CH:Addr):Sp:=fun vs H Q _=>∃ (d:Hd) (ls:Lns) (pl:Option (Int×Int)),vs=[.ref d.p]∧bA C CS CH H d ls pl∧Q (.bl pl.isSome) H
theorem A6 (D:dc K CH "is_up" "Hand.is_up" (inClass (top 64) 1) ["self"]) (SC:HdC K CH):bF P w K mg base CX CH "is_up" 1 ["self"] (uy C CS CH):=by
 have S:=As
 refine iK D S (fun vs H Q E h=>?_) (fun f cdv A outer s H vs Q E hr h=>?_)
 ·obtain ⟨d,ls,pl,rfl,_⟩:=h
  rfl
 obtain ⟨d,ls,pl,rfl,⟨⟨dx,sv,hp,hpl⟩,hl,hL,hss⟩,q⟩:=h
 refine ⟨_,(ak (az (AM (kT (bP (pv 0) rfl))))),?_⟩
 try dsimp only [aY]
 walk_at "go"
 refine ⟨d.p,CH,dx,_,_,rfl,hp,SC.cl,SC.n4,tD _ _ _ _,?_⟩
 walk_at "go"
 rcases hpl with ⟨rfl,rfl⟩ | ⟨t,m,k,rfl,rfl,_⟩
 ·exact q
 ·exact q
theorem Am:ao ["self"] ["self"] (ai (inClass (top 64) 2)):=by walk_at "s"
def pA (C CS CH:Addr):Sp:=fun vs H Q _=>∃ (d:Hd) (ls:Lns) (pl:Option (Int×Int)),vs=[.ref d.p]∧bA C CS CH H d ls pl∧∀ v,fO H v pl→Q v H
theorem A0 (D:dc K CH "place" "Hand.place" (inClass (top 64) 2) ["self"]) (SC:HdC K CH):bF P w K mg base CX CH "place" 1 ["self"] (pA C CS CH):=by
 have S:=Am
 refine iK D S (fun vs H Q E h=>?_) (fun f cdv A outer s H vs Q E hr h=>?_)
 ·obtain ⟨d,ls,pl,rfl,_⟩:=h
  rfl
 obtain ⟨d,ls,pl,rfl,⟨⟨dx,sv,hp,hpl⟩,hl,hL,hss⟩,q⟩:=h
 refine ⟨_,(ak (az (bP (pv 0) rfl))),?_⟩
 try dsimp only [aY]
 walk_at "go"
 refine ⟨d.p,CH,dx,_,_,rfl,hp,SC.cl,SC.n4,tD _ _ _ _,?_⟩
 exact q sv hpl
theorem C8:ao ["self"] ["self"] (ai (inClass (top 64) 3)):=by walk_at "s"
def lq (C CS CH:Addr):Sp:=fun vs H Q _=>∃ (d:Hd) (ls:Lns) (pl:Option (Int×Int)),vs=[.ref d.p]∧bA C CS CH H d ls pl∧∀ b H',H b=none→H' b=some (.lst (lnV ls))→aM H H'→Q (.ref b) H'
theorem DN (D:dc K CH "note" "Hand.note" (inClass (top 64) 3) ["self"]) (SC:HdC K CH) (BT:Bt mg):bF P w K mg base CX CH "note" 1 ["self"] (lq C CS CH):=by
 have S:=C8
 refine iK D S (fun vs H Q E h=>?_) (fun f cdv A outer s H vs Q E hr h=>?_)
 ·obtain ⟨d,ls,pl,rfl,_⟩:=h
  rfl
 obtain ⟨d,ls,pl,rfl,⟨⟨dx,sv,hp,hpl⟩,hl,hL,hss⟩,q⟩:=h
 refine ⟨_,(ak (az (iJ mE rfl BT.list_ L3.kZ (aa (bP (pv 0) rfl) ah)))),?_⟩
 try dsimp only [aY]
 walk_at "go"
 refine ⟨d.p,CH,dx,_,_,rfl,hp,SC.cl,SC.n3,tE _ _ _ _,?_⟩
 walk_at "go"
 refine lX (Led.start H (fun _=>False)) (.inl (SqL.of hl)) fun b HB nb L sB=>?_
 walk_at "go"
 exact q b HB nb (L.eo .head) sB
theorem Di:ao ["self"] ["self"] (ai (inClass (top 64) 4)):=by walk_at "s"
def lA (C CS CH:Addr):Sp:=fun vs H Q _=>∃ (d:Hd) (ls:Lns) (pl:Option (Int×Int)),vs=[.ref d.p]∧bA C CS CH H d ls pl∧bX ls∧∀ v H',fq H' v (nt ls).ar→aM H H'→Q v H'
theorem DW (D:dc K CH "area" "Hand.area" (inClass (top 64) 4) ["self"]) (SC:HdC K CH) (NE:bf CX) (fN:Cal P w K mg base CX "area_of" 5 ["lines"] (rJ K)):bF P w K mg base CX CH "area" 6 ["self"] (lA C CS CH):=by
 have S:=Di
 refine iK D S (fun vs H Q E h=>?_) (fun f cdv A outer s H vs Q E hr h=>?_)
 ·obtain ⟨d,ls,pl,rfl,_⟩:=h
  rfl
 obtain ⟨d,ls,pl,rfl,⟨⟨dx,sv,hp,hpl⟩,hl,hL,hss⟩,hg,q⟩:=h
 refine ⟨_,(ak (az (aG fN (hr.mono (by first | decide | omega)) NE.pass (aa (bP (pv 0) rfl) ah)))),?_⟩
 try dsimp only [aY]
 walk_at "go"
 refine ⟨d.p,CH,dx,_,_,rfl,hp,SC.cl,SC.n3,tE _ _ _ _,?_⟩
 walk_at "go"
 exact ⟨d.l,ls,rfl,SqL.of hl,hL,hg,q⟩
theorem Ah:ao ["self"] ["self"] (ai (inClass (top 64) 5)):=by walk_at "s"
def eW (K:PySem.W.Frag) (C CS CH:Addr):Sp:=fun vs H Q _=>∃ (d:Hd) (ls:Lns) (pl:Option (Int×Int)),vs=[.ref d.p]∧bA C CS CH H d ls pl∧cO ls pl∧∀ t H',dZ K H' t pl (nt ls) (gmx ls)→aM H H'→Q (.ref t) H'
theorem AV (D:dc K CH "stand" "Hand.stand" (inClass (top 64) 5) ["self"]) (SC:HdC K CH) (NE:bf CX) (bx:Cal P w K mg base CX "read_note" 4 ["lines"] (eX K)) (kq:Cal P w K mg base CX "greatest_taken" 3 ["lines"] (lz K)):bF P w K mg base CX CH "stand" 5 ["self"] (eW K C CS CH):=by
 have S:=Ah
 refine iK D S (fun vs H Q E h=>?_) (fun f cdv A outer s H vs Q E hr h=>?_)
 ·obtain ⟨d,ls,pl,rfl,_⟩:=h
  rfl
 obtain ⟨d,ls,pl,rfl,⟨⟨dx,sv,hp,hpl⟩,hl,hL,hss⟩,⟨hg,k0,hlen⟩,q⟩:=h
 refine ⟨_,(ak (az (aQ (aa (bP (pv 0) rfl) (aa (aG bx (hr.mono (by first | decide | omega)) NE.pass (aa (bP (pv 0) rfl) ah)) (aa (aG kq (hr.mono (by first | decide | omega)) NE.pass (aa (bP (pv 0) rfl) ah)) ah)))))),?_⟩
 try dsimp only [aY]
 walk_at "go"
 refine ⟨d.p,CH,dx,_,_,rfl,hp,SC.cl,SC.n4,tD _ _ _ _,?_⟩
 walk_at "go"
 refine ⟨d.p,CH,dx,_,_,rfl,hp,SC.cl,SC.n3,tE _ _ _ _,?_⟩
 walk_at "go"
 refine ⟨d.l,ls,rfl,SqL.of hl,hL,hg,fun t H1 hn s1=>?_⟩
 walk_at "go"
 refine ⟨d.p,CH,dx,_,_,rfl,s1 _ _ hp,SC.cl,SC.n3,tE _ _ _ _,?_⟩
 walk_at "go"
 refine ⟨d.l,ls,rfl,SqL.of (s1 _ _ hl),hL.same s1,hg,by omega,fun H2 s2=>?_⟩
 have L:=Led.start H2 (fun _=>False)
 walk_at "go"
 exact q _ _ ⟨sv,t,L'.tup (by walk_at "mem"),hpl.same ((s1.trans s2).trans L'.same),hn.same (s2.trans L'.same)⟩ ((s1.trans s2).trans L'.same)
theorem IY:ao ["self", "step"] ["self", "step"] (ai (inClass (top 64) 6)):=by walk_at "s"
def pG (C CS CH:Addr):Sp:=fun vs H Q _=>∃ (d:Hd) (ls ls2:Lns) (pl pl2:Option (Int×Int)) (H0:Hp) (t:Addr) (v pv:V),vs=[.ref d.p,.ref t]∧bA C CS CH H d ls pl∧ls.length≤398∧ls2.length≤1∧H0 d.l≠none∧fm H0 H t v ls2 pv∧fO H pv pl2∧∀ H',bA C CS CH H' d (ls++ls2) pl2→Fr2 d.p d.l H H'→Q v H'
theorem IV {C CS CH:Addr} {H H':Hp} {d:Hd} {ls:Lns} {pl:Option (Int×Int)} (h:bA C CS CH H d ls pl) (f:Fr2 d.p d.l H H'):nF C CS H' d.ps d.sp d.c d.s d.far d.room d.term d.ws:=by
 obtain ⟨⟨dx,sv,hp,hpl⟩,hl,hL,⟨dy,tr,ms,h1,h2,pm⟩,⟨dz,h3⟩,hn⟩:=h
 have ne:∀ {u:Addr} {fs:List (Str×V)} (sv:V),stF (.ref d.sp) d.far d.room d.term u≠hdF d.nm d.ps d.l sv:=fun sv z=>by
  have:=congrArg (fun x=>(x.headD ("",.non)).1) z
  exact absurd this (by show ¬ (("shape" : Str) = "name");decide +kernel)
 have ne2:shF d.c d.s≠hdF d.nm d.ps d.l sv:=fun z=>by
  have:=congrArg (fun x=>(x.headD ("",.non)).1) z
  exact absurd this (by show ¬ (("counts" : Str) = "name");decide +kernel)
 refine ⟨⟨dy,tr,ms,f _ _ h1 ?_ ?_,f _ _ h2 ?_ ?_,pm⟩,⟨dz,f _ _ h3 ?_ ?_⟩,hn⟩
 ·intro z
  rw [z,hp] at h1
  cases h1
 ·intro z
  rw [z,hl] at h1
  cases h1
 ·intro z
  rw [z,hp] at h2
  cases h2
 ·intro z
  rw [z,hl] at h2
  cases h2
 ·intro z
  rw [z,hp] at h3
  cases h3
 ·intro z
  rw [z,hl] at h3
  cases h3
theorem F4 {C CS CH:Addr} {H H':Hp} {d:Hd} {ls:Lns} {pl:Option (Int×Int)} (h:bA C CS CH H d ls pl) (f:Fr2 d.p d.l H H'):cB H H':=fun q xs e=>f q _ e (fun z=>by
  obtain ⟨⟨dx,sv,hp,hpl⟩,hl,_⟩:=h
  rw [z,hp] at e;cases e) (fun z=>by
  obtain ⟨⟨dx,sv,hp,hpl⟩,hl,_⟩:=h
  rw [z,hl] at e;cases e)
theorem fO.ts {H H':Hp} {v:V} {pl:Option (Int×Int)} (h:fO H v pl) (s:cB H H'):fO H' v pl:=by
 rcases h with h | ⟨t,m,k,e,ev,ht⟩
 ·exact .inl h
 ·exact .inr ⟨t,m,k,e,ev,s _ _ ht⟩
theorem Jj (D:dc K CH "go" "Hand.go" (inClass (top 64) 6) ["self", "step"]) (SC:HdC K CH):bF P w K mg base CX CH "go" 1 ["self", "step"] (pG C CS CH):=by
 have S:=IY
 refine iK D S (fun vs H Q E h=>?_) (fun f cdv A outer s H vs Q E hr h=>?_)
 ·obtain ⟨d,ls,ls2,pl,pl2,H0,t,v,sw,rfl,_⟩:=h
  rfl
 obtain ⟨d,ls,ls2,pl,pl2,H0,t,v,sw,rfl,hd,hlen,hl2,h0,⟨lx,ht,nlx,hlx,hL2⟩,hpv,q⟩:=h
 obtain ⟨⟨dx,sv,hp,hpl⟩,hl,hL,hss⟩:=id hd
 have nxl:lx≠d.l:=fun z=>h0 (z▸nlx)
 have npl:d.p≠d.l:=fun z=>by rw [z,hl] at hp;cases hp
 refine ⟨_,(aj (ck (oj PySem.F.plainAttrs_list PySem.F.slot_list_extend PySem.F.type_list_extend yN (bP (pv 0) rfl) (aa (ay aE (pv 1) af (fun _ _=>rfl)) ah)))
   (aj (dR (pv 0) (ay aE (pv 1) af (fun _ _=>rfl)) rfl)
   (ak (az (ay aE (pv 1) af (fun _ _=>rfl)))))),?_⟩
 try dsimp only [aY]
 have L:=(Led.start H (fun _=>False)).more (aO t [_,_,_]) ht
 walk_at "go"
 refine ⟨d.p,CH,dx,_,_,rfl,hp,SC.cl,SC.n3,tE _ _ _ _,?_⟩
 walk_at "go"
 refine xg (SqL.of hl) ?_
 walk_at "go"
 refine ⟨d.l,lx,lnV ls,lnV ls2,rfl,rfl,hl,hlx,Nat.le_of_lt (small1000 (by rw [cN,cN];omega)),?_⟩
 have e2:lnV ls++lnV ls2=lnV (ls++ls2):=by unfold lnV;rw [List.map_append]
 rw [e2]
 have c1:Chg d.l H (upd H d.l (.lst (lnV (ls++ls2)))):=Chg.upd hl fun xs z=>nomatch z
 have hp1:(upd H d.l (.lst (lnV (ls++ls2)))) d.p=some (.ins CH dx (hdF d.nm d.ps d.l sv)):=by rw [au npl];exact hp
 have hl1:(upd H d.l (.lst (lnV (ls++ls2)))) d.l=some (.lst (lnV (ls++ls2))):=aB
 have ht1:=c1.ts _ _ ht
 have f1:Fr2 d.p d.l H (upd H d.l (.lst (lnV (ls++ls2)))):=fun q o e _ z=>by rw [au z];exact e
 generalize upd H d.l (.lst (lnV (ls++ls2)))=H1 at *
 have M:=(Led.start H1 (fun _=>False)).more (aO t [_,_,_]) ht1
 clear L
 walk_at "go"
 refine ⟨d.p,CH,dx,_,rfl,hp1,SC.cl,SC.n4,(by show 4 < 1000;decide),?_⟩
 rw [Eh]
 have f2:Fr2 d.p d.l H (upd H1 d.p (.ins CH dx (hdF d.nm d.ps d.l sw))):=fun q o e z1 z2=>by rw [au z1];exact f1 q o e z1 z2
 have t2:=F4 hd f2
 have M2:=(Led.start (upd H1 d.p (.ins CH dx (hdF d.nm d.ps d.l sw))) (fun _=>False)).more (aO t [_,_,_]) (t2 _ _ ht)
 clear M
 walk_at "go"
 refine q _ ⟨⟨dx,sw,aB,hpv.ts t2⟩,by rw [au (Ne.symm npl)];exact hl1,fun x hx=>?_,IV hd f2⟩ f2
 rcases List.mem_append.mp hx with hx | hx
 ·exact (hL x hx).ts t2
 ·exact (hL2 x hx).ts t2
end
theorem vf {nm:Str} {ps l:Addr} {sv:V}:(hdF nm ps l sv).lookup ("go" : Str)=none:=dB (by decide +kernel) (by decide +kernel) (by decide +kernel) (by decide +kernel)
theorem fX {nm:Str} {ps l:Addr} {sv:V}:(hdF nm ps l sv).lookup ("stand" : Str)=none:=dB (by decide +kernel) (by decide +kernel) (by decide +kernel) (by decide +kernel)
section
variable {P:Program} {w:World} {K:PySem.W.Frag} {mg:Str→Option Value} {base:Heap} {CX:CXT} {C CS CH CD CU CA CN CW CT:Addr}
theorem gE {d:Hd} {ls ls2:Lns} {pl pl2:Option (Int×Int)} {H1 H:Hp} {t:Addr} {v pv:V} {Q:VK} {E:XK} (hd:bA C CS CH H d ls pl) (hd1:bA C CS CH H1 d ls pl) (hlen:ls.length≤398) (h2:ls2.length≤1) (ht:fm H1 H t v ls2 pv) (hp:fO H pv pl2)
  (q:∀ H',bA C CS CH H' d (ls++ls2) pl2→Fr2 d.p d.l H H'→Q v H'):pG C CS CH [.ref d.p,.ref t] H Q E:=
 ⟨d,ls,ls2,pl,pl2,H1,t,v,pv,rfl,hd,hlen,h2,(by rw [hd1.2.1];exact fun z=>nomatch z),ht,hp,q⟩
theorem Dh:ao ["self"] ["self"] (ai (inClass (top 64) 7)):=by walk_at "s"
def pI (C CS CH CD:Addr):Sp:=fun vs H Q E=>∃ (d:Hd) (ls:Lns) (pl:Option (Int×Int)),vs=[.ref d.p]∧bA C CS CH H d ls pl∧cO ls pl∧(pl=none→∀ H',aM H H'→E (.ref CD) none H')∧(pl.isSome=true→∀ H',bA C CS CH H' d ls none→Fr2 d.p d.l H H'→Q .non H')
theorem DV (D:dc K CH "fall" "Hand.fall" (inClass (top 64) 7) ["self"]) (SC:HdC K CH) (NE:bf (CX1 P w)) (b9:bF P w K mg base (CX1 P w) CH "go" 1 ["self", "step"] (pG C CS CH)) (bz:bF P w K mg base (CX1 P w) CH "stand" 5 ["self"] (eW K C CS CH)) (kr:Cal P w K mg base (CX1 P w) "falling" 2 ["stand"] (nX K CD)):bF P w K mg base (CX1 P w) CH "fall" 6 ["self"] (pI C CS CH CD):=by
 have S:=Dh
 refine dN D S (fun vs H Q E h=>?_) (fun f cdv A outer s H vs Q E hr h=>?_)
 ·obtain ⟨d,ls,pl,rfl,_⟩:=h
  rfl
 obtain ⟨d,ls,pl,rfl,hd,hok,qe,q⟩:=h
 obtain ⟨⟨dx,sv,hp,hpl⟩,hl,hL,hss⟩:=id hd
 refine ⟨_,(ak (az (lI b9 (hr.mono (by first | decide | omega)) NE.pass (pv 0) (aa (cQ kr (hr.mono (by first | decide | omega)) aV (aa (cj bz (hr.mono (by first | decide | omega)) NE.pass (pv 0)) ah)) ah)))),?_⟩
 try dsimp only [aY]
 walk_at "go"
 refine aZ hp vf ?_
 walk_at "go"
 refine aZ hp fX ?_
 walk_at "go"
 refine ⟨d,ls,pl,rfl,hd,hok,fun t H1 hst s1=>?_⟩
 walk_at "go"
 refine ⟨t,pl,_,_,rfl,hst,fun e=>qe e H1 s1,fun hs t2 H2 ht2 s2=>?_⟩
 walk_at "go"
 exact gE (hd.same (s1.trans s2)) (hd.same s1) hok.len (by simp) ht2 (.inl ⟨rfl,rfl⟩) fun H3 hd3 f3=>q hs H3 (by rw [List.append_nil] at hd3;exact hd3) ((Fr2.of (s1.trans s2)).trans f3)
theorem C6:ao ["self"] ["self"] (ai (inClass (top 64) 8)):=by walk_at "s"
def pq (C CS CH CU:Addr):Sp:=fun vs H Q E=>∃ (d:Hd) (ls:Lns) (pl:Option (Int×Int)),vs=[.ref d.p]∧bA C CS CH H d ls pl∧cO ls pl∧(pl.isSome=true→∀ H',aM H H'→E (.ref CU) none H')∧(pl=none→∀ H',bA C CS CH H' d ls (some (max (nt ls).hd (nt ls).hr,0))→Fr2 d.p d.l H H'→Q .non H')
theorem DL (D:dc K CH "rise" "Hand.rise" (inClass (top 64) 8) ["self"]) (SC:HdC K CH) (NE:bf (CX1 P w)) (b9:bF P w K mg base (CX1 P w) CH "go" 1 ["self", "step"] (pG C CS CH)) (bz:bF P w K mg base (CX1 P w) CH "stand" 5 ["self"] (eW K C CS CH)) (mw:Cal P w K mg base (CX1 P w) "rising" 2 ["stand"] (rD K CU)):bF P w K mg base (CX1 P w) CH "rise" 6 ["self"] (pq C CS CH CU):=by
 have S:=C6
 refine dN D S (fun vs H Q E h=>?_) (fun f cdv A outer s H vs Q E hr h=>?_)
 ·obtain ⟨d,ls,pl,rfl,_⟩:=h
  rfl
 obtain ⟨d,ls,pl,rfl,hd,hok,qe,q⟩:=h
 obtain ⟨⟨dx,sv,hp,hpl⟩,hl,hL,hss⟩:=id hd
 refine ⟨_,(ak (az (lI b9 (hr.mono (by first | decide | omega)) NE.pass (pv 0) (aa (cQ mw (hr.mono (by first | decide | omega)) aV (aa (cj bz (hr.mono (by first | decide | omega)) NE.pass (pv 0)) ah)) ah)))),?_⟩
 try dsimp only [aY]
 walk_at "go"
 refine aZ hp vf ?_
 walk_at "go"
 refine aZ hp fX ?_
 walk_at "go"
 refine ⟨d,ls,pl,rfl,hd,hok,fun t H1 hst s1=>?_⟩
 walk_at "go"
 refine ⟨t,pl,_,_,rfl,hst,fun e=>qe e H1 s1,fun hs t2 pt H2 ht2 hpt s2=>?_⟩
 walk_at "go"
 exact gE (hd.same (s1.trans s2)) (hd.same s1) hok.len (by simp) ht2 (.inr ⟨pt,_,_,rfl,rfl,hpt⟩) fun H3 hd3 f3=>q hs H3 (by rw [List.append_nil] at hd3;exact hd3) ((Fr2.of (s1.trans s2)).trans f3)
theorem C2:ao ["self", "grant", "area"] ["self", "grant", "area"] (ai (inClass (top 64) 9)):=by walk_at "s"
def o9 (C CS CH CD:Addr):Sp:=fun vs H Q E=>∃ (d:Hd) (ls:Lns) (pl:Option (Int×Int)) (gr sl f e:Int) (a:Addr),vs=[.ref d.p,.int gr,.ref a]∧bA C CS CH H d ls pl∧cO ls pl∧H a=some (.tup [.int sl,.int f,.int e])∧(pl=none→∀ H',aM H H'→E (.ref CD) none H') ∧
 (∀ m k,pl=some (m,k)→("once" : Str)∈d.ws→gr≤gmx ls→∀ H',bA C CS CH H' d ls pl→Fr2 d.p d.l H H'→Q (.bl false) H') ∧
 (∀ m k,pl=some (m,k)→¬ (("once" : Str)∈d.ws∧gr≤gmx ls)→∀ l H',bA C CS CH H' d (ls++[(l,.took gr sl f e)]) (some (iT m k (bnd m k)))→Fr2 d.p d.l H H'→Q (.bl true) H')
theorem DG (D:dc K CH "take" "Hand.take" (inClass (top 64) 9) ["self", "grant", "area"]) (SC:HdC K CH) (NE:bf (CX1 P w)) (b9:bF P w K mg base (CX1 P w) CH "go" 1 ["self", "step"] (pG C CS CH)) (bz:bF P w K mg base (CX1 P w) CH "stand" 5 ["self"] (eW K C CS CH)) (mq:Cal P w K mg base (CX1 P w) "taking" 2 ["settings", "stand", "grant", "area"] (rB K CD CS)):bF P w K mg base (CX1 P w) CH "take" 6 ["self", "grant", "area"] (o9 C CS CH CD):=by
 have S:=C2
 refine dN D S (fun vs H Q E h=>?_) (fun f cdv A outer s H vs Q E hr h=>?_)
 ·obtain ⟨d,ls,pl,gr,sl,f,e,a,rfl,_⟩:=h
  rfl
 obtain ⟨d,ls,pl,gr,sl,f',e,a,rfl,hd,hok,ha,qe,q0,q1⟩:=h
 obtain ⟨⟨dx,sv,hp,hpl⟩,hl,hL,hss⟩:=id hd
 refine ⟨_,(ak (az (lI b9 (hr.mono (by first | decide | omega)) NE.pass (pv 0) (aa (cQ mq (hr.mono (by first | decide | omega)) aV (aa (bP (pv 0) rfl) (aa (cj bz (hr.mono (by first | decide | omega)) NE.pass (pv 0)) (aa (pv 1) (aa (pv 2) ah))))) ah)))),?_⟩
 try dsimp only [aY]
 walk_at "go"
 refine aZ hp vf ?_
 walk_at "go"
 refine ⟨d.p,CH,dx,_,_,rfl,hp,SC.cl,SC.n2,gX _ _ _ _,?_⟩
 walk_at "go"
 refine aZ hp fX ?_
 walk_at "go"
 refine ⟨d,ls,pl,rfl,hd,hok,fun t H1 hst s1=>?_⟩
 walk_at "go"
 refine ⟨d.ps,t,a,_,d.far,d.room,d.term,d.ws,pl,_,_,gr,sl,f',e,rfl,(hss.same s1).1,hst,hok.k0,s1 _ _ ha,fun e=>qe e H1 s1,fun m k epl c1 c2 t2 v H2 hv ht2 s2=>?_,fun m k epl c1 t2 l v H2 hv ht2 s2=>?_⟩
 ·walk_at "go"
  exact gE (hd.same (s1.trans s2)) (hd.same s1) hok.len (by simp) ht2 hv fun H3 hd3 f3=>q0 m k epl c1 c2 H3 (by rw [List.append_nil] at hd3;exact hd3) ((Fr2.of (s1.trans s2)).trans f3)
 ·walk_at "go"
  exact gE (hd.same (s1.trans s2)) (hd.same s1) hok.len (by simp) ht2 hv fun H3 hd3 f3=>q1 m k epl c1 l H3 hd3 ((Fr2.of (s1.trans s2)).trans f3)
theorem Ae:ao ["self", "reading"] ["self", "reading"] (ai (inClass (top 64) 10)):=by walk_at "s"
def kL (C CS CH CD CA CN CW:Addr):Sp:=fun vs H Q E=>∃ (d:Hd) (ls:Lns) (pl:Option (Int×Int)) (r:Int),vs=[.ref d.p,.int r]∧bA C CS CH H d ls pl∧cO ls pl∧(∀ H',aM H H'→MkE CD CA CN CW H' pl (nt ls) d.far r E) ∧
 (∀ m k sl f e,pl=some (m,k)→(nt ls).ar=some (sl,f,e)→¬ e≤due m f r→¬ r+d.far < due m f r→∀ ls2 H',((nt ls).hd < due m f r+d.room∧(∃ l,ls2=[(l,.held (due m f r+d.room))])∨¬ (nt ls).hd < due m f r+d.room∧ls2=[])→bA C CS CH H' d (ls++ls2) pl→Fr2 d.p d.l H H'→Q (.int (max (nt ls).hd (due m f r+d.room))) H')
theorem AR (D:dc K CH "write" "Hand.write" (inClass (top 64) 10) ["self", "reading"]) (SC:HdC K CH) (NE:bf (CX1 P w)) (b9:bF P w K mg base (CX1 P w) CH "go" 1 ["self", "step"] (pG C CS CH)) (bz:bF P w K mg base (CX1 P w) CH "stand" 5 ["self"] (eW K C CS CH)) (kg:Cal P w K mg base (CX1 P w) "writing" 5 ["settings", "stand", "reading"] (nR K C CD CA CN CW CS)):bF P w K mg base (CX1 P w) CH "write" 6 ["self", "reading"] (kL C CS CH CD CA CN CW):=by
 have S:=Ae
 refine dN D S (fun vs H Q E h=>?_) (fun f cdv A outer s H vs Q E hr h=>?_)
 ·obtain ⟨d,ls,pl,r,rfl,_⟩:=h
  rfl
 obtain ⟨d,ls,pl,r,rfl,hd,hok,qe,q1⟩:=h
 obtain ⟨⟨dx,sv,hp,hpl⟩,hl,hL,hss⟩:=id hd
 refine ⟨_,(ak (az (lI b9 (hr.mono (by first | decide | omega)) NE.pass (pv 0) (aa (cQ kg (hr.mono (by first | decide | omega)) aV (aa (bP (pv 0) rfl) (aa (cj bz (hr.mono (by first | decide | omega)) NE.pass (pv 0)) (aa (pv 1) ah)))) ah)))),?_⟩
 try dsimp only [aY]
 walk_at "go"
 refine aZ hp vf ?_
 walk_at "go"
 refine ⟨d.p,CH,dx,_,_,rfl,hp,SC.cl,SC.n2,gX _ _ _ _,?_⟩
 walk_at "go"
 refine aZ hp fX ?_
 walk_at "go"
 refine ⟨d,ls,pl,rfl,hd,hok,fun t H1 hst s1=>?_⟩
 walk_at "go"
 refine ⟨d.ps,t,d.sp,d.c,d.s,d.far,d.room,d.term,d.ws,pl,_,_,r,rfl,hss.same s1,hst,qe H1 s1,fun m k sl f' e epl ear b1 b2 t2 v ls2 H2 hls hv ht2 s2=>?_⟩
 have hl2:ls2.length≤1:=by
  rcases hls with ⟨_,l,rfl⟩ | ⟨_,rfl⟩ <;> simp
 walk_at "go"
 exact gE (hd.same (s1.trans s2)) (hd.same s1) hok.len hl2 ht2 hv fun H3 hd3 f3=>q1 m k sl f' e epl ear b1 b2 ls2 H3 hls hd3 ((Fr2.of (s1.trans s2)).trans f3)
theorem Dc:ao ["self", "reading"] ["self", "reading"] (ai (inClass (top 64) 11)):=by walk_at "s"
def kN (C CS CH CD CA CN CW CT:Addr):Sp:=fun vs H Q E=>∃ (d:Hd) (ls:Lns) (pl:Option (Int×Int)) (r:Int),vs=[.ref d.p,.int r]∧bA C CS CH H d ls pl∧cO ls pl∧(∀ H',aM H H'→MkE CD CA CN CW H' pl (nt ls) d.far r E) ∧
 (∀ m k sl f e,pl=some (m,k)→(nt ls).ar=some (sl,f,e)→¬ e≤due m f r→¬ r+d.far < due m f r→("ahead" : Str)∈d.ws→(nt ls).hd≤due m f r→∀ dd H',aM H H'→H' dd=some (.xd [("moment",.int (due m f r))])→E (.ref CT) (some dd) H') ∧
 (∀ m k sl f e,pl=some (m,k)→(nt ls).ar=some (sl,f,e)→¬ e≤due m f r→¬ r+d.far < due m f r→¬ (("ahead" : Str)∈d.ws∧(nt ls).hd≤due m f r)→∀ H',bA C CS CH H' d ls (some (nxP d.c m f r k))→Fr2 d.p d.l H H'→Q (.int (mk d.c d.s (due m f r) sl (cnt m f r k))) H')
theorem DP (D:dc K CH "make" "Hand.make" (inClass (top 64) 11) ["self", "reading"]) (SC:HdC K CH) (NE:bf (CX1 P w)) (b9:bF P w K mg base (CX1 P w) CH "go" 1 ["self", "step"] (pG C CS CH)) (bz:bF P w K mg base (CX1 P w) CH "stand" 5 ["self"] (eW K C CS CH)) (mD:Cal P w K mg base (CX1 P w) "making" 5 ["settings", "stand", "reading"] (rF K C CD CA CN CW CT CS)):bF P w K mg base (CX1 P w) CH "make" 6 ["self", "reading"] (kN C CS CH CD CA CN CW CT):=by
 have S:=Dc
 refine dN D S (fun vs H Q E h=>?_) (fun f cdv A outer s H vs Q E hr h=>?_)
 ·obtain ⟨d,ls,pl,r,rfl,_⟩:=h
  rfl
 obtain ⟨d,ls,pl,r,rfl,hd,hok,qe,qt,q1⟩:=h
 obtain ⟨⟨dx,sv,hp,hpl⟩,hl,hL,hss⟩:=id hd
 refine ⟨_,(ak (az (lI b9 (hr.mono (by first | decide | omega)) NE.pass (pv 0) (aa (cQ mD (hr.mono (by first | decide | omega)) aV (aa (bP (pv 0) rfl) (aa (cj bz (hr.mono (by first | decide | omega)) NE.pass (pv 0)) (aa (pv 1) ah)))) ah)))),?_⟩
 try dsimp only [aY]
 walk_at "go"
 refine aZ hp vf ?_
 walk_at "go"
 refine ⟨d.p,CH,dx,_,_,rfl,hp,SC.cl,SC.n2,gX _ _ _ _,?_⟩
 walk_at "go"
 refine aZ hp fX ?_
 walk_at "go"
 refine ⟨d,ls,pl,rfl,hd,hok,fun t H1 hst s1=>?_⟩
 walk_at "go"
 refine ⟨d.ps,t,d.sp,d.c,d.s,d.far,d.room,d.term,d.ws,pl,_,_,r,rfl,hss.same s1,hst,qe H1 s1,fun m k sl f' e epl ear b1 b2 c1 c2 dd H2 s2 hdd=>qt m k sl f' e epl ear b1 b2 c1 c2 dd H2 (s1.trans s2) hdd,fun m k sl f' e epl ear b1 b2 c1 t2 v H2 hv ht2 s2=>?_⟩
 walk_at "go"
 exact gE (hd.same (s1.trans s2)) (hd.same s1) hok.len (by simp) ht2 hv fun H3 hd3 f3=>q1 m k sl f' e epl ear b1 b2 c1 H3 (by rw [List.append_nil] at hd3;exact hd3) ((Fr2.of (s1.trans s2)).trans f3)
theorem De:ao ["self", "bound"] ["self", "bound"] (ai (inClass (top 64) 12)):=by walk_at "s"
def pF (C CS CH CD:Addr):Sp:=fun vs H Q E=>∃ (d:Hd) (ls:Lns) (pl:Option (Int×Int)) (b:Int),vs=[.ref d.p,.int b]∧bA C CS CH H d ls pl∧cO ls pl∧(pl=none→∀ H',aM H H'→E (.ref CD) none H') ∧
 (∀ m k,pl=some (m,k)→∀ ls2 H',((("spoken" : Str)∈d.ws∧(nt ls).hr < b∧∃ l,ls2=[(l,.heard b)])∨(¬ (("spoken" : Str)∈d.ws∧(nt ls).hr < b)∧ls2=[]))→bA C CS CH H' d (ls++ls2) (some (iT m k b))→Fr2 d.p d.l H H'→Q .non H')
theorem DR (D:dc K CH "hear" "Hand.hear" (inClass (top 64) 12) ["self", "bound"]) (SC:HdC K CH) (NE:bf (CX1 P w)) (b9:bF P w K mg base (CX1 P w) CH "go" 1 ["self", "step"] (pG C CS CH)) (bz:bF P w K mg base (CX1 P w) CH "stand" 5 ["self"] (eW K C CS CH)) (ko:Cal P w K mg base (CX1 P w) "hearing" 2 ["settings", "stand", "bound"] (nU K CD CS)):bF P w K mg base (CX1 P w) CH "hear" 6 ["self", "bound"] (pF C CS CH CD):=by
 have S:=De
 refine dN D S (fun vs H Q E h=>?_) (fun f cdv A outer s H vs Q E hr h=>?_)
 ·obtain ⟨d,ls,pl,b,rfl,_⟩:=h
  rfl
 obtain ⟨d,ls,pl,b,rfl,hd,hok,qe,q1⟩:=h
 obtain ⟨⟨dx,sv,hp,hpl⟩,hl,hL,hss⟩:=id hd
 refine ⟨_,(ak (az (lI b9 (hr.mono (by first | decide | omega)) NE.pass (pv 0) (aa (cQ ko (hr.mono (by first | decide | omega)) aV (aa (bP (pv 0) rfl) (aa (cj bz (hr.mono (by first | decide | omega)) NE.pass (pv 0)) (aa (pv 1) ah)))) ah)))),?_⟩
 try dsimp only [aY]
 walk_at "go"
 refine aZ hp vf ?_
 walk_at "go"
 refine ⟨d.p,CH,dx,_,_,rfl,hp,SC.cl,SC.n2,gX _ _ _ _,?_⟩
 walk_at "go"
 refine aZ hp fX ?_
 walk_at "go"
 refine ⟨d,ls,pl,rfl,hd,hok,fun t H1 hst s1=>?_⟩
 walk_at "go"
 refine ⟨d.ps,t,_,d.far,d.room,d.term,d.ws,pl,_,_,b,rfl,(hss.same s1).1,hst,hok.k0,fun e=>qe e H1 s1,fun m k epl t2 v ls2 H2 hls hv ht2 s2=>?_⟩
 have hl2:ls2.length≤1:=by
  rcases hls with ⟨_,_,l,rfl⟩ | ⟨_,rfl⟩ <;> simp
 walk_at "go"
 exact gE (hd.same (s1.trans s2)) (hd.same s1) hok.len hl2 ht2 hv fun H3 hd3 f3=>q1 m k epl ls2 H3 hls hd3 ((Fr2.of (s1.trans s2)).trans f3)
theorem C1:ao ["self"] ["self"] (ai (inClass (top 64) 13)):=by walk_at "s"
def ux (C CS CH CD:Addr):Sp:=fun vs H Q E=>∃ (d:Hd) (ls:Lns) (pl:Option (Int×Int)),vs=[.ref d.p]∧bA C CS CH H d ls pl∧(pl=none→E (.ref CD) none H)∧(∀ m k,pl=some (m,k)→Q (.int (bnd m k)) H)
theorem DF (D:dc K CH "tell" "Hand.tell" (inClass (top 64) 13) ["self"]) (SC:HdC K CH) (NE:bf (CX1 P w)) (bC:Cal P w K mg base (CX1 P w) "need_up" 1 ["place"] (eF CD)) (eT:Cal P w K mg base (CX1 P w) "bound_of" 1 ["place"] kP):bF P w K mg base (CX1 P w) CH "tell" 2 ["self"] (ux C CS CH CD):=by
 have S:=C1
 refine dN D S (fun vs H Q E h=>?_) (fun f cdv A outer s H vs Q E hr h=>?_)
 ·obtain ⟨d,ls,pl,rfl,_⟩:=h
  rfl
 obtain ⟨d,ls,pl,rfl,⟨⟨dx,sv,hp,hpl⟩,hl,hL,hss⟩,qe,q⟩:=h
 refine ⟨_,(aj (ck (cQ bC (hr.mono (by first | decide | omega)) aV (aa (bP (pv 0) rfl) ah)))
   (ak (az (aG eT (hr.mono (by first | decide | omega)) NE.pass (aa (bP (pv 0) rfl) ah))))),?_⟩
 try dsimp only [aY]
 walk_at "go"
 refine ⟨d.p,CH,dx,_,_,rfl,hp,SC.cl,SC.n4,tD _ _ _ _,?_⟩
 walk_at "go"
 refine ⟨sv,pl,rfl,hpl,qe,fun hsome=>?_⟩
 walk_at "go"
 refine ⟨d.p,CH,dx,_,_,rfl,hp,SC.cl,SC.n4,tD _ _ _ _,?_⟩
 rcases hpl with ⟨rfl,rfl⟩ | ⟨t,m,k,rfl,rfl,ht⟩
 ·cases hsome
 walk_at "go"
 exact ⟨t,m,k,rfl,ht,q m k rfl⟩
theorem Av:ao ["self"] ["self"] (ai (inClass (top 64) 14)):=by walk_at "s"
def kO (C CS CH CD CA CN:Addr):Sp:=fun vs H Q E=>∃ (d:Hd) (ls:Lns) (pl:Option (Int×Int)),vs=[.ref d.p]∧bA C CS CH H d ls pl∧cO ls pl∧(pl=none→∀ H',aM H H'→E (.ref CD) none H')∧(pl.isSome=true→(nt ls).ar=none→∀ H',aM H H'→E (.ref CA) none H') ∧
 (∀ m k sl f e,pl=some (m,k)→(nt ls).ar=some (sl,f,e)→cV f m k (nt ls).hd≥e→∀ H',aM H H'→E (.ref CN) none H') ∧
 (∀ m k sl f e,pl=some (m,k)→(nt ls).ar=some (sl,f,e)→¬ cV f m k (nt ls).hd≥e→∀ tv ls2 H',H' tv=some (.tup [.int (nt ls).g,.int (cV f m k (nt ls).hd)])→((("ends" : Str)∈d.ws∧∃ l,ls2=[(l,.ends (nt ls).g (cV f m k (nt ls).hd))])∨(¬ ("ends" : Str)∈d.ws∧ls2=[]))→bA C CS CH H' d (ls++ls2) pl→Fr2 d.p d.l H H'→Q (.ref tv) H')
theorem A8 (D:dc K CH "give_back" "Hand.give_back" (inClass (top 64) 14) ["self"]) (SC:HdC K CH) (NE:bf (CX1 P w)) (b9:bF P w K mg base (CX1 P w) CH "go" 1 ["self", "step"] (pG C CS CH)) (bz:bF P w K mg base (CX1 P w) CH "stand" 5 ["self"] (eW K C CS CH)) (mG:Cal P w K mg base (CX1 P w) "giving" 2 ["settings", "stand"] (rH K CD CA CN CS)):bF P w K mg base (CX1 P w) CH "give_back" 6 ["self"] (kO C CS CH CD CA CN):=by
 have S:=Av
 refine dN D S (fun vs H Q E h=>?_) (fun f cdv A outer s H vs Q E hr h=>?_)
 ·obtain ⟨d,ls,pl,rfl,_⟩:=h
  rfl
 obtain ⟨d,ls,pl,rfl,hd,hok,qd,qa,qn,q1⟩:=h
 obtain ⟨⟨dx,sv,hp,hpl⟩,hl,hL,hss⟩:=id hd
 refine ⟨_,(ak (az (lI b9 (hr.mono (by first | decide | omega)) NE.pass (pv 0) (aa (cQ mG (hr.mono (by first | decide | omega)) aV (aa (bP (pv 0) rfl) (aa (cj bz (hr.mono (by first | decide | omega)) NE.pass (pv 0)) ah))) ah)))),?_⟩
 try dsimp only [aY]
 walk_at "go"
 refine aZ hp vf ?_
 walk_at "go"
 refine ⟨d.p,CH,dx,_,_,rfl,hp,SC.cl,SC.n2,gX _ _ _ _,?_⟩
 walk_at "go"
 refine aZ hp fX ?_
 walk_at "go"
 refine ⟨d,ls,pl,rfl,hd,hok,fun t H1 hst s1=>?_⟩
 walk_at "go"
 refine ⟨d.ps,t,_,d.far,d.room,d.term,d.ws,pl,_,_,rfl,(hss.same s1).1,hst,fun e=>qd e H1 s1,fun e1 e2=>qa e1 e2 H1 s1,fun m k sl f' e epl ear c=>qn m k sl f' e epl ear c H1 s1,fun m k sl f' e epl ear c t2 tv v ls2 H2 htv hls hv ht2 s2=>?_⟩
 have hl2:ls2.length≤1:=by
  rcases hls with ⟨_,l,rfl⟩ | ⟨_,rfl⟩ <;> simp
 walk_at "go"
 exact gE (hd.same (s1.trans s2)) (hd.same s1) hok.len hl2 ht2 hv fun H3 hd3 f3=>q1 m k sl f' e epl ear c tv ls2 H3 (F4 (hd.same (s1.trans s2)) f3 _ _ htv) hls hd3 ((Fr2.of (s1.trans s2)).trans f3)
end
section
variable {P:Program} {w:World} {K:PySem.W.Frag} {mg:Str→Option Value} {base:Heap} {CX:CXT}
theorem ya:ao ["_law_found"] ["_law_found"] (ai (top 68)):=by walk_at "s"
theorem yy (D:Dat K mg "_law_whole" "_law_whole" (top 68) ["_law_found"]) (BT:Bt mg):Cr P w K mg base CX "_law_whole" 1 ["_law_found"] fu:=by
 have S:=ya
 refine D.okU S (fun vs H Q E h=>?_) (fun f cdv A outer s H vs Q E hr h=>?_)
 ·obtain ⟨i,rfl,_⟩:=h
  rfl
 obtain ⟨i,rfl,q⟩:=h
 refine ⟨_,(ak (az (gO (ja BT.isinstance BT.int_ L3.B5 (pv 0)) (dS (AH (ja BT.isinstance BT.bool_ L3.qM (pv 0))))))),?_⟩
 try dsimp only [cxU,aY]
 walk_at "go"
 refine jg (.int i) rfl ?_
 walk_at "go"
 refine jg (.int i) rfl ?_
 walk_at "go"
 exact q
end
def wd:Ln→Str
 | .took .. => "took"
 | .held _ => "held"
 | .heard _ => "heard"
 | .ends .. => "ends"
def nOf:Ln→Int
 | .took g ..=>g
 | .held m=>m
 | .heard m=>m
 | .ends g _=>g
def pw (z:Str) (x:Addr×Ln):Bool:=decide (wd x.2=z)
def sel (z:Str) (ls:Lns):List Int:=(ls.filter (pw z)).map fun x=>nOf x.2
theorem gR {H:Hp} {x:Addr×Ln} (h:gA H x.1 x.2):∃ rest,H x.1=some (.tup (.str (wd x.2)::.int (nOf x.2)::rest)):=by
 obtain ⟨t,l⟩:=x
 cases h with
 | took h ha=>exact ⟨_,h⟩
 | held h=>exact ⟨_,h⟩
 | heard h=>exact ⟨_,h⟩
 | ends h=>exact ⟨_,h⟩
theorem qO {v u:V} {xs:List V}:atI (v::u::xs) 1=some u:=gn (j:=1) rfl
theorem Ad (ls:Lns):sel "took" ls=gts ls:=by
 have e:(fun x=>pw "took" x)=isT:=by
  funext x
  obtain ⟨t,l⟩:=x
  unfold pw isT
  cases l with
  | took _ _ _ _=>exact decide_eq_true rfl
  | held _=>exact decide_eq_false (show ¬ (("held" : Str) = "took") by decide +kernel)
  | heard _=>exact decide_eq_false (show ¬ (("heard" : Str) = "took") by decide +kernel)
  | ends _ _=>exact decide_eq_false (show ¬ (("ends" : Str) = "took") by decide +kernel)
 unfold sel gts
 rw [show (pw "took")=isT from e]
 refine List.map_congr_left fun x hx=>?_
 have hb:=(List.mem_filter.mp hx).2
 obtain ⟨t,l⟩:=x
 cases l with
 | took _ _ _ _=>rfl
 | held _=>cases hb
 | heard _=>cases hb
 | ends _ _=>cases hb
theorem rK (z:Str) (x:Addr×Ln) (ls:Lns):sel z (x::ls)=if wd x.2=z then nOf x.2::sel z ls else sel z ls:=by
 unfold sel
 by_cases c:wd x.2=z
 ·rw [if_pos c,List.filter_cons_of_pos (by unfold pw;exact decide_eq_true c),List.map_cons]
 ·rw [if_neg c,List.filter_cons_of_neg (by unfold pw;rw [decide_eq_false c];exact Bool.false_ne_true)]
theorem qp:∀ (ls:Lns) (n:Nt),(bh n ls).hd=(sel "held" ls).foldl max n.hd
 | [],_=>rfl
 | (t,l)::ls,n=>by
  show (bh (n.step l) ls).hd=_
  rw [qp ls,rK]
  cases l with
  | took _ _ _ _=>rw [if_neg (by show ¬ (("took" : Str) = "held");decide +kernel)];rfl
  | held m=>rw [if_pos (show wd (t,Ln.held m).snd = "held" from rfl)];rfl
  | heard m=>rw [if_neg (by show ¬ (("heard" : Str) = "held");decide +kernel)];rfl
  | ends g e=>
   rw [if_neg (by show ¬ (("ends" : Str) = "held");decide +kernel),dg]
   by_cases c:g=n.g
   ·rw [if_pos c]
   ·rw [if_neg c]
theorem qo:∀ (ls:Lns) (n:Nt),(bh n ls).hr=(sel "heard" ls).foldl max n.hr
 | [],_=>rfl
 | (t,l)::ls,n=>by
  show (bh (n.step l) ls).hr=_
  rw [qo ls,rK]
  cases l with
  | took _ _ _ _=>rw [if_neg (by show ¬ (("took" : Str) = "heard");decide +kernel)];rfl
  | heard m=>rw [if_pos (show wd (t,Ln.heard m).snd = "heard" from rfl)];rfl
  | held m=>rw [if_neg (by show ¬ (("held" : Str) = "heard");decide +kernel)];rfl
  | ends g e=>
   rw [if_neg (by show ¬ (("ends" : Str) = "heard");decide +kernel),dg]
   by_cases c:g=n.g
   ·rw [if_pos c]
   ·rw [if_neg c]
def pe' (g:Int) (x:Addr×Ln):Bool:=match x.2 with
 | .ends g' _=>decide (g'=g)
 | _=>false
def eOf (x:Addr×Ln):Int:=match x.2 with
 | .ends _ e=>e
 | _=>0
def ens (g:Int) (ls:Lns):List Int:=(ls.filter (pe' g)).map eOf
theorem jE:∀ (ls:Lns) (n:Nt),(∀ x∈ls,isT x=false)→(bh n ls).g=n.g∧(bh n ls).ar=n.ar.map fun x=>(x.1,x.2.1,(ens n.g ls).foldl min x.2.2)
 | [],n,_=>⟨rfl,by cases h:n.ar <;> simp [bh,ens,h]⟩
 | (t,l)::ls,n,h=>by
  have ih:=jE ls (n.step l) fun x hx=>h x (List.mem_cons_of_mem _ hx)
  show (bh (n.step l) ls).g=_∧(bh (n.step l) ls).ar=_
  cases l with
  | took g sl f e=>cases h _ List.mem_cons_self
  | held m=>exact ih
  | heard m=>exact ih
  | ends g e=>
   by_cases c:g=n.g
   ·have e1:n.step (.ends g e)=⟨n.g,n.ar.map fun x=>(x.1,x.2.1,min x.2.2 e),n.hd,n.hr⟩:=by rw [dg,if_pos c]
    rw [e1] at ih ⊢
    refine ⟨ih.1,ih.2.trans ?_⟩
    have e2:ens n.g ((t,Ln.ends g e)::ls)=e::ens n.g ls:=by
     unfold ens
     rw [List.filter_cons_of_pos (by exact decide_eq_true c),List.map_cons];rfl
    rw [e2]
    cases n.ar with
    | none=>rfl
    | some x=>rfl
   ·have e1:n.step (.ends g e)=n:=by rw [dg,if_neg c]
    rw [e1] at ih ⊢
    refine ⟨ih.1,ih.2.trans ?_⟩
    have e2:ens n.g ((t,Ln.ends g e)::ls)=ens n.g ls:=by
     unfold ens
     rw [List.filter_cons_of_neg (by show ¬ (decide (g=n.g)=true);rw [decide_eq_false c];exact Bool.false_ne_true)]
    rw [e2]
theorem EL {T:List Int} {z M:Int} (h1:M=z∨M∈T) (h2:∀ a∈T,M≤a) (h3:M≤z):T.foldl min z=M:=by
 have facts:∀ (T:List Int) (z:Int),T.foldl min z≤z∧(∀ a∈T,T.foldl min z≤a)∧(T.foldl min z=z∨T.foldl min z∈T):=by
  intro T
  induction T with
  | nil=>exact fun z=>⟨Int.le_refl _,(fun _ h=>by simp at h),.inl rfl⟩
  | cons x T ih=>
   intro z
   obtain ⟨h1,h2,h3⟩:=ih (min z x)
   rw [List.foldl_cons]
   refine ⟨by omega,fun a ha=>?_,?_⟩
   ·rcases List.mem_cons.mp ha with rfl | ha
    ·omega
    ·exact h2 a ha
   ·rcases h3 with h3 | h3
    ·by_cases c:x≤z
     ·exact .inr (by rw [h3,show min z x=x by omega];exact List.mem_cons_self)
     ·exact .inl (by rw [h3];omega)
    ·exact .inr (List.mem_cons_of_mem _ h3)
 obtain ⟨k1,k2,k3⟩:=facts T z
 refine Int.le_antisymm ?_ ?_
 ·rcases h1 with rfl | h
  ·exact k1
  ·exact k2 _ h
 ·rcases k3 with k | k
  ·omega
  ·exact h2 _ k
def tAt (ls:Lns) (k:Nat):Bool:=match ls[k]? with
 | some x=>isT x
 | none=>false
def tix (ls:Lns) (i:Nat):List Nat:=(List.range i).filter (tAt ls)
theorem zM (ls:Lns) (i:Nat):tix ls (i+1)=if tAt ls i=true then tix ls i++[i] else tix ls i:=by
 unfold tix
 rw [List.range_succ,List.filter_append]
 by_cases c:tAt ls i=true
 ·rw [if_pos c,List.filter_cons_of_pos (by exact c),List.filter_nil]
 ·rw [if_neg c,List.filter_cons_of_neg (by exact c),List.filter_nil,List.append_nil]
theorem CB (ls:Lns) (i:Nat):(tix ls i).length≤i:=by
 unfold tix
 have:=List.length_filter_le (tAt ls) (List.range i)
 rw [List.length_range] at this
 exact this
theorem Cz {ls:Lns} (h:tix ls ls.length=[]):∀ x∈ls,isT x=false:=fun x hx=>by
 obtain ⟨i,hi,e⟩:=List.getElem_of_mem hx
 cases b:isT x with
 | false=>rfl
 | true=>
  have:i∈tix ls ls.length:=List.mem_filter.mpr ⟨List.mem_range.mpr hi,by unfold tAt;rw [List.getElem?_eq_getElem hi,e];exact b⟩
  rw [h] at this;simp at this
theorem zN {ls:Lns} {ks:List Nat} {k:Nat} (h:tix ls ls.length=ks++[k]):∃ x,ls[k]?=some x∧isT x=true∧∀ y∈ls.drop (k+1),isT y=false:=by
 have hk:k∈tix ls ls.length:=by rw [h];simp
 obtain ⟨k1,k2⟩:=List.mem_filter.mp hk
 have k1:=List.mem_range.mp k1
 unfold tAt at k2
 rw [List.getElem?_eq_getElem k1] at k2
 refine ⟨_,List.getElem?_eq_getElem k1,k2,fun y hy=>?_⟩
 cases b:isT y with
 | false=>rfl
 | true=>
  obtain ⟨i,hi,e⟩:=List.getElem_of_mem hy
  rw [List.length_drop] at hi
  rw [List.getElem_drop] at e
  have hm:k+1+i∈tix ls ls.length:=List.mem_filter.mpr ⟨List.mem_range.mpr (by omega),by unfold tAt;rw [List.getElem?_eq_getElem (by omega),e];exact b⟩
  have pwl:(tix ls ls.length).Pairwise (· < ·):=List.Pairwise.sublist List.filter_sublist List.pairwise_lt_range
  rw [h] at hm pwl
  rcases List.mem_append.mp hm with z | z
  ·have:=(List.pairwise_append.mp pwl).2.2 _ z k (by simp)
   omega
  ·have:=List.mem_singleton.mp z
   omega
theorem zZ {ls:Lns} {k:Nat} {x:Addr×Ln} (h:ls[k]?=some x):ls=ls.take k++x::ls.drop (k+1):=by
 obtain ⟨hi,e⟩:=List.getElem?_eq_some_iff.mp h
 rw [← e,← List.drop_eq_getElem_cons hi,List.take_append_drop]
theorem dh (n:Nt) (xs ys:Lns):bh n (xs++ys)=bh (bh n xs) ys:=by
 unfold bh;rw [List.foldl_append]
theorem zc {ls:Lns} {k:Nat} {t:Addr} {g sl f e:Int} (h:ls[k]?=some (t,.took g sl f e)) (hno:∀ y∈ls.drop (k+1),isT y=false):(bh Nt.nil ls).g=g∧(bh Nt.nil ls).ar=some (sl,f,(ens g (ls.drop (k+1))).foldl min e):=by
 have e1:=zZ h
 have e2:bh Nt.nil ls=bh ((bh Nt.nil (ls.take k)).step (.took g sl f e)) (ls.drop (k+1)):=by
  conv=>lhs;rw [e1]
  rw [dh];rfl
 rw [e2]
 exact jE _ _ hno
theorem iQ {xs:List V} {v:V}:atI (xs++[v]) (-1)=some v:=by
 unfold atI ixN
 rw [if_neg (by decide),if_pos (by rw [List.length_append,List.length_singleton];omega)]
 show (xs++[v])[(-1+((xs++[v]).length:Int)).toNat]?=some v
 rw [show (-1+((xs++[v]).length:Int)).toNat=xs.length by rw [List.length_append,List.length_singleton];omega]
 rw [List.getElem?_append_right (Nat.le_refl _),Nat.sub_self];rfl
theorem iw {ns:List Int} {r:Int} (h0 : 0≤r) (h:r < (ns.length:Int)):∃ v∈ns,atI (ns.map V.int) r=some (.int v):=by
 have hk:r.toNat < ns.length:=by omega
 have ek:r=((r.toNat:Nat):Int):=by omega
 have q:atI (ns.map V.int) ((r.toNat:Nat):Int)=some (.int ns[r.toNat]):=gn (by rw [List.getElem?_map,List.getElem?_eq_getElem hk] <;> rfl)
 rw [← ek] at q
 exact ⟨_,List.getElem_mem hk,q⟩
section
variable {P:Program} {w:World} {K:PySem.W.Frag} {mg:Str→Option Value} {base:Heap} {CX:CXT}
theorem Ao:ao ["_law_hand_here"] ["_law_hand_here"] (ai (top 69)):=by walk_at "s"
def pC:Sp:=fun vs H Q _=>∃ (p:Addr) (b:Int),vs=[.ref p]∧bI H p b∧b≤10000000∧∀ (t:Addr) (c s:Int) (H':Hp),ShN c s→H' t=some (.tup [.int c,.int s])→bI H' p (b+3072)→Oth p H H'→Q (.ref t) H'
theorem A3 (D:Dat K mg "_law_pair" "_law_pair" (top 69) ["_law_hand_here"]) (NE:bf CX) (aH:Cal P w K mg base CX "_law_pick" 11 ["_law_hand_here", "_law_many"] dQ):Cal P w K mg base CX "_law_pair" 12 ["_law_hand_here"] pC:=by
 have S:=Ao
 walk_at "d"
 ·obtain ⟨p,b,rfl,_⟩:=h
  rfl
 obtain ⟨p,b,rfl,hh,hb,q⟩:=h
 refine ⟨_,(aj (bg (aJ cC (aG aH (hr.mono (by first | decide | omega)) NE.pass (aa (pv 0) (aa af ah))) af (aI _)) (ak (az (aQ (aa (aP bK af (aG aH (hr.mono (by first | decide | omega)) NE.pass (aa (pv 0) (aa af ah)))) (aa (aP bK af (aG aH (hr.mono (by first | decide | omega)) NE.pass (aa (pv 0) (aa af ah)))) ah))))) aK)
   (ak (az (aQ (aa (aP bK af (aG aH (hr.mono (by first | decide | omega)) NE.pass (aa (pv 0) (aa af ah)))) (aa (aP bK af (aG aH (hr.mono (by first | decide | omega)) NE.pass (aa (pv 0) (aa af ah)))) ah)))))),?_⟩
 try dsimp only [aY]
 have L:=eL hh
 walk_at "go"
 refine bD L .head (by decide) (by decide) (by omega) fun r1 H1 a1 a2 L _=>?_
 walk_at "go"
 refine bS (fun c=>?_) (fun c=>?_)
 ·walk_at "go"
  refine bD L .head (by decide) (by decide) (by omega) fun r2 H2 b1 b2 L _=>?_
  walk_at "go"
  refine bD L .head (by decide) (by decide) (by omega) fun r3 H3 c1 c2 L _=>?_
  walk_at "go"
  exact q _ (1+r2) (1+r3) _ ⟨by omega,by omega,by omega,by omega⟩ (L'.tup (by walk_at "mem")) ((cD.at (L'.at_ _ (.head _))).mono (by omega)) L'.fr
 ·walk_at "go"
  refine bD L .head (by decide) (by decide) (by omega) fun r2 H2 b1 b2 L _=>?_
  walk_at "go"
  refine bD L .head (by decide) (by decide) (by omega) fun r3 H3 c1 c2 L _=>?_
  walk_at "go"
  exact q _ (1+r2) (1+r3) _ ⟨by omega,by omega,by omega,by omega⟩ (L'.tup (by walk_at "mem")) ((cD.at (L'.at_ _ (.head _))).mono (by omega)) L'.fr
theorem xJ {PP:Addr→Prop} {H0 H:Hp} {l l':List (Addr×Ob)} {fs:List Pr} {p:Addr} {Q:VK} {E:XK} {b:Int} (L:Led PP H0 H l fs) (m:Put p (cD b) (cD (b+3072)) l l') (hb:b≤10000000)
  (q:∀ t c s H',ShN c s→Led PP H0 H' l' (aO t [.int c,.int s]::fs)→Chg p H H'→Q (.ref t) H'):pC [.ref p] H Q E:=
 have hh:=cD.at (L.at_ _ m.mem)
 ⟨p,b,rfl,hh,hb,fun t c s H' n ht hh' o=>q t c s H' n ((L.set m (hh.ts o) hh'.ob).more (aO t _) ht) (hh.ts o)⟩
end
section
variable {P:Program} {w:World} {K:PySem.W.Frag} {mg:Str→Option Value} {base:Heap} {CX:CXT}
theorem Ax:ao ["_law_script", "_law_hand_here", "_law_pair_here", "_law_rules", "_law_far", "_law_room", "_law_bound_here"] ["_law_script"] (ai (top 70)):=by walk_at "s"
def mU (H:Hp) (t:Addr) (s at':Int):Prop:=∃ (c:Int) (v1 v2 v3:V),H t=some (.tup [.int c,.int s,v1,v2,v3,.int at'])
theorem mU.ts {H H':Hp} {t:Addr} {s a:Int} (h:mU H t s a) (sm:cB H H'):mU H' t s a:=by
 obtain ⟨c,v1,v2,v3,e⟩:=h
 exact ⟨c,v1,v2,v3,sm _ _ e⟩
def zq:List Str:=["spoken", "once", "ends", "apart", "ahead"]
structure Dr where
 c:Int
 s:Int
 far:Int
 room:Int
 ws:List Str
 a:Int
 t:Addr
 lr:Addr
def DrF (H:Hp) (r:Dr):Prop:=H r.t=some (.tup [.int r.c,.int r.s,.int r.far,.int r.room,.ref r.lr,.int r.a])∧H r.lr=some (.lst (r.ws.map V.str))
structure DrN (r:Dr):Prop where
 sh:ShN r.c r.s
 st:StN r.far r.room 5
 ru:RuN r.ws
theorem DrF.dr {H:Hp} {r:Dr} (h:DrF H r):mU H r.t r.s r.a:=⟨_,_,_,_,h.1⟩
theorem DrF.same {H H':Hp} {r:Dr} (h:DrF H r) (s:aM H H'):DrF H' r:=⟨s _ _ h.1,s _ _ h.2⟩
def pJ (K:PySem.W.Frag):Sp:=fun vs H Q _=>∃ (a:Addr) (ns:List Int),vs=[.ref a]∧SqL K H a (ns.map V.int)∧ns.length≤63∧∀ (r:Dr) (H':Hp),DrN r→r.ws=zq→DrF H' r→aM H H'→Q (.ref r.t) H'
theorem Ba (D:Dat K mg "_law_drawn" "_law_drawn" (top 70) ["_law_script"]) (BT:Bt mg) (NE:bf CX) (cJ:Cal P w K mg base CX "_law_hand" 1 ["_law_script", "_law_k"] (jT K)) (aH:Cal P w K mg base CX "_law_pick" 11 ["_law_hand_here", "_law_many"] dQ) (tU:Cal P w K mg base CX "_law_pair" 12 ["_law_hand_here"] pC):Cal P w K mg base CX "_law_drawn" 13 ["_law_script"] (pJ K):=by
 have S:=Ax
 walk_at "d"
 ·obtain ⟨a,ns,rfl,_⟩:=h
  rfl
 obtain ⟨a,ns,rfl,hS,h63,q⟩:=h
 refine ⟨_,(@aj _ _ _ _ _ (@aL _ _ 1 _ _ _ _ S.nd rfl (by first | exact Or.inl rfl | exact Or.inr rfl) (@aG _ _ _ _ _ _ _ _ _ _ _ _ cJ (hr.mono (by first | decide | omega)) NE.pass (@aa _ _ _ _ _ (@pv _ 0 _ _ (by rfl) (by first | exact Or.inl rfl | exact Or.inr (Or.inl rfl) | exact Or.inr (Or.inr rfl)) (by decide) (by decide)) (@aa _ _ _ _ _ (@af _ _ _ _) (@ah _) (by rfl)) (by rfl)) (by rfl) (by decide) (by rfl) (by rfl)) (by rfl) (by first | exact .inl rfl | exact .inr rfl | assumption)) (@aj _ _ _ _ _ (@aL _ _ 2 _ _ _ _ S.nd rfl (by first | exact Or.inl rfl | exact Or.inr rfl) (@aG _ _ _ _ _ _ _ _ _ _ _ _ tU (hr.mono (by first | decide | omega)) NE.pass (@aa _ _ _ _ _ (@pv _ 1 _ _ (by rfl) (by first | exact Or.inl rfl | exact Or.inr (Or.inl rfl) | exact Or.inr (Or.inr rfl)) (by decide) (by decide)) (@ah _) (by rfl)) (by rfl) (by decide) (by rfl) (by rfl)) (by rfl) (by first | exact .inl rfl | exact .inr rfl | assumption)) (@aj _ _ _ _ _ (@aL _ _ 3 _ _ _ _ S.nd rfl (by first | exact Or.inl rfl | exact Or.inr rfl) (@br _ _ _ _ (@aa _ _ _ _ _ (@aF _ _ _ _) (@aa _ _ _ _ _ (@aF _ _ _ _) (@aa _ _ _ _ _ (@aF _ _ _ _) (@aa _ _ _ _ _ (@aF _ _ _ _) (@aa _ _ _ _ _ (@aF _ _ _ _) (@ah _) (by rfl)) (by rfl)) (by rfl)) (by rfl)) (by rfl))) (by rfl) (by first | exact .inl rfl | exact .inr rfl | assumption)) (@aj _ _ _ _ _ (@aL _ _ 4 _ _ _ _ S.nd rfl (by first | exact Or.inl rfl | exact Or.inr rfl) (@ay _ _ _ _ _ _ _ (@bu _) (@br _ _ _ _ (@aa _ _ _ _ _ (@af _ _ _ _) (@aa _ _ _ _ _ (@af _ _ _ _) (@aa _ _ _ _ _ (@af _ _ _ _) (@aa _ _ _ _ _ (@af _ _ _ _) (@aa _ _ _ _ _ (@aP _ _ _ _ _ _ _ _ (@fU _) (@af _ _ _ _) (@af _ _ _ _)) (@ah _) (by rfl)) (by rfl)) (by rfl)) (by rfl)) (by rfl))) (@aG _ _ _ _ _ _ _ _ _ _ _ _ aH (hr.mono (by first | decide | omega)) NE.pass (@aa _ _ _ _ _ (@pv _ 1 _ _ (by rfl) (by first | exact Or.inl rfl | exact Or.inr (Or.inl rfl) | exact Or.inr (Or.inr rfl)) (by decide) (by decide)) (@aa _ _ _ _ _ (@af _ _ _ _) (@ah _) (by rfl)) (by rfl)) (by rfl) (by decide) (by rfl) (by rfl)) (fun _ _=>rfl)) (by rfl) (by first | exact .inl rfl | exact .inr rfl | assumption)) (@aj _ _ _ _ _ (@aL _ _ 5 _ _ _ _ S.nd rfl (by first | exact Or.inl rfl | exact Or.inr rfl) (@ay _ _ _ _ _ _ _ (@bu _) (@br _ _ _ _ (@aa _ _ _ _ _ (@af _ _ _ _) (@aa _ _ _ _ _ (@af _ _ _ _) (@aa _ _ _ _ _ (@af _ _ _ _) (@aa _ _ _ _ _ (@af _ _ _ _) (@aa _ _ _ _ _ (@af _ _ _ _) (@aa _ _ _ _ _ (@aP _ _ _ _ _ _ _ _ (@fU _) (@af _ _ _ _) (@af _ _ _ _)) (@ah _) (by rfl)) (by rfl)) (by rfl)) (by rfl)) (by rfl)) (by rfl))) (@aG _ _ _ _ _ _ _ _ _ _ _ _ aH (hr.mono (by first | decide | omega)) NE.pass (@aa _ _ _ _ _ (@pv _ 1 _ _ (by rfl) (by first | exact Or.inl rfl | exact Or.inr (Or.inl rfl) | exact Or.inr (Or.inr rfl)) (by decide) (by decide)) (@aa _ _ _ _ _ (@af _ _ _ _) (@ah _) (by rfl)) (by rfl)) (by rfl) (by decide) (by rfl) (by rfl)) (fun _ _=>rfl)) (by rfl) (by first | exact .inl rfl | exact .inr rfl | assumption)) (@aj _ _ _ _ _ (@aL _ _ 6 _ _ _ _ S.nd rfl (by first | exact Or.inl rfl | exact Or.inr rfl) (@ay _ _ _ _ _ _ _ (@bu _) (@br _ _ _ _ (@aa _ _ _ _ _ (@af _ _ _ _) (@aa _ _ _ _ _ (@af _ _ _ _) (@aa _ _ _ _ _ (@aP _ _ _ _ _ _ _ _ (@fU _) (@af _ _ _ _) (@af _ _ _ _)) (@ah _) (by rfl)) (by rfl)) (by rfl))) (@aG _ _ _ _ _ _ _ _ _ _ _ _ aH (hr.mono (by first | decide | omega)) NE.pass (@aa _ _ _ _ _ (@pv _ 1 _ _ (by rfl) (by first | exact Or.inl rfl | exact Or.inr (Or.inl rfl) | exact Or.inr (Or.inr rfl)) (by decide) (by decide)) (@aa _ _ _ _ _ (@af _ _ _ _) (@ah _) (by rfl)) (by rfl)) (by rfl) (by decide) (by rfl) (by rfl)) (fun _ _=>rfl)) (by rfl) (by first | exact .inl rfl | exact .inr rfl | assumption)) (@ak _ _ _ (@az _ _ _ _ (@aQ _ _ _ _ _ (@aa _ _ _ _ _ (@ay _ _ _ _ _ _ _ (@aE _) (@pv _ 2 _ _ (by rfl) (by first | exact Or.inl rfl | exact Or.inr (Or.inl rfl) | exact Or.inr (Or.inr rfl)) (by decide) (by decide)) (@af _ _ _ _) (fun _ _=>rfl)) (@aa _ _ _ _ _ (@ay _ _ _ _ _ _ _ (@aE _) (@pv _ 2 _ _ (by rfl) (by first | exact Or.inl rfl | exact Or.inr (Or.inl rfl) | exact Or.inr (Or.inr rfl)) (by decide) (by decide)) (@af _ _ _ _) (fun _ _=>rfl)) (@aa _ _ _ _ _ (@pv _ 4 _ _ (by rfl) (by first | exact Or.inl rfl | exact Or.inr (Or.inl rfl) | exact Or.inr (Or.inr rfl)) (by decide) (by decide)) (@aa _ _ _ _ _ (@pv _ 5 _ _ (by rfl) (by first | exact Or.inl rfl | exact Or.inr (Or.inl rfl) | exact Or.inr (Or.inr rfl)) (by decide) (by decide)) (@aa _ _ _ _ _ (@pv _ 3 _ _ (by rfl) (by first | exact Or.inl rfl | exact Or.inr (Or.inl rfl) | exact Or.inr (Or.inr rfl)) (by decide) (by decide)) (@aa _ _ _ _ _ (@aG _ _ _ _ _ _ _ _ _ _ _ _ aH (hr.mono (by first | decide | omega)) NE.pass (@aa _ _ _ _ _ (@pv _ 1 _ _ (by rfl) (by first | exact Or.inl rfl | exact Or.inr (Or.inl rfl) | exact Or.inr (Or.inr rfl)) (by decide) (by decide)) (@aa _ _ _ _ _ (@pv _ 6 _ _ (by rfl) (by first | exact Or.inl rfl | exact Or.inr (Or.inl rfl) | exact Or.inr (Or.inr rfl)) (by decide) (by decide)) (@ah _) (by rfl)) (by rfl)) (by rfl) (by decide) (by rfl) (by rfl)) (@ah _) (by rfl)) (by rfl)) (by rfl)) (by rfl)) (by rfl)) (by rfl))))))))))),?_⟩
 try dsimp only [aY]
 have Cy:=Cy;have Cw:=Cw
 have L:=Led.start H (fun _=>False)
 walk_at "go"
 refine k9 L (L.seq hS not_false) h63 (by decide) fun p H1 np L _=>?_
 walk_at "go"
 refine xJ L .head (by decide) fun tp c s' H2 n L _=>?_
 walk_at "one"
 try dsimp only [bE]
 refine cE (fun σ H'=>∃ lr,σ=[some (.ref a),some (.ref p),some (.ref tp),some (.ref lr),none,none,none]∧Led (fun _=>False) H H' [(lr,Eo (.lst (zq.map V.str))),(p,cD (0+3072))] [aO tp [.int c,.int s']]) (fun nx kk=>?_) ?_
 ·walk_at "go"
  exact kk _ _ ⟨_,rfl,L'⟩
 clear L
 rintro σ HA ⟨lr,rfl,L⟩
 have hru:RuN zq:=⟨by decide +kernel,by decide +kernel⟩
 walk_at "go"
 refine bD L' (by walk_at "put") (by decide) (by decide) (by decide) fun r1 H5 c0 c1 L _=>?_
 obtain ⟨v1,hv1,ev1⟩:=iw (ns:=[0,1,2,6,10 ^ 12]) c0 (show r1 < 5 by omega)
 refine g5 L .head ev1 ?_
 clear L'
 walk_at "go"
 refine bD L' (by walk_at "put") (by decide) (by decide) (by decide) fun r2 H6 d0 d1 L _=>?_
 obtain ⟨v2,hv2,ev2⟩:=iw (ns:=[1,1,2,3,9,10 ^ 12]) d0 (show r2 < 6 by omega)
 refine g5 L .head ev2 ?_
 clear L'
 walk_at "go"
 refine bD L' (by walk_at "put") (by decide) (by decide) (by decide) fun r3 H7 e0 e1 L _=>?_
 obtain ⟨v3,hv3,ev3⟩:=iw (ns:=[1,50,10 ^ 29]) e0 (show r3 < 3 by omega)
 refine g5 L .head ev3 ?_
 have hv':v3=1∨v3=50∨v3=10 ^ 29:=by simpa using hv3
 clear L'
 walk_at "go"
 refine bD L (by walk_at "put") (by omega) (by omega) (by decide) fun r4 H8 f0 f1 L _=>?_
 walk_at "go"
 have Lm:v1=0∨v1=1∨v1=2∨v1=6∨v1=1000000000000:=by simpa using hv1
 have KW:v2=1∨v2=2∨v2=3∨v2=9∨v2=1000000000000:=by simpa using hv2
 have hst:StN v1 v2 5:=⟨by omega,by omega,by omega,by omega,by decide,by decide⟩
 exact q ⟨c,s',v1,v2,zq,r4,_,lr⟩ _ ⟨n,hst,hru⟩ rfl ⟨L'.tup (by walk_at "mem"),L'.eo (p:=lr) (by walk_at "put")⟩ L'.same
theorem Ar:ao ["_law_hand_here", "_law_drawn_here", "_law_at_here", "_law_slot", "_law_first"] ["_law_hand_here", "_law_drawn_here", "_law_at_here"] (ai (top 71)):=by walk_at "s"
def pD:Sp:=fun vs H Q _=>∃ (p t:Addr) (b s a0 at':Int),vs=[.ref p,.ref t,.int at']∧bI H p b∧b≤1000000∧1≤s∧s≤1000∧mU H t s a0∧∀ (t':Addr) (sl f e:Int) (H':Hp),H' t'=some (.tup [.int sl,.int f,.int e])→0≤sl∧sl < s∧0≤f∧f < e→bI H' p (b+3072)→Oth p H H'→Q (.ref t') H'
theorem A5 (D:Dat K mg "_law_area" "_law_area" (top 71) ["_law_hand_here", "_law_drawn_here", "_law_at_here"]) (BT:Bt mg) (NE:bf CX) (aH:Cal P w K mg base CX "_law_pick" 11 ["_law_hand_here", "_law_many"] dQ):Cal P w K mg base CX "_law_area" 12 ["_law_hand_here", "_law_drawn_here", "_law_at_here"] pD:=by
 have S:=Ar
 walk_at "d"
 ·obtain ⟨p,t,b,s,a0,at',rfl,_⟩:=h
  rfl
 obtain ⟨p,t,b,s',a0,at',rfl,hh,hb,s1,s2,⟨c,v1,v2,v3,hd⟩,q⟩:=h
 refine ⟨_,(@aj _ _ _ _ _ (@aL _ _ 3 _ _ _ _ S.nd rfl (by first | exact Or.inl rfl | exact Or.inr rfl) (@aG _ _ _ _ _ _ _ _ _ _ _ _ aH (hr.mono (by first | decide | omega)) NE.pass (@aa _ _ _ _ _ (@pv _ 0 _ _ (by rfl) (by first | exact Or.inl rfl | exact Or.inr (Or.inl rfl) | exact Or.inr (Or.inr rfl)) (by decide) (by decide)) (@aa _ _ _ _ _ (@ay _ _ _ _ _ _ _ (@aE _) (@pv _ 1 _ _ (by rfl) (by first | exact Or.inl rfl | exact Or.inr (Or.inl rfl) | exact Or.inr (Or.inr rfl)) (by decide) (by decide)) (@af _ _ _ _) (fun _ _=>rfl)) (@ah _) (by rfl)) (by rfl)) (by rfl) (by decide) (by rfl) (by rfl)) (by rfl) (by first | exact .inl rfl | exact .inr rfl | assumption)) (@aj _ _ _ _ _ (@aL _ _ 4 _ _ _ _ S.nd rfl (by first | exact Or.inl rfl | exact Or.inr rfl) (@aX _ _ _ _ _ _ _ _ _ (@iY _ rfl) rfl BT.max L3.cI (@aa _ _ _ _ _ (@af _ _ _ _) (@aa _ _ _ _ _ (@aP _ _ _ _ _ _ _ _ (@bK _) (@pv _ 2 _ _ (by rfl) (by first | exact Or.inl rfl | exact Or.inr (Or.inl rfl) | exact Or.inr (Or.inr rfl)) (by decide) (by decide)) (@ay _ _ _ _ _ _ _ (@bu _) (@br _ _ _ _ (@aa _ _ _ _ _ (@af _ _ _ _) (@aa _ _ _ _ _ (@af _ _ _ _) (@aa _ _ _ _ _ (@af _ _ _ _) (@aa _ _ _ _ _ (@af _ _ _ _) (@aa _ _ _ _ _ (@fE _ _ _ _ _ _ (@dD _) (@af _ _ _ _)) (@aa _ _ _ _ _ (@af _ _ _ _) (@ah _) (by rfl)) (by rfl)) (by rfl)) (by rfl)) (by rfl)) (by rfl))) (@aG _ _ _ _ _ _ _ _ _ _ _ _ aH (hr.mono (by first | decide | omega)) NE.pass (@aa _ _ _ _ _ (@pv _ 0 _ _ (by rfl) (by first | exact Or.inl rfl | exact Or.inr (Or.inl rfl) | exact Or.inr (Or.inr rfl)) (by decide) (by decide)) (@aa _ _ _ _ _ (@af _ _ _ _) (@ah _) (by rfl)) (by rfl)) (by rfl) (by decide) (by rfl) (by rfl)) (fun _ _=>rfl))) (@ah _) (by rfl)) (by rfl)) (by decide) (by decide) (by rfl) (by rfl)) (by rfl) (by first | exact .inl rfl | exact .inr rfl | assumption)) (@ak _ _ _ (@az _ _ _ _ (@aQ _ _ _ _ _ (@aa _ _ _ _ _ (@pv _ 3 _ _ (by rfl) (by first | exact Or.inl rfl | exact Or.inr (Or.inl rfl) | exact Or.inr (Or.inr rfl)) (by decide) (by decide)) (@aa _ _ _ _ _ (@pv _ 4 _ _ (by rfl) (by first | exact Or.inl rfl | exact Or.inr (Or.inl rfl) | exact Or.inr (Or.inr rfl)) (by decide) (by decide)) (@aa _ _ _ _ _ (@aP _ _ _ _ _ _ _ _ (@bK _) (@pv _ 4 _ _ (by rfl) (by first | exact Or.inl rfl | exact Or.inr (Or.inl rfl) | exact Or.inr (Or.inr rfl)) (by decide) (by decide)) (@ay _ _ _ _ _ _ _ (@bu _) (@br _ _ _ _ (@aa _ _ _ _ _ (@af _ _ _ _) (@aa _ _ _ _ _ (@af _ _ _ _) (@aa _ _ _ _ _ (@af _ _ _ _) (@aa _ _ _ _ _ (@af _ _ _ _) (@aa _ _ _ _ _ (@af _ _ _ _) (@aa _ _ _ _ _ (@aP _ _ _ _ _ _ _ _ (@fU _) (@af _ _ _ _) (@af _ _ _ _)) (@ah _) (by rfl)) (by rfl)) (by rfl)) (by rfl)) (by rfl)) (by rfl))) (@aG _ _ _ _ _ _ _ _ _ _ _ _ aH (hr.mono (by first | decide | omega)) NE.pass (@aa _ _ _ _ _ (@pv _ 0 _ _ (by rfl) (by first | exact Or.inl rfl | exact Or.inr (Or.inl rfl) | exact Or.inr (Or.inr rfl)) (by decide) (by decide)) (@aa _ _ _ _ _ (@af _ _ _ _) (@ah _) (by rfl)) (by rfl)) (by rfl) (by decide) (by rfl) (by rfl)) (fun _ _=>rfl))) (@ah _) (by rfl)) (by rfl)) (by rfl))))))),?_⟩
 try dsimp only [aY]
 have Cy:=Cy
 have L:=(eL hh).more (aO t [_,_,_,_,_,_]) hd
 walk_at "go"
 refine bD L .head (by omega) (by omega) (by omega) fun r1 H1 x0 x1 L _=>?_
 walk_at "go"
 refine bD L' (by walk_at "put") (by decide) (by decide) (by omega) fun r2 H2 b0 b1 L _=>?_
 obtain ⟨v,hv,ev⟩:=iw (ns:=[0,0,1,3,-2,40]) b0 (show r2 < 6 by omega)
 refine g5 L .head ev ?_
 clear L'
 walk_at "go"
 refine bD L' (by walk_at "put") (by decide) (by decide) (by omega) fun r3 H3 c0 c1 L _=>?_
 obtain ⟨v2,hv2,ev2⟩:=iw (ns:=[30,1,2,3,5,10 ^ 12]) c0 (show r3 < 6 by omega)
 refine g5 L .head ev2 ?_
 clear L'
 walk_at "go"
 have KW:v2=30∨v2=1∨v2=2∨v2=3∨v2=5∨v2=1000000000000:=by simpa using hv2
 exact q _ _ _ _ _ (L'.tup (by walk_at "mem")) ⟨by omega,by omega,by omega,by omega⟩ ((cD.at (L'.at_ (p,cD _) (by walk_at "mem"))).mono (by omega)) L'.fr
end
theorem Bp {X:Cx} {K:PySem.W.Frag} (h:X.K=K):IxR X (Dn K):=h▸bu
theorem jB {K:PySem.W.Frag} {H:Hp}:∀ (ms:List Int),Ats K H (ms.map V.int) (ms.map Dt.int)
 | []=>.nil
 | m::ms=>.cons (.int m) (jB ms)
theorem sZ:∀ (ms:List Int),deps (ms.map Dt.int)=0
 | []=>rfl
 | m::ms=>by rw [List.map_cons,deps,sZ ms];rfl
theorem jZ (ms:List Int):dep (.lst (ms.map Dt.int))≤100:=by
 rw [dep,sZ];decide
theorem qz (T:List Int):eqD (.lst (T.map Dt.int)) (.lst [])=decide (T.length=0):=by
 cases T with
 | nil=>rfl
 | cons x gs=>simp [eqD,j9]
theorem fB {z:Str} {ls:Lns} {i:Nat} {x:Addr×Ln} (h:ls[i]?=some x):(wd x.2=z→sel z (ls.take (i+1))=sel z (ls.take i)++[nOf x.2])∧(¬ wd x.2=z→sel z (ls.take (i+1))=sel z (ls.take i)):=by
 unfold sel
 constructor
 ·intro c
  rw [qv h (by unfold pw;exact decide_eq_true c),List.map_append];rfl
 ·intro c
  rw [vp h (by unfold pw;exact decide_eq_false c)]
theorem iF (z:Str) (ls:Lns):(sel z ls).length≤ls.length:=by
 unfold sel
 rw [List.length_map]
 exact List.length_filter_le ..
theorem GP (x:Addr×Ln):isT x=decide (wd x.2 = "took"):=by
 obtain ⟨t,l⟩:=x
 unfold isT
 cases l with
 | took _ _ _ _=>exact (decide_eq_true rfl).symm
 | held _=>exact (decide_eq_false (show ¬ (("held" : Str) = "took") by decide +kernel)).symm
 | heard _=>exact (decide_eq_false (show ¬ (("heard" : Str) = "took") by decide +kernel)).symm
 | ends _ _=>exact (decide_eq_false (show ¬ (("ends" : Str) = "took") by decide +kernel)).symm
def tI (ls:Lns) (i:Nat):List Int:=(tix ls i).map fun k:Nat=>(k:Int)
theorem zR (ls:Lns) (i:Nat):(tI ls i).length≤i:=by
 unfold tI;rw [List.length_map];exact CB ls i
theorem wk {ls:Lns} {i:Nat} {x:Addr×Ln} (h:ls[i]?=some x):(wd x.2 = "took" → tI ls (i+1)=tI ls i++[(i:Int)])∧(¬ wd x.2 = "took" → tI ls (i+1)=tI ls i):=by
 have e:tAt ls i=isT x:=by unfold tAt;rw [h]
 unfold tI
 rw [zM,e,GP]
 constructor
 ·intro c
  rw [if_pos (decide_eq_true c),List.map_append];rfl
 ·intro c
  rw [if_neg (by rw [decide_eq_false c];exact Bool.false_ne_true)]
theorem BQ {xs:List V} {k:Nat} (h:k≤xs.length):nA xs (some (k:Int)) none=xs.drop k:=by
 unfold nA
 rw [HT.Ay,HT.Dk,Nat.min_eq_left h,List.take_of_length_le (by rw [List.length_drop];exact Nat.le_refl _)]
theorem l9 {g:Int} {ls:Lns} {i:Nat} {x:Addr×Ln} (h:ls[i]?=some x):(pe' g x=true→ens g (ls.take (i+1))=ens g (ls.take i)++[eOf x])∧(pe' g x=false→ens g (ls.take (i+1))=ens g (ls.take i)):=by
 unfold ens
 constructor
 ·intro c
  rw [qv h c,List.map_append];rfl
 ·intro c
  rw [vp h c]
theorem xo (g:Int) (ls:Lns):(ens g ls).length≤ls.length:=by
 unfold ens
 rw [List.length_map]
 exact List.length_filter_le ..
theorem vv {H:Hp} {x:Addr×Ln} (h:gA H x.1 x.2):(∃ g' e',H x.1=some (.tup [.str "ends",.int g',.int e'])∧(∀ g,pe' g x=decide (g'=g))∧eOf x=e')∨(¬ wd x.2 = "ends" ∧ ∀ g,pe' g x=false):=by
 obtain ⟨t,l⟩:=x
 cases h with
 | took h ha=>exact .inr ⟨(by show ¬ (("took" : Str) = "ends");decide +kernel),fun _=>rfl⟩
 | held h=>exact .inr ⟨(by show ¬ (("held" : Str) = "ends");decide +kernel),fun _=>rfl⟩
 | heard h=>exact .inr ⟨(by show ¬ (("heard" : Str) = "ends");decide +kernel),fun _=>rfl⟩
 | ends h=>exact .inl ⟨_,_,h,fun _=>rfl,rfl⟩
section
variable {P:Program} {w:World} {K:PySem.W.Frag} {mg:Str→Option Value} {base:Heap} {CX:CXT}
theorem pP:ao ["_law_lines"] ["_law_lines"] (ai (top 73)):=by walk_at "s"
def gG (K:PySem.W.Frag):Sp:=fun vs H Q _=>∃ (a:Addr) (ls:Lns),vs=[.ref a]∧SqL K H a (lnV ls)∧bH H ls∧ls.length≤400∧∀ H',aM H H'→Q (.int ((gts ls).foldl max 0)) H'
theorem p8 (D:Dat K mg "_law_greatest" "_law_greatest" (top 73) ["_law_lines"]) (BT:Bt mg):Cal P w K mg base CX "_law_greatest" 2 ["_law_lines"] (gG K):=by
 have S:=pP
 walk_at "d"
 ·obtain ⟨a,ls,rfl,_⟩:=h
  rfl
 obtain ⟨a,ls,rfl,hS,hL,h100,q⟩:=h
 refine ⟨_,(ak (az (aX (mC rfl) rfl BT.max L3.cI (aa (aP jY (br (aa af ah)) (iI (g:=(bE 0)) rfl (d8 (pv 0)) (iu (own:=["_law_line"]) (cap:=[]) (ai (top 73)).names ["_law_lines"] rfl rfl rfl (by decide +kernel)) (fun _ _ _ _=>(bB (i:=0) (show (mJ ["_law_lines"] ["_law_line"] []).Nodup by decide +kernel) rfl (by first | exact Or.inl rfl | exact Or.inr rfl))) (fun _ _ _ _=>fD (aJ cC (ay (cY (K:=K) rfl) (pv 0) af (fun _ _=>rfl)) aF (aI _))) (fun _ _ _ _=>(ay (cY (K:=K) rfl) (pv 0) af (fun _ _=>rfl))))) ah)))),?_⟩
 try dsimp only [aY]
 have L:=Led.start H (fun _=>False)
 walk_at "go"
 have s1:=L'.same
 refine gZ (s1.seq hS) ?_
 refine f7 (lnV ls) (fun i ys Hx=>ys=(sel "took" (ls.take i)).map V.int∧Hx=H') ⟨rfl,rfl⟩ (fun i ys Hx hi ⟨e,e2⟩=>⟨e2▸s1.seq hS,by
  rw [e,List.length_map]
  have h1:=iF "took" (ls.take i)
  rw [List.length_take] at h1
  exact Nat.le_of_lt (small1000 (by omega))⟩) ?_ ?_
 ·rintro i v ys H1 hv ⟨rfl,rfl⟩
  obtain ⟨x,hx,rfl⟩:=d9 hv
  obtain ⟨rest,ht⟩:=gR ((hL x (List.mem_of_getElem? hx)).same s1)
  try dsimp only [bE]
  walk_at "go"
  refine fk (SqT.of ht) iP ?_
  walk_at "go"
  refine bS (fun c=>?_) (fun c=>?_)
  ·walk_at "go"
   refine fk (SqT.of ht) qO ?_
   exact ⟨by rw [(fB hx).1 c,List.map_append];rfl,rfl⟩
  ·exact ⟨by rw [(fB hx).2 c],rfl⟩
 ·rintro ys H1 ⟨rfl,rfl⟩ lc nlc
  rw [cN,List.take_length]
  have hsl:=iF "took" ls
  have hml:((sel "took" ls).map V.int).length=(sel "took" ls).length:=List.length_map ..
  have M:=L'.nj (a:=Eo (.lst ((sel "took" ls).map V.int))) nlc rfl
  clear L L'
  walk_at "go"
  refine lW (ns:=0::sel "took" ls) (SqL.of (L'.eo .head)) (by simp) fun M hM hx=>?_
  have e:(sel "took" ls).foldl max 0=M:=jF (List.mem_cons.mp hM) (fun a ha=>hx a (List.mem_cons_of_mem _ ha)) (hx 0 List.mem_cons_self)
  rw [Ad] at e
  have:=q _ L'.same
  rw [e] at this
  exact this
theorem An:ao ["_law_lines", "_law_tooks", "_law_held", "_law_heard", "_law_grant_here", "_law_slot", "_law_first", "_law_end", "_law_ends"] ["_law_lines"] (ai (top 72)):=by walk_at "s"
def pB (K:PySem.W.Frag):Sp:=fun vs H Q _=>∃ (a:Addr) (ls:Lns),vs=[.ref a]∧SqL K H a (lnV ls)∧bH H ls∧bX ls∧ls.length≤400∧∀ t H',nG K H' t (bh Nt.nil ls)→aM H H'→Q (.ref t) H'
theorem A2 (D:Dat K mg "_law_read" "_law_read" (top 72) ["_law_lines"]) (BT:Bt mg):Cal P w K mg base CX "_law_read" 2 ["_law_lines"] (pB K):=by
 have S:=An
 walk_at "d"
 ·obtain ⟨a,ls,rfl,_⟩:=h
  rfl
 obtain ⟨a,ls,rfl,hS,hL,hg,h100,q⟩:=h
 refine ⟨_,(aj (rZ (i:=1) (g:=(bE 0)) rfl S.nd rfl (by first | exact Or.inl rfl | exact Or.inr rfl) (oi rfl BT.range (aa (aX oM rfl BT.len L3.jm (aa (pv 0) ah)) ah)) (iu (own:=["_law_k"]) (cap:=[0]) (ai (top 72)).names ["_law_lines", "_law_tooks", "_law_held", "_law_heard", "_law_grant_here", "_law_slot", "_law_first", "_law_end", "_law_ends"] rfl rfl rfl (by decide +kernel)) (fun _ _ _ _=>(bB (i:=0) (show (mJ ["_law_lines", "_law_tooks", "_law_held", "_law_heard", "_law_grant_here", "_law_slot", "_law_first", "_law_end", "_law_ends"] ["_law_k"] [0]).Nodup by decide +kernel) rfl (by first | exact Or.inl rfl | exact Or.inr rfl))) (fun _ _ _ _=>fD (aJ cC (ay (cY (K:=K) rfl) (ay (Bp (K:=K) rfl) (pv 1) (pv 0) (fun _ _=>rfl)) af (fun _ _=>rfl)) aF (aI _))) (fun _ _ _ _=>(pv 0)) (by with_unfolding_all rfl))
   (aj (aL (i:=2) S.nd rfl (by first | exact Or.inl rfl | exact Or.inr rfl) (aX (mC rfl) rfl BT.max L3.cI (aa (aP jY (br (aa af ah)) (iI (g:=(bE 0)) rfl (d8 (pv 0)) (iu (own:=["_law_line"]) (cap:=[]) (ai (top 72)).names ["_law_lines", "_law_tooks", "_law_held", "_law_heard", "_law_grant_here", "_law_slot", "_law_first", "_law_end", "_law_ends"] rfl rfl rfl (by decide +kernel)) (fun _ _ _ _=>(bB (i:=0) (show (mJ ["_law_lines", "_law_tooks", "_law_held", "_law_heard", "_law_grant_here", "_law_slot", "_law_first", "_law_end", "_law_ends"] ["_law_line"] []).Nodup by decide +kernel) rfl (by first | exact Or.inl rfl | exact Or.inr rfl))) (fun _ _ _ _=>fD (aJ cC (ay (cY (K:=K) rfl) (pv 0) af (fun _ _=>rfl)) aF (aI _))) (fun _ _ _ _=>(ay (cY (K:=K) rfl) (pv 0) af (fun _ _=>rfl))))) ah)))
   (aj (aL (i:=3) S.nd rfl (by first | exact Or.inl rfl | exact Or.inr rfl) (aX (mC rfl) rfl BT.max L3.cI (aa (aP jY (br (aa af ah)) (iI (g:=(bE 0)) rfl (d8 (pv 0)) (iu (own:=["_law_line"]) (cap:=[]) (ai (top 72)).names ["_law_lines", "_law_tooks", "_law_held", "_law_heard", "_law_grant_here", "_law_slot", "_law_first", "_law_end", "_law_ends"] rfl rfl rfl (by decide +kernel)) (fun _ _ _ _=>(bB (i:=0) (show (mJ ["_law_lines", "_law_tooks", "_law_held", "_law_heard", "_law_grant_here", "_law_slot", "_law_first", "_law_end", "_law_ends"] ["_law_line"] []).Nodup by decide +kernel) rfl (by first | exact Or.inl rfl | exact Or.inr rfl))) (fun _ _ _ _=>fD (aJ cC (ay (cY (K:=K) rfl) (pv 0) af (fun _ _=>rfl)) aF (aI _))) (fun _ _ _ _=>(ay (cY (K:=K) rfl) (pv 0) af (fun _ _=>rfl))))) ah)))
   (aj (bg (aJ (jX (hr.mono (Nat.zero_le _))) (pv 1) (br ah) (aI _)) (ak (az (aQ (aa af (aa fS (aa (pv 2) (aa (pv 3) ah))))))) aK)
   (aj (aL (i:=4) S.nd rfl (by first | exact Or.inl rfl | exact Or.inr rfl) (ay aE (ay bu (pv 0) (ay bu (pv 1) (fE dD af) (fun _ _=>rfl)) (fun _ _=>rfl)) af (fun _ _=>rfl)))
   (aj (ff (ay aE (ay bu (pv 0) (ay bu (pv 1) (fE dD af) (fun _ _=>rfl)) (fun _ _=>rfl)) af (fun _ _=>rfl)) (jU rfl (cz (bB (i:=5) S.nd rfl (by first | exact Or.inl rfl | exact Or.inr rfl)) (cz (bB (i:=6) S.nd rfl (by first | exact Or.inl rfl | exact Or.inr rfl)) (cz (bB (i:=7) S.nd rfl (by first | exact Or.inl rfl | exact Or.inr rfl)) iH)))))
   (aj (rZ (i:=8) (g:=(bE 0)) rfl S.nd rfl (by first | exact Or.inl rfl | exact Or.inr rfl) (d8 (r9 wJ (pv 0) (wN (ay bu (pv 1) (fE dD af) (fun _ _=>rfl))) wO)) (iu (own:=["_law_line"]) (cap:=[4]) (ai (top 72)).names ["_law_lines", "_law_tooks", "_law_held", "_law_heard", "_law_grant_here", "_law_slot", "_law_first", "_law_end", "_law_ends"] rfl rfl rfl (by decide +kernel)) (fun _ _ _ _=>(bB (i:=0) (show (mJ ["_law_lines", "_law_tooks", "_law_held", "_law_heard", "_law_grant_here", "_law_slot", "_law_first", "_law_end", "_law_ends"] ["_law_line"] [4]).Nodup by decide +kernel) rfl (by first | exact Or.inl rfl | exact Or.inr rfl))) (fun _ _ _ _=>fD (PW.pt (lD (aJ cC (ay (cY (K:=K) rfl) (pv 0) af (fun _ _=>rfl)) aF (aI _)) (jv (aJ cC (ay (cY (K:=K) rfl) (pv 0) af (fun _ _=>rfl)) (pv 1) (aI _)))))) (fun _ _ _ _=>(ay (cY (K:=K) rfl) (pv 0) af (fun _ _=>rfl))) (by with_unfolding_all rfl))
   (ak (az (aQ (aa (pv 4) (aa (aQ (aa (pv 5) (aa (pv 6) (aa (aX (HV rfl) rfl BT.min L3.vH (aa (aP jY (br (aa (pv 7) ah)) (pv 8)) ah)) ah)))) (aa (pv 2) (aa (pv 3) ah)))))))))))))),?_⟩
 try dsimp only [aY]
 have hln:=cN ls
 walk_at "go"
 refine iM hS ?_
 walk_at "go"
 refine EH (fun i ys Hx=>ys=(tI ls i).map V.int∧Hx=H) ⟨rfl,rfl⟩ (fun i ys Hx hi ⟨e,_⟩=>by
  rw [e,List.length_map]
  have h1:=zR ls i
  exact Nat.le_of_lt (small1000 (by omega))) ?_ ?_
 ·rintro i ys H1 hi ⟨rfl,rfl⟩
  have hil:i < ls.length:=by omega
  obtain ⟨x,hx⟩:∃ x,ls[i]?=some x:=⟨_,List.getElem?_eq_getElem hil⟩
  obtain ⟨rest,ht⟩:=gR (hL x (List.mem_of_getElem? hx))
  try dsimp only [bE]
  walk_at "go"
  refine g4 hS (i:=0+(i:Int)) (by rw [Int.zero_add];exact gn (vd hx)) ?_
  walk_at "go"
  refine fk (SqT.of ht) iP ?_
  walk_at "go"
  refine bS (fun c=>?_) (fun c=>?_)
  ·walk_at "go"
   exact ⟨by rw [(wk hx).1 c,List.map_append,Int.zero_add];rfl,rfl⟩
  ·exact ⟨by rw [(wk hx).2 c],rfl⟩
 ·rintro ys H1 ⟨rfl,rfl⟩ lt nlt
  rw [show ((lnV ls).length:Int).toNat=ls.length by omega]
  have htl:=zR ls ls.length
  have N1:=(Led.start H1 (fun _=>False)).nj (a:=Eo (.lst ((tI ls ls.length).map V.int))) (o:=.lst ((tI ls ls.length).map V.int)) nlt rfl
  walk_at "go"
  have s1:=L'.same
  refine gZ (s1.seq hS) ?_
  refine f7 (lnV ls) (fun i ys Hx=>ys=(sel "held" (ls.take i)).map V.int∧Hx=H') ⟨rfl,rfl⟩ (fun i ys Hx hi ⟨e,e2⟩=>⟨e2▸s1.seq hS,by
   rw [e,List.length_map]
   have h1:=iF "held" (ls.take i)
   rw [List.length_take] at h1
   exact Nat.le_of_lt (small1000 (by omega))⟩) ?_ ?_
  ·rintro i v ys H1 hv ⟨rfl,rfl⟩
   obtain ⟨x,hx,rfl⟩:=d9 hv
   obtain ⟨rest,ht⟩:=gR ((hL x (List.mem_of_getElem? hx)).same s1)
   try dsimp only [bE]
   walk_at "go"
   refine fk (SqT.of ht) iP ?_
   walk_at "go"
   refine bS (fun c=>?_) (fun c=>?_)
   ·walk_at "go"
    refine fk (SqT.of ht) qO ?_
    exact ⟨by rw [(fB hx).1 c,List.map_append];rfl,rfl⟩
   ·exact ⟨by rw [(fB hx).2 c],rfl⟩
  rintro ys H1 ⟨rfl,rfl⟩ lc nlc
  rw [cN,List.take_length]
  have hsl:=iF "held" ls
  have hml:((sel "held" ls).map V.int).length=(sel "held" ls).length:=List.length_map ..
  have M1:=L'.nj (a:=Eo (.lst ((sel "held" ls).map V.int))) nlc rfl
  clear N1 L'
  walk_at "go"
  refine lW (ns:=0::sel "held" ls) (SqL.of (L'.eo .head)) (by simp) fun Mh hM hx=>?_
  have eh:(sel "held" ls).foldl max 0=Mh:=jF (List.mem_cons.mp hM) (fun a ha=>hx a (List.mem_cons_of_mem _ ha)) (hx 0 List.mem_cons_self)
  have N2:=L'
  clear M1 L' hM hx
  walk_at "go"
  have s2:=L'.same
  refine gZ (s2.seq hS) ?_
  refine f7 (lnV ls) (fun i ys Hx=>ys=(sel "heard" (ls.take i)).map V.int∧Hx=H') ⟨rfl,rfl⟩ (fun i ys Hx hi ⟨e,e2⟩=>⟨e2▸s2.seq hS,by
   rw [e,List.length_map]
   have h1:=iF "heard" (ls.take i)
   rw [List.length_take] at h1
   exact Nat.le_of_lt (small1000 (by omega))⟩) ?_ ?_
  ·rintro i v ys H1 hv ⟨rfl,rfl⟩
   obtain ⟨x,hx,rfl⟩:=d9 hv
   obtain ⟨rest,ht⟩:=gR ((hL x (List.mem_of_getElem? hx)).same s2)
   try dsimp only [bE]
   walk_at "go"
   refine fk (SqT.of ht) iP ?_
   walk_at "go"
   refine bS (fun c=>?_) (fun c=>?_)
   ·walk_at "go"
    refine fk (SqT.of ht) qO ?_
    exact ⟨by rw [(fB hx).1 c,List.map_append];rfl,rfl⟩
   ·exact ⟨by rw [(fB hx).2 c],rfl⟩
  rintro ys H1 ⟨rfl,rfl⟩ ld nld
  rw [cN,List.take_length]
  have Lq:=iF "heard" ls
  have Ls:((sel "heard" ls).map V.int).length=(sel "heard" ls).length:=List.length_map ..
  have M2:=L'.nj (a:=Eo (.lst ((sel "heard" ls).map V.int))) nld rfl
  clear N2 L'
  walk_at "go"
  refine lW (ns:=0::sel "heard" ls) (SqL.of (L'.eo .head)) (by simp) fun Mr hM hx=>?_
  have er:(sel "heard" ls).foldl max 0=Mr:=jF (List.mem_cons.mp hM) (fun a ha=>hx a (List.mem_cons_of_mem _ ha)) (hx 0 List.mem_cons_self)
  have N3:=L'
  clear M2 L' hM hx
  have fh:(bh Nt.nil ls).hd=Mh:=(qp ls Nt.nil).trans eh
  have fr:(bh Nt.nil ls).hr=Mr:=(qo ls Nt.nil).trans er
  walk_at "go"
  refine F2 (.lst (SqL.of (L'.eo (p:=lt) (by walk_at "put"))) (jB _)) (e:=.lst []) (.lst (SqL.of (L'.eo .head)) .nil) (jZ _) ?_
  rw [qz]
  have N4:=L'
  clear N3 L'
  walk_at "go"
  refine bS (fun z=>?_) (fun z=>?_)
  ·have z':tix ls ls.length=[]:=by
    unfold tI at z
    rw [List.length_map] at z
    exact List.eq_nil_of_length_eq_zero z
   obtain ⟨f1,f2⟩:=jE ls Nt.nil (Cz z')
   walk_at "go"
   refine q _ _ ⟨.non,?_,.inl ⟨f2,rfl⟩⟩ L'.same
   rw [f1,fh,fr]
   exact SqT.of (L'.tup (by walk_at "mem"))
  ·have z':tix ls ls.length≠[]:=fun e=>z (by unfold tI;rw [e];rfl)
   obtain ⟨ks,k,ek⟩:∃ ks k,tix ls ls.length=ks++[k]:=⟨_,_,(List.dropLast_concat_getLast z').symm⟩
   obtain ⟨⟨t,ln⟩,hx,hb,hno⟩:=zN ek
   have hk:k < ls.length:=(List.getElem?_eq_some_iff.mp hx).1
   have hxL:=(hL _ (List.mem_of_getElem? hx)).same N4.same
   cases ln with
   | held _=>cases hb
   | heard _=>cases hb
   | ends _ _=>cases hb
   | took g sl f' e=>
    obtain ⟨f1,f2⟩:=zc hx hno
    cases hxL with
    | @took _ _ _ _ ar h ha=>
    have hlt:=N4.eo (p:=lt) (by walk_at "put")
    rw [show (tI ls ls.length).map V.int=(ks.map fun k:Nat=>(k:Int)).map V.int++[.int (k:Int)] by unfold tI;rw [ek,List.map_append,List.map_append];rfl] at hlt
    have L:=(N4.more (aO t [_,_,_]) h).more (aO ar [_,_,_]) ha
    clear N4
    have hSL:=L.seq hS not_false
    walk_at "go"
    refine g4 (SqL.of hlt) iQ ?_
    refine g4 hSL (gn (vd hx)) ?_
    walk_at "go"
    refine g4 (SqL.of hlt) iQ ?_
    refine g4 hSL (gn (vd hx)) ?_
    walk_at "go"
    refine g4 (SqL.of hlt) iQ ?_
    walk_at "go"
    refine Bv L hSL fun ld HD nld L sD=>?_
    rw [BQ (by omega),show (lnV ls).drop k=lnV (ls.drop k) by unfold lnV;rw [List.map_drop]] at L
    have hld:=L.eo (p:=ld) .head
    have sHD:=L.same
    walk_at "go"
    have hel:=xo g (ls.drop k)
    rw [List.length_drop] at hel
    refine f7 (lnV (ls.drop k)) (fun i ys Hx=>ys=(ens g ((ls.drop k).take i)).map V.int∧Hx=HD) ⟨rfl,rfl⟩ (fun i ys Hx hi ⟨e,e2⟩=>⟨e2▸SqL.of hld,by
     rw [e,List.length_map]
     have h1:=xo g ((ls.drop k).take i)
     rw [List.length_take,List.length_drop] at h1
     exact Nat.le_of_lt (small1000 (by omega))⟩) ?_ ?_
    ·rintro i v ys H1 hv ⟨rfl,rfl⟩
     obtain ⟨x,hx',rfl⟩:=d9 hv
     have hxx:=(hL x (List.mem_of_mem_drop (List.mem_of_getElem? hx'))).same sHD
     clear L
     try dsimp only [bE]
     rcases vv hxx with ⟨g',e',ht,hp,he⟩ | ⟨nw,hp⟩
     ·have L:=(Led.start H1 (fun _=>False)).more (aO x.1 [_,_,_]) ht
      walk_at "go"
      refine bS (fun c=>?_) (fun c=>?_)
      ·walk_at "go"
       exact ⟨by rw [(l9 hx').1 (by rw [hp];exact decide_eq_true c),List.map_append,he];rfl,rfl⟩
      ·exact ⟨by rw [(l9 hx').2 (by rw [hp];exact decide_eq_false c)],rfl⟩
     ·obtain ⟨rest,ht⟩:=gR hxx
      walk_at "go"
      refine fk (SqT.of ht) iP ?_
      walk_at "go"
      exact ⟨by rw [(l9 hx').2 (hp g)],rfl⟩
    rintro ys H1 ⟨rfl,rfl⟩ le nle
    rw [cN,List.take_length]
    have Lr:((ens g (ls.drop k)).map V.int).length=(ens g (ls.drop k)).length:=List.length_map ..
    have M5:=L.nj (a:=Eo (.lst ((ens g (ls.drop k)).map V.int))) nle rfl
    clear L
    walk_at "go"
    refine Hj (ns:=e::ens g (ls.drop k)) (SqL.of (L'.eo .head)) (by simp) fun M hM hx2=>?_
    have eE:ens g (ls.drop k)=ens g (ls.drop (k+1)):=by
     obtain ⟨hi,ei⟩:=List.getElem?_eq_some_iff.mp hx
     rw [List.drop_eq_getElem_cons hi,ei]
     unfold ens
     rw [List.filter_cons_of_neg (by exact Bool.false_ne_true)]
    have em:(ens g (ls.drop (k+1))).foldl min e=M:=by
     rw [← eE]
     exact EL (List.mem_cons.mp hM) (fun a ha=>hx2 a (List.mem_cons_of_mem _ ha)) (hx2 e List.mem_cons_self)
    have N6:=L'
    clear M5 L'
    walk_at "go"
    have hT:=L'.tup (r:=t') (xs:=[.int g,_,.int Mh,.int Mr]) (by walk_at "mem")
    rw [← f1,← fh,← fr] at hT
    exact q _ _ ⟨_,SqT.of hT,.inr ⟨_,sl,f',M,by rw [f2,em],rfl,L'.tup (by walk_at "mem")⟩⟩ L'.same
end
def ers (CD CU CA CN CW CT:Addr):List Addr:=[CD,CU,CA,CN,CW,CT]
theorem Ek {nm:Str} {ps l:Addr} {sv:V}:(hdF nm ps l sv).lookup ("is_up" : Str)=none:=dB (by decide +kernel) (by decide +kernel) (by decide +kernel) (by decide +kernel)
theorem wZ {nm:Str} {ps l:Addr} {sv:V}:(hdF nm ps l sv).lookup ("place" : Str)=none:=dB (by decide +kernel) (by decide +kernel) (by decide +kernel) (by decide +kernel)
theorem j0 {nm:Str} {ps l:Addr} {sv:V}:(hdF nm ps l sv).lookup ("note" : Str)=none:=dB (by decide +kernel) (by decide +kernel) (by decide +kernel) (by decide +kernel)
theorem lV {nm:Str} {ps l:Addr} {sv:V}:(hdF nm ps l sv).lookup ("area" : Str)=none:=dB (by decide +kernel) (by decide +kernel) (by decide +kernel) (by decide +kernel)
theorem GY {nm:Str} {ps l:Addr} {sv:V}:(hdF nm ps l sv).lookup ("fall" : Str)=none:=dB (by decide +kernel) (by decide +kernel) (by decide +kernel) (by decide +kernel)
theorem GV {nm:Str} {ps l:Addr} {sv:V}:(hdF nm ps l sv).lookup ("rise" : Str)=none:=dB (by decide +kernel) (by decide +kernel) (by decide +kernel) (by decide +kernel)
theorem GU {nm:Str} {ps l:Addr} {sv:V}:(hdF nm ps l sv).lookup ("take" : Str)=none:=dB (by decide +kernel) (by decide +kernel) (by decide +kernel) (by decide +kernel)
theorem Ej {nm:Str} {ps l:Addr} {sv:V}:(hdF nm ps l sv).lookup ("write" : Str)=none:=dB (by decide +kernel) (by decide +kernel) (by decide +kernel) (by decide +kernel)
theorem GW {nm:Str} {ps l:Addr} {sv:V}:(hdF nm ps l sv).lookup ("make" : Str)=none:=dB (by decide +kernel) (by decide +kernel) (by decide +kernel) (by decide +kernel)
theorem GX {nm:Str} {ps l:Addr} {sv:V}:(hdF nm ps l sv).lookup ("hear" : Str)=none:=dB (by decide +kernel) (by decide +kernel) (by decide +kernel) (by decide +kernel)
theorem Br {nm:Str} {ps l:Addr} {sv:V}:(hdF nm ps l sv).lookup ("tell" : Str)=none:=dB (by decide +kernel) (by decide +kernel) (by decide +kernel) (by decide +kernel)
theorem El {nm:Str} {ps l:Addr} {sv:V}:(hdF nm ps l sv).lookup ("give_back" : Str)=none:=dB (by decide +kernel) (by decide +kernel) (by decide +kernel) (by decide +kernel)
section
variable {C CS CH:Addr} {H H':Hp} {d:Hd} {ls:Lns} {pl:Option (Int×Int)} {p:Addr} {b:Int}
theorem bA.nl (h:bA C CS CH H d ls pl) (hh:bI H p b):d.l≠p:=fun z=>by
 obtain ⟨_,hl,_⟩:=h
 obtain ⟨x,y,u,e,_⟩:=hh
 rw [z,e] at hl
 injection hl with hl
 injection hl with hl
 cases ls with
 | nil=>cases hl
 | cons x ls=>injection hl with hl _;cases hl
theorem bA.oth (h:bA C CS CH H d ls pl) (hh:bI H p b) (o:Oth p H H'):bA C CS CH H' d ls pl:=by
 have nl:=h.nl hh
 obtain ⟨⟨dx,sv,hp,hpl⟩,hl,hL,⟨dy,tr,ms,h1,h2,pm⟩,⟨dz,h3⟩,hn⟩:=h
 obtain ⟨x,y,z,e,_⟩:=hh
 have ne:∀ q u,H q=some u→(∀ xs,u≠.lst xs)→q≠p:=fun q u h1 h2 z=>by rw [z,e] at h1;cases h1;exact h2 _ rfl
 have ts:cB H H':=fun q xs h=>o q _ h (ne _ _ h fun _ z=>nomatch z)
 exact ⟨⟨dx,sv,o _ _ hp (ne _ _ hp fun _ z=>nomatch z),hpl.ts ts⟩,o _ _ hl nl,hL.ts ts,⟨dy,tr,ms,o _ _ h1 (ne _ _ h1 fun _ z=>nomatch z),ts _ _ h2,pm⟩,⟨dz,o _ _ h3 (ne _ _ h3 fun _ z=>nomatch z)⟩,hn⟩
theorem y9 {x:Addr×Ln} (h:bX ls) (g:tY x.2):bX (ls++[x]):=fun y hy=>(List.mem_append.mp hy).elim (h y) fun z=>by rw [List.mem_singleton.mp z];exact g
theorem cO.any (h:cO ls pl) {pl':Option (Int×Int)} (k0:∀ m k,pl'=some (m,k)→0≤k):cO ls pl':=⟨h.good,k0,h.len⟩
theorem cO.snoc {x:Addr×Ln} (h:cO ls pl) (hl:ls.length≤397) (g:tY x.2) {pl':Option (Int×Int)} (k0:∀ m k,pl'=some (m,k)→0≤k):cO (ls++[x]) pl':=⟨y9 h.good g,k0,by rw [List.length_append,List.length_singleton];omega⟩
theorem Eb {m k:Int} (h : 0≤k):∀ m' k',some (m,k)=some (m',k')→0≤k':=fun _ _ e=>by cases e;exact h
theorem pV {m k b:Int} (h : 0≤k):∀ m' k',some (iT m k b)=some (m',k')→0≤k':=fun _ _ e=>by
 unfold iT at e
 cases e
 split <;> omega
theorem Jk {c m f r k:Int} (h : 0≤k):∀ m' k',some (nxP c m f r k)=some (m',k')→0≤k':=fun _ _ e=>by
 unfold nxP cnt at e
 cases e
 split <;> split <;> omega
theorem KI (h:bX ls) {x:Int×Int×Int} (e:(nt ls).ar=some x) : 1≤(nt ls).g:=(l7 A1 h).yes (by show (nt ls).ar.isSome=true;rw [e];rfl)
theorem jj {e:Hd} {ls':Lns} {pl':Option (Int×Int)} (k:bA C CS CH H e ls' pl') (f:Fr2 e.p e.l H H'):cB H H':=fun q xs h=>by
 obtain ⟨⟨dx,sv,hp,_⟩,hl,_⟩:=k
 exact f q _ h (fun z=>by rw [z,hp] at h;cases h) (fun z=>by rw [z,hl] at h;cases h)
theorem bA.fr2 {e:Hd} {ls':Lns} {pl':Option (Int×Int)} (h:bA C CS CH H d ls pl) (k:bA C CS CH H e ls' pl') (n1:d.p≠e.p) (n2:d.l≠e.l) (f:Fr2 e.p e.l H H'):bA C CS CH H' d ls pl:=by
 have ts:=jj k f
 obtain ⟨⟨dx,sv,hp,hpl⟩,hl,hL,⟨dy,tr,ms,h1,h2,pm⟩,⟨dz,h3⟩,hn⟩:=h
 obtain ⟨⟨dx',sv',hp',_⟩,hl',_⟩:=k
 have s1:¬ (("shape" : Str) = "name"):=by decide +kernel
 have s2:¬ (("counts" : Str) = "name"):=by decide +kernel
 refine ⟨⟨dx,sv,f _ _ hp n1 (fun z=>by rw [z,hl'] at hp;cases hp),hpl.ts ts⟩,f _ _ hl (fun z=>by rw [z,hp'] at hl;cases hl) n2,hL.ts ts,⟨dy,tr,ms,f _ _ h1 (fun z=>?_) (fun z=>by rw [z,hl'] at h1;cases h1),ts _ _ h2,pm⟩,⟨dz,f _ _ h3 (fun z=>?_) (fun z=>by rw [z,hl'] at h3;cases h3)⟩,hn⟩
 ·rw [z,hp'] at h1
  injection h1 with h1
  injection h1 with _ _ h1
  unfold hdF stF at h1
  injection h1 with h1 _
  injection h1 with h1 _
  exact s1 h1.symm
 ·rw [z,hp'] at h3
  injection h3 with h3
  injection h3 with _ _ h3
  unfold hdF shF at h3
  injection h3 with h3 _
  injection h3 with h3 _
  exact s2 h3.symm
end
inductive Op where
 | take (gr sl f e:Int)
 | gW (b:Int)
 | write (r:Int)
 | make (r:Int)
 | jG
 | rise
 | give
inductive Ou where
 | err (j:Nat)
 | non
 | bl (b:Bool)
 | int (n:Int)
 | pr (a b:Int)
abbrev Rs:=Ou×List Ln×Option (Int×Int)
def opF (d:Hd) (n:Nt) (g:Int) (pl:Option (Int×Int)):Op→Rs
 | .jG=>match pl with
  | none=>(.err 0,[],none)
  | some _=>(.non,[],none)
 | .rise=>match pl with
  | none=>(.non,[],some (max n.hd n.hr,0))
  | some p=>(.err 1,[],some p)
 | .take gr sl f e=>match pl with
  | none=>(.err 0,[],none)
  | some (m,k)=>if ("once" : Str)∈d.ws∧gr≤g then (.bl false,[],some (m,k)) else (.bl true,[.took gr sl f e],some (iT m k (bnd m k)))
 | .gW b=>match pl with
  | none=>(.err 0,[],none)
  | some (m,k)=>(.non,if ("spoken" : Str)∈d.ws∧n.hr < b then [.heard b] else [],some (iT m k b))
 | .write r=>match pl with
  | none=>(.err 0,[],none)
  | some (m,k)=>match n.ar with
   | none=>(.err 2,[],some (m,k))
   | some (_,f,e)=>if e≤due m f r then (.err 3,[],some (m,k)) else if r+d.far < due m f r then (.err 4,[],some (m,k)) else (.int (max n.hd (due m f r+d.room)),if n.hd < due m f r+d.room then [.held (due m f r+d.room)] else [],some (m,k))
 | .make r=>match pl with
  | none=>(.err 0,[],none)
  | some (m,k)=>match n.ar with
   | none=>(.err 2,[],some (m,k))
   | some (sl,f,e)=>if e≤due m f r then (.err 3,[],some (m,k)) else if r+d.far < due m f r then (.err 4,[],some (m,k)) else if ("ahead" : Str)∈d.ws∧n.hd≤due m f r then (.err 5,[],some (m,k)) else (.int (mk d.c d.s (due m f r) sl (cnt m f r k)),[],some (nxP d.c m f r k))
 | .give=>match pl with
  | none=>(.err 0,[],none)
  | some (m,k)=>match n.ar with
   | none=>(.err 2,[],some (m,k))
   | some (_,f,e)=>if cV f m k n.hd≥e then (.err 3,[],some (m,k)) else (.pr n.g (cV f m k n.hd),if ("ends" : Str)∈d.ws then [.ends n.g (cV f m k n.hd)] else [],some (m,k))
def qT (H:Hp) (v:V):Ou→Prop
 | .err _=>False
 | .non=>v = .non
 | .bl b=>v = .bl b
 | .int n=>v = .int n
 | .pr a b=>∃ t,v = .ref t∧H t=some (.tup [.int a,.int b])
theorem qT.ts {H H':Hp} {v:V} {o:Ou} (h:qT H v o) (s:cB H H'):qT H' v o:=by
 cases o with
 | err j=>exact h
 | non=>exact h
 | bl b=>exact h
 | int n=>exact h
 | pr a b=>obtain ⟨t,e,h⟩:=h;exact ⟨t,e,s _ _ h⟩
def ouD:Ou→Dt
 | .err _=>.non
 | .non=>.non
 | .bl b=>.bl b
 | .int n=>.int n
 | .pr a b=>.tup [.int a,.int b]
theorem qT.at {K:PySem.W.Frag} {H:Hp} {v:V} {o:Ou} (h:qT H v o):At K H v (ouD o):=by
 cases o with
 | err j=>exact h.elim
 | non=>rw [show v = .non from h];exact .non
 | bl b=>rw [show v = .bl b from h];exact .bl _
 | int n=>rw [show v = .int n from h];exact .int _
 | pr a b=>obtain ⟨t,rfl,h⟩:=h;exact .tup (SqT.of h) (.cons (.int _) (.cons (.int _) .nil))
def Le (H:Hp):Option Addr→Prop
 | none=>True
 | some d=>∃ fs,H d=some (.xd fs)
section
variable {P:Program} {w:World} {K:PySem.W.Frag} {mg:Str→Option Value} {base:Heap} {C CS CH CD CU CA CN CW CT CR:Addr} {d:Hd} {ls:Lns} {pl:Option (Int×Int)} {H:Hp} {Q:VK} {E:XK}
def AfH (C CS CH:Addr) (d:Hd) (ls:Lns) (pl:Option (Int×Int)) (op:Op) (H:Hp) (Q:VK):Prop:=∀ v o ls2 pl2 H',opF d (nt ls) (gmx ls) pl op=(o,ls2.map (·.2),pl2)→qT H' v o→bA C CS CH H' d (ls++ls2) pl2→cO (ls++ls2) pl2→ls2.length≤1→Fr2 d.p d.l H H'→Q v H'
def AfE (cs:List Addr) (d:Hd) (ls:Lns) (pl:Option (Int×Int)) (op:Op) (H:Hp) (E:XK):Prop:=∀ (j:Nat) (c:Addr) (dx:Option Addr) (H':Hp),cs[j]?=some c→opF d (nt ls) (gmx ls) pl op=(.err j,[],pl)→aM H H'→Le H' dx→E (.ref c) dx H'
theorem B7 {C CS CH:Addr} {H:Hp} {d:Hd} {ls:Lns} {pl:Option (Int×Int)} (h:bA C CS CH H d ls pl):bA C CS CH H d (ls++[]) pl:=by rw [List.append_nil];exact h
theorem ok0 {ls:Lns} {pl pl':Option (Int×Int)} (h:cO ls pl) (k0:∀ m k,pl'=some (m,k)→0≤k):cO (ls++[]) pl':=by rw [List.append_nil];exact h.any k0
theorem xN (hd:bA C CS CH H d ls pl) (hok:cO ls pl) (qe:AfE (ers CD CU CA CN CW CT) d ls pl .jG H E) (q:AfH C CS CH d ls pl .jG H Q):pI C CS CH CD [.ref d.p] H Q E:=
 ⟨d,ls,pl,rfl,hd,hok,fun z H' s=>qe 0 CD none H' rfl (by subst z;rfl) s trivial,fun z H' h f=>q .non .non [] none H' (by cases pl with | none=>cases z | some p=>rfl) rfl (B7 h) (ok0 hok (fun _ _ z=>nomatch z)) (Nat.zero_le _) f⟩
theorem xG (hd:bA C CS CH H d ls pl) (hok:cO ls pl) (qe:AfE (ers CD CU CA CN CW CT) d ls pl .rise H E) (q:AfH C CS CH d ls pl .rise H Q):pq C CS CH CU [.ref d.p] H Q E:=
 ⟨d,ls,pl,rfl,hd,hok,fun z H' s=>qe 1 CU none H' rfl (by cases pl with | none=>cases z | some p=>rfl) s trivial,fun z H' h f=>q .non .non [] _ H' (by subst z;rfl) rfl (B7 h) (ok0 hok (Eb (Int.le_refl 0))) (Nat.zero_le _) f⟩
theorem xE {gr sl f e:Int} {a:Addr} (hd:bA C CS CH H d ls pl) (hok:cO ls pl) (hl:ls.length≤397) (hg : 1≤gr) (ha:H a=some (.tup [.int sl,.int f,.int e])) (qe:AfE (ers CD CU CA CN CW CT) d ls pl (.take gr sl f e) H E) (q:AfH C CS CH d ls pl (.take gr sl f e) H Q):o9 C CS CH CD [.ref d.p,.int gr,.ref a] H Q E:=
 ⟨d,ls,pl,gr,sl,f,e,a,rfl,hd,hok,ha,fun z H' s=>qe 0 CD none H' rfl (by subst z;rfl) s trivial,
  fun m k z c1 c2 H' h f'=>q (.bl false) (.bl false) [] pl H' (by subst z;simp only [opF];rw [if_pos ⟨c1,c2⟩];rfl) rfl (B7 h) (ok0 hok hok.k0) (Nat.zero_le _) f',
  fun m k z c l H' h f'=>q (.bl true) (.bl true) [(l,.took gr sl f e)] _ H' (by subst z;simp only [opF];rw [if_neg c];rfl) rfl h (hok.snoc (x:=(l,Ln.took gr sl f e)) hl hg (pV (hok.k0 m k z))) (Nat.le_refl 1) f'⟩
theorem xK {b:Int} (hd:bA C CS CH H d ls pl) (hok:cO ls pl) (hl:ls.length≤397) (qe:AfE (ers CD CU CA CN CW CT) d ls pl (.gW b) H E) (q:AfH C CS CH d ls pl (.gW b) H Q):pF C CS CH CD [.ref d.p,.int b] H Q E:=
 ⟨d,ls,pl,b,rfl,hd,hok,fun z H' s=>qe 0 CD none H' rfl (by subst z;rfl) s trivial,fun m k z ls2 H' hs h f'=>by
  rcases hs with ⟨c1,c2,l,rfl⟩ | ⟨c,rfl⟩
  ·exact q .non .non _ _ H' (by subst z;simp only [opF];rw [if_pos ⟨c1,c2⟩];rfl) rfl h (hok.snoc (x:=(l,Ln.heard b)) hl trivial (pV (hok.k0 m k z))) (Nat.le_refl 1) f'
  ·exact q .non .non _ _ H' (by subst z;simp only [opF];rw [if_neg c];rfl) rfl h (ok0 hok (pV (hok.k0 m k z))) (Nat.zero_le _) f'⟩
theorem wc {r:Int} {op:Op} (hop:op = .write r∨op = .make r) (qe:AfE (ers CD CU CA CN CW CT) d ls pl op H E):∀ H',aM H H'→MkE CD CA CN CW H' pl (nt ls) d.far r E:=fun H' s=>
 ⟨fun z=>qe 0 CD none H' rfl (by subst z;rcases hop with rfl | rfl <;> rfl) s trivial,
  fun z y=>qe 2 CA none H' rfl (by cases pl with | none=>cases z | some p=>rcases hop with rfl | rfl <;> (simp only [opF];rw [y])) s trivial,
  fun m k sl f e z y c=>qe 3 CN none H' rfl (by subst z;rcases hop with rfl | rfl <;> (simp only [opF];rw [y];dsimp only;rw [if_pos c])) s trivial,
  fun m k sl f e z y c1 c2 dd H2 s2 hd=>qe 4 CW (some dd) H2 rfl (by subst z;rcases hop with rfl | rfl <;> (simp only [opF];rw [y];dsimp only;rw [if_neg c1,if_pos c2])) (s.trans s2) ⟨_,hd⟩⟩
theorem uq {r:Int} (hd:bA C CS CH H d ls pl) (hok:cO ls pl) (hl:ls.length≤397) (qe:AfE (ers CD CU CA CN CW CT) d ls pl (.write r) H E) (q:AfH C CS CH d ls pl (.write r) H Q):kL C CS CH CD CA CN CW [.ref d.p,.int r] H Q E:=
 ⟨d,ls,pl,r,rfl,hd,hok,wc (.inl rfl) qe,fun m k sl f e z y c1 c2 ls2 H' hs h f'=>by
  rcases hs with ⟨c,l,rfl⟩ | ⟨c,rfl⟩
  ·exact q _ (.int (max (nt ls).hd (due m f r+d.room))) _ _ H' (by subst z;simp only [opF];rw [y];dsimp only;rw [if_neg c1,if_neg c2,if_pos c];rfl) rfl h (hok.snoc (x:=(l,Ln.held (due m f r+d.room))) hl trivial hok.k0) (Nat.le_refl 1) f'
  ·exact q _ (.int (max (nt ls).hd (due m f r+d.room))) _ _ H' (by subst z;simp only [opF];rw [y];dsimp only;rw [if_neg c1,if_neg c2,if_neg c];rfl) rfl h (ok0 hok hok.k0) (Nat.zero_le _) f'⟩
theorem xH {r:Int} (hd:bA C CS CH H d ls pl) (hok:cO ls pl) (qe:AfE (ers CD CU CA CN CW CT) d ls pl (.make r) H E) (q:AfH C CS CH d ls pl (.make r) H Q):kN C CS CH CD CA CN CW CT [.ref d.p,.int r] H Q E:=
 ⟨d,ls,pl,r,rfl,hd,hok,wc (.inr rfl) qe,
  fun m k sl f e z y c1 c2 a1 a2 dd H' s hx=>qe 5 CT (some dd) H' rfl (by subst z;simp only [opF];rw [y];dsimp only;rw [if_neg c1,if_neg c2,if_pos ⟨a1,a2⟩]) s ⟨_,hx⟩,
  fun m k sl f e z y c1 c2 a H' h f'=>q _ (.int (mk d.c d.s (due m f r) sl (cnt m f r k))) [] _ H' (by subst z;simp only [opF];rw [y];dsimp only;rw [if_neg c1,if_neg c2,if_neg a];rfl) rfl (B7 h) (ok0 hok (Jk (hok.k0 m k z))) (Nat.zero_le _) f'⟩
theorem xM (hd:bA C CS CH H d ls pl) (hok:cO ls pl) (hl:ls.length≤397) (qe:AfE (ers CD CU CA CN CW CT) d ls pl .give H E) (q:AfH C CS CH d ls pl .give H Q):kO C CS CH CD CA CN [.ref d.p] H Q E:=
 ⟨d,ls,pl,rfl,hd,hok,fun z H' s=>qe 0 CD none H' rfl (by subst z;rfl) s trivial,
  fun z y H' s=>qe 2 CA none H' rfl (by cases pl with | none=>cases z | some p=>(simp only [opF];rw [y])) s trivial,
  fun m k sl f e z y c H' s=>qe 3 CN none H' rfl (by subst z;simp only [opF];rw [y];dsimp only;rw [if_pos c]) s trivial,
  fun m k sl f e z y c tv ls2 H' ht hs h f'=>by
  rcases hs with ⟨c1,l,rfl⟩ | ⟨c1,rfl⟩
  ·exact q _ (.pr (nt ls).g (cV f m k (nt ls).hd)) _ _ H' (by subst z;simp only [opF];rw [y];dsimp only;rw [if_neg c,if_pos c1];rfl) ⟨tv,rfl,ht⟩ h (hok.snoc (x:=(l,Ln.ends (nt ls).g (cV f m k (nt ls).hd))) hl (KI hok.good y) hok.k0) (Nat.le_refl 1) f'
  ·exact q _ (.pr (nt ls).g (cV f m k (nt ls).hd)) _ _ H' (by subst z;simp only [opF];rw [y];dsimp only;rw [if_neg c,if_neg c1];rfl) ⟨tv,rfl,ht⟩ h (ok0 hok hok.k0) (Nat.zero_le _) f'⟩
def Ju:Ln→Bool
 | .took _ _ _ _=>true
 | _=>false
def Ka:Ln→Int
 | .took g _ _ _=>g
 | _=>0
end
section
variable {C CS CH:Addr} {H H':Hp} {d:Hd} {r:Dr} {ls:Lns} {pl:Option (Int×Int)} {p:Addr} {b:Int}
theorem DrF.oth (h:DrF H r) (hh:bI H p b) (o:Oth p H H'):DrF H' r:=by
 obtain ⟨x,y,z,e,_⟩:=hh
 refine ⟨o _ _ h.1 fun z=>?_,o _ _ h.2 fun z=>?_⟩
 ·have:=h.1;rw [z,e] at this;cases this
 ·have:=h.2
  rw [z,e] at this
  injection this with this
  injection this with this
  cases hw:r.ws with
  | nil=>rw [hw] at this;cases this
  | cons x ls=>rw [hw] at this;injection this with this _;cases this
def FrX (p:Addr) (d:Hd) (H H':Hp):Prop:=∀ q o,H q=some o→q≠d.p→q≠d.l→q≠p→H' q=some o
theorem FrX.oth (o:Oth p H H'):FrX p d H H':=fun q u h _ _ n=>o q u h n
theorem FrX.fr (f:Fr2 d.p d.l H H'):FrX p d H H':=fun q u h n m _=>f q u h n m
theorem FrX.trans {H1:Hp} (f:FrX p d H H1) (g:FrX p d H1 H'):FrX p d H H':=fun q u h n m k=>g q u (f q u h n m k) n m k
theorem FrX.same (s:aM H H'):FrX p d H H':=fun q u h _ _ _=>s q u h
end
section
variable {P:Program} {w:World} {K:PySem.W.Frag} {mg:Str→Option Value} {base:Heap} {CX:CXT} {C CS CH CD CU CA CN CW CT CR:Addr}
theorem pO:ao ["_law_drawn_here"] ["_law_drawn_here"] (ai (top 74)):=by walk_at "s"
def gF (C CS:Addr):Sp:=fun vs H Q _=>∃ r:Dr,vs=[.ref r.t]∧DrF H r∧DrN r∧∀ ps sp H',nF C CS H' ps sp r.c r.s r.far r.room 5 r.ws→aM H H'→Q (.ref ps) H'
theorem p7 (D:Dat K mg "_law_settings" "_law_settings" (top 74) ["_law_drawn_here"]) (BT:Bt mg) (NE:bf CX) (qb:Mak P w K mg base CX "Shape" C 4 ["self", "counts", "slots"] (pe C)) (jd:Mak P w K mg base CX "Settings" CS 4 ["self", "shape", "far", "room", "term", "rules"] (i8 CS)):Cal P w K mg base CX "_law_settings" 6 ["_law_drawn_here"] (gF C CS):=by
 have S:=pO
 walk_at "d"
 ·obtain ⟨r,rfl,_⟩:=h
  rfl
 obtain ⟨r,rfl,hd,hn,q⟩:=h
 obtain ⟨hd1,hd2⟩:=id hd
 refine ⟨_,(@ak _ _ _ (@az _ _ _ _ (@sd _ _ _ _ _ _ _ _ _ _ _ _ _ jd (hr.mono (by first | decide | omega)) NE.pass (@aa _ _ _ _ _ (@sd _ _ _ _ _ _ _ _ _ _ _ _ _ qb (hr.mono (by first | decide | omega)) NE.pass (@aa _ _ _ _ _ (@ay _ _ _ _ _ _ _ (@aE _) (@pv _ 0 _ _ (by rfl) (by first | exact Or.inl rfl | exact Or.inr (Or.inl rfl) | exact Or.inr (Or.inr rfl)) (by decide) (by decide)) (@af _ _ _ _) (fun _ _=>rfl)) (@aa _ _ _ _ _ (@ay _ _ _ _ _ _ _ (@aE _) (@pv _ 0 _ _ (by rfl) (by first | exact Or.inl rfl | exact Or.inr (Or.inl rfl) | exact Or.inr (Or.inr rfl)) (by decide) (by decide)) (@af _ _ _ _) (fun _ _=>rfl)) (@ah _) (by rfl)) (by rfl)) (by rfl) (by decide) (by rfl) (by rfl)) (@aa _ _ _ _ _ (@ay _ _ _ _ _ _ _ (@aE _) (@pv _ 0 _ _ (by rfl) (by first | exact Or.inl rfl | exact Or.inr (Or.inl rfl) | exact Or.inr (Or.inr rfl)) (by decide) (by decide)) (@af _ _ _ _) (fun _ _=>rfl)) (@aa _ _ _ _ _ (@ay _ _ _ _ _ _ _ (@aE _) (@pv _ 0 _ _ (by rfl) (by first | exact Or.inl rfl | exact Or.inr (Or.inl rfl) | exact Or.inr (Or.inr rfl)) (by decide) (by decide)) (@af _ _ _ _) (fun _ _=>rfl)) (@aa _ _ _ _ _ (@af _ _ _ _) (@aa _ _ _ _ _ (@iJ _ _ _ _ _ _ _ _ _ (@mE _) rfl BT.list_ L3.kZ (@aa _ _ _ _ _ (@ay _ _ _ _ _ _ _ (@aE _) (@pv _ 0 _ _ (by rfl) (by first | exact Or.inl rfl | exact Or.inr (Or.inl rfl) | exact Or.inr (Or.inr rfl)) (by decide) (by decide)) (@af _ _ _ _) (fun _ _=>rfl)) (@ah _) (by rfl)) (by decide) (by decide) (by rfl) (by rfl)) (@ah _) (by rfl)) (by rfl)) (by rfl)) (by rfl)) (by rfl)) (by rfl) (by decide) (by rfl) (by rfl)))),?_⟩
 try dsimp only [aY]
 have L:=(Led.start H (fun _=>False)).more (aO r.t [_,_,_,_,_,_]) hd1
 walk_at "go"
 refine xF L hn.sh fun sp H1 nsp L s1=>?_
 walk_at "go"
 refine lX L (.inl (SqL.of (s1 _ _ hd2))) fun b H2 nb L s2=>?_
 walk_at "go"
 refine oY (PP:=fun _=>False) (H0:=H) (l:=[]) (fs:=[]) hn.st (L.eo (p:=b) (by walk_at "put")) hn.ru fun x H3 nx hst s3=>?_
 obtain ⟨o,eo,dx,rfl⟩:=L.at_ (sp,B8 C r.c r.s) (by walk_at "mem")
 exact q x sp H3 ⟨hst,⟨dx,s3 _ _ eo⟩,hn.sh⟩ ((s1.trans s2).trans s3)
theorem Gm:ao ["_law_ann", "_law_drawn_here", "_law_at_here"] ["_law_ann", "_law_drawn_here"] (ai (top 75)):=by walk_at "s"
def rG (C CS CH:Addr):Sp:=fun vs H Q _=>∃ (d:Hd) (t:Addr) (s a:Int) (ls:Lns) (pl:Option (Int×Int)),vs=[.ref d.p,.ref t]∧bA C CS CH H d ls pl∧bX ls∧mU H t s a∧∀ i H',aM H H'→Q (.int i) H'
theorem GC (D:Dat K mg "_law_at" "_law_at" (top 75) ["_law_ann", "_law_drawn_here"]) (BT:Bt mg) (NE:bf CX) (gy:bF P w K mg base CX CH "place" 1 ["self"] (pA C CS CH)) (bZ:bF P w K mg base CX CH "area" 6 ["self"] (lA C CS CH)):Cal P w K mg base CX "_law_at" 7 ["_law_ann", "_law_drawn_here"] (rG C CS CH):=by
 have S:=Gm
 walk_at "d"
 ·obtain ⟨d,t,s,a,ls,pl,rfl,_⟩:=h
  rfl
 obtain ⟨d,t,s',a,ls,pl,rfl,hd,hg,⟨c,v1,v2,v3,hdr⟩,q⟩:=h
 obtain ⟨⟨dx,sv,hp,_⟩,_⟩:=id hd
 refine ⟨_,(@aj _ _ _ _ _ (@aL _ _ 2 _ _ _ _ S.nd rfl (by first | exact Or.inl rfl | exact Or.inr rfl) (@ay _ _ _ _ _ _ _ (@aE _) (@pv _ 1 _ _ (by rfl) (by first | exact Or.inl rfl | exact Or.inr (Or.inl rfl) | exact Or.inr (Or.inr rfl)) (by decide) (by decide)) (@af _ _ _ _) (fun _ _=>rfl)) (by rfl) (by first | exact .inl rfl | exact .inr rfl | assumption)) (@aj _ _ _ _ _ (@bg _ _ _ _ _ _ _ _ (@e9 _ _ _ _ _ _ (@kT _ _ _ _ _ (@cj _ _ _ _ _ _ _ _ _ _ _ _ _ gy (hr.mono (by first | decide | omega)) NE.pass (@pv _ 0 _ _ (by rfl) (by first | exact Or.inl rfl | exact Or.inr (Or.inl rfl) | exact Or.inr (Or.inr rfl)) (by decide) (by decide)) (by rfl))) (by first | exact jx _ (by decide) (by decide) | rfl)) (@ak _ _ _ (@aL _ _ 2 _ _ _ _ S.nd rfl (by first | exact Or.inl rfl | exact Or.inr rfl) (@aX _ _ _ _ _ _ _ _ _ (@iY _ rfl) rfl BT.max L3.cI (@aa _ _ _ _ _ (@pv _ 2 _ _ (by rfl) (by first | exact Or.inl rfl | exact Or.inr (Or.inl rfl) | exact Or.inr (Or.inr rfl)) (by decide) (by decide)) (@aa _ _ _ _ _ (@ay _ _ _ _ _ _ _ (@aE _) (@cj _ _ _ _ _ _ _ _ _ _ _ _ _ gy (hr.mono (by first | decide | omega)) NE.pass (@pv _ 0 _ _ (by rfl) (by first | exact Or.inl rfl | exact Or.inr (Or.inl rfl) | exact Or.inr (Or.inr rfl)) (by decide) (by decide)) (by rfl)) (@af _ _ _ _) (fun _ _=>rfl)) (@ah _) (by rfl)) (by rfl)) (by decide) (by decide) (by rfl) (by rfl)) (by rfl) (by first | exact .inl rfl | exact .inr rfl | assumption))) (@aK _)) (@aj _ _ _ _ _ (@bg _ _ _ _ _ _ _ _ (@e9 _ _ _ _ _ _ (@kT _ _ _ _ _ (@cj _ _ _ _ _ _ _ _ _ _ _ _ _ bZ (hr.mono (by first | decide | omega)) NE.pass (@pv _ 0 _ _ (by rfl) (by first | exact Or.inl rfl | exact Or.inr (Or.inl rfl) | exact Or.inr (Or.inr rfl)) (by decide) (by decide)) (by rfl))) (by first | exact jx _ (by decide) (by decide) | rfl)) (@ak _ _ _ (@aL _ _ 2 _ _ _ _ S.nd rfl (by first | exact Or.inl rfl | exact Or.inr rfl) (@aX _ _ _ _ _ _ _ _ _ (@iY _ rfl) rfl BT.max L3.cI (@aa _ _ _ _ _ (@pv _ 2 _ _ (by rfl) (by first | exact Or.inl rfl | exact Or.inr (Or.inl rfl) | exact Or.inr (Or.inr rfl)) (by decide) (by decide)) (@aa _ _ _ _ _ (@ay _ _ _ _ _ _ _ (@aE _) (@cj _ _ _ _ _ _ _ _ _ _ _ _ _ bZ (hr.mono (by first | decide | omega)) NE.pass (@pv _ 0 _ _ (by rfl) (by first | exact Or.inl rfl | exact Or.inr (Or.inl rfl) | exact Or.inr (Or.inr rfl)) (by decide) (by decide)) (by rfl)) (@af _ _ _ _) (fun _ _=>rfl)) (@ah _) (by rfl)) (by rfl)) (by decide) (by decide) (by rfl) (by rfl)) (by rfl) (by first | exact .inl rfl | exact .inr rfl | assumption))) (@aK _)) (@ak _ _ _ (@az _ _ _ _ (@pv _ 2 _ _ (by rfl) (by first | exact Or.inl rfl | exact Or.inr (Or.inl rfl) | exact Or.inr (Or.inr rfl)) (by decide) (by decide))))))),?_⟩
 try dsimp only [aY]
 have Cw:=Cw
 have L:=(Led.start H (fun _=>False)).more (aO t [_,_,_,_,_,_]) hdr
 walk_at "one"
 try dsimp only [bE]
 refine g_seq ?_
 walk_at "one"
 try dsimp only [bE]
 refine cE (fun σ H'=>∃ i:Int,σ=[some (.ref d.p),some (.ref t),some (.int i)]∧H'=H) (fun nx kk=>?_) ?_
 ·walk_at "go"
  refine aZ hp wZ ?_
  walk_at "go"
  refine ⟨d,ls,pl,rfl,hd,fun v hv=>?_⟩
  walk_at "go"
  rcases hv with ⟨e,rfl⟩ | ⟨tp,m,k,e,rfl,htp⟩
  ·refine qk rfl ?_
   walk_at "go"
   exact kk _ _ ⟨_,rfl,rfl⟩
  ·refine qj (fun z=>nomatch z) ?_
   walk_at "go"
   refine aZ hp wZ ?_
   walk_at "go"
   refine ⟨d,ls,pl,rfl,hd,fun v hv=>?_⟩
   rcases hv with ⟨e2,rfl⟩ | ⟨tq,m2,k2,e2,rfl,htq⟩
   ·rw [e] at e2;cases e2
   have M:=L.more (aO tq [_,_]) htq
   clear L
   walk_at "go"
   exact kk _ _ ⟨_,rfl,rfl⟩
 clear L
 rintro σ HA ⟨i,rfl,rfl⟩
 refine cE (fun σ H'=>∃ i:Int,σ=[some (.ref d.p),some (.ref t),some (.int i)]∧aM HA H') (fun nx kk=>?_) ?_
 ·walk_at "go"
  refine aZ hp lV ?_
  walk_at "go"
  refine ⟨d,ls,pl,rfl,hd,hg,fun v H1 hv s1=>?_⟩
  walk_at "go"
  rcases hv with ⟨e,rfl⟩ | ⟨ta,sl,f',e',e,rfl,hta⟩
  ·refine qk rfl ?_
   walk_at "go"
   exact kk _ _ ⟨_,rfl,s1⟩
  ·refine qj (fun z=>nomatch z) ?_
   walk_at "go"
   refine aZ (s1 _ _ hp) lV ?_
   walk_at "go"
   refine ⟨d,ls,pl,rfl,hd.same s1,hg,fun v H2 hv s2=>?_⟩
   rcases hv with ⟨e2,rfl⟩ | ⟨tq,sl2,f2,e2',e2,rfl,htq⟩
   ·rw [e] at e2;cases e2
   have M:=(Led.start H2 (fun _=>False)).more (aO tq [_,_,_]) htq
   walk_at "go"
   exact kk _ _ ⟨_,rfl,s1.trans s2⟩
 rintro σ HB ⟨i2,rfl,sB⟩
 walk_at "go"
 exact q _ _ sB
theorem rN:ao ["_law_hand_here", "_law_ann", "_law_drawn_here", "_law_more"] ["_law_hand_here", "_law_ann", "_law_drawn_here"] (ai (top 76)):=by walk_at "s"
def c5 (C CS CH:Addr):Sp:=fun vs H Q _=>∃ (p:Addr) (b:Int) (d:Hd) (t:Addr) (s a:Int) (ls:Lns) (pl:Option (Int×Int)),vs=[.ref p,.ref d.p,.ref t]∧bI H p b∧b≤1000000∧bA C CS CH H d ls pl∧bX ls∧mU H t s a∧∀ i H',0≤i→bI H' p (b+1024)→Oth p H H'→Q (.int i) H'
theorem sE (D:Dat K mg "_law_reading" "_law_reading" (top 76) ["_law_hand_here", "_law_ann", "_law_drawn_here"]) (BT:Bt mg) (NE:bf CX) (aH:Cal P w K mg base CX "_law_pick" 11 ["_law_hand_here", "_law_many"] dQ) (dI:Cal P w K mg base CX "_law_at" 7 ["_law_ann", "_law_drawn_here"] (rG C CS CH)):Cal P w K mg base CX "_law_reading" 12 ["_law_hand_here", "_law_ann", "_law_drawn_here"] (c5 C CS CH):=by
 have S:=rN
 walk_at "d"
 ·obtain ⟨p,b,d,t,s,a,ls,pl,rfl,_⟩:=h
  rfl
 obtain ⟨p,b,d,t,s',a,ls,pl,rfl,hh,hb,hd,hg,hdr,q⟩:=h
 refine ⟨_,(@aj _ _ _ _ _ (@aL _ _ 3 _ _ _ _ S.nd rfl (by first | exact Or.inl rfl | exact Or.inr rfl) (@ay _ _ _ _ _ _ _ (@bu _) (@br _ _ _ _ (@aa _ _ _ _ _ (@af _ _ _ _) (@aa _ _ _ _ _ (@af _ _ _ _) (@aa _ _ _ _ _ (@af _ _ _ _) (@aa _ _ _ _ _ (@af _ _ _ _) (@aa _ _ _ _ _ (@af _ _ _ _) (@aa _ _ _ _ _ (@af _ _ _ _) (@aa _ _ _ _ _ (@af _ _ _ _) (@aa _ _ _ _ _ (@af _ _ _ _) (@aa _ _ _ _ _ (@af _ _ _ _) (@aa _ _ _ _ _ (@fE _ _ _ _ _ _ (@dD _) (@af _ _ _ _)) (@aa _ _ _ _ _ (@fE _ _ _ _ _ _ (@dD _) (@af _ _ _ _)) (@aa _ _ _ _ _ (@fE _ _ _ _ _ _ (@dD _) (@af _ _ _ _)) (@aa _ _ _ _ _ (@aP _ _ _ _ _ _ _ _ (@fU _) (@af _ _ _ _) (@af _ _ _ _)) (@aa _ _ _ _ _ (@af _ _ _ _) (@aa _ _ _ _ _ (@af _ _ _ _) (@aa _ _ _ _ _ (@af _ _ _ _) (@ah _) (by rfl)) (by rfl)) (by rfl)) (by rfl)) (by rfl)) (by rfl)) (by rfl)) (by rfl)) (by rfl)) (by rfl)) (by rfl)) (by rfl)) (by rfl)) (by rfl)) (by rfl)) (by rfl))) (@aG _ _ _ _ _ _ _ _ _ _ _ _ aH (hr.mono (by first | decide | omega)) NE.pass (@aa _ _ _ _ _ (@pv _ 0 _ _ (by rfl) (by first | exact Or.inl rfl | exact Or.inr (Or.inl rfl) | exact Or.inr (Or.inr rfl)) (by decide) (by decide)) (@aa _ _ _ _ _ (@af _ _ _ _) (@ah _) (by rfl)) (by rfl)) (by rfl) (by decide) (by rfl) (by rfl)) (fun _ _=>rfl)) (by rfl) (by first | exact .inl rfl | exact .inr rfl | assumption)) (@ak _ _ _ (@az _ _ _ _ (@aX _ _ _ _ _ _ _ _ _ (@iY _ rfl) rfl BT.max L3.cI (@aa _ _ _ _ _ (@af _ _ _ _) (@aa _ _ _ _ _ (@aP _ _ _ _ _ _ _ _ (@bK _) (@aG _ _ _ _ _ _ _ _ _ _ _ _ dI (hr.mono (by first | decide | omega)) NE.pass (@aa _ _ _ _ _ (@pv _ 1 _ _ (by rfl) (by first | exact Or.inl rfl | exact Or.inr (Or.inl rfl) | exact Or.inr (Or.inr rfl)) (by decide) (by decide)) (@aa _ _ _ _ _ (@pv _ 2 _ _ (by rfl) (by first | exact Or.inl rfl | exact Or.inr (Or.inl rfl) | exact Or.inr (Or.inr rfl)) (by decide) (by decide)) (@ah _) (by rfl)) (by rfl)) (by rfl) (by decide) (by rfl) (by rfl)) (@pv _ 3 _ _ (by rfl) (by first | exact Or.inl rfl | exact Or.inr (Or.inl rfl) | exact Or.inr (Or.inr rfl)) (by decide) (by decide))) (@ah _) (by rfl)) (by rfl)) (by decide) (by decide) (by rfl) (by rfl))))),?_⟩
 try dsimp only [aY]
 have tp6:=tp6
 have L:=eL hh
 walk_at "go"
 refine bD L' (by walk_at "put") (by decide) (by decide) (by omega) fun r1 H1 w0 w1 L _=>?_
 obtain ⟨v,hv,ev⟩:=iw (ns:=[0,0,0,0,1,1,2,3,7,-1,-3,-40,10 ^ 6,0,1,0]) w0 (show r1 < 16 by omega)
 refine g5 L .head ev ?_
 clear L'
 walk_at "go"
 have oo:Oth p H H1:=L.fr
 refine ⟨d,t,s',a,ls,pl,rfl,hd.oth hh oo,hg,hdr.ts (hh.ts oo).ts,fun i H2 s2=>?_⟩
 have M:=L.keep s2
 clear L
 walk_at "go"
 exact q _ _ (by omega) (cD.at (M.at_ (p,cD _) (by walk_at "mem"))) M.fr
theorem ye:ao ["_law_hand_here", "_law_ann", "_law_drawn_here"] ["_law_hand_here", "_law_ann", "_law_drawn_here"] (ai (top 77)):=by walk_at "s"
theorem yE (D:Dat K mg "_law_bound" "_law_bound" (top 77) ["_law_hand_here", "_law_ann", "_law_drawn_here"]) (BT:Bt mg) (NE:bf CX) (aH:Cal P w K mg base CX "_law_pick" 11 ["_law_hand_here", "_law_many"] dQ) (dI:Cal P w K mg base CX "_law_at" 7 ["_law_ann", "_law_drawn_here"] (rG C CS CH)):Cal P w K mg base CX "_law_bound" 12 ["_law_hand_here", "_law_ann", "_law_drawn_here"] (c5 C CS CH):=by
 have S:=ye
 walk_at "d"
 ·obtain ⟨p,b,d,t,s,a,ls,pl,rfl,_⟩:=h
  rfl
 obtain ⟨p,b,d,t,s',a,ls,pl,rfl,hh,hb,hd,hg,hdr,q⟩:=h
 refine ⟨_,(@ak _ _ _ (@az _ _ _ _ (@aX _ _ _ _ _ _ _ _ _ (@iY _ rfl) rfl BT.max L3.cI (@aa _ _ _ _ _ (@af _ _ _ _) (@aa _ _ _ _ _ (@aP _ _ _ _ _ _ _ _ (@bK _) (@aG _ _ _ _ _ _ _ _ _ _ _ _ dI (hr.mono (by first | decide | omega)) NE.pass (@aa _ _ _ _ _ (@pv _ 1 _ _ (by rfl) (by first | exact Or.inl rfl | exact Or.inr (Or.inl rfl) | exact Or.inr (Or.inr rfl)) (by decide) (by decide)) (@aa _ _ _ _ _ (@pv _ 2 _ _ (by rfl) (by first | exact Or.inl rfl | exact Or.inr (Or.inl rfl) | exact Or.inr (Or.inr rfl)) (by decide) (by decide)) (@ah _) (by rfl)) (by rfl)) (by rfl) (by decide) (by rfl) (by rfl)) (@ay _ _ _ _ _ _ _ (@bu _) (@br _ _ _ _ (@aa _ _ _ _ _ (@af _ _ _ _) (@aa _ _ _ _ _ (@af _ _ _ _) (@aa _ _ _ _ _ (@af _ _ _ _) (@aa _ _ _ _ _ (@af _ _ _ _) (@aa _ _ _ _ _ (@af _ _ _ _) (@aa _ _ _ _ _ (@fE _ _ _ _ _ _ (@dD _) (@af _ _ _ _)) (@aa _ _ _ _ _ (@fE _ _ _ _ _ _ (@dD _) (@af _ _ _ _)) (@aa _ _ _ _ _ (@aP _ _ _ _ _ _ _ _ (@fU _) (@af _ _ _ _) (@af _ _ _ _)) (@ah _) (by rfl)) (by rfl)) (by rfl)) (by rfl)) (by rfl)) (by rfl)) (by rfl)) (by rfl))) (@aG _ _ _ _ _ _ _ _ _ _ _ _ aH (hr.mono (by first | decide | omega)) NE.pass (@aa _ _ _ _ _ (@pv _ 0 _ _ (by rfl) (by first | exact Or.inl rfl | exact Or.inr (Or.inl rfl) | exact Or.inr (Or.inr rfl)) (by decide) (by decide)) (@aa _ _ _ _ _ (@af _ _ _ _) (@ah _) (by rfl)) (by rfl)) (by rfl) (by decide) (by rfl) (by rfl)) (fun _ _=>rfl))) (@ah _) (by rfl)) (by rfl)) (by decide) (by decide) (by rfl) (by rfl)))),?_⟩
 try dsimp only [aY]
 have tp9:(10:Int) ^ Int.toNat 9=10 ^ 9:=rfl
 walk_at "go"
 refine ⟨d,t,s',a,ls,pl,rfl,hd,hg,hdr,fun i H2 s2=>?_⟩
 have L:=(eL hh).keep s2
 walk_at "go"
 refine bD L' (by walk_at "put") (by decide) (by decide) (by omega) fun r1 H1 w0 w1 L _=>?_
 obtain ⟨v,hv,ev⟩:=iw (ns:=[0,1,1,2,5,-1,-9,10 ^ 9]) w0 (show r1 < 8 by omega)
 refine g5 L .head ev ?_
 clear L'
 walk_at "go"
 exact q _ _ (by omega) (cD.at (L.at_ (p,cD _) (by walk_at "mem"))) L.fr
theorem yd:ao ["_law_hand_here", "_law_ann"] ["_law_hand_here", "_law_ann"] (ai (top 78)):=by walk_at "s"
def lu (C CS CH:Addr):Sp:=fun vs H Q _=>∃ (p:Addr) (b:Int) (d:Hd) (ls:Lns) (pl:Option (Int×Int)),vs=[.ref p,.ref d.p]∧bI H p b∧b≤1000000∧bA C CS CH H d ls pl∧cO ls pl∧∀ i H',1≤i→bI H' p (b+1024)→Oth p H H'→Q (.int i) H'
theorem yD (D:Dat K mg "_law_grant" "_law_grant" (top 78) ["_law_hand_here", "_law_ann"]) (BT:Bt mg) (NE:bf CX) (aH:Cal P w K mg base CX "_law_pick" 11 ["_law_hand_here", "_law_many"] dQ) (gC:Cal P w K mg base CX "_law_greatest" 2 ["_law_lines"] (gG K)) (bQ:bF P w K mg base CX CH "note" 1 ["self"] (lq C CS CH)):Cal P w K mg base CX "_law_grant" 12 ["_law_hand_here", "_law_ann"] (lu C CS CH):=by
 have S:=yd
 walk_at "d"
 ·obtain ⟨p,b,d,ls,pl,rfl,_⟩:=h
  rfl
 obtain ⟨p,b,d,ls,pl,rfl,hh,hb,hd,hok,q⟩:=h
 obtain ⟨⟨dx,sv,hp,_⟩,_,hL,_⟩:=id hd
 have hln:=hok.len
 refine ⟨_,(@ak _ _ _ (@az _ _ _ _ (@aX _ _ _ _ _ _ _ _ _ (@iY _ rfl) rfl BT.max L3.cI (@aa _ _ _ _ _ (@af _ _ _ _) (@aa _ _ _ _ _ (@aP _ _ _ _ _ _ _ _ (@bK _) (@aG _ _ _ _ _ _ _ _ _ _ _ _ gC (hr.mono (by first | decide | omega)) NE.pass (@aa _ _ _ _ _ (@cj _ _ _ _ _ _ _ _ _ _ _ _ _ bQ (hr.mono (by first | decide | omega)) NE.pass (@pv _ 1 _ _ (by rfl) (by first | exact Or.inl rfl | exact Or.inr (Or.inl rfl) | exact Or.inr (Or.inr rfl)) (by decide) (by decide)) (by rfl)) (@ah _) (by rfl)) (by rfl) (by decide) (by rfl) (by rfl)) (@ay _ _ _ _ _ _ _ (@bu _) (@br _ _ _ _ (@aa _ _ _ _ _ (@af _ _ _ _) (@aa _ _ _ _ _ (@af _ _ _ _) (@aa _ _ _ _ _ (@af _ _ _ _) (@aa _ _ _ _ _ (@af _ _ _ _) (@aa _ _ _ _ _ (@fE _ _ _ _ _ _ (@dD _) (@af _ _ _ _)) (@aa _ _ _ _ _ (@af _ _ _ _) (@ah _) (by rfl)) (by rfl)) (by rfl)) (by rfl)) (by rfl)) (by rfl))) (@aG _ _ _ _ _ _ _ _ _ _ _ _ aH (hr.mono (by first | decide | omega)) NE.pass (@aa _ _ _ _ _ (@pv _ 0 _ _ (by rfl) (by first | exact Or.inl rfl | exact Or.inr (Or.inl rfl) | exact Or.inr (Or.inr rfl)) (by decide) (by decide)) (@aa _ _ _ _ _ (@af _ _ _ _) (@ah _) (by rfl)) (by rfl)) (by rfl) (by decide) (by rfl) (by rfl)) (fun _ _=>rfl))) (@ah _) (by rfl)) (by rfl)) (by decide) (by decide) (by rfl) (by rfl)))),?_⟩
 try dsimp only [aY]
 walk_at "go"
 refine aZ hp j0 ?_
 walk_at "go"
 refine ⟨d,ls,pl,rfl,hd,fun nb H1 _ hnb s1=>?_⟩
 walk_at "go"
 refine ⟨nb,ls,rfl,SqL.of hnb,hL.same s1,by omega,fun H2 s2=>?_⟩
 have L:=(eL hh).keep (s1.trans s2)
 walk_at "go"
 refine bD L' (by walk_at "put") (by decide) (by decide) (by omega) fun r1 H3 w0 w1 L _=>?_
 obtain ⟨v,hv,ev⟩:=iw (ns:=[1,1,2,0,-1,5]) w0 (show r1 < 6 by omega)
 refine g5 L .head ev ?_
 clear L'
 walk_at "go"
 exact q _ _ (by omega) (cD.at (L.at_ (p,cD _) (by walk_at "mem"))) L.fr
end
structure Kn where
 ms:List Int
 hs:List Int
 gv:List (Int×Int)
 mo:Int
 gr:Int
 ar:Option (Int×Int×Int)
def Kn.nil:Kn:=⟨[],[],[],0,0,none⟩
structure J (c s:Int) (n:Nt) (g:Int) (pl:Option (Int×Int)) (κ : Kn):Prop where
 c1 : 1≤c
 s1 : 1≤s
 mo : κ.mo=g
 gr : κ.gr=n.g
 ng:n.g=g
 no:n.ar=none→κ.ar=none
 ar:∀ sl f e,n.ar=some (sl,f,e)→0≤sl∧sl < s∧(∃ e0,κ.ar=some (sl,f,e0)∧e≤e0)∧∀ x,(n.g,x)∈κ.gv→e≤x∧e≤max f (max n.hd n.hr)
 ks:∀ x∈κ.gv,x.1≤g
 hs:∀ b∈κ.hs,b≤n.hr
 r0 : 0≤n.hr
 up:∀ m k,pl=some (m,k)→n.hr≤m∧0≤k∧k < c∧bnd m k≤max n.hd n.hr
 ma:∀ M,κ.ms.getLast?=some M→∃ mo sl co,M=Law.mk c s mo sl co∧0≤sl∧sl < s∧0≤co∧co < c∧mo < n.hd∧∀ m k,pl=some (m,k)→mo < m∨(mo=m∧co < k∧∃ f e,n.ar=some (sl,f,e))
section
variable {c s g:Int} {n n':Nt} {pl:Option (Int×Int)} {κ : Kn}
theorem J.nil (hc : 1≤c) (hs : 1≤s):J c s Nt.nil 0 (some (0,0)) Kn.nil where
 c1:=hc
 s1:=hs
 mo:=rfl
 gr:=rfl
 ng:=rfl
 no:=fun _=>rfl
 ar:=fun _ _ _ e=>by cases e
 ks:=fun _ h=>by cases h
 hs:=fun _ h=>by cases h
 r0:=Int.le_refl _
 up:=fun m k e=>by cases e;exact ⟨Int.le_refl _,Int.le_refl _,by omega,by decide⟩
 ma:=fun M e=>by cases e
theorem J.jG (h:J c s n g pl κ):J c s n g none κ:=
 { h with
  up:=fun _ _ e=>by cases e
  ma:=fun M e=>by
   obtain ⟨mo,sl,co,a1,a2,a3,a4,a5,a6,_⟩:=h.ma M e
   exact ⟨mo,sl,co,a1,a2,a3,a4,a5,a6,fun _ _ e=>by cases e⟩ }
theorem J.rise (h:J c s n g pl κ):J c s n g (some (max n.hd n.hr,0)) κ:=
 { h with
  up:=fun m k e=>by
   cases e
   have:=h.c1
   refine ⟨by omega,Int.le_refl _,by omega,?_⟩
   unfold bnd;rw [if_pos rfl];exact Int.le_refl _
  ma:=fun M e=>by
   obtain ⟨mo,sl,co,a1,a2,a3,a4,a5,a6,_⟩:=h.ma M e
   exact ⟨mo,sl,co,a1,a2,a3,a4,a5,a6,fun _ _ e=>by cases e;exact .inl (by omega)⟩ }
theorem J.take {m k gr sl f e:Int} (h:J c s n g (some (m,k)) κ) (hg:¬ gr≤g) (h0 : 0≤sl) (h1:sl < s):J c s (n.step (.took gr sl f e)) gr (some (iT m k (bnd m k))) { κ with mo:=gr,gr:=gr,ar:=some (sl,f,e) }:=by
 obtain ⟨u1,u2,u3,u4⟩:=h.up m k rfl
 refine { c1:=h.c1,s1:=h.s1,mo:=rfl,gr:=rfl,ng:=rfl,no:=(fun z=>by cases z),ar:=fun sl' f' e' z=>?_,ks:=fun x hx=>?_,hs:=h.hs,r0:=h.r0,up:=fun m' k' z=>?_,ma:=fun M eM=>?_ }
 ·cases z
  refine ⟨h0,h1,⟨_,rfl,Int.le_refl _⟩,fun x hx=>?_⟩
  have:=h.ks _ hx
  exact absurd this hg
 ·have:=h.ks x hx
  omega
 ·cases z
  have hc:=h.c1
  unfold bnd at u4
  show n.hr≤_∧_∧_∧_≤max n.hd n.hr
  unfold bnd
  by_cases k0:k=0
  ·rw [if_pos k0] at u4
   simp only [if_pos k0,if_neg (Int.lt_irrefl m)]
   exact ⟨u1,u2,u3,u4⟩
  ·rw [if_neg k0] at u4
   simp only [if_neg k0,if_pos (show m < m+1 by omega),if_pos (rfl:(0:Int)=0)]
   exact ⟨by omega,Int.le_refl _,by omega,u4⟩
 ·obtain ⟨mo,sl',co,a1,a2,a3,a4,a5,a6,a7⟩:=h.ma M eM
  refine ⟨mo,sl',co,a1,a2,a3,a4,a5,a6,fun m' k' z=>.inl ?_⟩
  cases z
  unfold bnd
  have:=a7 m k rfl
  by_cases k0:k=0
  ·simp only [if_pos k0,if_neg (Int.lt_irrefl m)]
   rcases this with h | ⟨_,h,_⟩ <;> omega
  ·simp only [if_neg k0,if_pos (show m < m+1 by omega)]
   rcases this with h | ⟨h,_⟩ <;> omega
theorem J.gW {m k b:Int} (h:J c s n g (some (m,k)) κ) (e1:n'.g=n.g) (e2:n'.ar=n.ar) (e3:n'.hd=n.hd) (e4:n'.hr=max n.hr b):J c s n' g (some (iT m k b)) { κ with hs:=κ.hs++[b] }:=by
 obtain ⟨u1,u2,u3,u4⟩:=h.up m k rfl
 refine { c1:=h.c1,s1:=h.s1,mo:=h.mo,gr:=by rw [e1];exact h.gr,ng:=by rw [e1];exact h.ng,no:=by rw [e2];exact h.no,ar:=fun sl' f' e' z=>?_,ks:=h.ks,hs:=fun x hx=>?_,r0:=by have:=h.r0;omega,up:=fun m' k' z=>?_,ma:=fun M eM=>?_ }
 ·rw [e2] at z
  obtain ⟨b1,b2,b3,b4⟩:=h.ar _ _ _ z
  refine ⟨b1,b2,b3,fun x hx=>?_⟩
  rw [e1] at hx
  obtain ⟨d1,d2⟩:=b4 x hx
  exact ⟨d1,by omega⟩
 ·rcases List.mem_append.mp hx with hx | hx
  ·have:=h.hs x hx;omega
  ·rw [List.mem_singleton.mp hx];omega
 ·cases z
  have hc:=h.c1
  by_cases hb:m < b
  ·simp only [if_pos hb]
   refine ⟨by omega,Int.le_refl _,by omega,?_⟩
   unfold bnd;rw [if_pos rfl];omega
  ·simp only [if_neg hb]
   exact ⟨by omega,u2,u3,by omega⟩
 ·obtain ⟨mo,sl',co,a1,a2,a3,a4,a5,a6,a7⟩:=h.ma M eM
  refine ⟨mo,sl',co,a1,a2,a3,a4,a5,by omega,fun m' k' z=>?_⟩
  cases z
  rw [e2]
  by_cases hb:m < b
  ·simp only [if_pos hb]
   rcases a7 m k rfl with h | ⟨h,_⟩
   ·exact .inl (by omega)
   ·exact .inl (by omega)
  ·simp only [if_neg hb]
   exact a7 m k rfl
theorem J.write (h:J c s n g pl κ) (e1:n'.g=n.g) (e2:n'.ar=n.ar) (e3:n.hd≤n'.hd) (e4:n'.hr=n.hr):J c s n' g pl κ:=by
 refine { c1:=h.c1,s1:=h.s1,mo:=h.mo,gr:=by rw [e1];exact h.gr,ng:=by rw [e1];exact h.ng,no:=by rw [e2];exact h.no,ar:=fun sl' f' e' z=>?_,ks:=h.ks,hs:=by rw [e4];exact h.hs,r0:=by rw [e4];exact h.r0,up:=fun m' k' z=>?_,ma:=fun M eM=>?_ }
 ·rw [e2] at z
  obtain ⟨b1,b2,b3,b4⟩:=h.ar _ _ _ z
  refine ⟨b1,b2,b3,fun x hx=>?_⟩
  rw [e1] at hx
  obtain ⟨d1,d2⟩:=b4 x hx
  exact ⟨d1,by omega⟩
 ·obtain ⟨u1,u2,u3,u4⟩:=h.up m' k' z
  exact ⟨by omega,u2,u3,by omega⟩
 ·obtain ⟨mo,sl',co,a1,a2,a3,a4,a5,a6,a7⟩:=h.ma M eM
  rw [e2]
  exact ⟨mo,sl',co,a1,a2,a3,a4,a5,by omega,a7⟩
theorem FT {mo sl co m sl' co':Int} (hc : 1≤c) (hs : 1≤s) (h1:sl < s) (h2:co < c) (h3 : 0≤sl') (h4 : 0≤co') (h:mo < m):Law.mk c s mo sl co < Law.mk c s m sl' co':=by
 unfold Law.mk
 have a:(mo+1) * s≤m * s:=Int.mul_le_mul_of_nonneg_right (by omega) (by omega)
 rw [Int.add_mul,Int.one_mul] at a
 have b:(mo * s+sl+1) * c≤(m * s+sl') * c:=Int.mul_le_mul_of_nonneg_right (by omega) (by omega)
 rw [Int.add_mul,Int.one_mul] at b
 omega
theorem Bf {mo sl co:Int} (h0 : 0≤sl) (h1:sl < s) (h2 : 0≤co) (h3:co < c):Law.mk c s mo sl co / c=mo * s+sl∧(mo * s+sl) / s=mo∧(mo * s+sl) % s=sl:=by
 unfold Law.mk
 refine ⟨?_,?_,?_⟩
 ·rw [Int.add_comm,Int.add_mul_ediv_right _ _ (by omega),Int.ediv_eq_zero_of_lt h2 h3,Int.zero_add]
 ·rw [Int.add_comm,Int.add_mul_ediv_right _ _ (by omega),Int.ediv_eq_zero_of_lt h0 h1,Int.zero_add]
 ·rw [Int.add_comm,Int.add_mul_emod_self_right,Int.emod_eq_of_lt h0 h1]
structure Fd (c s far rd M:Int) (n:Nt) (κ : Kn):Prop where
 ri:∀ M',κ.ms.getLast?=some M'→M' < M
 ar:∃ sl f e,κ.ar=some (sl,f,e)∧M / c % s=sl∧f≤M / c / s∧M / c / s < e
 rd:rd≤M / c / s∧M / c / s≤rd+far
 hs:∀ b∈κ.hs,b≤M / c / s
 h0 : 0≤M / c / s
 hd:M / c / s < n.hd
 gv:∀ x,(κ.gr,x)∈κ.gv→M / c / s < x
theorem J.make {m k sl f e r far:Int} (h:J c s n g (some (m,k)) κ) (ha:n.ar=some (sl,f,e)) (n1:¬ e≤due m f r) (n2:¬ r+far < due m f r) (n3:¬ n.hd≤due m f r) :
  Fd c s far r (Law.mk c s (due m f r) sl (cnt m f r k)) n κ∧J c s n g (some (nxP c m f r k)) { κ with ms:=κ.ms++[Law.mk c s (due m f r) sl (cnt m f r k)] }:=by
 obtain ⟨u1,u2,u3,u4⟩:=h.up m k rfl
 obtain ⟨b1,b2,⟨e0,b3,b3'⟩,b4⟩:=h.ar _ _ _ ha
 have hc:=h.c1
 have hs:=h.s1
 have r0:=h.r0
 have hk : 0≤cnt m f r k∧cnt m f r k < c:=by unfold cnt;split <;> omega
 have hdm:m≤due m f r∧r≤due m f r∧f≤due m f r:=by unfold due;omega
 obtain ⟨d1,d2,d3⟩:=Bf (mo:=due m f r) (c:=c) (s:=s) b1 b2 hk.1 hk.2
 refine ⟨⟨fun M' e'=>?_,⟨sl,f,e0,b3,by rw [d1,d3],by rw [d1,d2];omega,by rw [d1,d2];omega⟩,by rw [d1,d2];omega,fun b hb=>?_,by rw [d1,d2];omega,by rw [d1,d2];omega,fun x hx=>?_⟩,?_⟩
 ·obtain ⟨mo,sl',co,rfl,a2,a3,a4,a5,a6,a7⟩:=h.ma M' e'
  rcases a7 m k rfl with a7 | ⟨rfl,a8,f',e',a9⟩
  ·exact FT hc hs a3 a5 b1 hk.1 (by omega)
  ·rw [ha] at a9
   cases a9
   by_cases z:due mo f r=mo
   ·unfold cnt
    rw [if_pos z,z]
    unfold Law.mk;omega
   ·exact FT hc hs a3 a5 b1 hk.1 (by omega)
 ·have:=h.hs b hb
  rw [d1,d2];omega
 ·rw [h.gr] at hx
  have:=(b4 x hx).1
  rw [d1,d2];omega
 ·refine { h with up:=fun m' k' z=>?_,ma:=fun M eM=>?_ }
  ·cases z
   by_cases z:cnt m f r k+1=c
   ·simp only [if_pos z]
    refine ⟨by omega,Int.le_refl _,by omega,?_⟩
    unfold bnd;rw [if_pos rfl];omega
   ·simp only [if_neg z]
    refine ⟨by omega,by omega,by omega,?_⟩
    unfold bnd;rw [if_neg (by omega)];omega
  ·rw [List.getLast?_append,List.getLast?_singleton] at eM
   cases eM
   refine ⟨_,sl,_,rfl,b1,b2,hk.1,hk.2,by omega,fun m' k' z=>?_⟩
   cases z
   by_cases z:cnt m f r k+1=c
   ·simp only [if_pos z]
    exact .inl (by omega)
   ·simp only [if_neg z]
    exact .inr ⟨trivial,by omega,f,e,ha⟩
structure Fi (c s E:Int) (κ : Kn):Prop where
 no:∀ x,(κ.gr,x)∉κ.gv
 ar:∃ sl f e,κ.ar=some (sl,f,e)∧f≤E∧E < e
 hs:∀ b∈κ.hs,b≤E
 h0 : 0≤E
 ms:∀ M,κ.ms.getLast?=some M→M / c / s < E
theorem J.give {m k sl f e:Int} (h:J c s n g (some (m,k)) κ) (ha:n.ar=some (sl,f,e)) (n1:¬ cV f m k n.hd≥e) :
  Fi c s (cV f m k n.hd) κ∧J c s (n.step (.ends n.g (cV f m k n.hd))) g (some (m,k)) { κ with gv:=κ.gv++[(n.g,cV f m k n.hd)] }:=by
 obtain ⟨u1,u2,u3,u4⟩:=h.up m k rfl
 obtain ⟨b1,b2,⟨e0,b3,b3'⟩,b4⟩:=h.ar _ _ _ ha
 have hb:m≤bnd m k:=by unfold bnd;split <;> omega
 have r0:=h.r0
 obtain ⟨E,hE⟩:∃ E,cV f m k n.hd=E:=⟨_,rfl⟩
 rw [hE] at n1 ⊢
 have hE':f≤E∧bnd m k≤E∧n.hd≤E∧E≤max f (max n.hd n.hr):=by rw [← hE];unfold cV;omega
 have hno:∀ x,(n.g,x)∉κ.gv:=fun x hx=>by
  have:=(b4 x hx).2
  omega
 refine ⟨⟨fun x=>by rw [h.gr];exact hno x,⟨sl,f,e0,b3,hE'.1,by omega⟩,fun b hb=>?_,by omega,fun M eM=>?_⟩,?_⟩
 ·have:=h.hs b hb
  omega
 ·obtain ⟨mo,sl',co,rfl,a2,a3,a4,a5,a6,a7⟩:=h.ma M eM
  obtain ⟨d1,d2,d3⟩:=Bf (mo:=mo) (c:=c) (s:=s) a2 a3 a4 a5
  rw [d1,d2]
  rcases a7 m k rfl with a7 | ⟨rfl,a8,_⟩
  ·omega
  ·have:bnd mo k=mo+1:=by unfold bnd;rw [if_neg (by omega)]
   omega
 ·have en:n.step (.ends n.g E)=⟨n.g,some (sl,f,min e E),n.hd,n.hr⟩:=by
   rw [dg,if_pos rfl,ha];rfl
  rw [en]
  refine { c1:=h.c1,s1:=h.s1,mo:=h.mo,gr:=h.gr,ng:=h.ng,no:=(fun z=>by cases z),ar:=fun sl' f' e' z=>?_,ks:=fun x hx=>?_,hs:=h.hs,r0:=h.r0,up:=h.up,ma:=fun M eM=>?_ }
  ·cases z
   refine ⟨b1,b2,⟨e0,b3,by omega⟩,fun x hx=>?_⟩
   rcases List.mem_append.mp hx with hx | hx
   ·exact absurd hx (hno x)
   ·have hx:=List.mem_singleton.mp hx
    have:x=E:=congrArg Prod.snd hx
    subst this
    exact ⟨by omega,by show _≤max f (max n.hd n.hr);omega⟩
  ·rcases List.mem_append.mp hx with hx | hx
   ·exact h.ks x hx
   ·rw [List.mem_singleton.mp hx]
    have:=h.ng
    show n.g≤g
    omega
  ·obtain ⟨mo,sl',co,a1,a2,a3,a4,a5,a6,a7⟩:=h.ma M eM
   refine ⟨mo,sl',co,a1,a2,a3,a4,a5,a6,fun m' k' z=>?_⟩
   rcases a7 m' k' z with x7 | ⟨x7,x8,f',e',x9⟩
   ·exact .inl x7
   ·rw [ha] at x9
    cases x9
    exact .inr ⟨x7,x8,_,_,rfl⟩
end
structure Kd where
 p:Addr
 lm:Addr
 lh:Addr
 gd:Addr
def KvL (k:Kd) (mo gr:Int) (av:V):List (Key×V):=[(.inr "marks",.ref k.lm),(.inr "heard",.ref k.lh),(.inr "given",.ref k.gd),(.inr "most",.int mo),(.inr "grant",.int gr),(.inr "area",av)]
def gvK (gv:List (Int×Int)):List (Key×V):=gv.map fun x=>(Sum.inl x.1,V.int x.2)
section
variable {k:Kd} {mo gr x:Int} {av:V}
theorem gT:ez (KvL k mo gr av) (.inr "marks")=some (.ref k.lm):=by with_unfolding_all rfl
theorem lS:ez (KvL k mo gr av) (.inr "heard")=some (.ref k.lh):=by with_unfolding_all rfl
theorem jz:ez (KvL k mo gr av) (.inr "given")=some (.ref k.gd):=by with_unfolding_all rfl
theorem D7:ez (KvL k mo gr av) (.inr "most")=some (.int mo):=by with_unfolding_all rfl
theorem lT:ez (KvL k mo gr av) (.inr "grant")=some (.int gr):=by with_unfolding_all rfl
theorem qg:ez (KvL k mo gr av) (.inr "area")=some av:=by with_unfolding_all rfl
theorem D8:putK (KvL k mo gr av) (.inr "most") (.int x)=KvL k x gr av:=by with_unfolding_all rfl
theorem Bm:putK (KvL k mo gr av) (.inr "grant") (.int x)=KvL k mo x av:=by with_unfolding_all rfl
theorem D9 {av':V}:putK (KvL k mo gr av) (.inr "area") av'=KvL k mo gr av':=by with_unfolding_all rfl
end
theorem En {gv:List (Int×Int)} {g:Int} (h:∀ x,(g,x)∉gv):ez (gvK gv) (.inl g)=none:=by
 unfold ez gvK
 rw [Option.map_eq_none_iff,List.find?_eq_none]
 intro y hy
 obtain ⟨z,hz,rfl⟩:=List.mem_map.mp hy
 intro e
 have e:=of_decide_eq_true e
 injection e with e
 exact h z.2 (by rw [← e];exact hz)
theorem Em {gv:List (Int×Int)} {g:Int} {v:V} (h:ez (gvK gv) (.inl g)=some v):∃ x,v = .int x∧(g,x)∈gv:=by
 unfold ez gvK at h
 rw [Option.map_eq_some_iff] at h
 obtain ⟨y,hy,rfl⟩:=h
 have hm:=List.mem_of_find?_eq_some hy
 have hp:=List.find?_some hy
 obtain ⟨z,hz,rfl⟩:=List.mem_map.mp hm
 have e:=of_decide_eq_true hp
 injection e with e
 exact ⟨z.2,rfl,by rw [← e];exact hz⟩
theorem GZ {gv:List (Int×Int)} {g x:Int} (h:∀ x,(g,x)∉gv):putK (gvK gv) (.inl g) (.int x)=gvK (gv++[(g,x)]):=by
 unfold putK
 rw [if_neg,gvK,gvK,List.map_append]
 ·rfl
 ·intro z
  rw [List.any_eq_true] at z
  obtain ⟨y,hy,e⟩:=z
  unfold gvK at hy
  obtain ⟨z,hz,rfl⟩:=List.mem_map.mp hy
  have e:=of_decide_eq_true e
  injection e with e
  exact h z.2 (by rw [← e];exact hz)
theorem fq.ts {H H':Hp} {v:V} {ar:Option (Int×Int×Int)} (h:fq H v ar) (s:cB H H'):fq H' v ar:=by
 rcases h with z | ⟨a,sl,f,e,h1,h2,h3⟩
 ·exact .inl z
 ·exact .inr ⟨a,sl,f,e,h1,h2,s _ _ h3⟩
structure KAt (H:Hp) (k:Kd) (κ : Kn):Prop where
 p:∃ av,H k.p=some (.dK (KvL k κ.mo κ.gr av))∧fq H av κ.ar
 m:H k.lm=some (.lst (κ.ms.map V.int))
 h:H k.lh=some (.lst (κ.hs.map V.int))
 g:H k.gd=some (.dK (gvK κ.gv))
 n:k.lm≠k.lh
theorem Js {k:Kd} {mo gr:Int} {av:V} {gv:List (Int×Int)}:HO.dK (KvL k mo gr av)≠.dK (gvK gv):=fun z=>by
 injection z with z
 cases gv with
 | nil=>cases z
 | cons x xs=>injection z with z _;injection z with z _;cases z
theorem KAt.pg {H:Hp} {k:Kd} {κ : Kn} (h:KAt H k κ):k.p≠k.gd:=fun z=>by
 obtain ⟨av,e,_⟩:=h.p
 have:=h.g
 rw [← z,e] at this
 injection this with this
 exact Js this
theorem KAt.same {H H':Hp} {k:Kd} {κ : Kn} (h:KAt H k κ) (s:aM H H'):KAt H' k κ:=
 ⟨h.p.elim fun av x=>⟨av,s _ _ x.1,fq.ts x.2 (bV s)⟩,s _ _ h.m,s _ _ h.h,s _ _ h.g,h.n⟩
theorem KAt.keep {H H':Hp} {k:Kd} {κ : Kn} (h:KAt H k κ) (ts:cB H H') (k1:∀ o,H k.p=some o→H' k.p=some o) (k2:∀ o,H k.lm=some o→H' k.lm=some o) (k3:∀ o,H k.lh=some o→H' k.lh=some o) (k4:∀ o,H k.gd=some o→H' k.gd=some o):KAt H' k κ:=
 ⟨h.p.elim fun av x=>⟨av,k1 _ x.1,fq.ts x.2 ts⟩,k2 _ h.m,k3 _ h.h,k4 _ h.g,h.n⟩
def gU:Ou→Bool
 | .err _=>true
 | _=>false
def cy (o:Ou):Str:=if gU o then "refused" else "told"
structure nK (C CS CH:Addr) (d:Hd) (ls:Lns) (pl:Option (Int×Int)) (op:Op) (H H':Hp) (v:V) (ls2:Lns) (pl2:Option (Int×Int)):Prop where
 e:opF d (nt ls) (gmx ls) pl op=((opF d (nt ls) (gmx ls) pl op).1,ls2.map (·.2),pl2)
 ov:gU (opF d (nt ls) (gmx ls) pl op).1=false→qT H' v (opF d (nt ls) (gmx ls) pl op).1
 ex:gU (opF d (nt ls) (gmx ls) pl op).1=true→v = .int 0∧ls2=[]∧pl2=pl
 h:bA C CS CH H' d (ls++ls2) pl2
 o:cO (ls++ls2) pl2
 l:ls2.length≤1
 f:Fr2 d.p d.l H H'
theorem gp {C CS CH:Addr} {d:Hd} {ls:Lns} {pl:Option (Int×Int)} {op:Op} {H H':Hp} {j:Nat} (hd:bA C CS CH H d ls pl) (hok:cO ls pl) (e:opF d (nt ls) (gmx ls) pl op=(.err j,[],pl)) (s:aM H H'):nK C CS CH d ls pl op H H' (.int 0) [] pl:=
 ⟨by rw [e];rfl,(fun z=>by rw [e] at z;cases z),fun _=>⟨rfl,rfl,rfl⟩,B7 (hd.same s),ok0 hok hok.k0,Nat.zero_le _,Fr2.of s⟩
theorem gP {H:Hp} {v:V} {o:Ou} (h:qT H v o):gU o=false:=by
 cases o with
 | err j=>exact h.elim
 | _=>rfl
theorem jn {C CS CH:Addr} {d:Hd} {ls ls2:Lns} {pl pl2:Option (Int×Int)} {op:Op} {H H1 H':Hp} {o:Ou} {v:V} (e:opF d (nt ls) (gmx ls) pl op=(o,ls2.map (·.2),pl2)) (hv:qT H1 v o) (hd:bA C CS CH H1 d (ls++ls2) pl2) (hok:cO (ls++ls2) pl2) (hl:ls2.length≤1) (f:Fr2 d.p d.l H H1) (s:aM H1 H'):nK C CS CH d ls pl op H H' v ls2 pl2:=
 ⟨by rw [e],fun _=>by rw [e];exact hv.ts (bV s),(fun z=>by rw [e,gP hv] at z;cases z),hd.same s,hok,hl,f.trans (Fr2.of s)⟩
def OpV (H:Hp) (z:Str) (x y:V):Op→Prop
 | .take gr sl f e=>z = "take" ∧ x = .int gr∧∃ a,y = .ref a∧H a=some (.tup [.int sl,.int f,.int e])∧1≤gr
 | .write r=>z = "write" ∧ x = .int r
 | .make r=>z = "make" ∧ x = .int r
 | .gW b=>z = "hear" ∧ x = .int b
 | .give=>z = "back"
 | .jG=>z = "fall"
 | .rise=>z = "rise"
section
variable {P:Program} {w:World} {K:PySem.W.Frag} {mg:Str→Option Value} {base:Heap} {C CS CM CH CD CU CA CN CW CT CR:Addr}
theorem yg:ao ["_law_ann", "_law_word", "_law_one", "_law_other", "_law_found"] ["_law_ann", "_law_word", "_law_one", "_law_other"] (ai (top 79)):=by walk_at "s"
def ly (C CS CH:Addr):Sp:=fun vs H Q _=>∃ (d:Hd) (ls:Lns) (pl:Option (Int×Int)) (z:Str) (x y:V) (op:Op),vs=[.ref d.p,.str z,x,y]∧bA C CS CH H d ls pl∧cO ls pl∧ls.length≤397∧OpV H z x y op∧∀ t v ls2 pl2 H',H' t=some (.tup [.str (cy (opF d (nt ls) (gmx ls) pl op).1),v])→nK C CS CH d ls pl op H H' v ls2 pl2→Q (.ref t) H'
theorem yG (D:Dat K mg "_law_asked" "_law_asked" (top 79) ["_law_ann", "_law_word", "_law_one", "_law_other"]) (BT:Bt mg) (NE:bf (CX1 P w)) (qh:mg "RiseError" = some (.ref CR)) (ET:∀ c∈ers CD CU CA CN CW CT,PySem.W.exmOne K (.ref c) (.ref CR)=some true) (iy:bF P w K mg base (CX1 P w) CH "take" 6 ["self", "grant", "area"] (o9 C CS CH CD)) (gx:bF P w K mg base (CX1 P w) CH "write" 6 ["self", "reading"] (kL C CS CH CD CA CN CW))
  (iA:bF P w K mg base (CX1 P w) CH "make" 6 ["self", "reading"] (kN C CS CH CD CA CN CW CT)) (iB:bF P w K mg base (CX1 P w) CH "hear" 6 ["self", "bound"] (pF C CS CH CD)) (dJ:bF P w K mg base (CX1 P w) CH "give_back" 6 ["self"] (kO C CS CH CD CA CN)) (iC:bF P w K mg base (CX1 P w) CH "fall" 6 ["self"] (pI C CS CH CD)) (iz:bF P w K mg base (CX1 P w) CH "rise" 6 ["self"] (pq C CS CH CU)):Cal P w K mg base (CX1 P w) "_law_asked" 8 ["_law_ann", "_law_word", "_law_one", "_law_other"] (ly C CS CH):=by
 have S:=yg
 walk_at "d"
 ·obtain ⟨d,ls,pl,z,x,y,op,rfl,_⟩:=h
  rfl
 obtain ⟨d,ls,pl,z,x,y,op,rfl,hd,hok,hl,ho,q⟩:=h
 refine ⟨_,(aj (aL (i:=4) S.nd rfl (by first | exact Or.inl rfl | exact Or.inr rfl) (aQ (aa aF (aa af ah))))
   (aj (Dq rfl rfl rfl qh Gy (fun _ _=>(ak (bg (aJ cC (pv 1) aF (aI _)) (ak (aL (i:=4) S.nd rfl (by first | exact Or.inl rfl | exact Or.inr rfl) (aQ (aa aF (aa (pY iy (hr.mono (by first | decide | omega)) aV (pv 0) (aa (pv 2) (aa (pv 3) ah))) ah))))) (ak (bg (aJ cC (pv 1) aF (aI _)) (ak (aL (i:=4) S.nd rfl (by first | exact Or.inl rfl | exact Or.inr rfl) (aQ (aa aF (aa (pY gx (hr.mono (by first | decide | omega)) aV (pv 0) (aa (pv 2) ah)) ah))))) (ak (bg (aJ cC (pv 1) aF (aI _)) (ak (aL (i:=4) S.nd rfl (by first | exact Or.inl rfl | exact Or.inr rfl) (aQ (aa aF (aa (pY iA (hr.mono (by first | decide | omega)) aV (pv 0) (aa (pv 2) ah)) ah))))) (ak (bg (aJ cC (pv 1) aF (aI _)) (ak (aL (i:=4) S.nd rfl (by first | exact Or.inl rfl | exact Or.inr rfl) (aQ (aa aF (aa (pY iB (hr.mono (by first | decide | omega)) aV (pv 0) (aa (pv 2) ah)) ah))))) (ak (bg (aJ cC (pv 1) aF (aI _)) (ak (aL (i:=4) S.nd rfl (by first | exact Or.inl rfl | exact Or.inr rfl) (aQ (aa aF (aa (pX dJ (hr.mono (by first | decide | omega)) aV (pv 0)) ah))))) (ak (bg (aJ cC (pv 1) aF (aI _)) (ak (aL (i:=4) S.nd rfl (by first | exact Or.inl rfl | exact Or.inr rfl) (aQ (aa aF (aa (pX iC (hr.mono (by first | decide | omega)) aV (pv 0)) ah))))) (ak (aL (i:=4) S.nd rfl (by first | exact Or.inl rfl | exact Or.inr rfl) (aQ (aa aF (aa (pX iz (hr.mono (by first | decide | omega)) aV (pv 0)) ah)))))))))))))))))) (fun _=>(ak (aL (i:=4) S.nd rfl (by first | exact Or.inl rfl | exact Or.inr rfl) (aQ (aa aF (aa af ah)))))))
   (ak (az (pv 4))))),?_⟩
 try dsimp only [aY]
 obtain ⟨⟨dx,sv,hp,hpl⟩,hlst,hL,hss⟩:=id hd
 have L:=Led.start H (fun _=>False)
 cases op with
 | take gr sl f e=>
  obtain ⟨rfl,rfl,a,rfl,ha,hg⟩:=ho
  walk_at "go"
  have s0:=L'.same
  refine aZ (s0 _ _ hp) GU ?_
  walk_at "go"
  refine xE (CU:=CU) (CA:=CA) (CN:=CN) (CW:=CW) (CT:=CT) (hd.same s0) hok hl hg (s0 _ _ ha) (fun j c dx' H' hj ho2 sm _=>?_) (fun v o ls2 pl2 H1 e0 hv hd1 hok1 hl2 f1=>?_)
  ·refine jh (ET c (List.mem_of_getElem? hj)) ?_
   clear L L'
   have L:=Led.start H' (fun _=>False)
   walk_at "go"
   exact q _ (.int 0) [] pl _ (by rw [show cy (opF d (nt ls) (gmx ls) pl (.take gr sl f e)).1 = "refused" by rw [ho2];rfl];exact L'.tup (by walk_at "mem")) (gp hd hok ho2 (s0.trans (sm.trans L'.same)))
  ·clear L L'
   have L:=Led.start H1 (fun _=>False)
   try dsimp only [bE]
   walk_at "go"
   exact q _ v ls2 pl2 _ (by rw [show cy (opF d (nt ls) (gmx ls) pl (.take gr sl f e)).1 = "told" by rw [e0];unfold cy;rw [gP hv];rfl];exact L'.tup (by walk_at "mem")) (jn e0 hv hd1 hok1 hl2 ((Fr2.of s0).trans f1) L'.same)
 | write r=>
  obtain ⟨rfl,rfl⟩:=ho
  walk_at "go"
  refine bW (by decide +kernel) ?_
  walk_at "go"
  have s0:=L'.same
  refine aZ (s0 _ _ hp) Ej ?_
  walk_at "go"
  refine uq (CU:=CU) (CT:=CT) (hd.same s0) hok hl (fun j c dx' H' hj ho2 sm _=>?_) (fun v o ls2 pl2 H1 e0 hv hd1 hok1 hl2 f1=>?_)
  ·refine jh (ET c (List.mem_of_getElem? hj)) ?_
   clear L L'
   have L:=Led.start H' (fun _=>False)
   walk_at "go"
   exact q _ (.int 0) [] pl _ (by rw [show cy (opF d (nt ls) (gmx ls) pl (.write r)).1 = "refused" by rw [ho2];rfl];exact L'.tup (by walk_at "mem")) (gp hd hok ho2 (s0.trans (sm.trans L'.same)))
  ·clear L L'
   have L:=Led.start H1 (fun _=>False)
   try dsimp only [bE]
   walk_at "go"
   exact q _ v ls2 pl2 _ (by rw [show cy (opF d (nt ls) (gmx ls) pl (.write r)).1 = "told" by rw [e0];unfold cy;rw [gP hv];rfl];exact L'.tup (by walk_at "mem")) (jn e0 hv hd1 hok1 hl2 ((Fr2.of s0).trans f1) L'.same)
 | make r=>
  obtain ⟨rfl,rfl⟩:=ho
  walk_at "go"
  refine bW (by decide +kernel) ?_
  walk_at "go"
  refine bW (by decide +kernel) ?_
  walk_at "go"
  have s0:=L'.same
  refine aZ (s0 _ _ hp) GW ?_
  walk_at "go"
  refine xH (CU:=CU) (hd.same s0) hok (fun j c dx' H' hj ho2 sm _=>?_) (fun v o ls2 pl2 H1 e0 hv hd1 hok1 hl2 f1=>?_)
  ·refine jh (ET c (List.mem_of_getElem? hj)) ?_
   clear L L'
   have L:=Led.start H' (fun _=>False)
   walk_at "go"
   exact q _ (.int 0) [] pl _ (by rw [show cy (opF d (nt ls) (gmx ls) pl (.make r)).1 = "refused" by rw [ho2];rfl];exact L'.tup (by walk_at "mem")) (gp hd hok ho2 (s0.trans (sm.trans L'.same)))
  ·clear L L'
   have L:=Led.start H1 (fun _=>False)
   try dsimp only [bE]
   walk_at "go"
   exact q _ v ls2 pl2 _ (by rw [show cy (opF d (nt ls) (gmx ls) pl (.make r)).1 = "told" by rw [e0];unfold cy;rw [gP hv];rfl];exact L'.tup (by walk_at "mem")) (jn e0 hv hd1 hok1 hl2 ((Fr2.of s0).trans f1) L'.same)
 | gW b=>
  obtain ⟨rfl,rfl⟩:=ho
  walk_at "go"
  refine bW (by decide +kernel) ?_
  walk_at "go"
  refine bW (by decide +kernel) ?_
  walk_at "go"
  refine bW (by decide +kernel) ?_
  walk_at "go"
  have s0:=L'.same
  refine aZ (s0 _ _ hp) GX ?_
  walk_at "go"
  refine xK (CU:=CU) (CA:=CA) (CN:=CN) (CW:=CW) (CT:=CT) (hd.same s0) hok hl (fun j c dx' H' hj ho2 sm _=>?_) (fun v o ls2 pl2 H1 e0 hv hd1 hok1 hl2 f1=>?_)
  ·refine jh (ET c (List.mem_of_getElem? hj)) ?_
   clear L L'
   have L:=Led.start H' (fun _=>False)
   walk_at "go"
   exact q _ (.int 0) [] pl _ (by rw [show cy (opF d (nt ls) (gmx ls) pl (.gW b)).1 = "refused" by rw [ho2];rfl];exact L'.tup (by walk_at "mem")) (gp hd hok ho2 (s0.trans (sm.trans L'.same)))
  ·clear L L'
   have L:=Led.start H1 (fun _=>False)
   try dsimp only [bE]
   walk_at "go"
   exact q _ v ls2 pl2 _ (by rw [show cy (opF d (nt ls) (gmx ls) pl (.gW b)).1 = "told" by rw [e0];unfold cy;rw [gP hv];rfl];exact L'.tup (by walk_at "mem")) (jn e0 hv hd1 hok1 hl2 ((Fr2.of s0).trans f1) L'.same)
 | give=>
  cases (show z = "back" from ho)
  walk_at "go"
  refine bW (by decide +kernel) ?_
  walk_at "go"
  refine bW (by decide +kernel) ?_
  walk_at "go"
  refine bW (by decide +kernel) ?_
  walk_at "go"
  refine bW (by decide +kernel) ?_
  walk_at "go"
  have s0:=L'.same
  refine aZ (s0 _ _ hp) El ?_
  walk_at "go"
  refine xM (CU:=CU) (CW:=CW) (CT:=CT) (hd.same s0) hok hl (fun j c dx' H' hj ho2 sm _=>?_) (fun v o ls2 pl2 H1 e0 hv hd1 hok1 hl2 f1=>?_)
  ·refine jh (ET c (List.mem_of_getElem? hj)) ?_
   clear L L'
   have L:=Led.start H' (fun _=>False)
   walk_at "go"
   exact q _ (.int 0) [] pl _ (by rw [show cy (opF d (nt ls) (gmx ls) pl .give).1 = "refused" by rw [ho2];rfl];exact L'.tup (by walk_at "mem")) (gp hd hok ho2 (s0.trans (sm.trans L'.same)))
  ·clear L L'
   have L:=Led.start H1 (fun _=>False)
   try dsimp only [bE]
   walk_at "go"
   exact q _ v ls2 pl2 _ (by rw [show cy (opF d (nt ls) (gmx ls) pl .give).1 = "told" by rw [e0];unfold cy;rw [gP hv];rfl];exact L'.tup (by walk_at "mem")) (jn e0 hv hd1 hok1 hl2 ((Fr2.of s0).trans f1) L'.same)
 | jG=>
  cases (show z = "fall" from ho)
  walk_at "go"
  refine bW (by decide +kernel) ?_
  walk_at "go"
  refine bW (by decide +kernel) ?_
  walk_at "go"
  refine bW (by decide +kernel) ?_
  walk_at "go"
  refine bW (by decide +kernel) ?_
  walk_at "go"
  refine bW (by decide +kernel) ?_
  walk_at "go"
  have s0:=L'.same
  refine aZ (s0 _ _ hp) GY ?_
  walk_at "go"
  refine xN (CU:=CU) (CA:=CA) (CN:=CN) (CW:=CW) (CT:=CT) (hd.same s0) hok (fun j c dx' H' hj ho2 sm _=>?_) (fun v o ls2 pl2 H1 e0 hv hd1 hok1 hl2 f1=>?_)
  ·refine jh (ET c (List.mem_of_getElem? hj)) ?_
   clear L L'
   have L:=Led.start H' (fun _=>False)
   walk_at "go"
   exact q _ (.int 0) [] pl _ (by rw [show cy (opF d (nt ls) (gmx ls) pl .jG).1 = "refused" by rw [ho2];rfl];exact L'.tup (by walk_at "mem")) (gp hd hok ho2 (s0.trans (sm.trans L'.same)))
  ·clear L L'
   have L:=Led.start H1 (fun _=>False)
   try dsimp only [bE]
   walk_at "go"
   exact q _ v ls2 pl2 _ (by rw [show cy (opF d (nt ls) (gmx ls) pl .jG).1 = "told" by rw [e0];unfold cy;rw [gP hv];rfl];exact L'.tup (by walk_at "mem")) (jn e0 hv hd1 hok1 hl2 ((Fr2.of s0).trans f1) L'.same)
 | rise=>
  cases (show z = "rise" from ho)
  walk_at "go"
  refine bW (by decide +kernel) ?_
  walk_at "go"
  refine bW (by decide +kernel) ?_
  walk_at "go"
  refine bW (by decide +kernel) ?_
  walk_at "go"
  refine bW (by decide +kernel) ?_
  walk_at "go"
  refine bW (by decide +kernel) ?_
  walk_at "go"
  refine bW (by decide +kernel) ?_
  walk_at "go"
  have s0:=L'.same
  refine aZ (s0 _ _ hp) GV ?_
  walk_at "go"
  refine xG (CD:=CD) (CA:=CA) (CN:=CN) (CW:=CW) (CT:=CT) (hd.same s0) hok (fun j c dx' H' hj ho2 sm _=>?_) (fun v o ls2 pl2 H1 e0 hv hd1 hok1 hl2 f1=>?_)
  ·refine jh (ET c (List.mem_of_getElem? hj)) ?_
   clear L L'
   have L:=Led.start H' (fun _=>False)
   walk_at "go"
   exact q _ (.int 0) [] pl _ (by rw [show cy (opF d (nt ls) (gmx ls) pl .rise).1 = "refused" by rw [ho2];rfl];exact L'.tup (by walk_at "mem")) (gp hd hok ho2 (s0.trans (sm.trans L'.same)))
  ·clear L L'
   have L:=Led.start H1 (fun _=>False)
   try dsimp only [bE]
   walk_at "go"
   exact q _ v ls2 pl2 _ (by rw [show cy (opF d (nt ls) (gmx ls) pl .rise).1 = "told" by rw [e0];unfold cy;rw [gP hv];rfl];exact L'.tup (by walk_at "mem")) (jn e0 hv hd1 hok1 hl2 ((Fr2.of s0).trans f1) L'.same)
end
end Law
namespace L4
open PySem PySem.Spec PyProof.Rows L2 L3
section
variable {td ty tv:TE} {σ : St} {H:Hp} {Q:VK} {D:Ends}
theorem bT (h:td σ H fun x H1=>ty σ H1 fun y H2=>∃ a v,x = .ref a∧iS H2 a y (some v)∧Q v H2):FA td ty σ H Q:=h
theorem qm (h:tv σ H fun v H1=>td σ H1 fun x H2=>ty σ H2 fun y H3=>∃ a H4,x = .ref a∧vZ H3 a y v H4∧D.nx σ H4):FH td ty tv D σ H:=h
theorem JX (h:ty σ H fun y H1=>td σ H1 fun x H2=>∃ a o,x = .ref a∧iS H2 a y o∧Q (.bl o.isSome) H2):IS ty td σ H Q:=h
theorem BD (h:ty σ H fun y H1=>td σ H1 fun x H2=>∃ a o,x = .ref a∧iS H2 a y o∧Q (.bl (!o.isSome)) H2):wm ty td σ H Q:=h
end
theorem bU {H:Hp} {a:Addr} {kvs:List (Key×V)} {k:Key} {v:V} (e:H a=some (.dK kvs)) (h:ez kvs k=some v):iS H a (kV k) (some v):=h▸iS.k e
theorem kW {H:Hp} {a:Addr} {kvs kvs':List (Key×V)} {k:Key} {v:V} (e:H a=some (.dK kvs)) (h:putK kvs k v=kvs') (hl:kvs.length < sizeLine):vZ H a (kV k) v (upd H a (.dK kvs')):=h▸vZ.k e hl
end L4
namespace Law
open PySem PySem.Spec PyProof.Rows L2 L3 L4
section
variable {P:Program} {w:World} {K:PySem.W.Frag} {mg:Str→Option Value} {base:Heap} {C CS CM CH CD CU CA CN CW CT CR:Addr}
theorem yb:ao ["_law_known", "_law_grant_here", "_law_area_here", "_law_told"] ["_law_known", "_law_grant_here", "_law_area_here", "_law_told"] (ai (top 82)):=by walk_at "s"
def wz:Sp:=fun vs H Q _=>∃ (k:Kd) (κ : Kn) (a:Addr) (gr sl f e:Int) (b:Bool),vs=[.ref k.p,.int gr,.ref a,.bl b]∧KAt H k κ∧H a=some (.tup [.int sl,.int f,.int e])∧b=decide (κ.mo < gr) ∧
 ∀ H',KAt H' k (if b then { κ with mo:=gr,gr:=gr,ar:=some (sl,f,e) } else κ)→(∀ q o,H q=some o→q≠k.p→H' q=some o)→Q (.bl true) H'
theorem yz {CX:CXT} (D:Dat K mg "_law_take_right" "_law_take_right" (top 82) ["_law_known", "_law_grant_here", "_law_area_here", "_law_told"]) (BT:Bt mg) (NE:bf CX):Cal P w K mg base CX "_law_take_right" 2 ["_law_known", "_law_grant_here", "_law_area_here", "_law_told"] wz:=by
 have S:=yb
 walk_at "d"
 ·obtain ⟨k,κ,a,gr,sl,f,e,b,rfl,_⟩:=h
  rfl
 obtain ⟨k,κ,a,gr,sl,f',e,b,rfl,hk,ha,hb,q⟩:=h
 obtain ⟨av,hp,hav⟩:=id hk.p
 refine ⟨_,(aj (bg (PW.pt (iU (cT (cK (ja BT.isinstance BT.bool_ L3.qM (pv 3)))) (fR (aJ sf (pv 3) (cu iV (pv 1) (bR (cF hr) (pv 0) aF (fun _ _=>rfl)) (aI _)) (aI _))))) (ak (az dY)) aK)
   (aj (bg (cK (pv 3)) (aj (kQ (cF hr) (pv 0) aF (pv 1) rfl)
    (aj (kQ (cF hr) (pv 0) aF (pv 1) rfl)
    (ak (kQ (cF hr) (pv 0) aF (pv 2) rfl)))) aK)
   (ak (az dY)))),?_⟩
 try dsimp only [aY]
 walk_at "go"
 refine jg (b:=true) (T:="bool") (.bl _) rfl ?_
 walk_at "go"
 refine bT ?_
 walk_at "go"
 refine ⟨_,_,rfl,bU (k:=Sum.inr "most") hp D7,?_⟩
 walk_at "go"
 have six:∀ {a1 a2:Int} {v:V},(KvL k a1 a2 v).length < sizeLine:=small1000 (show (6:Nat)≤1000 by decide)
 cases b with
 | false=>
  refine lY ?_
  walk_at "go"
  exact q _ hk fun _ _ h _=>h
 | true=>
  refine tF ?_
  walk_at "go"
  refine qm ?_
  walk_at "go"
  refine ⟨_,_,rfl,kW (k:=Sum.inr "most") hp D8 six,?_⟩
  walk_at "go"
  refine qm ?_
  walk_at "go"
  refine ⟨_,_,rfl,kW (k:=Sum.inr "grant") aB Bm six,?_⟩
  walk_at "go"
  dsimp only
  refine qm ?_
  walk_at "go"
  refine ⟨_,_,rfl,kW (k:=Sum.inr "area") aB D9 six,?_⟩
  walk_at "go"
  have fr:∀ q o,H q=some o→q≠k.p→(upd (upd (upd H k.p (.dK (KvL k gr κ.gr av))) k.p (.dK (KvL k gr gr av))) k.p (.dK (KvL k gr gr (.ref a)))) q=some o:=fun q o e n=>by rw [au n,au n,au n];exact e
  have nl:∀ {q:Addr} {xs:List V},H q=some (.lst xs)→q≠k.p:=fun e z=>by rw [z,hp] at e;cases e
  have nt':∀ {q:Addr} {xs:List V},H q=some (.tup xs)→q≠k.p:=fun e z=>by rw [z,hp] at e;cases e
  exact q _ ⟨⟨.ref a,aB,.inr ⟨a,sl,f',e,rfl,rfl,fr _ _ ha (nt' ha)⟩⟩,fr _ _ hk.m (nl hk.m),fr _ _ hk.h (nl hk.h),fr _ _ hk.g hk.pg.symm,hk.n⟩ fr
theorem yf:ao ["_law_drawn_here", "_law_known", "_law_told", "_law_grant_here", "_law_end"] ["_law_drawn_here", "_law_known", "_law_told"] (ai (top 81)):=by walk_at "s"
def wF:Sp:=fun vs H Q _=>∃ (r:Dr) (k:Kd) (κ : Kn) (t:Addr) (e:Int),vs=[.ref r.t,.ref k.p,.ref t]∧DrF H r∧KAt H k κ∧κ.ms.length≤400∧κ.hs.length≤400∧κ.gv.length≤400∧H t=some (.tup [.int κ.gr,.int e])∧ShN r.c r.s∧Fi r.c r.s e κ ∧
 ∀ H',KAt H' k { κ with gv:=κ.gv++[(κ.gr,e)] }→(∀ q o,H q=some o→q≠k.gd→H' q=some o)→Q (.bl true) H'
theorem yF {CX:CXT} (D:Dat K mg "_law_back_right" "_law_back_right" (top 81) ["_law_drawn_here", "_law_known", "_law_told"]) (BT:Bt mg) (NE:bf CX) (gg:Cal P w K mg base CX "_law_whole" 1 ["_law_found"] fu):Cal P w K mg base CX "_law_back_right" 2 ["_law_drawn_here", "_law_known", "_law_told"] wF:=by
 have S:=yf
 walk_at "d"
 ·obtain ⟨r,k,κ,t,e,rfl,_⟩:=h
  rfl
 obtain ⟨r,k,κ,t,e,rfl,hdr,hk,hm4,hh4,hg4,ht,hsh,hgv,q⟩:=h
 obtain ⟨av,hp,hav⟩:=id hk.p
 obtain ⟨sl,f',e',ear,ef,ee⟩:=hgv.ar
 obtain ⟨ta,rfl,hta⟩:=mK (ear▸hav)
 refine ⟨_,(aj (bg (PW.pt (iU (cT (cK (ja BT.isinstance BT.tuple_ L3.mH (pv 2)))) (iU (aJ sf (aX oM rfl BT.len L3.jm (aa (pv 2) ah)) af (aI _)) (fR (cT (cK (aG gg (hr.mono (by first | decide | omega)) NE.pass (aa (ay aE (pv 2) af (fun _ _=>rfl)) ah)))))))) (ak (az dY)) aK)
   (aj (ff (pv 2) (jU rfl (cz (bB (i:=3) S.nd rfl (by first | exact Or.inl rfl | exact Or.inr rfl)) (cz (bB (i:=4) S.nd rfl (by first | exact Or.inl rfl | exact Or.inr rfl)) iH))))
   (aj (bg (PW.pt (iU (aJ sf (pv 3) (bR (cF hr) (pv 1) aF (fun _ _=>rfl)) (aI _)) (fR (e9 (Gx (cF hr) (pv 3) (bR (cF hr) (pv 1) aF (fun _ _=>rfl))))))) (ak (az dY)) aK)
   (aj (bg (PW.pt (iU (cT (lE jw gB (ay aE (bR (cF hr) (pv 1) aF (fun _ _=>rfl)) af (fun _ _=>rfl)) (pv 4) (ay aE (bR (cF hr) (pv 1) aF (fun _ _=>rfl)) af (fun _ _=>rfl)))) (fR (aJ gB (pv 4) (aX (mC rfl) rfl BT.max L3.cI (aa (aP jY (br (aa af ah)) (bR (cF hr) (pv 1) aF (fun _ _=>rfl))) ah)) (aI _))))) (ak (az dY)) aK)
   (aj (kQ (cF hr) (bR (cF hr) (pv 1) aF (fun _ _=>rfl)) (pv 3) (pv 4) rfl)
   (ak (az (wQ (cu (jX (hr.mono (Nat.zero_le _))) (bR (cF hr) (pv 1) aF (fun _ _=>rfl)) (br ah) (aI _)) (dS (cu gB (aP dw (aP dw (ay bu (bR (cF hr) (pv 1) aF (fun _ _=>rfl)) (fE dD af) (fun _ _=>rfl)) (ay aE (pv 0) af (fun _ _=>rfl))) (ay aE (pv 0) af (fun _ _=>rfl))) (pv 4) (aI _))))))))))),?_⟩
 try dsimp only [aY]
 have L:=(((Led.start H (fun _=>False)).more (aO t _) ht).more (aO r.t _) hdr.1).more (aO ta _) hta
 walk_at "go"
 refine jg (b:=true) (T:="tuple") (.tup ht) rfl ?_
 walk_at "go"
 refine ⟨_,rfl,?_⟩
 walk_at "go"
 refine bT ?_
 walk_at "go"
 refine ⟨_,_,rfl,bU (k:=Sum.inr "grant") hp lT,?_⟩
 walk_at "go"
 refine JX ?_
 walk_at "go"
 refine bT ?_
 walk_at "go"
 refine ⟨_,_,rfl,bU (k:=Sum.inr "given") hp jz,?_⟩
 refine ⟨_,_,rfl,iS.k (k:=Sum.inl κ.gr) hk.g,?_⟩
 rw [En hgv.no]
 walk_at "go"
 refine lY ?_
 walk_at "go"
 refine bT ?_
 walk_at "go"
 refine ⟨_,_,rfl,bU (k:=Sum.inr "area") hp qg,?_⟩
 walk_at "go"
 refine bT ?_
 walk_at "go"
 refine ⟨_,_,rfl,bU (k:=Sum.inr "area") hp qg,?_⟩
 walk_at "go"
 have s1:=L'.same
 refine bT ?_
 walk_at "go"
 refine ⟨_,_,rfl,bU (k:=Sum.inr "heard") (s1 _ _ hp) lS,?_⟩
 refine ⟨_,_,_,_,rfl,rfl,L'.eo .head,s1 _ _ hk.h,Nat.le_of_lt (small1000 (by rw [List.length_map,List.length_singleton];omega)),fun p2 np2=>?_⟩
 have s2:aM H (upd H' p2 (.lst ([.int 0] ++ κ.hs.map V.int))):=fun b o e=>by rw [au (aq (s1 _ _ e) np2)];exact s1 _ _ e
 obtain ⟨H2,eH2⟩:∃ H2,upd H' p2 (.lst ([.int 0] ++ κ.hs.map V.int))=H2:=⟨_,rfl⟩
 have hp2:H2 p2=some (.lst ((0 :: κ.hs).map V.int)):=by rw [← eH2];exact aB
 rw [eH2] at s2 ⊢
 clear L L'
 walk_at "go"
 refine lW (ns:=0 :: κ.hs) (SqL.of hp2) (by simp) fun M hM _=>?_
 have hMe:M≤e:=by
  rcases List.mem_cons.mp hM with rfl | hM
  ·exact hgv.h0
  ·exact hgv.hs _ hM
 have hk2:=hk.same s2
 have L:=(((Led.start H2 (fun _=>False)).more (aO t _) (s2 _ _ ht)).more (aO r.t _) (s2 _ _ hdr.1)).more (aO ta _) (s2 _ _ hta)
 walk_at "go"
 refine qm ?_
 walk_at "go"
 refine bT ?_
 walk_at "go"
 refine ⟨_,_,rfl,bU (k:=Sum.inr "given") (s2 _ _ hp) jz,?_⟩
 walk_at "go"
 refine ⟨_,_,rfl,kW (k:=Sum.inl κ.gr) hk2.g (GZ hgv.no) (small1000 (by unfold gvK;rw [List.length_map];omega)),?_⟩
 obtain ⟨H3,eH3⟩:∃ H3,upd H2 k.gd (.dK (gvK (κ.gv++[(κ.gr,e)])))=H3:=⟨_,rfl⟩
 have f3:∀ q o,H2 q=some o→q≠k.gd→H3 q=some o:=fun q o e n=>by rw [← eH3,au n];exact e
 have ts3:cB H2 H3:=fun q xs e=>f3 q _ e fun z=>by rw [z,hk2.g] at e;cases e
 have nl3:∀ {q:Addr} {xs:List V},H2 q=some (.lst xs)→q≠k.gd:=fun e z=>by rw [z,hk2.g] at e;cases e
 have hk3:KAt H3 k { κ with gv:=κ.gv++[(κ.gr,e)] }:=⟨⟨.ref ta,f3 _ _ (s2 _ _ hp) hk2.pg,fq.ts (fq.ts hav (bV s2)) ts3⟩,f3 _ _ hk2.m (nl3 hk2.m),f3 _ _ hk2.h (nl3 hk2.h),by rw [← eH3];exact aB,hk.n⟩
 have hp3:=f3 _ _ (s2 _ _ hp) hk2.pg
 rw [eH3]
 clear L
 have L:=(Led.start H3 (fun _=>False)).more (aO r.t _) (ts3 _ _ (s2 _ _ hdr.1))
 have c1:=hsh.c1
 have s1':=hsh.s1
 have c2:=hsh.c2
 have s2':=hsh.s2
 walk_at "go"
 refine bT ?_
 walk_at "go"
 refine ⟨_,_,rfl,bU (k:=Sum.inr "marks") hp3 gT,?_⟩
 walk_at "go"
 have s4:=L'.same
 refine F2 (.lst (SqL.of (s4 _ _ hk3.m)) (jB _)) (e:=.lst []) (.lst (SqL.of (L'.eo .head)) .nil) (jZ _) ?_
 rw [qz]
 walk_at "go"
 have fr:∀ q o,H q=some o→q≠k.gd→H' q=some o:=fun q o e n=>s4 _ _ (f3 _ _ (s2 _ _ e) n)
 refine bS (fun z=>?_) (fun z=>?_)
 ·exact q _ (hk3.same s4) fr
 obtain ⟨ms,M,eM⟩:∃ ms M,κ.ms=ms++[M]:=⟨_,_,(List.dropLast_concat_getLast (fun z'=>z (by show κ.ms.length=0;rw [z'];rfl))).symm⟩
 have hlt:=hgv.ms M (by rw [eM,List.getLast?_append];rfl)
 have hms:H' k.lm=some (.lst (ms.map V.int++[.int M])):=by rw [s4 _ _ hk3.m];show some (HO.lst (κ.ms.map V.int))=_;rw [eM,List.map_append];rfl
 walk_at "go"
 refine bT ?_
 walk_at "go"
 refine ⟨_,_,rfl,bU (k:=Sum.inr "marks") (s4 _ _ hp3) gT,?_⟩
 walk_at "go"
 refine g4 (SqL.of hms) iQ ?_
 walk_at "go"
 rw [decide_eq_true hlt]
 exact q _ (hk3.same s4) fr
end
section
variable {P:Program} {w:World} {K:PySem.W.Frag} {mg:Str→Option Value} {base:Heap} {CX:CXT} {C CS CM CH CD CU CA CN CW CT CR:Addr}
theorem yc:ao ["_law_drawn_here", "_law_known", "_law_ann", "_law_reading_here", "_law_mark", "_law_moment", "_law_slot", "_law_first", "_law_end"] ["_law_drawn_here", "_law_known", "_law_ann", "_law_reading_here", "_law_mark"] (ai (top 80)):=by walk_at "s"
def wC (C CS CH:Addr):Sp:=fun vs H Q _=>∃ (r:Dr) (k:Kd) (κ : Kn) (d:Hd) (ls:Lns) (pl:Option (Int×Int)) (rd M:Int),vs=[.ref r.t,.ref k.p,.ref d.p,.int rd,.int M]∧DrF H r∧KAt H k κ∧κ.ms.length≤400∧κ.hs.length≤400∧bA C CS CH H d ls pl∧cO ls pl∧ShN r.c r.s∧Fd r.c r.s r.far rd M (nt ls) κ ∧
 ∀ H',KAt H' k { κ with ms:=κ.ms++[M] }→(∀ q o,H q=some o→q≠k.lm→H' q=some o)→Q (.bl true) H'
theorem yC (D:Dat K mg "_law_mark_right" "_law_mark_right" (top 80) ["_law_drawn_here", "_law_known", "_law_ann", "_law_reading_here", "_law_mark"]) (BT:Bt mg) (NE:bf CX) (gg:Cal P w K mg base CX "_law_whole" 1 ["_law_found"] fu) (ig:Cal P w K mg base CX "_law_read" 2 ["_law_lines"] (pB K)) (bQ:bF P w K mg base CX CH "note" 1 ["self"] (lq C CS CH)):Cal P w K mg base CX "_law_mark_right" 3 ["_law_drawn_here", "_law_known", "_law_ann", "_law_reading_here", "_law_mark"] (wC C CS CH):=by
 have S:=yc
 walk_at "d"
 ·obtain ⟨r,k,κ,d,ls,pl,rd,M,rfl,_⟩:=h
  rfl
 obtain ⟨r,k,κ,d,ls,pl,rd,M,rfl,hdr,hk,hm4,hh4,hd,hok,hsh,hmk,q⟩:=h
 obtain ⟨av,hp,hav⟩:=id hk.p
 obtain ⟨sl,f',e',ear,esl,ef,ee⟩:=hmk.ar
 obtain ⟨ta,rfl,hta⟩:=mK (ear▸hav)
 obtain ⟨rd1,rd2⟩:=hmk.rd
 have c1:=hsh.c1
 have s1':=hsh.s1
 have c2:=hsh.c2
 have s2':=hsh.s2
 refine ⟨_,(aj (bg (PW.pt (iU (cT (cK (aG gg (hr.mono (by first | decide | omega)) NE.pass (aa (pv 4) ah)))) (fR (PW.pt (lD (aJ (AO (hr.mono (Nat.zero_le _))) (bR (cF hr) (pv 1) aF (fun _ _=>rfl)) (br ah) (aI _)) (jv (aJ jw (pv 4) (ay bu (bR (cF hr) (pv 1) aF (fun _ _=>rfl)) (fE dD af) (fun _ _=>rfl)) (aI _)))))))) (ak (az dY)) aK)
   (aj (aL (i:=5) S.nd rfl (by first | exact Or.inl rfl | exact Or.inr rfl) (aP dw (aP dw (pv 4) (ay aE (pv 0) af (fun _ _=>rfl))) (ay aE (pv 0) af (fun _ _=>rfl))))
   (aj (ff (bR (cF hr) (pv 1) aF (fun _ _=>rfl)) (jU rfl (cz (bB (i:=6) S.nd rfl (by first | exact Or.inl rfl | exact Or.inr rfl)) (cz (bB (i:=7) S.nd rfl (by first | exact Or.inl rfl | exact Or.inr rfl)) (cz (bB (i:=8) S.nd rfl (by first | exact Or.inl rfl | exact Or.inr rfl)) iH)))))
   (aj (bg (PW.pt (iU (aJ sf (aP fj (aP dw (pv 4) (ay aE (pv 0) af (fun _ _=>rfl))) (ay aE (pv 0) af (fun _ _=>rfl))) (pv 6) (aI _)) (fR (cT (lE jw gB (pv 7) (pv 5) (pv 8)))))) (ak (az dY)) aK)
   (aj (bg (PW.pt (iU (cT (lE jw jw (pv 3) (pv 5) (aP bK (pv 3) (ay aE (pv 0) af (fun _ _=>rfl))))) (fR (aJ gB (pv 5) (aX (mC rfl) rfl BT.max L3.cI (aa (aP jY (br (aa af ah)) (bR (cF hr) (pv 1) aF (fun _ _=>rfl))) ah)) (aI _))))) (ak (az dY)) aK)
   (aj (bg (aJ sj (pv 5) (ay aE (aG ig (hr.mono (by first | decide | omega)) NE.pass (aa (cj bQ (hr.mono (by first | decide | omega)) NE.pass (pv 2)) ah)) af (fun _ _=>rfl)) (aI _)) (ak (az dY)) aK)
   (aj (ck (oj PySem.F.plainAttrs_list PySem.F.slot_list_append PySem.F.type_list_append fF (bR (cF hr) (pv 1) aF (fun _ _=>rfl)) (aa (pv 4) ah)))
   (ak (az (wQ (AM (yq (cF hr) (bR (cF hr) (pv 1) aF (fun _ _=>rfl)) (bR (cF hr) (pv 1) aF (fun _ _=>rfl)))) (dS (cu gB (pv 5) (bR (cF hr) (bR (cF hr) (pv 1) aF (fun _ _=>rfl)) (bR (cF hr) (pv 1) aF (fun _ _=>rfl)) (fun _ _=>rfl)) (aI _))))))))))))),?_⟩
 try dsimp only [aY]
 have L:=((Led.start H (fun _=>False)).more (aO r.t _) hdr.1).more (aO ta _) hta
 walk_at "one"
 try dsimp only [bE]
 refine cE (fun σ H'=>σ=[some (.ref r.t),some (.ref k.p),some (.ref d.p),some (.int rd),some (.int M),none,none,none,none]∧aM H H') (fun nx kk=>?_) ?_
 ·walk_at "go"
  refine ⟨_,rfl,?_⟩
  walk_at "go"
  refine bT ?_
  walk_at "go"
  refine ⟨_,_,rfl,bU (k:=Sum.inr "marks") hp gT,?_⟩
  walk_at "go"
  have s4:=L'.same
  refine JI (.lst (SqL.of (s4 _ _ hk.m)) (jB _)) (e:=.lst []) (.lst (SqL.of (L'.eo .head)) .nil) (jZ _) ?_
  rw [qz]
  walk_at "go"
  by_cases z : κ.ms.length=0
  ·rw [decide_eq_true z]
   refine lY ?_
   walk_at "go"
   exact kk _ _ ⟨rfl,s4⟩
  ·rw [decide_eq_false z]
   refine tF ?_
   obtain ⟨ms,M',eM⟩:∃ ms M',κ.ms=ms++[M']:=⟨_,_,(List.dropLast_concat_getLast (fun z'=>z (by rw [z'];rfl))).symm⟩
   have hlt:=hmk.ri M' (by rw [eM,List.getLast?_append];rfl)
   have hms:H' k.lm=some (.lst (ms.map V.int++[.int M'])):=by rw [s4 _ _ hk.m,eM,List.map_append];rfl
   walk_at "go"
   refine bT ?_
   walk_at "go"
   refine ⟨_,_,rfl,bU (k:=Sum.inr "marks") (s4 _ _ hp) gT,?_⟩
   walk_at "go"
   refine g4 (SqL.of hms) iQ ?_
   walk_at "go"
   exact kk _ _ ⟨rfl,s4⟩
 clear L
 rintro σ HA ⟨rfl,sA⟩
 have hpA:=sA _ _ hp
 have L:=((Led.start HA (fun _=>False)).more (aO r.t _) (sA _ _ hdr.1)).more (aO ta _) (sA _ _ hta)
 walk_at "go"
 refine bT ?_
 walk_at "go"
 refine ⟨_,_,rfl,bU (k:=Sum.inr "area") hpA qg,?_⟩
 walk_at "go"
 have s1:=L'.same
 refine bT ?_
 walk_at "go"
 refine ⟨_,_,rfl,bU (k:=Sum.inr "heard") (s1 _ _ hpA) lS,?_⟩
 refine ⟨_,_,_,_,rfl,rfl,L'.eo .head,s1 _ _ (sA _ _ hk.h),Nat.le_of_lt (small1000 (by rw [List.length_map,List.length_singleton];omega)),fun p2 np2=>?_⟩
 have s2:aM H (upd H' p2 (.lst ([.int 0] ++ κ.hs.map V.int))):=fun b o e=>by rw [au (aq (s1 _ _ (sA _ _ e)) np2)];exact s1 _ _ (sA _ _ e)
 obtain ⟨H2,eH2⟩:∃ H2,upd H' p2 (.lst ([.int 0] ++ κ.hs.map V.int))=H2:=⟨_,rfl⟩
 have hp2:H2 p2=some (.lst ((0 :: κ.hs).map V.int)):=by rw [← eH2];exact aB
 rw [eH2] at s2 ⊢
 clear L L' s1 hpA sA
 walk_at "go"
 refine lW (ns:=0 :: κ.hs) (SqL.of hp2) (by simp) fun M2 hM _=>?_
 have hMe:M2≤M / r.c / r.s:=by
  rcases List.mem_cons.mp hM with rfl | hM
  ·exact hmk.h0
  ·exact hmk.hs _ hM
 have hk2:=hk.same s2
 have hd2:=hd.same s2
 obtain ⟨⟨dx,sv,hdp,_⟩,_,hL2,_⟩:=id hd2
 have hln:=hok.len
 have hhd:=hmk.hd
 have L:=((Led.start H2 (fun _=>False)).more (aO r.t _) (s2 _ _ hdr.1)).more (aO ta _) (s2 _ _ hta)
 walk_at "go"
 refine aZ hdp j0 ?_
 walk_at "go"
 refine ⟨d,ls,pl,rfl,hd2,fun nb H3 _ hnb s3=>?_⟩
 walk_at "go"
 refine ⟨nb,ls,rfl,SqL.of hnb,hL2.same s3,hok.good,by omega,fun t4 H4 hn4 s4=>?_⟩
 obtain ⟨v4,hv4,_⟩:=hn4
 have s5:aM H H4:=s2.trans (s3.trans s4)
 walk_at "go"
 refine bS (fun z=>absurd hhd (Int.not_lt.mpr z)) fun _=>?_
 have hk4:=hk.same s5
 have hp4:=s5 _ _ hp
 clear L
 walk_at "go"
 refine bT ?_
 walk_at "go"
 refine ⟨_,_,rfl,bU (k:=Sum.inr "marks") hp4 gT,?_⟩
 walk_at "go"
 refine xg (SqL.of hk4.m) ?_
 walk_at "go"
 refine ⟨_,_,_,rfl,rfl,hk4.m,small1000 (by rw [List.length_map];omega),?_⟩
 obtain ⟨H5,eH5⟩:∃ H5,upd H4 k.lm (.lst (κ.ms.map V.int++[.int M]))=H5:=⟨_,rfl⟩
 rw [eH5]
 have f5:∀ q o,H4 q=some o→q≠k.lm→H5 q=some o:=fun q o e n=>by rw [← eH5,au n];exact e
 have ts5:cB H4 H5:=fun q xs e=>f5 q _ e fun z=>by rw [z,hk4.m] at e;cases e
 have nd:∀ {q:Addr} {xs:List (Key×V)},H4 q=some (.dK xs)→q≠k.lm:=fun e z=>by rw [z,hk4.m] at e;cases e
 have hp5:=f5 _ _ hp4 (nd hp4)
 have hk5:KAt H5 k { κ with ms:=κ.ms++[M] }:=⟨⟨.ref ta,hp5,fq.ts (fq.ts hav (bV s5)) ts5⟩,by rw [← eH5,List.map_append];exact aB,f5 _ _ hk4.h hk.n.symm,f5 _ _ hk4.g (nd hk4.g),hk.n⟩
 have fr:∀ q o,H q=some o→q≠k.lm→H5 q=some o:=fun q o e n=>f5 _ _ (s5 _ _ e) n
 walk_at "go"
 refine BD ?_
 walk_at "go"
 refine bT ?_
 walk_at "go"
 refine ⟨_,_,rfl,bU (k:=Sum.inr "grant") hp5 lT,?_⟩
 refine bT ?_
 walk_at "go"
 refine ⟨_,_,rfl,bU (k:=Sum.inr "given") hp5 jz,?_⟩
 refine ⟨_,_,rfl,iS.k (k:=Sum.inl κ.gr) hk5.g,?_⟩
 cases eg:ez (gvK κ.gv) (Sum.inl κ.gr) with
 | none=>
  walk_at "go"
  refine tF ?_
  exact q _ hk5 fr
 | some v=>
  obtain ⟨x,rfl,hx⟩:=Em eg
  have hxl:=hmk.gv x hx
  walk_at "go"
  refine lY ?_
  walk_at "go"
  refine bT ?_
  refine bT ?_
  walk_at "go"
  refine ⟨_,_,rfl,bU (k:=Sum.inr "given") hp5 jz,?_⟩
  refine bT ?_
  walk_at "go"
  refine ⟨_,_,rfl,bU (k:=Sum.inr "grant") hp5 lT,?_⟩
  refine ⟨_,_,rfl,bU (k:=Sum.inl κ.gr) hk5.g eg,?_⟩
  walk_at "go"
  rw [decide_eq_true hxl]
  exact q _ hk5 fr
end
theorem kU (ls:Lns) (x:Addr×Ln):nt (ls++[x])=(nt ls).step x.2:=by
 unfold nt bh
 rw [List.foldl_append];rfl
theorem gY (ls:Lns) (x:Addr×Ln):gmx (ls++[x])=if isT x then max (gmx ls) (gOf x) else gmx ls:=by
 unfold gmx gts
 rw [List.filter_append,List.map_append,List.foldl_append,List.filter_cons]
 by_cases h:isT x=true
 ·rw [if_pos h,if_pos h];rfl
 ·rw [if_neg h,if_neg h];rfl
theorem ls0 {ls2:Lns} (h:([]:List Ln)=ls2.map (·.2)):ls2=[]:=List.map_eq_nil_iff.mp h.symm
theorem ls1 {ls2:Lns} {x:Ln} (h:[x]=ls2.map (·.2)):∃ a,ls2=[(a,x)]:=by
 cases ls2 with
 | nil=>cases h
 | cons y ys=>
  rw [List.map_cons] at h
  injection h with h1 h2
  cases ls0 h2
  exact ⟨y.1,by rw [h1]⟩
section
variable {d:Hd} {ls ls2:Lns} {pl pl2:Option (Int×Int)} {κ : Kn} {o:Ou} {m k:Int}
abbrev JL (d:Hd) (ls:Lns) (pl:Option (Int×Int)) (κ : Kn):Prop:=J d.c d.s (nt ls) (gmx ls) pl κ
theorem IA (h:JL d ls (some (m,k)) κ) (e:opF d (nt ls) (gmx ls) (some (m,k)) .jG=(o,ls2.map (·.2),pl2)):o = .non∧JL d (ls++ls2) pl2 κ:=by
 simp only [opF] at e
 injection e with e1 e2
 injection e2 with e2 e3
 cases ls0 e2
 subst e1 e3
 rw [List.append_nil]
 exact ⟨rfl,h.jG⟩
theorem Iu (h:JL d ls none κ) (e:opF d (nt ls) (gmx ls) none .rise=(o,ls2.map (·.2),pl2)):o = .non∧JL d (ls++ls2) pl2 κ:=by
 simp only [opF] at e
 injection e with e1 e2
 injection e2 with e2 e3
 cases ls0 e2
 subst e1 e3
 rw [List.append_nil]
 exact ⟨rfl,h.rise⟩
theorem Cg {gr sl f e':Int} (h:JL d ls (some (m,k)) κ) (hw:("once" : Str)∈d.ws) (h0 : 0≤sl) (h1:sl < d.s) (e:opF d (nt ls) (gmx ls) (some (m,k)) (.take gr sl f e')=(o,ls2.map (·.2),pl2)) :
  o = .bl (decide (κ.mo < gr))∧JL d (ls++ls2) pl2 (if decide (κ.mo < gr) then { κ with mo:=gr,gr:=gr,ar:=some (sl,f,e') } else κ):=by
 rw [h.mo]
 simp only [opF] at e
 by_cases c:gr≤gmx ls
 ·rw [if_pos ⟨hw,c⟩] at e
  injection e with e1 e2
  injection e2 with e2 e3
  cases ls0 e2
  subst e1 e3
  rw [List.append_nil,decide_eq_false (show ¬ gmx ls < gr by omega)]
  exact ⟨rfl,h⟩
 ·rw [if_neg (fun z=>c z.2)] at e
  injection e with e1 e2
  injection e2 with e2 e3
  obtain ⟨a,rfl⟩:=ls1 e2
  subst e1 e3
  rw [decide_eq_true (show gmx ls < gr by omega),if_pos rfl]
  refine ⟨rfl,?_⟩
  unfold JL
  rw [kU,gY,if_pos (show isT (a,Ln.took gr sl f e')=true from rfl),show max (gmx ls) (gOf (a,Ln.took gr sl f e'))=gr by show max (gmx ls) gr=gr;omega]
  exact h.take c h0 h1
theorem Iw {b:Int} (h:JL d ls (some (m,k)) κ) (hw:("spoken" : Str)∈d.ws) (e:opF d (nt ls) (gmx ls) (some (m,k)) (.gW b)=(o,ls2.map (·.2),pl2)):o = .non∧JL d (ls++ls2) pl2 { κ with hs:=κ.hs++[b] }:=by
 simp only [opF] at e
 by_cases c:(nt ls).hr < b
 ·rw [if_pos ⟨hw,c⟩] at e
  injection e with e1 e2
  injection e2 with e2 e3
  obtain ⟨a,rfl⟩:=ls1 e2
  subst e1 e3
  refine ⟨rfl,?_⟩
  unfold JL
  rw [kU,gY,if_neg (by unfold isT;exact Bool.false_ne_true)]
  exact h.gW rfl rfl rfl rfl
 ·rw [if_neg (fun z=>c z.2)] at e
  injection e with e1 e2
  injection e2 with e2 e3
  cases ls0 e2
  subst e1 e3
  rw [List.append_nil]
  exact ⟨rfl,h.gW rfl rfl rfl (by omega)⟩
theorem Fg {r:Int} (h:JL d ls (some (m,k)) κ) (e:opF d (nt ls) (gmx ls) (some (m,k)) (.write r)=(o,ls2.map (·.2),pl2)):pl2=some (m,k)∧JL d (ls++ls2) pl2 κ:=by
 simp only [opF] at e
 have stay:∀ {o'},((o',([]:List Ln),some (m,k)):Rs)=(o,ls2.map (·.2),pl2)→pl2=some (m,k)∧JL d (ls++ls2) pl2 κ:=fun e=>by
  injection e with e1 e2
  injection e2 with e2 e3
  cases ls0 e2
  subst e1 e3
  rw [List.append_nil]
  exact ⟨rfl,h⟩
 split at e
 ·exact stay e
 ·rename_i sl f e' ha
  split at e
  ·exact stay e
  ·split at e
   ·exact stay e
   ·by_cases c:(nt ls).hd < due m f r+d.room
    ·rw [if_pos c] at e
     injection e with e1 e2
     injection e2 with e2 e3
     obtain ⟨a,rfl⟩:=ls1 e2
     subst e1 e3
     refine ⟨rfl,?_⟩
     unfold JL
     rw [kU,gY,if_neg (by unfold isT;exact Bool.false_ne_true)]
     exact h.write rfl rfl (by show (nt ls).hd≤max _ _;omega) rfl
    ·rw [if_neg c] at e
     exact stay e
theorem Iv {r:Int} (h:JL d ls (some (m,k)) κ) (hw:("ahead" : Str)∈d.ws) (e:opF d (nt ls) (gmx ls) (some (m,k)) (.make r)=(o,ls2.map (·.2),pl2)) :
  ls2=[]∧((gU o=true∧JL d (ls++ls2) pl2 κ)∨∃ M,o = .int M∧Fd d.c d.s d.far r M (nt (ls++ls2)) κ∧JL d (ls++ls2) pl2 { κ with ms:=κ.ms++[M] }):=by
 simp only [opF] at e
 have stay:∀ {j},((Ou.err j,([]:List Ln),some (m,k)):Rs)=(o,ls2.map (·.2),pl2)→ls2=[]∧((gU o=true∧JL d (ls++ls2) pl2 κ)∨∃ M,o = .int M∧Fd d.c d.s d.far r M (nt (ls++ls2)) κ∧JL d (ls++ls2) pl2 { κ with ms:=κ.ms++[M] }):=fun e=>by
  injection e with e1 e2
  injection e2 with e2 e3
  cases ls0 e2
  subst e1 e3
  rw [List.append_nil]
  exact ⟨rfl,.inl ⟨rfl,h⟩⟩
 split at e
 ·exact stay e
 ·rename_i sl f e' ha
  split at e
  ·exact stay e
  ·rename_i c1
   split at e
   ·exact stay e
   ·rename_i c2
    by_cases c:(nt ls).hd≤due m f r
    ·rw [if_pos ⟨hw,c⟩] at e
     exact stay e
    ·rw [if_neg (fun z=>c z.2)] at e
     injection e with e1 e2
     injection e2 with e2 e3
     cases ls0 e2
     subst e1 e3
     rw [List.append_nil]
     obtain ⟨j1,j2⟩:=h.make (r:=r) (far:=d.far) ha c1 c2 c
     exact ⟨rfl,.inr ⟨_,rfl,j1,j2⟩⟩
theorem Iz (h:JL d ls (some (m,k)) κ) (hw:("ends" : Str)∈d.ws) (e:opF d (nt ls) (gmx ls) (some (m,k)) .give=(o,ls2.map (·.2),pl2)) :
  (gU o=true∧JL d (ls++ls2) pl2 κ)∨∃ E,o = .pr κ.gr E∧Fi d.c d.s E κ∧JL d (ls++ls2) pl2 { κ with gv:=κ.gv++[(κ.gr,E)] }:=by
 simp only [opF] at e
 have stay:∀ {j},((Ou.err j,([]:List Ln),some (m,k)):Rs)=(o,ls2.map (·.2),pl2)→(gU o=true∧JL d (ls++ls2) pl2 κ)∨∃ E,o = .pr κ.gr E∧Fi d.c d.s E κ∧JL d (ls++ls2) pl2 { κ with gv:=κ.gv++[(κ.gr,E)] }:=fun e=>by
  injection e with e1 e2
  injection e2 with e2 e3
  cases ls0 e2
  subst e1 e3
  rw [List.append_nil]
  exact .inl ⟨rfl,h⟩
 split at e
 ·exact stay e
 ·rename_i sl f e' ha
  split at e
  ·exact stay e
  ·rename_i c1
   try rw [if_pos hw] at e
   injection e with e1 e2
   injection e2 with e2 e3
   obtain ⟨a,rfl⟩:=ls1 e2
   subst e1 e3
   obtain ⟨j1,j2⟩:=h.give ha c1
   refine .inr ⟨_,by rw [h.gr],j1,?_⟩
   unfold JL
   rw [kU,gY,if_neg (by unfold isT;exact Bool.false_ne_true)]
   rw [show ((nt ls).g,cV f m k (nt ls).hd)=(κ.gr,cV f m k (nt ls).hd) by rw [h.gr]] at j2
   exact j2
end
structure Sep (p:Addr) (d:Hd) (k:Kd):Prop where
 l1:d.l≠k.lm
 l2:d.l≠k.lh
 p1:p≠k.lm
 p2:p≠k.lh
structure DrD (r:Dr) (d:Hd):Prop where
 c:d.c=r.c
 s:d.s=r.s
 far:d.far=r.far
 ws:d.ws=zq
 rw:r.ws=zq
structure DS (C CS CH:Addr) (H:Hp) (p:Addr) (b:Int) (d:Hd) (ls:Lns) (pl:Option (Int×Int)) (r:Dr) (k:Kd) (κ : Kn):Prop where
 hh:bI H p b
 hd:bA C CS CH H d ls pl
 dr:DrF H r
 kn:KAt H k κ
 sp:Sep p d k
 rd:DrD r d
def FrA (p:Addr) (d:Hd) (k:Kd) (H H':Hp):Prop:=∀ q o,H q=some o→q≠p→q≠d.p→q≠d.l→q≠k.p→q≠k.lm→q≠k.lh→q≠k.gd→H' q=some o
section
variable {C CS CH p:Addr} {H H1 H':Hp} {b b':Int} {d:Hd} {ls ls':Lns} {pl pl':Option (Int×Int)} {r:Dr} {k:Kd} {κ κ':Kn}
theorem FrA.trans (f:FrA p d k H H1) (g:FrA p d k H1 H'):FrA p d k H H':=fun q o e n1 n2 n3 n4 n5 n6 n7=>g q o (f q o e n1 n2 n3 n4 n5 n6 n7) n1 n2 n3 n4 n5 n6 n7
theorem FrA.oth (o:Oth p H H'):FrA p d k H H':=fun q u h n _ _ _ _ _ _=>o q u h n
theorem FrA.same (s:aM H H'):FrA p d k H H':=fun q u h _ _ _ _ _ _ _=>s q u h
theorem FrA.fr2 (f:Fr2 d.p d.l H H'):FrA p d k H H':=fun q u h _ n m _ _ _ _=>f q u h n m
theorem DS.ndp (h:DS C CS CH H p b d ls pl r k κ):(∀ {q xs},H q=some (.dK xs)→q≠p∧q≠d.p∧q≠d.l):=fun {q xs} e=>by
 obtain ⟨x,y,u,e2,_⟩:=h.hh
 obtain ⟨⟨dx,sv,hp,_⟩,hl,_⟩:=h.hd
 refine ⟨fun z=>?_,fun z=>?_,fun z=>?_⟩
 ·rw [z,e2] at e;cases e
 ·rw [z,hp] at e;cases e
 ·rw [z,hl] at e;cases e
theorem DS.nlp (h:DS C CS CH H p b d ls pl r k κ) {q:Addr} {xs:List V} (e:H q=some (.lst xs)):q≠d.p:=fun z=>by
 obtain ⟨⟨dx,sv,hp,_⟩,_⟩:=h.hd
 rw [z,hp] at e;cases e
theorem DS.lrd (h:DS C CS CH H p b d ls pl r k κ):r.lr≠d.l∧r.lr≠k.lm∧r.lr≠k.lh∧r.lr≠p:=by
 have e:=h.dr.2
 rw [h.rd.rw] at e
 refine ⟨fun z=>?_,fun z=>?_,fun z=>?_,fun z=>?_⟩
 ·rw [z,h.hd.2.1] at e
  injection e with e
  injection e with e
  cases ls with
  | nil=>cases e
  | cons x xs=>injection e with e _;cases e
 ·rw [z,h.kn.m] at e
  injection e with e
  injection e with e
  cases hm : κ.ms with
  | nil=>rw [hm] at e;cases e
  | cons x xs=>rw [hm] at e;injection e with e _;cases e
 ·rw [z,h.kn.h] at e
  injection e with e
  injection e with e
  cases hm : κ.hs with
  | nil=>rw [hm] at e;cases e
  | cons x xs=>rw [hm] at e;injection e with e _;cases e
 ·obtain ⟨x,y,u,e2,_⟩:=h.hh
  rw [z,e2] at e
  injection e with e
  injection e with e
  injection e with e _
  cases e
theorem DS.oth (h:DS C CS CH H p b d ls pl r k κ) (hh':bI H' p b') (o:Oth p H H'):DS C CS CH H' p b' d ls pl r k κ:=
 ⟨hh',h.hd.oth h.hh o,h.dr.oth h.hh o,h.kn.keep (h.hh.ts o).ts (fun _ e=>o _ _ e (h.kn.p.elim fun _ x=>(h.ndp x.1).1)) (fun _ e=>o _ _ e h.sp.p1.symm) (fun _ e=>o _ _ e h.sp.p2.symm) (fun _ e=>o _ _ e (h.ndp h.kn.g).1),h.sp,h.rd⟩
theorem DS.same (h:DS C CS CH H p b d ls pl r k κ) (s:aM H H'):DS C CS CH H' p b d ls pl r k κ:=
 ⟨h.hh.elim fun x y=>y.elim fun u v=>v.elim fun z t=>⟨x,u,z,s _ _ t.1,t.2⟩,h.hd.same s,h.dr.same s,h.kn.same s,h.sp,h.rd⟩
theorem DS.hand (h:DS C CS CH H p b d ls pl r k κ) (hd':bA C CS CH H' d ls' pl') (f:Fr2 d.p d.l H H'):DS C CS CH H' p b d ls' pl' r k κ:=by
 have ts:=jj h.hd f
 obtain ⟨n1,_⟩:=h.lrd
 refine ⟨?_,hd',⟨ts _ _ h.dr.1,f _ _ h.dr.2 (h.nlp h.dr.2) n1⟩,h.kn.keep ts (fun _ e=>f _ _ e (h.kn.p.elim fun _ x=>(h.ndp x.1).2.1) (h.kn.p.elim fun _ x=>(h.ndp x.1).2.2)) (fun _ e=>f _ _ e (h.nlp h.kn.m) h.sp.l1.symm) (fun _ e=>f _ _ e (h.nlp h.kn.h) h.sp.l2.symm) (fun _ e=>f _ _ e (h.ndp h.kn.g).2.1 (h.ndp h.kn.g).2.2),h.sp,h.rd⟩
 obtain ⟨x,y,u,e2,t⟩:=id h.hh
 exact ⟨x,y,u,f _ _ e2 (h.nlp e2) (h.hd.nl h.hh).symm,t⟩
theorem DS.Bo {x:Addr} (h:DS C CS CH H p b d ls pl r k κ) (hx:x=k.p∨x=k.lm∨x=k.lh∨x=k.gd) (hk':KAt H' k κ') (f:∀ q o,H q=some o→q≠x→H' q=some o):DS C CS CH H' p b d ls pl r k κ'∧FrA p d k H H':=by
 obtain ⟨n1,n2,n3,n4⟩:=h.lrd
 obtain ⟨av,hp,_⟩:=h.kn.p
 have nx:∀ {q o},H q=some o→(∀ xs,o≠.dK xs)→q≠k.lm→q≠k.lh→q≠x:=fun {q o} e nd m1 m2 z=>by
  rcases hx with hx | hx | hx | hx
  ·rw [z,hx,hp] at e;cases e;exact nd _ rfl
  ·exact m1 (z.trans hx)
  ·exact m2 (z.trans hx)
  ·rw [z,hx,h.kn.g] at e;cases e;exact nd _ rfl
 have nt':∀ {q xs},H q=some (.tup xs)→q≠k.lm∧q≠k.lh:=fun {q xs} e=>⟨(fun z=>by rw [z,h.kn.m] at e;cases e),(fun z=>by rw [z,h.kn.h] at e;cases e)⟩
 have ni:∀ {q a b c},H q=some (.ins a b c)→q≠k.lm∧q≠k.lh:=fun {q a b c} e=>⟨(fun z=>by rw [z,h.kn.m] at e;cases e),(fun z=>by rw [z,h.kn.h] at e;cases e)⟩
 have ts:cB H H':=fun q xs e=>f q _ e (nx e (fun _ z=>nomatch z) (nt' e).1 (nt' e).2)
 have ki:∀ {q a b c},H q=some (.ins a b c)→H' q=some (.ins a b c):=fun {q a b c} e=>f q _ e (nx e (fun _ z=>nomatch z) (ni e).1 (ni e).2)
 refine ⟨⟨?_,?_,⟨ts _ _ h.dr.1,f _ _ h.dr.2 (nx h.dr.2 (fun _ z=>nomatch z) n2 n3)⟩,hk',h.sp,h.rd⟩,fun q o e _ _ _ m1 m2 m3 m4=>f q o e fun z=>?_⟩
 ·obtain ⟨x',y,u,e2,t⟩:=id h.hh
  exact ⟨x',y,u,f _ _ e2 (nx e2 (fun _ z=>nomatch z) h.sp.p1 h.sp.p2),t⟩
 ·obtain ⟨⟨dx,sv,hp,hpl⟩,hl,hL,⟨dy,tr,ms,h1,h2,pm⟩,⟨dz,h3⟩,hn⟩:=h.hd
  exact ⟨⟨dx,sv,ki hp,hpl.ts ts⟩,f _ _ hl (nx hl (fun _ z=>nomatch z) h.sp.l1 h.sp.l2),hL.ts ts,⟨dy,tr,ms,ki h1,ts _ _ h2,pm⟩,⟨dz,ki h3⟩,hn⟩
 ·rcases hx with hx | hx | hx | hx
  ·exact m1 (z.trans hx)
  ·exact m2 (z.trans hx)
  ·exact m3 (z.trans hx)
  ·exact m4 (z.trans hx)
end
section
variable {P:Program} {w:World} {K:PySem.W.Frag} {mg:Str→Option Value} {base:Heap} {C CS CM CH CD CU CA CN CW CT CR:Addr}
theorem DS.up {H:Hp} {p:Addr} {b b':Int} {d:Hd} {ls:Lns} {pl:Option (Int×Int)} {r:Dr} {k:Kd} {κ : Kn} (h:DS C CS CH H p b d ls pl r k κ) (hb:b≤b'):DS C CS CH H p b' d ls pl r k κ:=⟨h.hh.mono hb,h.hd,h.dr,h.kn,h.sp,h.rd⟩
theorem qQ {d:Hd} {ls ls2:Lns} {pl pl2:Option (Int×Int)} {op:Op} {H H':Hp} {v:V} {t:Addr} (ha:nK C CS CH d ls pl op H H' v ls2 pl2) (eo:(opF d (nt ls) (gmx ls) pl op).1 = .non) (ht:H' t=some (.tup [.str (cy (opF d (nt ls) (gmx ls) pl op).1),v])):H' t=some (.tup [.str "told",.non]):=by
 have:=ha.ov (by rw [eo];rfl)
 rw [eo] at this ht
 rw [show v = .non from this] at ht
 exact ht
theorem B6 {d:Hd} {ls ls2:Lns} {pl pl2:Option (Int×Int)} {op:Op} {H H':Hp} {v:V} {t:Addr} {b:Bool} (ha:nK C CS CH d ls pl op H H' v ls2 pl2) (eo:(opF d (nt ls) (gmx ls) pl op).1 = .bl b) (ht:H' t=some (.tup [.str (cy (opF d (nt ls) (gmx ls) pl op).1),v])):H' t=some (.tup [.str "told",.bl b]):=by
 have:=ha.ov (by rw [eo];rfl)
 rw [eo] at this ht
 rw [show v = .bl b from this] at ht
 exact ht
theorem E7 {d:Hd} {ls ls2:Lns} {pl pl2:Option (Int×Int)} {op:Op} {H H':Hp} {v:V} {t:Addr} {b:Int} (ha:nK C CS CH d ls pl op H H' v ls2 pl2) (eo:(opF d (nt ls) (gmx ls) pl op).1 = .int b) (ht:H' t=some (.tup [.str (cy (opF d (nt ls) (gmx ls) pl op).1),v])):H' t=some (.tup [.str "told",.int b]):=by
 have:=ha.ov (by rw [eo];rfl)
 rw [eo] at this ht
 rw [show v = .int b from this] at ht
 exact ht
theorem Ih {d:Hd} {ls ls2:Lns} {pl pl2:Option (Int×Int)} {op:Op} {H H':Hp} {v:V} {t:Addr} {a b:Int} (ha:nK C CS CH d ls pl op H H' v ls2 pl2) (eo:(opF d (nt ls) (gmx ls) pl op).1 = .pr a b) (ht:H' t=some (.tup [.str (cy (opF d (nt ls) (gmx ls) pl op).1),v])):∃ tv,H' t=some (.tup [.str "told",.ref tv])∧H' tv=some (.tup [.int a,.int b]):=by
 have:=ha.ov (by rw [eo];rfl)
 rw [eo] at this ht
 obtain ⟨tv,rfl,h⟩:=(show ∃ t,v = .ref t∧H' t=some (.tup [.int a,.int b]) from this)
 exact ⟨tv,ht,h⟩
theorem nK.len {d:Hd} {ls ls2:Lns} {pl pl2:Option (Int×Int)} {op:Op} {H H':Hp} {v:V} (ha:nK C CS CH d ls pl op H H' v ls2 pl2):(ls++ls2).length≤ls.length+1:=by
 have:=ha.l
 rw [List.length_append];omega
structure KnL (κ : Kn) (n:Nat):Prop where
 m : κ.ms.length≤n
 h : κ.hs.length≤n
 g : κ.gv.length≤n
theorem KnL.up {κ : Kn} {n:Nat} (h:KnL κ n):KnL κ (n+1):=⟨Nat.le_succ_of_le h.m,Nat.le_succ_of_le h.h,Nat.le_succ_of_le h.g⟩
theorem sW {κ : Kn} {n:Nat} {b:Bool} {x y:Int} {z:Option (Int×Int×Int)} (h:KnL κ n):KnL (if b then { κ with mo:=x,gr:=y,ar:=z } else κ) n:=by
 cases b with
 | true=>exact ⟨h.m,h.h,h.g⟩
 | false=>exact h
theorem Aq:ao ["_law_hand_here", "_law_ann", "_law_drawn_here", "_law_known", "_law_way", "_law_reading_here", "_law_grant_here", "_law_area_here", "_law_word", "_law_told", "_law_bound_here"] ["_law_hand_here", "_law_ann", "_law_drawn_here", "_law_known"] (ai (top 83)):=by walk_at "s"
def Aa (C CS CH:Addr):Sp:=fun vs H Q _=>∃ (p:Addr) (b:Int) (d:Hd) (ls:Lns) (pl:Option (Int×Int)) (r:Dr) (k:Kd) (κ : Kn) (n:Nat),vs=[.ref p,.ref d.p,.ref r.t,.ref k.p]∧DS C CS CH H p b d ls pl r k κ∧b≤500000∧cO ls pl∧ls.length≤n∧KnL κ n∧n≤390∧DrN r∧JL d ls pl κ ∧
 ∀ ls' pl' κ' H',DS C CS CH H' p (b+10000) d ls' pl' r k κ'→cO ls' pl'→ls'.length≤n+1→KnL κ' (n+1)→JL d ls' pl' κ'→FrA p d k H H'→Q (.bl true) H'
theorem A4 (D:Dat K mg "_law_deed" "_law_deed" (top 83) ["_law_hand_here", "_law_ann", "_law_drawn_here", "_law_known"]) (BT:Bt mg) (NE:bf (CX1 P w)) (aH:Cal P w K mg base (CX1 P w) "_law_pick" 11 ["_law_hand_here", "_law_many"] dQ) (cH:Cal P w K mg base (CX1 P w) "_law_reading" 12 ["_law_hand_here", "_law_ann", "_law_drawn_here"] (c5 C CS CH)) (gk:Cal P w K mg base (CX1 P w) "_law_bound" 12 ["_law_hand_here", "_law_ann", "_law_drawn_here"] (c5 C CS CH)) (gi:Cal P w K mg base (CX1 P w) "_law_grant" 12 ["_law_hand_here", "_law_ann"] (lu C CS CH))
  (ir:Cal P w K mg base (CX1 P w) "_law_area" 12 ["_law_hand_here", "_law_drawn_here", "_law_at_here"] pD) (dI:Cal P w K mg base (CX1 P w) "_law_at" 7 ["_law_ann", "_law_drawn_here"] (rG C CS CH)) (bO:Cal P w K mg base (CX1 P w) "_law_asked" 8 ["_law_ann", "_law_word", "_law_one", "_law_other"] (ly C CS CH)) (jL:Cal P w K mg base (CX1 P w) "_law_mark_right" 3 ["_law_drawn_here", "_law_known", "_law_ann", "_law_reading_here", "_law_mark"] (wC C CS CH)) (jM:Cal P w K mg base (CX1 P w) "_law_back_right" 2 ["_law_drawn_here", "_law_known", "_law_told"] wF) (jK:Cal P w K mg base (CX1 P w) "_law_take_right" 2 ["_law_known", "_law_grant_here", "_law_area_here", "_law_told"] wz)
  (gz:bF P w K mg base (CX1 P w) CH "is_up" 1 ["self"] (uy C CS CH)) (bZ:bF P w K mg base (CX1 P w) CH "area" 6 ["self"] (lA C CS CH)):Cal P w K mg base (CX1 P w) "_law_deed" 13 ["_law_hand_here", "_law_ann", "_law_drawn_here", "_law_known"] (Aa C CS CH):=by
 have S:=Aq
 walk_at "d"
 ·obtain ⟨p,b,d,ls,pl,r,k,κ,n,rfl,_⟩:=h
  rfl
 obtain ⟨p,b,d,ls,pl,r,k,κ,n,rfl,hs,hb,hok,hl,hkl,hn,hrn,hj,q⟩:=h
 refine ⟨_,(aj (aL (i:=4) S.nd rfl (by first | exact Or.inl rfl | exact Or.inr rfl) (aG aH (hr.mono (by first | decide | omega)) NE.pass (aa (pv 0) (aa af ah))))
   (aj (aL (i:=5) S.nd rfl (by first | exact Or.inl rfl | exact Or.inr rfl) (aG cH (hr.mono (by first | decide | omega)) NE.pass (aa (pv 0) (aa (pv 1) (aa (pv 2) ah)))))
   (aj (bg (cT (cK (cj gz (hr.mono (by first | decide | omega)) NE.pass (pv 1)))) (ak (az (cu (jX (hr.mono (Nat.zero_le _))) (aG bO (hr.mono (by first | decide | omega)) NE.pass (aa (pv 1) (aa aF (aa af (aa af ah))))) (aQ (aa aF (aa fS ah))) (aI _)))) aK)
   (aj (bg (PW.pt (iU (e9 (jV (cj bZ (hr.mono (by first | decide | omega)) NE.pass (pv 1)))) (fR (aJ iV (pv 4) af (aI _))))) (aj (aL (i:=6) S.nd rfl (by first | exact Or.inl rfl | exact Or.inr rfl) (aG gi (hr.mono (by first | decide | omega)) NE.pass (aa (pv 0) (aa (pv 1) ah))))
    (aj (aL (i:=7) S.nd rfl (by first | exact Or.inl rfl | exact Or.inr rfl) (aG ir (hr.mono (by first | decide | omega)) NE.pass (aa (pv 0) (aa (pv 2) (aa (aG dI (hr.mono (by first | decide | omega)) NE.pass (aa (pv 1) (aa (pv 2) ah))) ah)))))
    (ak (az (aG jK (hr.mono (by first | decide | omega)) NE.pass (aa (pv 3) (aa (pv 6) (aa (pv 7) (aa (ay aE (aG bO (hr.mono (by first | decide | omega)) NE.pass (aa (pv 1) (aa aF (aa (pv 6) (aa (pv 7) ah))))) af (fun _ _=>rfl)) ah))))))))) aK)
   (aj (bg (aJ gB (pv 4) af (aI _)) (aj (bg (aJ gB (pv 4) af (aI _)) (ak (ck (aG bO (hr.mono (by first | decide | omega)) NE.pass (aa (pv 1) (aa aF (aa (pv 5) (aa af ah))))))) aK)
    (aj (ff (aG bO (hr.mono (by first | decide | omega)) NE.pass (aa (pv 1) (aa aF (aa (pv 5) (aa af ah))))) (jU rfl (cz (bB (i:=8) S.nd rfl (by first | exact Or.inl rfl | exact Or.inr rfl)) (cz (bB (i:=9) S.nd rfl (by first | exact Or.inl rfl | exact Or.inr rfl)) iH))))
    (ak (az (wQ (cu cC (pv 8) aF (aI _)) (dS (aG jL (hr.mono (by first | decide | omega)) NE.pass (aa (pv 2) (aa (pv 3) (aa (pv 1) (aa (pv 5) (aa (pv 9) ah)))))))))))) aK)
   (aj (bg (aJ gB (pv 4) af (aI _)) (aj (aL (i:=10) S.nd rfl (by first | exact Or.inl rfl | exact Or.inr rfl) (aG gk (hr.mono (by first | decide | omega)) NE.pass (aa (pv 0) (aa (pv 1) (aa (pv 2) ah)))))
    (aj (ck (oj PySem.F.plainAttrs_list PySem.F.slot_list_append PySem.F.type_list_append fF (bR (cF hr) (pv 3) aF (fun _ _=>rfl)) (aa (pv 10) ah)))
    (ak (az (cu (jX (hr.mono (Nat.zero_le _))) (aG bO (hr.mono (by first | decide | omega)) NE.pass (aa (pv 1) (aa aF (aa (pv 10) (aa af ah))))) (aQ (aa aF (aa fS ah))) (aI _)))))) aK)
   (aj (bg (aJ gB (pv 4) af (aI _)) (aj (ff (aG bO (hr.mono (by first | decide | omega)) NE.pass (aa (pv 1) (aa aF (aa af (aa af ah))))) (jU rfl (cz (bB (i:=8) S.nd rfl (by first | exact Or.inl rfl | exact Or.inr rfl)) (cz (bB (i:=9) S.nd rfl (by first | exact Or.inl rfl | exact Or.inr rfl)) iH))))
    (ak (az (wQ (cu cC (pv 8) aF (aI _)) (dS (aG jM (hr.mono (by first | decide | omega)) NE.pass (aa (pv 2) (aa (pv 3) (aa (pv 9) ah))))))))) aK)
   (ak (az (cu (jX (hr.mono (Nat.zero_le _))) (aG bO (hr.mono (by first | decide | omega)) NE.pass (aa (pv 1) (aa aF (aa af (aa af ah))))) (aQ (aa aF (aa fS ah))) (aI _))))))))))),?_⟩
 try dsimp only [aY]
 have L:=eL hs.hh
 walk_at "go"
 refine bD L .head (by decide) (by decide) (by omega) fun wy H1 w0 w1 L _=>?_
 have hs1:=hs.oth (cD.at (L.at_ (p,cD _) (by walk_at "mem"))) L.fr
 have f1:FrA p d k H H1:=FrA.oth L.fr
 walk_at "go"
 refine ⟨p,_,d,r.t,r.s,r.a,ls,pl,rfl,hs1.hh,by omega,hs1.hd,hok.good,hs1.dr.dr,fun rd H2 rd0 hh2 o2=>?_⟩
 have hs2:=hs1.oth hh2 o2
 have f2:=f1.trans (FrA.oth o2)
 clear L hs1 f1
 obtain ⟨⟨dx,sv,hp,_⟩,_⟩:=id hs2.hd
 walk_at "go"
 refine aZ hp Ek ?_
 walk_at "go"
 have fin:∀ {ls' pl' κ' H' b'},DS C CS CH H' p b' d ls' pl' r k κ'→b'≤b+10000→cO ls' pl'→ls'.length≤n+1→KnL κ' (n+1)→JL d ls' pl' κ'→FrA p d k H2 H'→Q (.bl true) H':=
  fun a1 a2 a3 a4 a5 a6 a7=>q _ _ _ _ (a1.up a2) a3 a4 a5 a6 (f2.trans a7)
 clear q
 have wsO:("once" : Str)∈d.ws:=by rw [hs.rd.ws];decide +kernel
 have wsS:("spoken" : Str)∈d.ws:=by rw [hs.rd.ws];decide +kernel
 have wsA:("ahead" : Str)∈d.ws:=by rw [hs.rd.ws];decide +kernel
 have wsE:("ends" : Str)∈d.ws:=by rw [hs.rd.ws];decide +kernel
 rcases pl with _ | ⟨m,k'⟩
 ·refine ⟨d,ls,none,rfl,hs2.hd,?_⟩
  walk_at "go"
  refine tF ?_
  walk_at "go"
  refine ⟨d,ls,none,_,_,_,.rise,rfl,hs2.hd,hok,by omega,rfl,fun t v ls2 pl2 H3 ht ha=>?_⟩
  obtain ⟨eo,hj3⟩:=Iu hj ha.e
  have ht':=qQ ha eo ht
  have hs3:=hs2.hand ha.h ha.f
  have hlen:=ha.len
  have L:=(Led.start H3 (fun _=>False)).more (aO t _) ht'
  walk_at "go"
  refine ql (d:=.tup [.str "told",.non]) (.tup (SqT.of (L'.same _ _ ht')) (.cons (.str _) (.cons .non .nil))) (.tup (SqT.of (L'.tup (r:=t') (by walk_at "mem"))) (.cons (.str _) (.cons .non .nil))) (by simp [dep,deps]) ?_
  exact fin (hs3.same L'.same) (by omega) ha.o (by omega) hkl.up hj3 ((FrA.fr2 ha.f).trans (FrA.same L'.same))
 refine ⟨d,ls,some (m,k'),rfl,hs2.hd,?_⟩
 walk_at "go"
 refine lY ?_
 walk_at "one"
 try dsimp only [bE]
 refine cE (fun σ H'=>σ=[some (.ref p),some (.ref d.p),some (.ref r.t),some (.ref k.p),some (.int wy),some (.int rd),none,none,none,none,none]∧aM H2 H'∧wy≤13) (fun nx kk=>?_) ?_
 ·walk_at "go"
  refine aZ hp lV ?_
  walk_at "go"
  refine ⟨d,ls,some (m,k'),rfl,hs2.hd,hok.good,fun av H3 hav s3=>?_⟩
  have hs3:=hs2.same s3
  walk_at "go"
  rcases hav with ⟨ear,rfl⟩ | ⟨ta0,sl0,f0,e0,ear,rfl,hta0⟩
  ·refine lZ rfl ?_
   walk_at "go"
   refine ⟨p,_,d,ls,some (m,k'),rfl,hs3.hh,by omega,hs3.hd,hok,fun gr H4 gr1 hh4 o4=>?_⟩
   have hs4:=hs3.oth hh4 o4
   walk_at "go"
   refine ⟨d,r.t,r.s,r.a,ls,some (m,k'),rfl,hs4.hd,hok.good,hs4.dr.dr,fun at' H5 s5=>?_⟩
   have hs5:=hs4.same s5
   walk_at "go"
   refine ⟨p,r.t,_,r.s,r.a,at',rfl,hs5.hh,by omega,hrn.sh.s1,hrn.sh.s2,hs5.dr.dr,fun ta sl fi en H6 hta hbd hh6 o6=>?_⟩
   have hs6:=hs5.oth hh6 o6
   walk_at "go"
   refine ⟨d,ls,some (m,k'),_,_,_,.take gr sl fi en,rfl,hs6.hd,hok,by omega,⟨rfl,rfl,ta,rfl,hta,gr1⟩,fun t v ls2 pl2 H7 ht ha=>?_⟩
   obtain ⟨eo,hj7⟩:=Cg hj wsO hbd.1 (by rw [hs.rd.s];exact hbd.2.1) ha.e
   have ht':=B6 ha eo ht
   have hs7:=hs6.hand ha.h ha.f
   have hlen:=ha.len
   have L:=(Led.start H7 (fun _=>False)).more (aO t _) ht'
   walk_at "go"
   refine ⟨k,κ,ta,gr,sl,fi,en,_,rfl,hs7.kn,jj hs6.hd ha.f _ _ hta,rfl,fun H8 hk8 f8=>?_⟩
   obtain ⟨hs8,fa8⟩:=hs7.Bo (.inl rfl) hk8 f8
   exact fin hs8 (by omega) ha.o (by omega) (sW hkl.up) hj7 ((FrA.same s3).trans ((FrA.oth o4).trans ((FrA.same s5).trans ((FrA.oth o6).trans ((FrA.fr2 ha.f).trans fa8)))))
  ·refine bW (fun z=>nomatch z) ?_
   walk_at "go"
   refine bS (fun z=>?_) (fun z=>?_)
   ·walk_at "go"
    refine ⟨p,_,d,ls,some (m,k'),rfl,hs3.hh,by omega,hs3.hd,hok,fun gr H4 gr1 hh4 o4=>?_⟩
    have hs4:=hs3.oth hh4 o4
    walk_at "go"
    refine ⟨d,r.t,r.s,r.a,ls,some (m,k'),rfl,hs4.hd,hok.good,hs4.dr.dr,fun at' H5 s5=>?_⟩
    have hs5:=hs4.same s5
    walk_at "go"
    refine ⟨p,r.t,_,r.s,r.a,at',rfl,hs5.hh,by omega,hrn.sh.s1,hrn.sh.s2,hs5.dr.dr,fun ta sl fi en H6 hta hbd hh6 o6=>?_⟩
    have hs6:=hs5.oth hh6 o6
    walk_at "go"
    refine ⟨d,ls,some (m,k'),_,_,_,.take gr sl fi en,rfl,hs6.hd,hok,by omega,⟨rfl,rfl,ta,rfl,hta,gr1⟩,fun t v ls2 pl2 H7 ht ha=>?_⟩
    obtain ⟨eo,hj7⟩:=Cg hj wsO hbd.1 (by rw [hs.rd.s];exact hbd.2.1) ha.e
    have ht':=B6 ha eo ht
    have hs7:=hs6.hand ha.h ha.f
    have hlen:=ha.len
    have L:=(Led.start H7 (fun _=>False)).more (aO t _) ht'
    walk_at "go"
    refine ⟨k,κ,ta,gr,sl,fi,en,_,rfl,hs7.kn,jj hs6.hd ha.f _ _ hta,rfl,fun H8 hk8 f8=>?_⟩
    obtain ⟨hs8,fa8⟩:=hs7.Bo (.inl rfl) hk8 f8
    exact fin hs8 (by omega) ha.o (by omega) (sW hkl.up) hj7 ((FrA.same s3).trans ((FrA.oth o4).trans ((FrA.same s5).trans ((FrA.oth o6).trans ((FrA.fr2 ha.f).trans fa8)))))
   ·walk_at "go"
    exact kk _ _ ⟨rfl,s3,by omega⟩
 rintro σ H3 ⟨rfl,s3,w13⟩
 have hs3:=hs2.same s3
 obtain ⟨⟨dx3,sv3,hp3,_⟩,_⟩:=id hs3.hd
 refine cE (fun σ H'=>σ=[some (.ref p),some (.ref d.p),some (.ref r.t),some (.ref k.p),some (.int wy),some (.int rd),none,none,none,none,none]∧H'=H3∧9≤wy) (fun nx kk=>?_) ?_
 ·walk_at "go"
  refine bS (fun w9=>?_) (fun w9=>?_)
  ·walk_at "one"
   try dsimp only [bE]
   refine cE (fun σ H'=>∃ ls',σ=[some (.ref p),some (.ref d.p),some (.ref r.t),some (.ref k.p),some (.int wy),some (.int rd),none,none,none,none,none]∧DS C CS CH H' p (b+1024+1024) d ls' (some (m,k')) r k κ∧cO ls' (some (m,k'))∧ls'.length≤n+1∧JL d ls' (some (m,k')) κ∧FrA p d k H3 H') (fun nx kk=>?_) ?_
   ·walk_at "go"
    refine bS (fun w7=>?_) (fun w7=>?_)
    ·walk_at "go"
     refine ⟨d,ls,some (m,k'),_,_,_,.write rd,rfl,hs3.hd,hok,by omega,⟨rfl,rfl⟩,fun t v ls2 pl2 H4 ht ha=>?_⟩
     obtain ⟨rfl,hj4⟩:=Fg hj ha.e
     have hlen:=ha.len
     walk_at "go"
     exact kk _ _ ⟨_,rfl,hs3.hand ha.h ha.f,ha.o,by omega,hj4,FrA.fr2 ha.f⟩
    ·walk_at "go"
     exact kk _ _ ⟨_,rfl,hs3,hok,by omega,hj,fun _ _ h _ _ _ _ _ _ _=>h⟩
   rintro σ H4 ⟨ls',rfl,hs4,hok4,hl4,hj4,fa4⟩
   walk_at "go"
   refine ⟨d,ls',some (m,k'),_,_,_,.make rd,rfl,hs4.hd,hok4,by omega,⟨rfl,rfl⟩,fun t v ls2 pl2 H5 ht ha=>?_⟩
   obtain ⟨e2,hj5⟩:=Iv hj4 wsA ha.e
   have hs5:=hs4.hand ha.h ha.f
   have hlen:(ls'++ls2).length≤n+1:=by rw [e2,List.append_nil];exact hl4
   rcases hj5 with ⟨eo,hj5⟩ | ⟨M,eo,hmk,hj5⟩
   ·have L:=(Led.start H5 (fun _=>False)).more (aO t _) (show H5 t=some (.tup [.str "refused",v]) by rw [ht];unfold cy;rw [eo];rfl)
    walk_at "go"
    exact fin hs5 (by omega) ha.o hlen hkl.up hj5 ((FrA.same s3).trans (fa4.trans (FrA.fr2 ha.f)))
   ·have L:=(Led.start H5 (fun _=>False)).more (aO t _) (E7 ha eo ht)
    walk_at "go"
    refine bW (by decide +kernel) ?_
    walk_at "go"
    refine ⟨r,k,κ,d,ls'++ls2,pl2,rd,M,rfl,hs5.dr,hs5.kn,Nat.le_trans hkl.m (by omega),Nat.le_trans hkl.h (by omega),hs5.hd,ha.o,hrn.sh,by rw [← hs.rd.c,← hs.rd.s,← hs.rd.far];exact hmk,fun H6 hk6 f6=>?_⟩
    obtain ⟨hs6,fa6⟩:=hs5.Bo (.inr (.inl rfl)) hk6 f6
    exact fin hs6 (by omega) ha.o hlen ⟨by rw [List.length_append,List.length_singleton];exact Nat.succ_le_succ hkl.m,hkl.up.h,hkl.up.g⟩ hj5 ((FrA.same s3).trans (fa4.trans ((FrA.fr2 ha.f).trans fa6)))
  ·walk_at "go"
   exact kk _ _ ⟨rfl,rfl,by omega⟩
 rintro σ H3' ⟨rfl,rfl,w9⟩
 refine cE (fun σ H'=>σ=[some (.ref p),some (.ref d.p),some (.ref r.t),some (.ref k.p),some (.int wy),some (.int rd),none,none,none,none,none]∧H'=H3'∧11≤wy) (fun nx kk=>?_) ?_
 ·walk_at "go"
  refine bS (fun w11=>?_) (fun w11=>?_)
  ·walk_at "go"
   refine ⟨p,_,d,r.t,r.s,r.a,ls,some (m,k'),rfl,hs3.hh,by omega,hs3.hd,hok.good,hs3.dr.dr,fun bd H4 bd0 hh4 o4=>?_⟩
   have hs4:=hs3.oth hh4 o4
   obtain ⟨av4,hp4,hav4⟩:=id hs4.kn.p
   walk_at "go"
   refine bT ?_
   walk_at "go"
   refine ⟨_,_,rfl,bU (k:=Sum.inr "heard") hp4 lS,?_⟩
   walk_at "go"
   refine xg (SqL.of hs4.kn.h) ?_
   walk_at "go"
   refine ⟨_,_,_,rfl,rfl,hs4.kn.h,small1000 (by rw [List.length_map];have:=hkl.h;omega),?_⟩
   obtain ⟨H5,eH5⟩:∃ H5,upd H4 k.lh (.lst (κ.hs.map V.int++[.int bd]))=H5:=⟨_,rfl⟩
   rw [eH5]
   have f5:∀ q o,H4 q=some o→q≠k.lh→H5 q=some o:=fun q o e n=>by rw [← eH5,au n];exact e
   have ts5:cB H4 H5:=fun q xs e=>f5 q _ e fun z=>by rw [z,hs4.kn.h] at e;cases e
   have nd:∀ {q:Addr} {xs:List (Key×V)},H4 q=some (.dK xs)→q≠k.lh:=fun e z=>by rw [z,hs4.kn.h] at e;cases e
   have hk5:KAt H5 k { κ with hs:=κ.hs++[bd] }:=⟨⟨av4,f5 _ _ hp4 (nd hp4),fq.ts hav4 ts5⟩,f5 _ _ hs4.kn.m hs4.kn.n,by rw [← eH5,List.map_append];exact aB,f5 _ _ hs4.kn.g (nd hs4.kn.g),hs4.kn.n⟩
   obtain ⟨hs5,fa5⟩:=hs4.Bo (.inr (.inr (.inl rfl))) hk5 f5
   walk_at "go"
   refine ⟨d,ls,some (m,k'),_,_,_,.gW bd,rfl,hs5.hd,hok,by omega,⟨rfl,rfl⟩,fun t v ls2 pl2 H6 ht ha=>?_⟩
   obtain ⟨eo,hj6⟩:=Iw hj wsS ha.e
   have ht':=qQ ha eo ht
   have hs6:=hs5.hand ha.h ha.f
   have hlen:=ha.len
   have L:=(Led.start H6 (fun _=>False)).more (aO t _) ht'
   walk_at "go"
   refine ql (d:=.tup [.str "told",.non]) (.tup (SqT.of (L'.same _ _ ht')) (.cons (.str _) (.cons .non .nil))) (.tup (SqT.of (L'.tup (r:=t') (by walk_at "mem"))) (.cons (.str _) (.cons .non .nil))) (by simp [dep,deps]) ?_
   exact fin (hs6.same L'.same) (by omega) ha.o (by omega) ⟨hkl.up.m,by rw [List.length_append,List.length_singleton];exact Nat.succ_le_succ hkl.h,hkl.up.g⟩ hj6 ((FrA.same s3).trans ((FrA.oth o4).trans (fa5.trans ((FrA.fr2 ha.f).trans (FrA.same L'.same)))))
  ·walk_at "go"
   exact kk _ _ ⟨rfl,rfl,by omega⟩
 rintro σ H3' ⟨rfl,rfl,w11⟩
 refine cE (fun σ H'=>σ=[some (.ref p),some (.ref d.p),some (.ref r.t),some (.ref k.p),some (.int wy),some (.int rd),none,none,none,none,none]∧H'=H3'∧12≤wy) (fun nx kk=>?_) ?_
 ·walk_at "go"
  refine bS (fun w12=>?_) (fun w12=>?_)
  ·walk_at "go"
   refine ⟨d,ls,some (m,k'),_,_,_,.give,rfl,hs3.hd,hok,by omega,rfl,fun t v ls2 pl2 H5 ht ha=>?_⟩
   have hj5:=Iz hj wsE ha.e
   have hs5:=hs3.hand ha.h ha.f
   have hlen:=ha.len
   rcases hj5 with ⟨eo,hj5⟩ | ⟨e5,eo,hgv,hj5⟩
   ·have L:=(Led.start H5 (fun _=>False)).more (aO t _) (show H5 t=some (.tup [.str "refused",v]) by rw [ht];unfold cy;rw [eo];rfl)
    walk_at "go"
    exact fin hs5 (by omega) ha.o (by omega) hkl.up hj5 ((FrA.same s3).trans (FrA.fr2 ha.f))
   ·obtain ⟨tv,ht',htv⟩:=Ih ha eo ht
    have L:=(Led.start H5 (fun _=>False)).more (aO t _) ht'
    walk_at "go"
    refine bW (by decide +kernel) ?_
    walk_at "go"
    refine ⟨r,k,κ,tv,e5,rfl,hs5.dr,hs5.kn,Nat.le_trans hkl.m (by omega),Nat.le_trans hkl.h (by omega),Nat.le_trans hkl.g (by omega),htv,hrn.sh,by rw [← hs.rd.c,← hs.rd.s];exact hgv,fun H6 hk6 f6=>?_⟩
    obtain ⟨hs6,fa6⟩:=hs5.Bo (.inr (.inr (.inr rfl))) hk6 f6
    exact fin hs6 (by omega) ha.o (by omega) ⟨hkl.up.m,hkl.up.h,by rw [List.length_append,List.length_singleton];exact Nat.succ_le_succ hkl.g⟩ hj5 ((FrA.same s3).trans ((FrA.fr2 ha.f).trans fa6))
  ·walk_at "go"
   exact kk _ _ ⟨rfl,rfl,by omega⟩
 rintro σ H3' ⟨rfl,rfl,w12⟩
 walk_at "go"
 refine ⟨d,ls,some (m,k'),_,_,_,.jG,rfl,hs3.hd,hok,by omega,rfl,fun t v ls2 pl2 H6 ht ha=>?_⟩
 obtain ⟨eo,hj6⟩:=IA hj ha.e
 have ht':=qQ ha eo ht
 have hs6:=hs3.hand ha.h ha.f
 have hlen:=ha.len
 have L:=(Led.start H6 (fun _=>False)).more (aO t _) ht'
 walk_at "go"
 refine ql (d:=.tup [.str "told",.non]) (.tup (SqT.of (L'.same _ _ ht')) (.cons (.str _) (.cons .non .nil))) (.tup (SqT.of (L'.tup (r:=t') (by walk_at "mem"))) (.cons (.str _) (.cons .non .nil))) (by simp [dep,deps]) ?_
 exact fin (hs6.same L'.same) (by omega) ha.o (by omega) hkl.up hj6 ((FrA.same s3).trans ((FrA.fr2 ha.f).trans (FrA.same L'.same)))
end
end Law
namespace L4
open PySem PySem.Spec PyProof.Rows L2 L3
abbrev wW (x:Str) (ap:Pos):Arguments:={ posonlyargs:=[],args:=[{ arg:=x,annotation:=none,pos:=ap }],vararg:=none,kwonlyargs:=[],kw_defaults:=[],kwarg:=none,defaults:=[] }
abbrev wX (x:Str) (k:Int) (p1 p2 p3:Pos):Expr:=.Subscript (.Name x p1) (.Constant (.int k) 0 p2) p3
abbrev wV (x:Str):Scope:={ kind:=.function,names:=[(x,.local)],isGenerator:=false,isCoroutine:=false,more:=[] }
abbrev sV (x qual:Str) (ap p1 p2 p3:Pos) (k:Int) (pm cdv ct:Value):FuncData:=PySem.W.kla_fn "<lambda>" qual (wW x ap) (wX x k p1 p2 p3) (wV x) [] pm cdv ct
def k6 (x:Str):Prop:=∀ qual ap p1 p2 p3 k pm cdv ct v,bindArgs (sV x qual ap p1 p2 p3 k pm cdv ct) ⟨[v],[]⟩=pure [(x,v)]
theorem qf:k6 "line" := fun _ _ _ _ _ _ _ _ _ _=>rfl
section
variable {prog:Program} {w:World} {A:Around} {E:Value→Shared→Prop} {s:Shared}
theorem Bl {f a:Addr} {x qual:Str} {ap p1 p2 p3:Pos} {k:Int} {pm cdv ct u:Value} {its:Array Value} {j:Nat} {Q:Value→Shared→Prop}
  (hroom:A.depth < recursionLimit) (hlim:s.heap.NoLimit) (hb:k6 x)
  (ho:s.heap.get? f=some { cls:=.type "function",data:=.func (sV x qual ap p1 p2 p3 k pm cdv ct) }) (hcd:s.heap.CodeRec cdv qual)
  (pl:IsTup s.heap a its) (hd:(x == ("__debug__" : Str))=false) (hk1 : -(2 ^ 63)≤k) (hk2:k < 2 ^ 63) (hj:seqIndex? k its.size=some j) (hu:its[j]?=some u)
  (h:∀ h' tk,(∀ b o,s.heap.get? b=some o→h'.get? b=some o)→Q u { s with heap:=h',toks:=tk }) :
  wpAny (model prog w) A (call (.ref f) [.ref a]) Q E s:=by
 refine wpAny_call ?_
 refine PySem.W.kla_callFunE hroom ho rfl rfl rfl rfl hcd ?_
 rw [hb]
 refine wpAny_pure (wpAny_newFunctionEnv (fun y hy=>by rw [List.mem_singleton.mp hy];exact fun z=>nomatch z) (fun y hy=>by rw [List.mem_singleton.mp hy];simp [List.lookup]) (fun h₁ hns hsb=>⟨hlim.fresh _ hsb,?_⟩) rfl)
 have hk₁ : ∀ b o,s.heap.get? b=some o→h₁.get? b=some o:=fun b o e=>hsb.extBut b o (Nat.ne_of_lt (Heap.lt_size e)) (Heap.get?_push_of_some _ e)
 refine PySem.W.kla_codeExpr ?_
 refine Subscript_ ?_
 refine wpAny_Name (wpAny_loadName_local (m:=fun y=>([(x,Value.ref a)]:List (Str×Value)).reverse.lookup y) (v:=.ref a) rfl (by simp [Env.kindOf,newEnv,List.lookup]) hns (by simp [List.lookup]) ?_) hd
 refine wpAny_Constant_int ?_
 have pl1:=pl.keeps hk₁
 exact subscriptTail_builtinR (x:=u) (T:="tuple") pl1.typeIs slot_tuple_getitem.lookup (getItem_tuple (j:=j) (items:=its) pl1 hk1 hk2 hj hu ⟨rfl,h h₁ _ hk₁⟩)
end
theorem DZ {h:Heap} {a:Addr} {m m':Str→Option Value} (x:h.Ns a m) (y:h.Ns a m'):m=m':=by
 obtain ⟨o,es,ep,e,d,_,f⟩:=x
 obtain ⟨o',es',ep',e',d',_,f'⟩:=y
 rw [e] at e';cases e'
 rw [d] at d';cases d'
 funext z;rw [← f,← f']
section
variable {X:Cx} {pins:List (Addr×Obj)} {σ : St} {H:Hp} {s:Shared} {h':Heap} {tk:Nat} {m:Str→Option Value}
theorem _root_.L2.Inv.Jt (I:Inv X pins σ H s) (hm:s.heap.Ns X.env.locals m) (hn:h'.Ns X.env.locals m) (k:∀ b o,b≠X.env.locals→s.heap.get? b=some o→h'.get? b=some o):Inv X pins σ H { s with heap:=h',toks:=tk }:=by
 have nl:∀ b u,H b=some u→b≠X.env.locals:=fun b u e z=>by rw [z,I.free] at e;cases e
 refine I.step (g':=s.gens) (d':=s.drawn) (ch:=[]) (fun _ z=>nomatch z) (fun b o hb _ _ e _=>k b o hb e) (fun b o hb _ _ e _=>⟨o.slots,k b o hb e⟩) (fun b o _ _ e=>e) (fun b o _ e=>?_) (fun b xs e=>e) (fun b o u e=>e) (fun b ps e=>⟨#[],by rw [e];simp⟩) (fun m' hm'=>?_) (fun a o e=>?_) I.bare
 ·by_cases hb:b=X.env.locals
  ·obtain ⟨o',_,_,e',_⟩:=hn
   exact ⟨o',hb▸e'⟩
  ·exact ⟨o,k b o hb e⟩
 ·rw [DZ hm' hm];exact hn
 ·refine (I.hok a o e).stay (fun b u hb eb=>?_) (fun _ z=>z) (fun _ _ z=>z)
  rcases hb with rfl | hb
  ·exact k _ _ (nl _ _ e) eb
  ·exact k _ _ (nl _ _ hb) eb
end
section
variable {X:Cx} {pins:List (Addr×Obj)} {σ : St} {H:Hp} {s:Shared} {Q:Value→Shared→Prop} {E:Value→Shared→Prop}
theorem D3 {f p:Addr} {x qual:Str} {ap p1 p2 p3:Pos} {k:Int} {pm cdv ct:Value} {its:List Value} {kf:Nat→Int} (I:Inv X pins σ H s) (hc:X.calm=true) (hroom:X.A.depth < recursionLimit) (hb:k6 x)
  (ho:s.heap.get? f=some { cls:=.type "function",data:=.func (sV x qual ap p1 p2 p3 k pm cdv ct) }) (hcd:s.heap.CodeRec cdv qual) (hd:(x == ("__debug__" : Str))=false) (hk1 : -(2 ^ 63)≤k) (hk2:k < 2 ^ 63)
  (hl:s.heap.IsList p its.toArray) (hne : 0 < its.length)
  (hi:∀ i v,its[i]?=some v→∃ a ts j t,v = .ref a∧IsTup s.heap a ts∧seqIndex? k ts.size=some j∧ts[j]?=some (.int (kf i) t))
  (h:∀ i v h' tk,its[i]?=some v→(∀ j,j < its.length→kf i≥kf j∧(j < i→kf i > kf j))→Inv X pins σ H { s with heap:=h',toks:=tk }→Q v { s with heap:=h',toks:=tk }) :
  wpAny (model X.prog X.w) X.A (call (.builtin "max") [.ref p] [(Str.ofString "key",.ref f)]) Q E s:=by
 obtain ⟨m,F⟩:=I.fr
 have N:News X.base X.env.locals s.heap (jN X.base s.heap X.env.locals):=Bd
 have kept:∀ h1 own,Fr X.base X.env.locals h1 m→News X.base X.env.locals h1 (jN X.base s.heap X.env.locals++own)→∀ b o,b≠X.env.locals→s.heap.get? b=some o→h1.get? b=some o:=fun h1 own F1 N1 b o hb e=>by
  cases q:X.base.get? b with
  | some u=>
   have:=I.bk b u q
   rw [e] at this;cases this
   exact F1.keep b _ q
  | none=>exact (N1 (b,o) (List.mem_append_left _ (sR hb q e))).1
 have isL:∀ {b:Addr} {o:Obj},s.heap.get? b=some o→(∀ es ep,o.data≠.dict es ep)→b≠X.env.locals:=fun {b o} e hd z=>by
  obtain ⟨o',es,ep,e',d',_⟩:=F.ns
  rw [z,e'] at e;cases e
  exact hd _ _ d'
 refine kmk_max kf (I.ok.hd hc) F N (fun h1 F1 N1=>?_) hne (fun i v ev h1 tk own F1 N1=>?_) fun i v h1 tk ev best F1 N1=>?_
 ·obtain ⟨o,e,c,n,d⟩:=hl
  exact ⟨o,kept h1 [] F1 (by simpa using N1) p o (isL e fun _ _ z=>by rw [d] at z;cases z) e,c,n,d⟩
 ·obtain ⟨a,ts,j,t,rfl,ht,hj,hu⟩:=hi i v ev
  have K1:=kept h1 own F1 N1
  refine Bl (s:={ s with heap:=h1,toks:=tk }) (u:=.int (kf i) t) hroom ?_ hb (K1 _ _ (isL ho fun _ _ z=>nomatch z) ho) ?_ ?_ hd hk1 hk2 hj hu fun h2 tk2 hk=>?_
  ·exact I.mod.nolimit.keeps F1.keep
  ·obtain ⟨c,o,vs,t,e,g,d,r⟩:=hcd
   exact ⟨c,o,vs,t,e,K1 _ _ (isL g fun _ _ z=>by rw [d] at z;cases z) g,d,r⟩
  ·obtain ⟨o,e,c,n,d⟩:=ht
   exact ⟨o,K1 _ _ (isL e fun _ _ z=>by rw [d] at z;cases z) e,c,n,d⟩
  ·exact ⟨h2,tk2,t,rfl,rfl,⟨F1.ns.keeps hk,fun b o e=>hk _ _ (F1.keep b o e),F1.above⟩,fun q hq=>⟨hk _ _ (N1 q hq).1,(N1 q hq).2⟩⟩
 ·exact h i v h1 tk ev best (I.Jt F.ns F1.ns (kept h1 [] F1 (by simpa using N1)))
end
def TabAt (H:Hp) (P:Addr) (pos:Pos) (qual:Str):Prop:=
 H P=some (.tbl #[])∨∃ c' oc u vs t,H P=some (.tbl #[rawInt pos.line,rawInt pos.col,.ref c'])∧H c'=some (.frz oc u)∧oc.data = .fields vs∧vs[1]?=some (.str qual t)
section
variable {X:Cx} {pins:List (Addr×Obj)} {σ : St} {H:Hp} {s:Shared} {Q:Value→Shared→Prop} {E:Value→Shared→Prop}
theorem zO {P c':Addr} {ps:Array Value} {oc f:Obj} {h':Heap} {tk:Nat} (I:Inv X pins σ H s) (hP:H P=some (.tbl #[])) (hx:Heap.ExtBut P s.heap h') (hge:s.heap.objs.size≤c') (hoc:h'.get? c'=some oc) (htb:h'.get? P=some (PySem.W.tabObj ps)) :
  Inv X pins σ (upd (upd H P (.tbl ps)) c' (.frz oc (.ext fun _=>True))) { s with heap:=h'.push f,toks:=tk }∧Chg P H (upd (upd H P (.tbl ps)) c' (.frz oc (.ext fun _=>True))):=by
 have hPl:P < s.heap.objs.size:=I.hok.lt hP
 have hcP:c'≠P:=Nat.ne_of_gt (Nat.lt_of_lt_of_le hPl hge)
 have hc0:H c'=none:=I.hok.fresh hge
 have old:∀ b o,H b=some o→b≠P→upd (upd H P (.tbl ps)) c' (.frz oc (.ext fun _=>True)) b=some o:=fun b o e n=>by
  rw [au (aq e hc0),au n];exact e
 have kp:∀ b o,b≠P→s.heap.get? b=some o→(h'.push f).get? b=some o:=fun b o n e=>Heap.get?_push_of_some _ (hx b o n e)
 have nP:∀ b,H b=none→b≠P:=fun b e z=>by rw [z,hP] at e;cases e
 have nT:∀ b o,H b=some o→(∀ qs,o≠.tbl qs)→b≠P:=fun b o e n z=>by
  rw [z,hP] at e;cases e;exact n _ rfl
 have fr:∀ b o,s.heap.get? b=some o→H b=none→upd (upd H P (.tbl ps)) c' (.frz oc (.ext fun _=>True)) b=none:=fun b o e n=>by
  rw [au (Nat.ne_of_lt (Nat.lt_of_lt_of_le (Heap.lt_size e) hge)),au (nP b n)];exact n
 have ch:Chg P H (upd (upd H P (.tbl ps)) c' (.frz oc (.ext fun _=>True))):=⟨fun q o e n=>old q o e n,fun q xs e=>old q _ e fun z=>by rw [z,hP] at e;cases e⟩
 refine ⟨I.un ⟨fun b o e n _ _=>kp b o (nP b n) e,fun b o e n _ _=>⟨o.slots,kp b o (nP b n) e⟩,fun b o e n _=>fr b o e n,fun b o e _=>?_,fun b xs e=>old b _ e (nT b _ e fun _ z=>nomatch z),fun b o u e=>old b _ e (nT b _ e fun _ z=>nomatch z),fun b qs e=>?_⟩ fun a o e=>?_,ch⟩
 ·by_cases hb:b=P
  ·exact ⟨_,hb▸Heap.get?_push_of_some _ htb⟩
  ·exact ⟨o,kp b o hb e⟩
 ·by_cases hb:b=P
  ·subst hb
   rw [hP] at e;cases e
   exact ⟨ps,by rw [au hcP.symm,aB];simp⟩
  ·exact ⟨#[],by rw [old b _ e hb];simp⟩
 ·by_cases h1:a=c'
  ·subst h1
   rw [aB] at e;cases e
   exact ⟨Heap.get?_push_of_some _ hoc,trivial,⟨_,Heap.get?_push_of_some _ hoc⟩,fun _ _ _ _=>trivial⟩
  ·rw [au h1] at e
   by_cases h2:a=P
   ·subst h2
    rw [aB] at e;cases e
    exact Heap.get?_push_of_some _ htb
   ·rw [au h2] at e
    refine (I.hok a o e).stay (fun b u hb eb=>kp b u ?_ eb) (fun b hb=>old b _ hb fun z=>by rw [z,hP] at hb;cases hb) fun b xs hb=>old b _ hb fun z=>by rw [z,hP] at hb;cases hb
    rcases hb with rfl | hb
    ·exact h2
    ·intro z;rw [z,hP] at hb;cases hb
theorem GG {c P:Addr} {x:Str} {ap p1 p2 p3 pos:Pos} {k:Int} (I:Inv X pins σ H s) (hc:X.env.code = .ref c) (C:PySem.W.CodeHd X.base c P) (B:X.base.BuiltinsAt X.mg P) (T:TabAt H P pos (X.env.qual ++ "<lambda>"))
  (h:∀ f H' h' tk pm cdv ct,Inv X pins σ H' { s with heap:=h',toks:=tk }→Chg P H H'→TabAt H' P pos (X.env.qual ++ "<lambda>") →
   h'.get? f=some { cls:=.type "function",data:=.func (sV x (X.env.qual ++ "<lambda>") ap p1 p2 p3 k pm cdv ct) }→h'.CodeRec cdv (X.env.qual ++ "<lambda>")→Q (.ref f) { s with heap:=h',toks:=tk }) :
  wpAny (model X.prog X.w) X.A (eval (.Lambda (wW x ap) (wX x k p1 p2 p3) (wV x) pos) X.env) Q E s:=by
 refine PySem.W.kla_eval rfl ?_
 have hg:s.heap.Ns mainGlobals X.mg:=I.mod.glob.keeps I.bk
 obtain ⟨bm,ob,b1,b2,b3,b4,b5,b6⟩:=B
 have hB:s.heap.BuiltinsAt X.mg P:=⟨bm,ob,b1,b2,b3,b4,I.bk _ _ b5,b6⟩
 rcases T with T | ⟨c',oc,u,vs,t,T,hf,hd,hv⟩
 ·have hP:s.heap.get? P=some (PySem.W.tabObj #[]):=I.hok P _ T
  refine PySem.W.kla_makeFunction (clos:=[]) rfl I.ok.glob hg hc (C.keeps I.bk) hP trivial rfl ?_ hB fun c' ctv h' tk hx hge hlt hrec htb=>?_
  ·intro z
   obtain ⟨o,_,_,e,d,_⟩:=hg
   rw [z,hP] at e;cases e;cases d
  ·obtain ⟨c2,oc,vs,t,e2,hoc,hd,hv⟩:=hrec
   cases e2
   obtain ⟨I',ch⟩:=zO (f:=PySem.W.kla_obj "<lambda>" (X.env.qual ++ "<lambda>") (wW x ap) (wX x k p1 p2 p3) (wV x) [] ((X.mg "__name__").getD .none) c' ctv) (tk:=tk) I T hx hge hoc htb
   refine h _ _ _ tk _ (.ref c') ctv I' ch (.inr ⟨c',oc,_,vs,t,?_,aB,hd,hv⟩) (Heap.get?_push_size _ rfl) ⟨c',oc,vs,t,rfl,Heap.get?_push_of_some _ hoc,hd,hv⟩
   rw [au (Nat.ne_of_lt (Nat.lt_of_lt_of_le (I.hok.lt T) hge)),aB];rfl
 ·have hP:s.heap.get? P=some (PySem.W.tabObj #[rawInt pos.line,rawInt pos.col,.ref c']):=I.hok P _ T
  have hoc:s.heap.get? c'=some oc:=(I.hok c' _ hf).1
  refine PySem.W.kla_makeFunctionHit (clos:=[]) (cv:=.ref c') rfl I.ok.glob hg hc (C.keeps I.bk) hP ?_ ?_ hB fun ctv h' tk hk hsz=>?_
  ·exact trivial
  ·simp [codeAmong,rawInt]
  ·have kk:∀ b o,s.heap.get? b=some o→(h'.push { cls:=.type "function",data:=.func (sV x (X.env.qual ++ "<lambda>") ap p1 p2 p3 k ((X.mg "__name__").getD .none) (.ref c') ctv) }).get? b=some o:=fun b o e=>Heap.get?_push_of_some _ (hk b o e)
   exact h _ H _ tk _ (.ref c') ctv (I.kept kk) ⟨fun q o e _=>e,fun q xs e=>e⟩ (.inr ⟨c',oc,u,vs,t,T,hf,hd,hv⟩) (Heap.get?_push_size _ rfl) ⟨c',oc,vs,t,rfl,kk _ _ hoc,hd,hv⟩
end
def Ca (T:Addr) (H:Hp):Prop:=∀ b,b≠T→H b=none∨∃ o xs,H b=some (.frz o (.lst xs))
theorem yS {P:Program} {w:World} {K:PySem.W.Frag} {mg mb:Str→Option Value} {CX:CXT} {k:Nat} {fa a T c:Addr} {fd:FuncData} {x:Str} {sp:Sp} {s₁ : Shared} {vs:List Value} {ns:List Int}
  (KX:K.In s₁.heap) (hns:s₁.heap.Ns mainGlobals mg) (hb:s₁.heap.Ns builtinsNs mb) (hbb:∀ x:Str,x ≠ "__name__" → mb x=bootBuiltins x) (hlim:s₁.heap.NoLimit) (hg:s₁.gens=#[])
  (hT:s₁.heap.get? T=some (PySem.W.tabObj #[])) (hC:PySem.W.CodeHd s₁.heap c T) (hKT:K.lookup T=none) (hB:s₁.heap.BuiltinsAt mg T)
  (ha:s₁.heap.get? a=some { cls:=.type "list",data:=.seq vs.toArray }) (hi:IntsAre vs ns) (hl:ns.length≤sizeLine) (hr:bY k callerA)
  (F:∀ base:Heap,K.In base→base.Ns mainGlobals mg→base.BuiltinsAt mg T→eU P w K mg base CX k fa fd [x] sp) (hbind:∀ (s:Shared) (u:Value),BindsTo s fd ⟨[u],[]⟩ [(x,u)])
  (hsp:∀ H:Hp,Ca T H→H T=some (.tbl #[])→SqL K H a (ns.map V.int)→sp [.ref a] H (fun v _=>v = .bl true) fun _ _ _=>False)
  (hCX:∀ H e s',CX [] H s₁ (fun _ _ _=>False) e s'→False) :
  codeAny (model P w) callerA (.call (.ref fa) ⟨[.ref a],[]⟩) (fun r s'=>r = .ok (.ret (.bool true))∧OldK s₁.heap s'.heap∧s'.os=s₁.os∧AllBare s'.gens) s₁:=by
 have rv:=iE hi
 have KQ:=hi.length
 have haT:a≠T:=fun z=>by rw [z,hT] at ha;cases ha
 have core:∀ H:Hp,Ca T H→H T=some (.tbl #[])→SqL K H a (ns.map V.int)→HOk P w H s₁.heap→(∀ b,H b≠none→b=a∨b=T)→(H a≠none→K.lookup a=none) →
   codeAny (model P w) callerA (.call (.ref fa) ⟨[.ref a],[]⟩) (fun r s'=>r = .ok (.ret (.bool true))∧OldK s₁.heap s'.heap∧s'.os=s₁.os∧AllBare s'.gens) s₁:=by
  intro H hO hHT hS hok hA hK
  have qN:∀ {b:Addr} {o:Obj},s₁.heap.get? b=some o→H b=none→(nq s₁.heap H).get? b=some o:=fun e n=>Bq e n
  have noA:∀ {b:Addr} {o:Obj},s₁.heap.get? b=some o→(∀ xs n,o.data≠.seq xs n)→(∀ xs,o.data≠.fields xs)→H b=none:=fun {b o} e d1 d2=>by
   cases q:H b with
   | none=>rfl
   | some u=>
    rcases hA b (by rw [q];simp) with e' | e'
    ·subst e'
     rw [ha] at e;cases e
     exact (d1 _ _ rfl).elim
    ·subst e'
     rw [hT] at e;cases e
     exact (d2 _ rfl).elim
  have nsK:∀ {b:Addr} {m:Str→Option Value},s₁.heap.Ns b m→(nq s₁.heap H).Ns b m:=fun {b m} ⟨o,es,ep,e,d,r⟩=>⟨o,es,ep,qN e (noA e (fun _ _ z=>by rw [d] at z;cases z) fun _ z=>by rw [d] at z;cases z),d,r⟩
  have hKb:K.In (nq s₁.heap H):=fun b o e=>qN (KX b o e) (by
   cases q:H b with
   | none=>rfl
   | some u=>
    rcases hA b (by rw [q];simp) with e' | e'
    ·subst e'
     rw [hK (by rw [q];simp)] at e;cases e
    ·subst e'
     rw [hKT] at e;cases e)
  have hM:Mod K mg (nq s₁.heap H):=⟨hKb,nsK hns,⟨mb,nsK hb,hbb⟩,let ⟨mc,h1,h2⟩:=hlim;⟨mc,nsK h1,h2⟩⟩
  have hBb:(nq s₁.heap H).BuiltinsAt mg T:=by
   obtain ⟨bm,ob,b1,b2,b3,b4,b5,b6,b7,b8⟩:=hB
   exact ⟨bm,ob,b1,b2,b3,b4,qN b5 (noA b5 (fun _ _ z=>by rw [b8] at z;cases z) fun _ z=>by rw [b8] at z;cases z),b6,b7,b8⟩
  have e0:nH P w K mg (nq s₁.heap H) callerA [] s₁ H:=⟨rfl,hM,fun b o e=>DY e,Nat.le_of_eq (yY _ _),trivial,fun b hb=>absurd (show b∈([]:List Addr) from hb) (by simp),hok,.of_eq hg⟩
  refine codeAny_mono ((F _ hKb (nsK hns) hBb).run callerA [] s₁ H ⟨[.ref a],[]⟩ [.ref a] [.ref a] _ _ hr e0 (hbind s₁ (.ref a)) (.cons rfl .nil) (hsp H hO hHT hS)) fun r s' h=>?_
  cases r with
  | error e=>exact (hCX H e s' h).elim
  | ok fl=>
   cases fl with
   | next=>exact False.elim h
   | brk=>exact False.elim h
   | cont=>exact False.elim h
   | ret u=>
    obtain ⟨v,H',os,bare,un,hok',r',q⟩:=h
    have q':v = .bl true:=q
    subst q'
    obtain rfl:u=Value.bool true:=r'
    have keep:∀ b o,b≠T→s₁.heap.get? b=some o→s'.heap.get? b=some o:=fun b o hbT e=>by
     cases q:H b with
     | none=>exact un.keep b o e q (by intro z;exact absurd (show b∈([]:List Addr) from z) (by simp)) (by simp)
     | some u=>
      rcases hO b hbT with z | ⟨ob,xs,z⟩
      ·rw [q] at z;cases z
      ·have z2:=un.ji b ob _ z
       obtain ⟨e1,_⟩:=hok b _ z
       obtain ⟨e2,_⟩:=hok' b _ z2
       rw [e] at e1;cases e1
       exact e2
    obtain ⟨more,hm⟩:=un.i7 T _ hHT
    have hT':s'.heap.get? T=some (PySem.W.tabObj (#[]++more)):=hok' T _ hm
    refine ⟨rfl,⟨fun b o e=>?_,fun b o e=>?_⟩,os,bare⟩
    ·by_cases hbT:b=T
     ·subst hbT
      rw [hT] at e;cases e
      exact .inr (.inl ⟨(hC.tab hT).isCodeTable,rfl,#[],more,rfl,hT'⟩)
     ·exact .inl (keep b o hbT e)
    ·by_cases hbT:b=T
     ·subst hbT;exact ⟨_,hT'⟩
     ·exact ⟨o,keep b o hbT e⟩
 cases hk:K.lookup a with
 | some o=>
  have e:=KX a o hk
  rw [ha] at e
  cases e
  refine core (fun b=>if b=T then some (.tbl #[]) else none) (fun b z=>.inl (if_neg z)) (if_pos rfl) (.inr ⟨_,vs.toArray,_,hk,rfl,rfl,rfl,by rw [List.size_toArray,KQ];exact hl,by simpa using rv⟩) (fun b u z=>?_) (fun b z=>?_) fun z=>absurd (if_neg haT) z
  ·by_cases hb:b=T
   ·have z':=(if_pos hb).symm.trans z
    cases z'
    subst hb
    exact hT
   ·have z':=(if_neg hb).symm.trans z
    cases z'
  ·by_cases hb:b=T
   ·exact .inr hb
   ·exact absurd (if_neg hb) z
 | none=>
  refine core (fun b=>if b=T then some (.tbl #[]) else if b=a then some (.frz { cls:=.type "list",data:=.seq vs.toArray } (.lst (ns.map V.int))) else none) (fun b hbT=>?_) (if_pos rfl) (.inl (.inr ⟨{ cls:=.type "list",data:=.seq vs.toArray },(if_neg haT).trans (if_pos rfl)⟩)) (fun b u z=>?_) (fun b z=>?_) fun _=>hk
  ·by_cases hb:b=a
   ·exact .inr ⟨_,_,(if_neg hbT).trans (if_pos hb)⟩
   ·exact .inl ((if_neg hbT).trans (if_neg hb))
  ·by_cases hbT:b=T
   ·have z':=(if_pos hbT).symm.trans z
    cases z'
    subst hbT
    exact hT
   ·by_cases hb:b=a
    ·have z':=((if_neg hbT).trans (if_pos hb)).symm.trans z
     cases z'
     subst hb
     exact ⟨ha,by rw [List.length_map];exact hl,vs,_,rv,ha⟩
    ·have z':=((if_neg hbT).trans (if_neg hb)).symm.trans z
     cases z'
  ·by_cases hbT:b=T
   ·exact .inr hbT
   ·by_cases hb:b=a
    ·exact .inl hb
    ·exact absurd ((if_neg hbT).trans (if_neg hb)) z
structure Cf (K:PySem.W.Frag) (mg:Str→Option Value) (x qual:Str) (st:Stmt) (ps:List Str) (c:Addr):Prop where
 ex:∃ (f:Addr) (fd:FuncData) (oc:Value) (od:Option Addr) (kV doc pm:Value) (an:Option Addr) (ct:Value) (osl:Array (Option Value)),
  fd=PySem.W.fnOf x qual (bw st) (aS st) (ai st) .none kV doc pm an (.ref c) ct∧K.lookup f=some ⟨oc,od,.func fd,osl⟩∧PySem.W.codeIn K (.ref c) qual=true∧PySem.W.keepIn K (.ref f)=true∧Binds K fd ps []∧mg x=some (.ref f)
section
variable {P:Program} {w:World} {K:PySem.W.Frag} {mg:Str→Option Value} {base:Heap} {CX:CXT} {x qual:Str} {st:Stmt} {N ps:List Str} {k j:Nat} {sp sp':Sp} {c:Addr}
theorem Cf.ok (D:Cf K mg x qual st ps c) (S:ao N ps (ai st)) (len:∀ vs H Q E,sp vs H Q E→vs.length=ps.length)
  (hbody:∀ (f:Addr) (A:Around) (outer:List Env) (s:Shared) (H:Hp) (vs:List V) (Q:VK) (E:XK),bY k (A.deeper (envOfC qual (ai st) s.heap.objs.size f (.ref c)))→sp vs H Q E →
   ∃ t,PSs (aY CX P w K mg base N qual (ai st) f (.ref c) A outer s H E).nox (aS st) t∧t { nx:=fun _ H'=>Q .non H',rt:=Q } (start N vs) H):Cal P w K mg base CX x (k+1) ps sp:=by
 obtain ⟨f,_,oc,od,kV,doc,pm,an,ct,osl,rfl,lk,hcd,kp,b,m⟩:=D.ex
 refine ⟨f,_,oJ lk hcd S len fun A outer s H vs Q E hr hsp=>?_,b,kp,m⟩
 obtain ⟨t,h,q⟩:=hbody f A outer s H vs Q E hr hsp
 exact ⟨t,h.nox,q⟩
theorem D6 {h:Heap} (X:K.In h) (G:h.Ns mainGlobals mg) {f:Addr} {oc:Value} {od an:Option Addr} {osl:Array (Option Value)} {kV doc pm ct:Value} (a:PySem.W.nsIn K mainGlobals x=some (some (.ref f)))
  (l:K.lookup f=some ⟨oc,od,.func (PySem.W.fnOf x qual (bw st) (aS st) (ai st) .none kV doc pm an (.ref c) ct),osl⟩) (cd:PySem.W.codeIn K (.ref c) qual=true) (kp:PySem.W.keepIn K (.ref f)=true)
  (b:∀ (kV doc pm:Value) (an:Option Addr) (cdv ct:Value) (us:List Value),us.length=ps.length→bindArgs (PySem.W.fnOf x qual (bw st) (aS st) (ai st) .none kV doc pm an cdv ct) ⟨us,[]⟩=pure (ps.zip us)):Cf K mg x qual st ps c:=by
 have F:=l6 (st:=st) l cd kp
 exact ⟨f,_,oc,od,kV,doc,pm,an,ct,osl,rfl,l,cd,kp,F.binds b,PySem.W.mg_of X G a⟩
end
def FO (K:PySem.W.Frag) (T:Addr) (lp:Pos) (qual:Str) (k:Int) (x:V) (H:Hp) (Q:VK):Prop:=
 ∃ (p:Addr) (xs:List V) (kf:Nat→Int),x = .ref p∧SqL K H p xs∧xs≠[]∧TabAt H T lp qual∧(∀ i v,xs[i]?=some v→∃ a ys,v = .ref a∧SqT K H a ys∧atI ys k=some (.int (kf i))) ∧
  ∀ i v H',xs[i]?=some v→(∀ j,j < xs.length→kf j≤kf i)→Chg T H H'→TabAt H' T lp qual→Q v H'
def Fv (K:PySem.W.Frag) (T:Addr) (lp:Pos) (qual:Str) (k:Int) (te:TE):TE:=fun σ H Q=>te σ H fun x H1=>FO K T lp qual k x H1 Q
theorem uL {H H':Hp} {T a:Addr} {u:HO} {ps:Array Value} (c:Chg T H H') (hT:H T=some (.tbl ps)) (n:∀ qs,u≠.tbl qs) (h:Rd H a u):Rd H' a u:=by
 rcases h with h | ⟨o,h⟩
 ·exact .inl (c.oth a _ h fun z=>by rw [z,hT] at h;cases h;exact n _ rfl)
 ·exact .inr ⟨o,c.oth a _ h fun z=>by rw [z,hT] at h;cases h⟩
theorem TabAt.tbl {H:Hp} {P:Addr} {pos:Pos} {qual:Str} (h:TabAt H P pos qual):∃ ps,H P=some (.tbl ps):=by
 rcases h with h | ⟨c',_,_,_,_,h,_⟩ <;> exact ⟨_,h⟩
section
variable {X:Cx} {p pos kp lp ap p1 p2 p3:Pos} {e:Expr} {te:TE} {T c:Addr} {x:Str} {k:Int} {n:Nat}
theorem Dv (hcm:X.calm=true) (hg:Gl X "max") (hm:X.mg "max" = none) (hr:bY n X.A) (hc:X.env.code = .ref c) (C:PySem.W.CodeHd X.base c T) (B:X.base.BuiltinsAt X.mg T) (hb:k6 x) (hd:(x == ("__debug__" : Str))=false) (hk1 : -(2 ^ 63)≤k) (hk2:k < 2 ^ 63)
  (he:PE X e te) (hst:starEach [e] X.env=[(false,eval e X.env)]:=by rfl) :
  PE X (.Call (.Name "max" p) [e] [⟨some "key",.Lambda (wW x ap) (wX x k p1 p2 p3) (wV x) lp,kp⟩] pos) (Fv X.K T lp (X.env.qual ++ "<lambda>") k te):=by
 intro pins s σ H Q I h
 refine wpAny_Call_Name_kw (fV I hg hm L3.cI ?_)
 refine callWith_kw ?_ (by rw [hst];rfl) (by rw [hst];rfl)
 rw [hst]
 show wpAny (model X.prog X.w) X.A (spliced ((false,eval e X.env)::[])) _ X.xe s
 refine Calls.spliced_cons (thn (he pins s σ H _ I h) fun u s1 ⟨y,H1,I1,r1,q1⟩=>Calls.spliced_nil ?_)
 obtain ⟨p,xs,kf,rfl,hq,hne,hT,hxs,q⟩:=q1
 cases r1
 refine kws_cons (GG I1 hc C B hT fun f H2 h2 tk pm cdv ct I2 ch hT2 ho hcd=>kws_nil ?_)
 obtain ⟨ps,hps⟩:=hT.tbl
 have hq2:SqL X.K H2 p xs:=hq.elim (fun z=>.inl (uL ch hps (fun _ z=>nomatch z) z)) .inr
 obtain ⟨its,rv,pl,hz⟩:=I2.list hq2
 have hlen:=rv.length
 show wpAny (model X.prog X.w) X.A (call (.builtin "max") [.ref p] [("key",.ref f)]) (EP X pins σ Q) X.xe _
 refine D3 (kf:=kf) I2 hcm hr.depth hb ho hcd hd hk1 hk2 pl.isList (by rw [← hlen];exact List.length_pos_iff.mpr hne) (fun i v ev=>?_) fun i v h3 tk3 ev best I3=>?_
 ·obtain ⟨xv,exv,rxv⟩:∃ xv,xs[i]?=some xv∧RelV xv v:=by
   have hi:i < xs.length:=by rw [hlen];exact (List.getElem?_eq_some_iff.mp ev).1
   obtain ⟨u,eu,ru⟩:=rv.get (List.getElem?_eq_getElem hi)
   rw [ev] at eu;cases eu
   exact ⟨_,List.getElem?_eq_getElem hi,ru⟩
  obtain ⟨a,ys,rfl,hs,hat⟩:=hxs i xv exv
  cases rxv
  have hs2:SqT X.K H2 a ys:=hs.elim (fun z=>.inl (uL ch hps (fun _ z=>nomatch z) z)) .inr
  obtain ⟨ts,r,plt,hzt⟩:=I2.tuple hs2
  obtain ⟨j,h1,h2,h3,h4,h5⟩:=qP hat
  obtain ⟨w,ew,rw'⟩:=r.get h2
  obtain ⟨t,rfl⟩:=rw'
  exact ⟨a,ts.toArray,j,t,rfl,plt,by rw [List.size_toArray,← r.length];exact h1,by simpa using ew⟩
 ·obtain ⟨xv,exv,rxv⟩:∃ xv,xs[i]?=some xv∧RelV xv v:=by
   have hi:i < xs.length:=by rw [hlen];exact (List.getElem?_eq_some_iff.mp ev).1
   obtain ⟨u,eu,ru⟩:=rv.get (List.getElem?_eq_getElem hi)
   rw [ev] at eu;cases eu
   exact ⟨_,List.getElem?_eq_getElem hi,ru⟩
  exact ⟨xv,H2,I3,rxv,q i xv H2 exv (fun j hj=>(best j (by rw [← hlen];exact hj)).1) ch hT2⟩
end
end L4
namespace Law
open PySem PySem.Spec PyProof.Rows L2 L3 L4
structure Rds (rs ls:Lns):Prop where
 f:bh Nt.nil rs=bh Nt.nil ls
 g:(gts rs).foldl max 0=(gts ls).foldl max 0
theorem iL (a b:Lns):gts (a++b)=gts a++gts b:=by
 unfold gts;rw [List.filter_append,List.map_append]
theorem Rds.app {rs ls:Lns} (h:Rds rs ls) (ms:Lns):Rds (rs++ms) (ls++ms):=
 ⟨by rw [dh,dh,h.f],by rw [iL,iL,List.foldl_append,List.foldl_append,h.g]⟩
theorem Rds.trans {a b c:Lns} (h:Rds a b) (k:Rds b c):Rds a c:=⟨h.f.trans k.f,h.g.trans k.g⟩
structure ShT (ls rs:Lns):Prop where
 good:bX rs
 len:rs.length≤3
 f:bh Nt.nil rs=⟨(bh Nt.nil ls).g,(bh Nt.nil ls).ar,0,0⟩
 g:(gts rs).foldl max 0=(gts ls).foldl max 0
theorem CQ {ls:Lns} (h:ls.filter isT=[]):ShT ls []:=by
 have hno:∀ x∈ls,isT x=false:=fun x hx=>by
  have:=List.filter_eq_nil_iff.mp h x hx
  simpa using this
 obtain ⟨e1,e2⟩:=jE ls Nt.nil hno
 refine ⟨fun _ z=>(by simp at z),Nat.zero_le _,?_,?_⟩
 ·rw [e1,e2];rfl
 ·unfold gts;rw [h];rfl
theorem xh:∀ (T:List Int) (z:Int),T.foldl min z≤z
 | [],z=>Int.le_refl z
 | a::T,z=>Int.le_trans (xh T (min z a)) (Int.min_le_left ..)
theorem ow {ls ts:Lns} {t:Addr} {g sl f e:Int} (h:ls.filter isT=ts++[(t,.took g sl f e)]):(bh Nt.nil ls).g=g∧∃ e',(bh Nt.nil ls).ar=some (sl,f,e')∧e'≤e:=by
 obtain ⟨l1,l2,rfl,h1,h2⟩:=List.filter_eq_append_iff.mp h
 obtain ⟨m1,m2,rfl,h3,h4,h5⟩:=List.filter_eq_cons_iff.mp h2
 have hno:∀ x∈m2,isT x=false:=fun x hx=>by
  have:=List.filter_eq_nil_iff.mp h5 x hx
  simpa using this
 have e0:bh Nt.nil (l1++(m1++(t,Ln.took g sl f e)::m2))=bh ((bh Nt.nil (l1++m1)).step (.took g sl f e)) m2:=by
  rw [← List.append_assoc,dh];rfl
 obtain ⟨a1,a2⟩:=jE m2 ((bh Nt.nil (l1++m1)).step (.took g sl f e)) hno
 rw [e0]
 exact ⟨a1,_,a2,xh _ _⟩
theorem Ac {ls ts:Lns} {t tg te:Addr} {g sl f e gm a1 a2 a3 e':Int} (hg:bX ls) (h:ls.filter isT=ts++[(t,.took g sl f e)]) (hm:(tg,Ln.took gm a1 a2 a3)∈ls.filter isT) (hx:∀ y∈ls.filter isT,gOf y≤gm)
  (he:(bh Nt.nil ls).ar=some (sl,f,e')) :
  ShT ls ((if g < gm then [(tg,Ln.took gm a1 a2 a3),(t,.took g sl f e)] else [(t,.took g sl f e)])++if e' < e then [(te,.ends g e')] else []):=by
 obtain ⟨n1,e2,n2,n3⟩:=ow h
 rw [he] at n2;cases n2
 have hlm:(t,Ln.took g sl f e)∈ls.filter isT:=by rw [h];simp
 have g1 : 1≤g:=hg _ (List.mem_filter.mp hlm).1
 have g2 : 1≤gm:=hg _ (List.mem_filter.mp hm).1
 have g3:g≤gm:=hx _ hlm
 have mx:(gts ls).foldl max 0=gm:=by
  refine jF (.inr (List.mem_map.mpr ⟨_,hm,rfl⟩)) (fun a ha=>?_) (by omega)
  obtain ⟨y,hy,rfl⟩:=List.mem_map.mp ha
  exact hx y hy
 have Jw:∀ n:Nt,bh (n.step (.took g sl f e)) (if e' < e then [(te,Ln.ends g e')] else [])=⟨g,some (sl,f,e'),n.hd,n.hr⟩:=fun n=>by
  by_cases c:e' < e
  ·rw [if_pos c]
   show (n.step (.took g sl f e)).step (.ends g e')=_
   rw [dg]
   show (if g=g then (⟨g,some (sl,f,min e e'),n.hd,n.hr⟩:Nt) else _)=_
   rw [if_pos rfl,Int.min_eq_right (by omega)]
  ·rw [if_neg c,show e'=e by omega];rfl
 have Jx:gts (if e' < e then [(te,Ln.ends g e')] else [])=[]:=by
  by_cases c:e' < e
  ·rw [if_pos c];rfl
  ·rw [if_neg c];rfl
 have Jr:(if e' < e then [(te,Ln.ends g e')] else []:Lns).length≤1:=by
  by_cases c:e' < e
  ·rw [if_pos c];exact Nat.le_refl 1
  ·rw [if_neg c];exact Nat.zero_le 1
 have Kg:bX (if e' < e then [(te,Ln.ends g e')] else []:Lns):=fun x hx=>by
  by_cases c:e' < e
  ·rw [if_pos c] at hx;rw [List.mem_singleton.mp hx];exact g1
  ·rw [if_neg c] at hx;simp at hx
 by_cases c:g < gm
 ·rw [if_pos c]
  refine ⟨fun x hx=>?_,?_,?_,?_⟩
  ·rcases List.mem_append.mp hx with hx | hx
   ·rcases List.mem_cons.mp hx with rfl | hx
    ·exact g2
    ·rw [List.mem_singleton.mp hx];exact g1
   ·exact Kg x hx
  ·rw [List.length_append];exact Nat.add_le_add (Nat.le_refl 2) Jr
  ·rw [dh,he,n1];exact Jw (Nt.nil.step (.took gm a1 a2 a3))
  ·rw [iL,Jx,List.append_nil,mx]
   show max (max 0 gm) g=gm
   omega
 ·rw [if_neg c]
  refine ⟨fun x hx=>?_,?_,?_,?_⟩
  ·rcases List.mem_append.mp hx with hx | hx
   ·rw [List.mem_singleton.mp hx];exact g1
   ·exact Kg x hx
  ·rw [List.length_append];exact Nat.le_trans (Nat.add_le_add (Nat.le_refl 1) Jr) (by omega)
  ·rw [dh,he,n1];exact Jw Nt.nil
  ·rw [iL,Jx,List.append_nil,mx]
   show max 0 g=gm
   omega
theorem iG {ls rs:Lns} {t1 t2:Addr} (h:ShT ls rs) :
  Rds (rs++(if (0:Int) < (bh Nt.nil ls).hd then [(t1,.held (bh Nt.nil ls).hd)] else [])++if (0:Int) < (bh Nt.nil ls).hr then [(t2,.heard (bh Nt.nil ls).hr)] else []) ls:=by
 have p1 : 0≤(bh Nt.nil ls).hd:=by rw [qp];exact (f9 _ _).1
 have p2 : 0≤(bh Nt.nil ls).hr:=by rw [qo];exact (f9 _ _).1
 generalize hn:bh Nt.nil ls=n at *
 obtain ⟨a,b,c,d⟩:=n
 have hf:=h.f
 rw [hn] at hf
 dsimp only at p1 p2 hf ⊢
 refine ⟨?_,?_⟩
 ·rw [dh,dh,hf,hn]
  by_cases c1 : 0 < c
  ·rw [if_pos c1]
   show bh (⟨a,b,max 0 c,0⟩:Nt) _=_
   rw [Int.max_eq_right p1]
   by_cases c2 : 0 < d
   ·rw [if_pos c2]
    show (⟨a,b,c,max 0 d⟩:Nt)=_
    rw [Int.max_eq_right p2]
   ·rw [if_neg c2,show d=0 by omega];rfl
  ·rw [if_neg c1,show c=0 by omega]
   show bh (⟨a,b,0,0⟩:Nt) _=_
   by_cases c2 : 0 < d
   ·rw [if_pos c2]
    show (⟨a,b,0,max 0 d⟩:Nt)=_
    rw [Int.max_eq_right p2]
   ·rw [if_neg c2,show d=0 by omega];rfl
 ·have z1:gts (if 0 < c then [(t1,Ln.held c)] else [])=[]:=by split <;> rfl
  have z2:gts (if 0 < d then [(t2,Ln.heard d)] else [])=[]:=by split <;> rfl
  rw [iL,iL,z1,z2,List.append_nil,List.append_nil,h.g]
section
variable {P:Program} {w:World} {K:PySem.W.Frag} {mg:Str→Option Value} {base:Heap} {CX:CXT}
theorem yl:ao ["lines"] ["lines"] (ai (top 32)):=by walk_at "s"
theorem yi:ao ["lines"] ["lines"] (ai (top 33)):=by walk_at "s"
theorem uF:ao ["lines"] ["lines"] (ai (top 34)):=by walk_at "s"
def wH (K:PySem.W.Frag):Sp:=fun vs H Q _=>∃ (a:Addr) (ls:Lns),vs=[.ref a]∧SqL K H a (lnV ls)∧bH H ls∧bX ls∧(bh Nt.nil ls).ar.isSome=true∧∀ t sl f e H',(bh Nt.nil ls).ar=some (sl,f,e)→H' t=some (.tup [.int sl,.int f,.int e])→aM H H'→Q (.ref t) H'
def wB (K:PySem.W.Frag) (g:Nt→Int):Sp:=fun vs H Q _=>∃ (a:Addr) (ls:Lns),vs=[.ref a]∧SqL K H a (lnV ls)∧bH H ls∧bX ls∧∀ H',aM H H'→Q (.int (g (bh Nt.nil ls))) H'
theorem yL (D:Dat K mg "area_of" "area_of" (top 32) ["lines"]) (NE:bf CX) (bx:Cal P w K mg base CX "read_note" 4 ["lines"] (eX K)):Cal P w K mg base CX "area_of" 5 ["lines"] (wH K):=by
 have S:=yl
 walk_at "d"
 ·obtain ⟨a,ls,rfl,_⟩:=h
  rfl
 obtain ⟨a,ls,rfl,hS,hL,hg,har,q⟩:=h
 refine ⟨_,(ak (az (ay aE (aG bx (hr.mono (by first | decide | omega)) NE.pass (aa (pv 0) ah)) af (fun _ _=>rfl)))),?_⟩
 try dsimp only [aY]
 walk_at "go"
 refine ⟨a,ls,rfl,hS,hL,hg,fun t H1 hn s1=>?_⟩
 obtain ⟨v,hv,hc⟩:=hn
 rcases hc with ⟨z,_⟩ | ⟨b,sl,f,e,e1,rfl,hb⟩
 ·rw [z] at har;cases har
 walk_at "go"
 exact q b sl f e _ e1 hb s1
theorem yI (D:Dat K mg "held_of" "held_of" (top 33) ["lines"]) (NE:bf CX) (bx:Cal P w K mg base CX "read_note" 4 ["lines"] (eX K)):Cal P w K mg base CX "held_of" 5 ["lines"] (wB K Nt.hd):=by
 have S:=yi
 walk_at "d"
 ·obtain ⟨a,ls,rfl,_⟩:=h
  rfl
 obtain ⟨a,ls,rfl,hS,hL,hg,q⟩:=h
 refine ⟨_,(ak (az (ay aE (aG bx (hr.mono (by first | decide | omega)) NE.pass (aa (pv 0) ah)) af (fun _ _=>rfl)))),?_⟩
 try dsimp only [aY]
 walk_at "go"
 refine ⟨a,ls,rfl,hS,hL,hg,fun t H1 hn s1=>?_⟩
 obtain ⟨v,hv,hc⟩:=hn
 walk_at "go"
 exact q _ s1
theorem uT (D:Dat K mg "heard_of" "heard_of" (top 34) ["lines"]) (NE:bf CX) (bx:Cal P w K mg base CX "read_note" 4 ["lines"] (eX K)):Cal P w K mg base CX "heard_of" 5 ["lines"] (wB K Nt.hr):=by
 have S:=uF
 walk_at "d"
 ·obtain ⟨a,ls,rfl,_⟩:=h
  rfl
 obtain ⟨a,ls,rfl,hS,hL,hg,q⟩:=h
 refine ⟨_,(ak (az (ay aE (aG bx (hr.mono (by first | decide | omega)) NE.pass (aa (pv 0) ah)) af (fun _ _=>rfl)))),?_⟩
 try dsimp only [aY]
 walk_at "go"
 refine ⟨a,ls,rfl,hS,hL,hg,fun t H1 hn s1=>?_⟩
 obtain ⟨v,hv,hc⟩:=hn
 walk_at "go"
 exact q _ s1
def GJ (st:Stmt):Pos:=match (aS st).getD 3 (Stmt.Pass ⟨0,0,0,0⟩) with
 | Stmt.Assign _ (Expr.Call _ _ [⟨_,Expr.Lambda _ _ _ p,_⟩] _) _=>p
 | _=>⟨0,0,0,0⟩
abbrev KR:Str:=(("short_tooks" : Str) ++ ".<locals>.") ++ "<lambda>"
abbrev jO (H:Hp) (T:Addr):Prop:=TabAt H T (GJ (top 37)) KR
theorem xV:ao ["lines", "tooks", "last", "greatest", "kept", "end"] ["lines"] (ai (top 37)):=by walk_at "s"
def rC (K:PySem.W.Frag) (T:Addr):Sp:=fun vs H Q _=>∃ (a:Addr) (ls:Lns),vs=[.ref a]∧SqL K H a (lnV ls)∧bH H ls∧bX ls∧ls.length≤400∧jO H T ∧
 ∀ (r:Addr) (rs:Lns) (H':Hp),H r=none→H' r=some (.lst (lnV rs))→bH H' rs→ShT ls rs→Chg T H H'→jO H' T→Q (.ref r) H'
theorem Chg.refl {T:Addr} {H:Hp}:Chg T H H:=⟨fun _ _ e _=>e,fun _ _ e=>e⟩
theorem TabAt.same {H H':Hp} {T:Addr} {p:Pos} {q:Str} (h:TabAt H T p q) (s:aM H H'):TabAt H' T p q:=by
 rcases h with h | ⟨c',oc,u,vs,t,h,h2,r⟩
 ·exact .inl (s _ _ h)
 ·exact .inr ⟨c',oc,u,vs,t,s _ _ h,s _ _ h2,r⟩
theorem Chg.sq {T a:Addr} {H H':Hp} {xs:List V} {p:Pos} {q:Str} (c:Chg T H H') (h:TabAt H T p q) (s:SqL K H a xs):SqL K H' a xs:=by
 obtain ⟨ps,e⟩:=h.tbl
 exact s.elim (fun z=>.inl (uL c e (fun _ z=>nomatch z) z)) .inr
theorem rW {T:Addr} {H H1 H':Hp} (s:aM H H1) (c:Chg T H1 H'):Chg T H H':=⟨fun q o e n=>c.oth q o (s _ _ e) n,fun q xs e=>c.ts q xs (s _ _ e)⟩
theorem Ho {T:Addr} {lp:Pos} {qu:Str} {k:Int} {te:TE} {σ : St} {H:Hp} {Q:VK} (h:te σ H fun x H1=>FO K T lp qu k x H1 Q):Fv K T lp qu k te σ H Q:=h
theorem sU {H:Hp}:bH H []:=fun _ z=>(by simp at z)
theorem kE {H:Hp} {a:Addr} {l:Ln} {ls:Lns} (h:gA H a l) (k:bH H ls):bH H ((a,l)::ls):=fun y hy=>by
 rcases List.mem_cons.mp hy with rfl | hy
 ·exact h
 ·exact k y hy
theorem none_of {H H1:Hp} {a:Addr} (s:aM H H1) (n:H1 a=none):H a=none:=by
 cases e:H a with
 | none=>rfl
 | some o=>rw [s _ _ e] at n;cases n
theorem oZ {H:Hp} {x:Addr×Ln} (h:gA H x.1 x.2) (b:isT x=true):∃ g sl f e ar,x=(x.1,.took g sl f e)∧H x.1=some (.tup [.str "took",.int g,.ref ar])∧H ar=some (.tup [.int sl,.int f,.int e]):=by
 obtain ⟨t,l⟩:=x
 cases h with
 | took h ha=>exact ⟨_,_,_,_,_,rfl,h,ha⟩
 | held h=>cases b
 | heard h=>cases b
 | ends h=>cases b
theorem yt {T c:Addr} (D:Cf K mg "short_tooks" "short_tooks" (top 37) ["lines"] c) (BT:Bt mg) (NE:bf CX) (hC:PySem.W.CodeHd base c T) (hB:base.BuiltinsAt mg T)
  (eO:Cal P w K mg base CX "tooks_of" 2 ["lines"] (kM K)) (fN:Cal P w K mg base CX "area_of" 5 ["lines"] (wH K)) (cX:Cal P w K mg base CX "end_of" 1 ["area"] nY):Cal P w K mg base CX "short_tooks" 6 ["lines"] (rC K T):=by
 have S:=xV
 refine D.ok S (fun vs H Q E h=>?_) (fun f A outer s H vs Q E hr h=>?_)
 ·obtain ⟨a,ls,rfl,_⟩:=h
  rfl
 obtain ⟨a,ls,rfl,hS,hL,hg,h100,hT,q⟩:=h
 refine ⟨_,(aj (aL (i:=1) S.nd rfl (by first | exact Or.inl rfl | exact Or.inr rfl) (aG eO (hr.mono (by first | decide | omega)) NE.pass (aa (pv 0) ah)))
   (aj (bg (aJ cC (aX oM rfl BT.len L3.jm (aa (pv 1) ah)) af (aI _)) (ak (az (br ah))) aK)
   (aj (aL (i:=2) S.nd rfl (by first | exact Or.inl rfl | exact Or.inr rfl) (ay bu (pv 1) (fE dD af) (fun _ _=>rfl)))
   (aj (aL (i:=3) S.nd rfl (by first | exact Or.inl rfl | exact Or.inr rfl) (Dv rfl rfl BT.max hr rfl hC hB qf (by decide) (by omega) (by omega) (pv 1)))
   (aj (aL (i:=4) S.nd rfl (by first | exact Or.inl rfl | exact Or.inr rfl) (eG (aJ iV (ay aE (pv 3) af (fun _ _=>rfl)) (ay aE (pv 2) af (fun _ _=>rfl)) (aI _)) (br (aa (pv 3) (aa (pv 2) ah))) (br (aa (pv 2) ah))))
   (aj (aL (i:=5) S.nd rfl (by first | exact Or.inl rfl | exact Or.inr rfl) (aG cX (hr.mono (by first | decide | omega)) NE.pass (aa (aG fN (hr.mono (by first | decide | omega)) NE.pass (aa (pv 0) ah)) ah)))
   (aj (bg (aJ gB (pv 5) (aG cX (hr.mono (by first | decide | omega)) NE.pass (aa (ay aE (pv 2) af (fun _ _=>rfl)) ah)) (aI _)) (ak (ck (oj PySem.F.plainAttrs_list PySem.F.slot_list_append PySem.F.type_list_append fF (pv 4) (aa (aQ (aa aF (aa (ay aE (pv 2) af (fun _ _=>rfl)) (aa (pv 5) ah)))) ah)))) aK)
   (ak (az (pv 4)))))))))),?_⟩
 try dsimp only [aY]
 walk_at "go"
 refine ⟨a,ls,rfl,hS,hL,h100,fun l1 H1 nl1 hl1 s1=>?_⟩
 walk_at "go"
 rcases List.eq_nil_or_concat (ls.filter isT) with hz | ⟨ts,xl,hz⟩
 ·rw [hz] at hl1
  refine iM (SqL.of hl1) ?_
  have L:=Led.start H1 (fun _=>False)
  walk_at "go"
  rw [if_pos (by decide)]
  walk_at "go"
  rename_i sm
  have nz:H l'=none:=none_of s1 n'
  exact q l' [] H' nz (L'.eo (p:=l') .head) (fun _ z=>(by simp at z)) (CQ hz) (rW (s1.trans sm) Chg.refl) (TabAt.same hT (s1.trans sm))
 ·rw [List.concat_eq_append] at hz
  have hlS:SqL K H1 l1 (lnV ts++[.ref xl.1]):=by rw [← eK,← hz];exact SqL.of hl1
  refine iM hlS ?_
  have L:=Led.start H1 (fun _=>False)
  walk_at "go"
  refine ⟨l1,_,-1,.ref xl.1,rfl,rfl,hlS,iQ,?_⟩
  walk_at "go"
  have hxl:xl∈ls.filter isT:=by rw [hz];simp
  have hL1:=hL.same s1
  obtain ⟨g,sl,f0,e,ar,exl,ht,ha⟩:=oZ (hL1 xl (List.mem_filter.mp hxl).1) (List.mem_filter.mp hxl).2
  have hT1:jO H1 T:=TabAt.same hT s1
  refine Ho ?_
  walk_at "go"
  refine ⟨l1,lnV (ls.filter isT),fun i=>gOf ((ls.filter isT).getD i xl),rfl,SqL.of hl1,?_,hT1,fun i v hv=>?_,fun i v H2 hv best ch hT2=>?_⟩
  ·rw [hz,eK];simp
  ·obtain ⟨x,hx,rfl⟩:=d9 hv
   obtain ⟨xm,xb⟩:=List.mem_filter.mp (List.mem_of_getElem? hx)
   obtain ⟨g',_,_,_,ar',ex,hx1,_⟩:=oZ (hL1 x xm) xb
   refine ⟨x.1,_,rfl,SqT.of hx1,?_⟩
   dsimp only
   rw [List.getD_eq_getElem?_getD,hx,Option.getD_some,show gOf x=g' from by rw [ex];rfl]
   exact qO
  obtain ⟨x,hx,rfl⟩:=d9 hv
  have hxm:=List.mem_of_getElem? hx
  obtain ⟨gm,b1,b2,b3,ar',ex,hx1,hx2⟩:=oZ (hL1 x (List.mem_filter.mp hxm).1) (List.mem_filter.mp hxm).2
  have bst:∀ y∈ls.filter isT,gOf y≤gm:=fun y hy=>by
   obtain ⟨j,hj,rfl⟩:=List.getElem_of_mem hy
   have:=best j (by rw [cN];exact hj)
   dsimp only at this
   rw [List.getD_eq_getElem?_getD,List.getD_eq_getElem?_getD,hx,List.getElem?_eq_getElem hj,Option.getD_some,Option.getD_some,show gOf x=gm from by rw [ex];rfl] at this
   exact this
  have L:=(((Led.start H2 (fun _=>False)).more (aO xl.1 [_,_,_]) (ch.ts _ _ ht)).more (aO ar [_,_,_]) (ch.ts _ _ ha)).more (aO x.1 [_,_,_]) (ch.ts _ _ hx1)
  walk_at "go"
  have hz':ls.filter isT=ts++[(xl.1,.took g sl f0 e)]:=by rw [hz,← exl]
  have hm':(x.1,Ln.took gm b1 b2 b3)∈ls.filter isT:=by rw [← ex];exact hxm
  obtain ⟨n1,e',he',hle⟩:=ow hz'
  have c2:Chg T H H2:=rW s1 ch
  have hS2:=Chg.sq c2 hT hS
  have hL2:bH H2 ls:=hL.ts c2.ts
  have lnx:gA H2 x.1 (.took gm b1 b2 b3):=.took (ch.ts _ _ hx1) (ch.ts _ _ hx2)
  have lnl:gA H2 xl.1 (.took g sl f0 e):=.took (ch.ts _ _ ht) (ch.ts _ _ ha)
  have hsh:=fun te:Addr=>Ac (te:=te) hg hz' hm' bst he'
  have fin:∀ (l5:Addr) (rs:Lns) (H5:Hp),H2 l5=none→aM H2 H5→H5 l5=some (.lst (lnV rs))→bH H5 rs→ShT ls rs→Q (.ref l5) H5:=fun l5 rs H5 n5 s5 h5 hl5 sh=>by
   refine q l5 rs H5 ?_ h5 hl5 sh (Chg.same c2 s5) (TabAt.same hT2 s5)
   cases ee:H l5 with
   | none=>rfl
   | some o=>
    obtain ⟨ps,hps⟩:=hT2.tbl
    have:=c2.oth l5 o ee (fun z=>by rw [z,hps] at n5;cases n5)
    rw [n5] at this;cases this
  by_cases c:g < gm
  ·rw [if_pos (decide_eq_true c)]
   walk_at "go"
   rename_i sm
   have nl:=n'
   refine ⟨a,ls,rfl,sm.seq hS2,hL2.same sm,hg,by rw [he'];rfl,fun t sl4 f4 e4 H4 he4 ht4 s4=>?_⟩
   rw [he'] at he4;cases he4
   walk_at "go"
   have L4':=L'.keep s4
   refine ⟨t,sl,f0,e',rfl,ht4,?_⟩
   walk_at "go"
   refine ⟨ar,sl,f0,e,rfl,L4'.tup (by simp),?_⟩
   walk_at "go"
   by_cases c':e' < e
   ·rw [if_pos (decide_eq_true c')]
    walk_at "go"
    have sh:=hsh t'
    rw [if_pos c,if_pos c'] at sh
    have z:=L'.same
    exact fin l' _ H' nl z (L'.eo (p:=l') .head) (kE (lnx.same z) (kE (lnl.same z) (kE (.ends (L'.tup (by simp))) sU))) sh
   ·rw [if_neg (by simpa using c')]
    walk_at "go"
    have sh:=hsh T
    rw [if_pos c,if_neg c',List.append_nil] at sh
    have z:=L4'.same
    exact fin l' _ H4 nl z (L4'.eo (p:=l') .head) (kE (lnx.same z) (kE (lnl.same z) sU)) sh
  ·rw [if_neg (by simpa using c)]
   walk_at "go"
   rename_i sm
   have nl:=n'
   refine ⟨a,ls,rfl,sm.seq hS2,hL2.same sm,hg,by rw [he'];rfl,fun t sl4 f4 e4 H4 he4 ht4 s4=>?_⟩
   rw [he'] at he4;cases he4
   walk_at "go"
   have L4':=L'.keep s4
   refine ⟨t,sl,f0,e',rfl,ht4,?_⟩
   walk_at "go"
   refine ⟨ar,sl,f0,e,rfl,L4'.tup (by simp),?_⟩
   walk_at "go"
   by_cases c':e' < e
   ·rw [if_pos (decide_eq_true c')]
    walk_at "go"
    have sh:=hsh t'
    rw [if_neg c,if_pos c'] at sh
    have z:=L'.same
    exact fin l' _ H' nl z (L'.eo (p:=l') .head) (kE (lnl.same z) (kE (.ends (L'.tup (by simp))) sU)) sh
   ·rw [if_neg (by simpa using c')]
    walk_at "go"
    have sh:=hsh T
    rw [if_neg c,if_neg c',List.append_nil] at sh
    have z:=L4'.same
    exact fin l' _ H4 nl z (L4'.eo (p:=l') .head) (kE (lnl.same z) sU) sh
end
section
variable {P:Program} {w:World} {K:PySem.W.Frag} {mg:Str→Option Value} {base:Heap} {CX:CXT}
theorem Ai:ao ["lines", "kept"] ["lines"] (ai (top 38)):=by walk_at "s"
def wA (K:PySem.W.Frag) (T:Addr):Sp:=fun vs H Q _=>∃ (a:Addr) (ls:Lns),vs=[.ref a]∧SqL K H a (lnV ls)∧bH H ls∧bX ls∧ls.length≤400∧jO H T ∧
 ∀ (r:Addr) (rs:Lns) (H':Hp),H r=none→H' r=some (.lst (lnV rs))→bH H' rs→bX rs→rs.length≤5→Rds rs ls→Chg T H H'→jO H' T→Q (.ref r) H'
theorem CF {H H':Hp} {T r:Addr} {p:Pos} {q:Str} {xs:List V} (h:TabAt H T p q) (hr:H r=some (.lst xs)) (c:Chg r H H'):TabAt H' T p q:=by
 rcases h with h | ⟨c',oc,u,vs,t,h,h2,k⟩
 ·exact .inl (c.oth _ _ h fun z=>by rw [z,hr] at h;cases h)
 ·exact .inr ⟨c',oc,u,vs,t,c.oth _ _ h (fun z=>by rw [z,hr] at h;cases h),c.oth _ _ h2 (fun z=>by rw [z,hr] at h2;cases h2),k⟩
theorem qE {H H1 H':Hp} {T r:Addr} (c:Chg T H H1) (n:H r=none) (d:Chg r H1 H'):Chg T H H':=
 ⟨fun q o e z=>d.oth q o (c.oth q o e z) (fun y=>by rw [y,n] at e;cases e),fun q xs e=>d.ts q xs (c.ts q xs e)⟩
theorem D4 {H:Hp} {a b:Lns} (h:bH H a) (k:bH H b):bH H (a++b):=fun y hy=>(List.mem_append.mp hy).elim (h y) (k y)
theorem AW {T:Addr} (D:Dat K mg "short" "short" (top 38) ["lines"]) (NE:bf CX) (nE:Cal P w K mg base CX "short_tooks" 6 ["lines"] (rC K T)) (oO:Cal P w K mg base CX "held_of" 5 ["lines"] (wB K Nt.hd)) (mF:Cal P w K mg base CX "heard_of" 5 ["lines"] (wB K Nt.hr)):Cal P w K mg base CX "short" 7 ["lines"] (wA K T):=by
 have S:=Ai
 walk_at "d"
 ·obtain ⟨a,ls,rfl,_⟩:=h
  rfl
 obtain ⟨a,ls,rfl,hS,hL,hg,h100,hT,q⟩:=h
 refine ⟨_,(aj (aL (i:=1) S.nd rfl (by first | exact Or.inl rfl | exact Or.inr rfl) (aG nE (hr.mono (by first | decide | omega)) NE.pass (aa (pv 0) ah)))
   (aj (bg (aJ iV (aG oO (hr.mono (by first | decide | omega)) NE.pass (aa (pv 0) ah)) af (aI _)) (ak (ck (oj PySem.F.plainAttrs_list PySem.F.slot_list_append PySem.F.type_list_append fF (pv 1) (aa (aQ (aa aF (aa (aG oO (hr.mono (by first | decide | omega)) NE.pass (aa (pv 0) ah)) ah))) ah)))) aK)
   (aj (bg (aJ iV (aG mF (hr.mono (by first | decide | omega)) NE.pass (aa (pv 0) ah)) af (aI _)) (ak (ck (oj PySem.F.plainAttrs_list PySem.F.slot_list_append PySem.F.type_list_append fF (pv 1) (aa (aQ (aa aF (aa (aG mF (hr.mono (by first | decide | omega)) NE.pass (aa (pv 0) ah)) ah))) ah)))) aK)
   (ak (az (pv 1)))))),?_⟩
 try dsimp only [aY]
 walk_at "go"
 refine ⟨a,ls,rfl,hS,hL,hg,h100,hT,fun r rs H1 nr hr1 hl1 sh c1 hT1=>?_⟩
 have L:Led (·=r) H1 H1 [(r,Eo (.lst (lnV rs)))] []:=⟨fun x hx=>by rw [List.mem_singleton.mp hx];exact ⟨_,hr1,rfl⟩,by simp,fun x hx=>by rw [List.mem_singleton.mp hx];exact .inl rfl,fun _ _ h _=>h,fun _ z=>(by simp at z)⟩
 have hS1:=Chg.sq c1 hT hS
 have hL1:bH H1 ls:=hL.ts c1.ts
 walk_at "go"
 refine ⟨a,ls,rfl,hS1,hL1,hg,fun H2 s2=>?_⟩
 have L2':=L.keep s2
 walk_at "go"
 have nt:∀ xs,H1 r≠some (.tup xs):=fun xs z=>by rw [hr1] at z;cases z
 have up:∀ Hx,Chg r H1 Hx→Chg T H Hx∧SqL K Hx a (lnV ls)∧bH Hx ls∧jO Hx T:=fun Hx d=>⟨qE c1 nr d,Chg.sq (qE c1 nr d) hT hS,hL.ts (qE c1 nr d).ts,CF hT1 hr1 d⟩
 have gd:∀ zs:Lns,(∀ y∈zs,y∈rs∨(∃ m,y.2 = .held m)∨∃ m,y.2 = .heard m)→bX zs:=fun zs h y hy=>by
  rcases h y hy with h | ⟨m,h⟩ | ⟨m,h⟩
  ·exact sh.good y h
  ·rw [h];trivial
  ·rw [h];trivial
 by_cases ch:(0:Int) < (bh Nt.nil ls).hd
 ·rw [if_pos (decide_eq_true ch)]
  obtain ⟨v1,v2,v3,v4⟩:=up _ (L2'.chg nt)
  walk_at "go"
  refine ⟨a,ls,rfl,v2,v3,hg,fun H3 s3=>?_⟩
  have L3':=L2'.keep s3
  walk_at "go"
  obtain ⟨t1,rfl⟩:∃ t1,t1=t':=⟨_,rfl⟩
  refine jD L' .head (by rw [cN];exact small1000 (by have:=sh.len;omega)) fun HA LB _=>?_
  have d3:=LB.chg nt
  obtain ⟨u1,u2,u3,u4⟩:=up _ d3
  have LA:=LB
  walk_at "go"
  refine ⟨a,ls,rfl,u2,u3,hg,fun H4 s4=>?_⟩
  have L4':=LA.keep s4
  walk_at "go"
  by_cases cr:(0:Int) < (bh Nt.nil ls).hr
  ·rw [if_pos (decide_eq_true cr)]
   obtain ⟨v1,v2,v3,v4⟩:=up _ (L4'.chg nt)
   walk_at "go"
   refine ⟨a,ls,rfl,v2,v3,hg,fun H5 s5=>?_⟩
   have L5':=L4'.keep s5
   walk_at "go"
   refine jD L' .head (by rw [List.length_append,cN];exact small1000 (by have:=sh.len;simp only [List.length_cons,List.length_nil];omega)) fun HB LC _=>?_
   walk_at "go"
   have d4:=LC.chg nt
   obtain ⟨w1,w2,w3,w4⟩:=up _ d4
   have rd:=iG (t1:=t1) (t2:=t') sh
   rw [if_pos ch,if_pos cr] at rd
   exact q r _ _ nr (by rw [eK,eK];exact LC.eo (p:=r) .head) (D4 (D4 (hl1.ts d4.ts) (kE (.held (LC.tup (by simp))) sU)) (kE (.heard (LC.tup (by simp))) sU)) (gd _ (fun y hy=>by
    rcases List.mem_append.mp hy with hy | hy
    ·rcases List.mem_append.mp hy with hy | hy
     ·exact .inl hy
     ·rw [List.mem_singleton.mp hy];exact .inr (.inl ⟨_,rfl⟩)
    ·rw [List.mem_singleton.mp hy];exact .inr (.inr ⟨_,rfl⟩))) (by have:=sh.len;simp only [List.length_append,List.length_cons,List.length_nil];omega) rd w1 w4
  ·rw [if_neg (by simpa using cr)]
   walk_at "go"
   have d4:=L4'.chg nt
   obtain ⟨w1,w2,w3,w4⟩:=up _ d4
   have rd:=iG (t1:=t1) (t2:=T) sh
   rw [if_pos ch,if_neg cr,List.append_nil] at rd
   exact q r _ _ nr (by rw [eK];exact L4'.eo (p:=r) .head) (D4 (hl1.ts d4.ts) (kE (.held (L4'.tup (by simp))) sU)) (gd _ (fun y hy=>by
    rcases List.mem_append.mp hy with hy | hy
    ·exact .inl hy
    ·rw [List.mem_singleton.mp hy];exact .inr (.inl ⟨_,rfl⟩))) (by have:=sh.len;simp only [List.length_append,List.length_cons,List.length_nil];omega) rd w1 w4
 ·rw [if_neg (by simpa using ch)]
  have d3:=L2'.chg nt
  obtain ⟨u1,u2,u3,u4⟩:=up _ d3
  have LA:=L2'
  walk_at "go"
  refine ⟨a,ls,rfl,u2,u3,hg,fun H4 s4=>?_⟩
  have L4':=LA.keep s4
  walk_at "go"
  by_cases cr:(0:Int) < (bh Nt.nil ls).hr
  ·rw [if_pos (decide_eq_true cr)]
   obtain ⟨v1,v2,v3,v4⟩:=up _ (L4'.chg nt)
   walk_at "go"
   refine ⟨a,ls,rfl,v2,v3,hg,fun H5 s5=>?_⟩
   have L5':=L4'.keep s5
   walk_at "go"
   refine jD L' .head (by rw [cN];exact small1000 (by have:=sh.len;omega)) fun HB LC _=>?_
   walk_at "go"
   have d4:=LC.chg nt
   obtain ⟨w1,w2,w3,w4⟩:=up _ d4
   have rd:=iG (t1:=T) (t2:=t') sh
   rw [if_neg ch,if_pos cr,List.append_nil] at rd
   exact q r _ _ nr (by rw [eK];exact LC.eo (p:=r) .head) (D4 (hl1.ts d4.ts) (kE (.heard (LC.tup (by simp))) sU)) (gd _ (fun y hy=>by
    rcases List.mem_append.mp hy with hy | hy
    ·exact .inl hy
    ·rw [List.mem_singleton.mp hy];exact .inr (.inr ⟨_,rfl⟩))) (by have:=sh.len;simp only [List.length_append,List.length_cons,List.length_nil];omega) rd w1 w4
  ·rw [if_neg (by simpa using cr)]
   walk_at "go"
   have d4:=L4'.chg nt
   obtain ⟨w1,w2,w3,w4⟩:=up _ d4
   have rd:=iG (t1:=T) (t2:=T) sh
   rw [if_neg ch,if_neg cr,List.append_nil,List.append_nil] at rd
   exact q r _ _ nr (L4'.eo (p:=r) .head) (hl1.ts d4.ts) (sh.good) (by have:=sh.len;omega) rd w1 w4
end
structure Tw (d e:Hd) (ls ls':Lns):Prop where
 p:d.p≠e.p
 l:d.l≠e.l
 ws:d.ws=e.ws
 far:d.far=e.far
 room:d.room=e.room
 c:d.c=e.c
 s:d.s=e.s
 n:nt ls=nt ls'
 g:gmx ls=gmx ls'
theorem Tw.op {d e:Hd} {ls ls':Lns} (h:Tw d e ls ls') (pl:Option (Int×Int)) (op:Op):opF d (nt ls) (gmx ls) pl op=opF e (nt ls') (gmx ls') pl op:=by
 rw [h.n,h.g]
 cases op <;> simp only [opF,h.ws,h.far,h.room,h.c,h.s]
theorem Bb (ls ms:Lns):nt (ls++ms)=(ms.map (·.2)).foldl Nt.step (nt ls):=by
 unfold nt bh
 rw [List.foldl_append,List.foldl_map]
theorem qi:∀ (ms:Lns) (ls:Lns),gmx (ls++ms)=(ms.map (·.2)).foldl (fun g x=>if Ju x then max g (Ka x) else g) (gmx ls)
 | [],ls=>by rw [List.append_nil];rfl
 | x::ms,ls=>by
  rw [show ls++x::ms=(ls++[x])++ms by simp,qi ms,gY,List.map_cons,List.foldl_cons]
  have e1:isT x=Ju x.2:=by obtain ⟨a,l⟩:=x;cases l <;> rfl
  have e2:gOf x=Ka x.2:=by obtain ⟨a,l⟩:=x;cases l <;> rfl
  rw [e1,e2]
theorem Tw.app {d e:Hd} {ls ls' ls2 ls3:Lns} (h:Tw d e ls ls') (eq:ls2.map (·.2)=ls3.map (·.2)):Tw d e (ls++ls2) (ls'++ls3):=
 { h with n:=by rw [Bb,Bb,h.n,eq],g:=by rw [qi,qi,h.g,eq] }
def IF:Op→Bool
 | .write _=>true
 | .make _=>true
 | .gW _=>true
 | .give=>true
 | _=>false
theorem Jh {d:Hd} {n:Nt} {g m k:Int} {op:Op} (h:IF op=true):∃ m' k',(opF d n g (some (m,k)) op).2.2=some (m',k'):=by
 cases op with
 | write r=>simp only [opF];split;exact ⟨_,_,rfl⟩;split;exact ⟨_,_,rfl⟩;split;exact ⟨_,_,rfl⟩;exact ⟨_,_,rfl⟩
 | make r=>simp only [opF];split;exact ⟨_,_,rfl⟩;split;exact ⟨_,_,rfl⟩;split;exact ⟨_,_,rfl⟩;split;exact ⟨_,_,rfl⟩;exact ⟨_,_,rfl⟩
 | gW b=>exact ⟨_,_,rfl⟩
 | give=>simp only [opF];split;exact ⟨_,_,rfl⟩;split;exact ⟨_,_,rfl⟩;exact ⟨_,_,rfl⟩
 | take _ _ _ _=>cases h
 | jG=>cases h
 | rise=>cases h
def tdD (o:Ou):Dt:=.tup [.str (cy o),if gU o then .int 0 else ouD o]
theorem Fl {K:PySem.W.Frag} {C CS CH:Addr} {d:Hd} {ls ls2:Lns} {pl pl2:Option (Int×Int)} {op:Op} {H H1 H':Hp} {v:V} {t:Addr} (ha:nK C CS CH d ls pl op H H1 v ls2 pl2) (ht:H1 t=some (.tup [.str (cy (opF d (nt ls) (gmx ls) pl op).1),v])) (s:cB H1 H'):At K H' (.ref t) (tdD (opF d (nt ls) (gmx ls) pl op).1):=by
 refine .tup (SqT.of (s _ _ ht)) (.cons (.str _) (.cons ?_ .nil))
 cases he:gU (opF d (nt ls) (gmx ls) pl op).1 with
 | true=>
  rw [if_pos rfl,(ha.ex he).1]
  exact .int _
 | false=>
  rw [if_neg Bool.false_ne_true]
  exact ((ha.ov he).ts s).at
theorem Gb (o:Ou):dep (tdD o)≤100:=by
 cases o <;> simp [tdD,ouD,gU,dep,deps]
def arD:Option (Int×Int×Int)→Dt
 | none=>.non
 | some (a,b,c)=>.tup [.int a,.int b,.int c]
theorem fq.at {K:PySem.W.Frag} {H:Hp} {v:V} {ar:Option (Int×Int×Int)} (h:fq H v ar):At K H v (arD ar):=by
 rcases h with ⟨rfl,rfl⟩ | ⟨a,sl,f,e,rfl,rfl,h⟩
 ·exact .non
 ·exact .tup (SqT.of h) (.cons (.int _) (.cons (.int _) (.cons (.int _) .nil)))
theorem E8 (ar:Option (Int×Int×Int)):dep (arD ar)≤100:=by
 rcases ar with _ | ⟨a,b,c⟩ <;> simp [arD,dep,deps]
section
variable {P:Program} {w:World} {K:PySem.W.Frag} {mg:Str→Option Value} {base:Heap} {C CS CM CH CD CU CA CN CW CT CR:Addr}
theorem yh:ao ["_law_one", "_law_other", "_law_drawn_here", "_law_script", "_law_k", "_law_hand_here", "_law_reading_here", "_law_words", "_law_word", "_law_number"] ["_law_one", "_law_other", "_law_drawn_here", "_law_script"] (ai (top 84)):=by walk_at "s"
structure Two (C CS CH:Addr) (H0 H:Hp) (d e:Hd) (ls ls':Lns) (m k:Int) (n:Nat):Prop where
 hd:bA C CS CH H d ls (some (m,k))
 he:bA C CS CH H e ls' (some (m,k))
 do':cO ls (some (m,k))
 eo:cO ls' (some (m,k))
 dl:ls.length≤n
 el:ls'.length≤n
 t:Tw d e ls ls'
 s:aM H0 H
 n1:H0 d.p=none
 n2:H0 d.l=none
 n3:H0 e.p=none
 n4:H0 e.l=none
theorem Two.same {H0 H H':Hp} {d e:Hd} {ls ls':Lns} {m k:Int} {n:Nat} (h:Two C CS CH H0 H d e ls ls' m k n) (s:aM H H'):Two C CS CH H0 H' d e ls ls' m k n:={ h with hd:=h.hd.same s,he:=h.he.same s,s:=h.s.trans s }
theorem Two.oth {H0 H H':Hp} {d e:Hd} {ls ls':Lns} {m k b:Int} {n:Nat} {p:Addr} (h:Two C CS CH H0 H d e ls ls' m k n) (hh:bI H p b) (np:H0 p=none) (o:Oth p H H'):Two C CS CH H0 H' d e ls ls' m k n:=
 { h with hd:=h.hd.oth hh o,he:=h.he.oth hh o,s:=fun q u x=>o q u (h.s q u x) (aq x np) }
theorem rV {d:Hd} {H0 H H':Hp} (s:aM H0 H) (f:Fr2 d.p d.l H H') (n1:H0 d.p=none) (n2:H0 d.l=none):aM H0 H':=fun q o e=>f q o (s q o e) (aq e n1) (aq e n2)
def wI (K:PySem.W.Frag) (C CS CH:Addr):Sp:=fun vs H Q _=>∃ (H0:Hp) (d e:Hd) (ls ls':Lns) (m k:Int) (t a:Addr) (s at':Int) (ns:List Int),vs=[.ref d.p,.ref e.p,.ref t,.ref a]∧Two C CS CH H0 H d e ls ls' m k 300∧mU H t s at'∧SqL K H0 a (ns.map V.int)∧ns.length≤63∧∀ H',Q (.bl true) H'
theorem yH (D:Dat K mg "_law_alike" "_law_alike" (top 84) ["_law_one", "_law_other", "_law_drawn_here", "_law_script"]) (BT:Bt mg) (NE:bf (CX1 P w)) (cJ:Cal P w K mg base (CX1 P w) "_law_hand" 1 ["_law_script", "_law_k"] (jT K)) (aH:Cal P w K mg base (CX1 P w) "_law_pick" 11 ["_law_hand_here", "_law_many"] dQ) (cH:Cal P w K mg base (CX1 P w) "_law_reading" 12 ["_law_hand_here", "_law_ann", "_law_drawn_here"] (c5 C CS CH)) (bO:Cal P w K mg base (CX1 P w) "_law_asked" 8 ["_law_ann", "_law_word", "_law_one", "_law_other"] (ly C CS CH))
  (e8:bF P w K mg base (CX1 P w) CH "tell" 2 ["self"] (ux C CS CH CD)) (bZ:bF P w K mg base (CX1 P w) CH "area" 6 ["self"] (lA C CS CH)):Cal P w K mg base (CX1 P w) "_law_alike" 13 ["_law_one", "_law_other", "_law_drawn_here", "_law_script"] (wI K C CS CH):=by
 have S:=yh
 walk_at "d"
 ·obtain ⟨H0,d,e,ls,ls',m,k,t,a,s,at',ns,rfl,_⟩:=h
  rfl
 obtain ⟨H0,d,e,ls,ls',m,k,t,a,s',at',ns,rfl,h2,hdr,hS,h63,q⟩:=h
 refine ⟨_,(aj (lF PassesOwn.never rfl (oh rfl BT.range (aa af (aa af ah))) (bB (i:=4) S.nd rfl (by first | exact Or.inl rfl | exact Or.inr rfl)) (aj (aL (i:=5) S.nd rfl (by first | exact Or.inl rfl | exact Or.inr rfl) (aG cJ (hr.mono (by first | decide | omega)) NE.pass (aa (pv 3) (aa (pv 4) ah))))
    (aj (aL (i:=6) S.nd rfl (by first | exact Or.inl rfl | exact Or.inr rfl) (aG cH (hr.mono (by first | decide | omega)) NE.pass (aa (pv 5) (aa (pv 0) (aa (pv 2) ah)))))
    (aj (aL (i:=7) S.nd rfl (by first | exact Or.inl rfl | exact Or.inr rfl) (br (aa (aQ (aa aF (aa (pv 6) ah))) (aa (aQ (aa aF (aa (pv 6) ah))) (aa (aQ (aa aF (aa (aP bK (pv 6) (aG aH (hr.mono (by first | decide | omega)) NE.pass (aa (pv 5) (aa af ah)))) ah))) (aa (aQ (aa aF (aa af ah))) ah))))))
    (ak (lF PassesOwn.never rfl (d8 (r9 wJ (pv 7) wO (wN (aP bK af (aG aH (hr.mono (by first | decide | omega)) NE.pass (aa (pv 5) (aa af ah))))))) (jU rfl (cz (bB (i:=8) S.nd rfl (by first | exact Or.inl rfl | exact Or.inr rfl)) (cz (bB (i:=9) S.nd rfl (by first | exact Or.inl rfl | exact Or.inr rfl)) iH))) (ak (bg (aJ (AO (hr.mono (Nat.zero_le _))) (aG bO (hr.mono (by first | decide | omega)) NE.pass (aa (pv 0) (aa (pv 8) (aa (pv 9) (aa af ah))))) (aG bO (hr.mono (by first | decide | omega)) NE.pass (aa (pv 1) (aa (pv 8) (aa (pv 9) (aa af ah))))) (aI _)) (ak (az dY)) aK))))))))
   (ak (az (gO (cu cC (cj e8 (hr.mono (by first | decide | omega)) NE.pass (pv 0)) (cj e8 (hr.mono (by first | decide | omega)) NE.pass (pv 1)) (aI _)) (dS (cu (jX (hr.mono (Nat.zero_le _))) (cj bZ (hr.mono (by first | decide | omega)) NE.pass (pv 0)) (cj bZ (hr.mono (by first | decide | omega)) NE.pass (pv 1)) (aI _))))))),?_⟩
 try dsimp only [aY]
 have tp:cB H H:=fun _ _ h=>h
 walk_at "go"
 refine vh (fun i σ H'=>∃ (u4 u5 u6 u7 u8 u9:Option V) (ls ls':Lns) (m k:Int),σ=[some (.ref d.p),some (.ref e.p),some (.ref t),some (.ref a),u4,u5,u6,u7,u8,u9]∧Two C CS CH H0 H' d e ls ls' m k (300+4 * i)∧mU H' t s' at') ⟨_,_,_,_,_,_,ls,ls',m,k,rfl,h2,hdr⟩ ?_ ?_
 ·rintro i σ HG hi ⟨u4,u5,u6,u7,u8,u9,ls,ls',m,k,rfl,h2,hdr⟩
  try dsimp only [bE]
  have hi4:i < 4:=by omega
  have L:=Led.start HG (fun _=>False)
  walk_at "go"
  refine k9 L (h2.s.seq hS) h63 (by omega) fun p H1 np L s1=>?_
  have np0:H0 p=none:=by
   cases z:H0 p with
   | none=>rfl
   | some o=>rw [h2.s _ _ z] at np;cases np
  have h3:=h2.same s1
  have hh1:=cD.at (L.at_ (p,cD _) (by walk_at "mem"))
  walk_at "go"
  refine ⟨p,_,d,t,s',at',ls,some (m,k),rfl,hh1,by decide,h3.hd,h3.do'.good,hdr.ts (bV s1),fun rd H2 rd0 hh2 o2=>?_⟩
  have h4:=h3.oth hh1 np0 o2
  have K2:mU H2 t s' at':=(hdr.ts (bV s1)).ts (hh1.ts o2).ts
  clear L
  have L:=eL hh2
  walk_at "go"
  refine bD L' (by walk_at "put") (by decide) (by decide) (by decide) fun r1 H3 x0 x1 L _=>?_
  clear L'
  walk_at "go"
  refine bD L' (by walk_at "put") (by decide) (by decide) (by decide) fun r2 H4 y0 y1 L _=>?_
  have o4:Oth p H2 H4:=L.fr
  have h5:=h4.oth hh2 np0 o4
  have K0:mU H4 t s' at':=K2.ts (hh2.ts o4).ts
  obtain ⟨ws,hws,hwl,hwa⟩:∃ ws:List V,H4 l'=some (.lst ws)∧ws.length=4∧∀ v∈ws,∃ tt z x op,v = .ref tt∧H4 tt=some (.tup [.str z,.int x])∧(∀ H y,OpV H z (.int x) y op)∧IF op=true:=by
   refine ⟨_,L.eo (p:=l') (by walk_at "put"),rfl,fun v hv=>?_⟩
   simp only [List.mem_cons,List.not_mem_nil,or_false] at hv
   rcases hv with rfl | rfl | rfl | rfl
   ·exact ⟨_,_,_,.write rd,rfl,L.tup (by walk_at "mem"),fun _ _=>⟨rfl,rfl⟩,rfl⟩
   ·exact ⟨_,_,_,.make rd,rfl,L.tup (by walk_at "mem"),fun _ _=>⟨rfl,rfl⟩,rfl⟩
   ·exact ⟨_,_,_,.gW _,rfl,L.tup (by walk_at "mem"),fun _ _=>⟨rfl,rfl⟩,rfl⟩
   ·exact ⟨_,_,_,.give,rfl,L.tup (by walk_at "mem"),fun _ _=>rfl,rfl⟩
  clear L'
  walk_at "go"
  refine Bv (Led.start H4 (fun _=>False)) (SqL.of hws) fun lw H5 nlw L5 s5=>?_
  obtain ⟨cs,ecs⟩:∃ cs,nA ws none (some (2+r2))=cs:=⟨_,rfl⟩
  have hcs:∀ v∈cs,v∈ws:=fun v hv=>by
   rw [← ecs] at hv
   unfold nA at hv
   exact List.mem_of_mem_drop (List.mem_of_mem_take hv)
  have hcl:cs.length≤4:=by
   rw [← ecs]
   unfold nA
   rw [List.length_take,List.length_drop];omega
  rw [ecs] at L5
  have hlw:=L5.eo .head
  walk_at "go"
  have ne4:∀ {q o},H4 q=some o→lw≠q:=fun {q o} x z=>by rw [← z,nlw] at x;cases x
  obtain ⟨⟨dx1,sv1,hp1,_⟩,hl1,_⟩:=id h5.hd
  obtain ⟨⟨dx2,sv2,hp2,_⟩,hl2,_⟩:=id h5.he
  refine BC cs (fun j σ H'=>∃ (u8 u9:Option V) (ls ls':Lns) (m k:Int),σ=[some (.ref d.p),some (.ref e.p),some (.ref t),some (.ref a),some (.int (1+(i:Int))),some (.ref p),some (.int rd),some (.ref l'),u8,u9]∧Two C CS CH H0 H' d e ls ls' m k (300+4 * i+j)∧cB H4 H'∧H' lw=some (.lst cs))
   ⟨_,_,ls,ls',m,k,rfl,h5.same s5,bV s5,hlw⟩ (fun j σ Hx _ ⟨_,_,_,_,_,_,_,_,_,x⟩=>SqL.of x) ?_ ?_
  ·rintro j x σ HJ hx ⟨v8,v9,ls,ls',m,k,rfl,h6,t6,w6⟩
   obtain ⟨tt,z,y,op,rfl,htt,hop,hup⟩:=hwa x (hcs x (List.mem_of_getElem? hx))
   have hj4:j < 4:=Nat.lt_of_lt_of_le (List.getElem?_eq_some_iff.mp hx).1 hcl
   have h6l:=h6.dl
   have h6m:=h6.el
   have L:=(Led.start HJ (fun _=>False)).more (aO tt _) (t6 _ _ htt)
   try dsimp only [bE]
   walk_at "go"
   refine ⟨d,ls,some (m,k),_,_,_,op,rfl,h6.hd,h6.do',by omega,hop _ _,fun t1 v1 l2 pl2 H7 ht1 ha1=>?_⟩
   have he7:=h6.he.fr2 h6.hd h6.t.p.symm h6.t.l.symm ha1.f
   clear L
   walk_at "go"
   refine ⟨e,ls',some (m,k),_,_,_,op,rfl,he7,h6.eo,by omega,hop _ _,fun t2 v2 l3 pl3 H8 ht2 ha2=>?_⟩
   have eop:=h6.t.op (some (m,k)) op
   refine Hi (d:=tdD (opF d (nt ls) (gmx ls) (some (m,k)) op).1) (Fl ha1 ht1 (jj he7 ha2.f)) (by rw [eop];exact Fl ha2 ht2 (fun _ _ h=>h)) (Gb _) ?_
   walk_at "go"
   obtain ⟨m',k',epl⟩:=Jh (d:=d) (n:=nt ls) (g:=gmx ls) (m:=m) (k:=k) hup
   have e2:pl2=some (m',k'):=by have:=ha1.e;rw [← epl,this]
   have e3:pl3=some (m',k'):=by have:=ha2.e;rw [← epl,eop,this]
   have e4:l2.map (·.2)=l3.map (·.2):=by
    have x1:=congrArg (fun r:Rs=>r.2.1) ha1.e
    have x2:=congrArg (fun r:Rs=>r.2.1) ha2.e
    dsimp only at x1 x2
    rw [← x1,← x2,eop]
   subst e2 e3
   have g1:=ha1.len
   have g2:=ha2.len
   refine ⟨_,_,ls++l2,ls'++l3,m',k',rfl,⟨ha1.h.fr2 he7 h6.t.p h6.t.l ha2.f,ha2.h,ha1.o,ha2.o,by omega,by omega,h6.t.app e4,rV (rV h6.s ha1.f h6.n1 h6.n2) ha2.f h6.n3 h6.n4,h6.n1,h6.n2,h6.n3,h6.n4⟩,fun q xs x=>jj he7 ha2.f _ _ (jj h6.hd ha1.f _ _ (t6 _ _ x)),?_⟩
   exact ha2.f _ _ (ha1.f _ _ w6 (ne4 hp1) (ne4 hl1)) (ne4 hp2) (ne4 hl2)
  ·rintro σ HJ ⟨v8,v9,ls,ls',m,k,rfl,h6,t6,w6⟩
   exact ⟨_,_,_,_,_,_,ls,ls',m,k,rfl,{ h6 with dl:=Nat.le_trans h6.dl (by omega),el:=Nat.le_trans h6.el (by omega) },K0.ts t6⟩
 ·rintro σ HG ⟨u4,u5,u6,u7,u8,u9,ls,ls',m,k,rfl,h2,hdr⟩
  obtain ⟨⟨dx1,sv1,hp1,_⟩,_⟩:=id h2.hd
  obtain ⟨⟨dx2,sv2,hp2,_⟩,_⟩:=id h2.he
  walk_at "go"
  refine aZ hp1 Br ?_
  walk_at "go"
  refine ⟨d,ls,some (m,k),rfl,h2.hd,(fun z=>nomatch z),fun m' k' z=>?_⟩
  cases z
  walk_at "go"
  refine aZ hp2 Br ?_
  walk_at "go"
  refine ⟨e,ls',some (m,k),rfl,h2.he,(fun z=>nomatch z),fun m' k' z=>?_⟩
  cases z
  walk_at "go"
  refine aZ hp1 lV ?_
  walk_at "go"
  refine ⟨d,ls,some (m,k),rfl,h2.hd,h2.do'.good,fun v1 H1 hv1 s1=>?_⟩
  walk_at "go"
  refine aZ (s1 _ _ hp2) lV ?_
  walk_at "go"
  refine ⟨e,ls',some (m,k),rfl,h2.he.same s1,h2.eo.good,fun v2 H2 hv2 s2=>?_⟩
  refine ql (d:=arD (nt ls).ar) (fq.at (fq.ts hv1 (bV s2))) (by rw [h2.t.n];exact fq.at hv2) (E8 _) ?_
  walk_at "go"
  exact q _
end
section
variable {P:Program} {w:World} {K:PySem.W.Frag} {mg:Str→Option Value} {base:Heap} {C CS CM CH CD CU CA CN CW CT CR T:Addr}
theorem ED {σ : St} {H:Hp} {Q:VK} (q:∀ (k:Kd) (H':Hp),H k.p=none→H k.lm=none→H k.lh=none→H k.gd=none→KAt H' k Kn.nil→aM H H'→Q (.ref k.p) H') :
  Fz [(tC (.str (Str.ofString "marks")),CI o5),(tC (.str (Str.ofString "heard")),CI o5),(tC (.str (Str.ofString "given")),zS),(tC (.str (Str.ofString "most")),tC (.int 0)),(tC (.str (Str.ofString "grant")),tC (.int 0)),(tC (.str (Str.ofString "area")),tC .non)] σ H Q:=by
 intro p np
 refine ⟨Nat.zero_le _,fun lm nlm=>⟨Nat.zero_le _,fun lh nlh gd ngd=>?_⟩⟩
 have a1:lm≠p:=fun z=>by rw [z,aB] at nlm;cases nlm
 have a2:lh≠lm:=fun z=>by rw [z,aB] at nlh;cases nlh
 rw [au a2] at nlh
 have a3:lh≠p:=fun z=>by rw [z,aB] at nlh;cases nlh
 have a4:gd≠lh:=fun z=>by rw [z,aB] at ngd;cases ngd
 rw [au a4] at ngd
 have a5:gd≠lm:=fun z=>by rw [z,aB] at ngd;cases ngd
 rw [au a5] at ngd
 have a6:gd≠p:=fun z=>by rw [z,aB] at ngd;cases ngd
 rw [au a6] at ngd
 rw [au a3] at nlh
 rw [au a1] at nlm
 refine ⟨by rw [au a6.symm,au a3.symm,au a1.symm];exact aB,KvL ⟨p,lm,lh,gd⟩ 0 0 .non,rfl,Nat.le_of_ble_eq_true rfl,?_⟩
 refine q ⟨p,lm,lh,gd⟩ _ np nlm nlh ngd ⟨⟨.non,?_,.inl ⟨rfl,rfl⟩⟩,?_,?_,?_,a2.symm⟩ fun b o e=>?_
 ·rw [aB];with_unfolding_all rfl
 ·show upd _ _ _ lm=_
  rw [au a1,au a5.symm,au a2.symm];exact aB
 ·show upd _ _ _ lh=_
  rw [au a3,au a4.symm];exact aB
 ·show upd _ _ _ gd=_
  rw [au a6];exact aB
 ·rw [au (aq e np),au (aq e ngd),au (aq e nlh),au (aq e nlm),au (aq e np)];exact e
theorem CC {H H':Hp} {p:Addr} {b:Int} {d:Hd} {ls:Lns} {pl:Option (Int×Int)} {r:Dr} {k:Kd} {κ : Kn} (ds:DS C CS CH H p b d ls pl r k κ) (h:jO H T) (f:FrA p d k H H'):jO H' T:=by
 obtain ⟨x,y,u,e2,_⟩:=ds.hh
 obtain ⟨⟨dx,sv,hp,_⟩,hl,_⟩:=ds.hd
 obtain ⟨av,hk,_⟩:=ds.kn.p
 have go:∀ {q o},H q=some o→(∀ xs,o≠.lst xs)→(∀ a b c,o≠.ins a b c)→(∀ xs,o≠.dK xs)→H' q=some o:=fun {q o} e n1 n2 n3=>by
  refine f q o e (fun z=>?_) (fun z=>?_) (fun z=>?_) (fun z=>?_) (fun z=>?_) (fun z=>?_) (fun z=>?_)
  ·rw [z,e2] at e;cases e;exact n1 _ rfl
  ·rw [z,hp] at e;cases e;exact n2 _ _ _ rfl
  ·rw [z,hl] at e;cases e;exact n1 _ rfl
  ·rw [z,hk] at e;cases e;exact n3 _ rfl
  ·rw [z,ds.kn.m] at e;cases e;exact n1 _ rfl
  ·rw [z,ds.kn.h] at e;cases e;exact n1 _ rfl
  ·rw [z,ds.kn.g] at e;cases e;exact n3 _ rfl
 rcases h with h | ⟨c',oc,u,vs,t,h,h2,r⟩
 ·exact .inl (go h (fun _ z=>nomatch z) (fun _ _ _ z=>nomatch z) (fun _ z=>nomatch z))
 ·exact .inr ⟨c',oc,u,vs,t,go h (fun _ z=>nomatch z) (fun _ _ _ z=>nomatch z) (fun _ z=>nomatch z),go h2 (fun _ z=>nomatch z) (fun _ _ _ z=>nomatch z) (fun _ z=>nomatch z),r⟩
structure LS (C CS CH T:Addr) (H0 H:Hp) (d:Hd) (ls:Lns) (pl:Option (Int×Int)) (r:Dr) (k:Kd) (κ : Kn) (n:Nat):Prop where
 hd:bA C CS CH H d ls pl
 dr:DrF H r
 kn:KAt H k κ
 l1:d.l≠k.lm
 l2:d.l≠k.lh
 rd:DrD r d
 ok:cO ls pl
 ll:ls.length≤n
 kl:KnL κ n
 j:JL d ls pl κ
 tb:jO H T
 s:aM H0 H
 n1:H0 d.p=none
 n2:H0 d.l=none
 n3:H0 k.p=none
 n4:H0 k.lm=none
 n5:H0 k.lh=none
 n6:H0 k.gd=none
variable {H0 H H':Hp} {d:Hd} {ls:Lns} {pl:Option (Int×Int)} {r:Dr} {k:Kd} {κ : Kn} {n:Nat} {p:Addr} {b:Int}
theorem LS.ds (h:LS C CS CH T H0 H d ls pl r k κ n) (np:H p=none) (s:aM H H') (hh:bI H' p b):DS C CS CH H' p b d ls pl r k κ:=
 ⟨hh,h.hd.same s,h.dr.same s,h.kn.same s,⟨h.l1,h.l2,(aq h.kn.m np).symm,(aq h.kn.h np).symm⟩,h.rd⟩
theorem none_le (s:aM H0 H) (n:H p=none):H0 p=none:=by
 cases z:H0 p with
 | none=>rfl
 | some o=>rw [s _ _ z] at n;cases n
theorem LS.chg (h:LS C CS CH T H0 H d ls pl r k κ n) (c:Chg T H H') (t0:H0 T=none) (tb:jO H' T):LS C CS CH T H0 H' d ls pl r k κ n:=by
 obtain ⟨ps,hT⟩:=TabAt.tbl h.tb
 have go:∀ {q o},H q=some o→(∀ ps,o≠.tbl ps)→H' q=some o:=fun {q o} e n=>c.oth q o e fun z=>by rw [z,hT] at e;cases e;exact n _ rfl
 refine { h with hd:=?_,dr:=⟨c.ts _ _ h.dr.1,go h.dr.2 (fun _ z=>nomatch z)⟩,kn:=h.kn.keep c.ts (fun _ e=>?_) (fun _ e=>?_) (fun _ e=>?_) (fun _ e=>?_),tb:=tb,s:=fun q o e=>c.oth q o (h.s q o e) (aq e t0) }
 ·obtain ⟨⟨dx,sv,hp,hpl⟩,hl,hL,⟨dy,tr,ms,h1,h2,pm⟩,⟨dz,h3⟩,hn⟩:=h.hd
  exact ⟨⟨dx,sv,go hp (fun _ z=>nomatch z),hpl.ts c.ts⟩,go hl (fun _ z=>nomatch z),hL.ts c.ts,⟨dy,tr,ms,go h1 (fun _ z=>nomatch z),c.ts _ _ h2,pm⟩,⟨dz,go h3 (fun _ z=>nomatch z)⟩,hn⟩
 ·obtain ⟨av,hk,_⟩:=h.kn.p
  rw [hk] at e;cases e;exact go hk (fun _ z=>nomatch z)
 ·rw [h.kn.m] at e;cases e;exact go h.kn.m (fun _ z=>nomatch z)
 ·rw [h.kn.h] at e;cases e;exact go h.kn.h (fun _ z=>nomatch z)
 ·rw [h.kn.g] at e;cases e;exact go h.kn.g (fun _ z=>nomatch z)
theorem LS.same (h:LS C CS CH T H0 H d ls pl r k κ n) (s:aM H H'):LS C CS CH T H0 H' d ls pl r k κ n:=
 { h with hd:=h.hd.same s,dr:=h.dr.same s,kn:=h.kn.same s,tb:=TabAt.same h.tb s,s:=h.s.trans s }
end
section
variable {P:Program} {w:World} {K:PySem.W.Frag} {mg:Str→Option Value} {base:Heap} {C CS CM CH CD CU CA CN CW CT CR T:Addr}
def BR (T:Addr) (H:Hp):Hp:=fun q=>if q=T then none else H q
theorem vz {H:Hp} {q:Addr} (n:q≠T):BR T H q=H q:=if_neg n
theorem BP {H:Hp}:aM (BR T H) H:=fun q o e=>by
 by_cases z:q=T
 ·rw [show BR T H q=none from if_pos z] at e;cases e
 ·rw [vz z] at e;exact e
theorem ES {H:Hp} (h:jO H T):Chg T H (BR T H):=by
 obtain ⟨ps,hTb⟩:=TabAt.tbl h
 exact ⟨fun q o e n=>by rw [vz n];exact e,fun q xs e=>by rw [vz (fun z=>by rw [z,hTb] at e;cases e)];exact e⟩
theorem LS.anew {H0 H H':Hp} {d:Hd} {ls rs:Lns} {pl:Option (Int×Int)} {r:Dr} {k:Kd} {κ : Kn} {n:Nat} {x l:Addr} {nm:Str} (h:LS C CS CH T H0 H d ls pl r k κ n) (e:Rds rs ls) (hg:bX rs) (hl:rs.length≤n) (hn:n≤398) (nx:H x=none) (nl:H l=none)
  (hd:bA C CS CH H' ⟨x,l,d.ps,d.sp,nm,d.c,d.s,d.far,d.room,d.term,d.ws⟩ rs (some (max (nt rs).hd (nt rs).hr,0))) (s:aM H H'):LS C CS CH T H0 H' ⟨x,l,d.ps,d.sp,nm,d.c,d.s,d.far,d.room,d.term,d.ws⟩ rs (some (max (nt rs).hd (nt rs).hr,0)) r k κ n:=by
 have en:nt rs=nt ls:=e.f
 have eg:gmx rs=gmx ls:=e.g
 refine { hd:=hd,dr:=h.dr.same s,kn:=h.kn.same s,l1:=fun z=>aq h.kn.m nl z.symm,l2:=fun z=>aq h.kn.h nl z.symm,rd:=⟨h.rd.c,h.rd.s,h.rd.far,h.rd.ws,h.rd.rw⟩,ok:=⟨hg,(fun m k z=>by cases z;exact Int.le_refl _),by omega⟩,ll:=hl,kl:=h.kl,j:=?_,tb:=TabAt.same h.tb s,s:=h.s.trans s,n1:=none_le h.s nx,n2:=none_le h.s nl,n3:=h.n3,n4:=h.n4,n5:=h.n5,n6:=h.n6 }
 unfold JL
 rw [en,eg]
 exact h.j.rise
theorem Rds.refl (ls:Lns):Rds ls ls:=⟨rfl,rfl⟩
theorem GQ {H H':Hp} {d:Hd} {ls:Lns} {pl:Option (Int×Int)} (h:bA C CS CH H d ls pl) (tb:jO H T) (c:Chg T H H'):bA C CS CH H' d ls pl:=by
 obtain ⟨ps,hT⟩:=TabAt.tbl tb
 have go:∀ {q o},H q=some o→(∀ ps,o≠.tbl ps)→H' q=some o:=fun {q o} e n=>c.oth q o e fun z=>by rw [z,hT] at e;cases e;exact n _ rfl
 obtain ⟨⟨dx,sv,hp,hpl⟩,hl,hL,⟨dy,tr,ms,h1,h2,pm⟩,⟨dz,h3⟩,hn⟩:=h
 exact ⟨⟨dx,sv,go hp (fun _ z=>nomatch z),hpl.ts c.ts⟩,go hl (fun _ z=>nomatch z),hL.ts c.ts,⟨dy,tr,ms,go h1 (fun _ z=>nomatch z),c.ts _ _ h2,pm⟩,⟨dz,go h3 (fun _ z=>nomatch z)⟩,hn⟩
theorem Gk:ao ["_law_script", "_law_drawn_here", "_law_known", "_law_ann", "_law_k", "_law_hand_here", "_law_again", "_law_turn", "_law_one"] ["_law_script"] (ai (top 85)):=by walk_at "s"
def FE (T:Addr) (K:PySem.W.Frag):Sp:=fun vs H Q _=>∃ (a:Addr) (ns:List Int),vs=[.ref a]∧SqL K H a (ns.map V.int)∧ns.length≤63∧jO H T∧∀ H',Q (.bl true) H'
theorem GB {f:Addr} {fd:FuncData} (F:Fun K "law" "law" (top 85) f fd) (BT:Bt mg) (NE:bf (CX1 P w)) (SC:HdC K CH) (cJ:Cal P w K mg base (CX1 P w) "_law_hand" 1 ["_law_script", "_law_k"] (jT K)) (aH:Cal P w K mg base (CX1 P w) "_law_pick" 11 ["_law_hand_here", "_law_many"] dQ) (gj:Cal P w K mg base (CX1 P w) "_law_drawn" 13 ["_law_script"] (pJ K)) (dX:Cal P w K mg base (CX1 P w) "_law_settings" 6 ["_law_drawn_here"] (gF C CS))
  (tV:Cal P w K mg base (CX1 P w) "_law_deed" 13 ["_law_hand_here", "_law_ann", "_law_drawn_here", "_law_known"] (Aa C CS CH)) (qL:Cal P w K mg base (CX1 P w) "_law_alike" 13 ["_law_one", "_law_other", "_law_drawn_here", "_law_script"] (wI K C CS CH)) (kX:Cal P w K mg base (CX1 P w) "short" 7 ["lines"] (wA K T)) (je:Mak P w K mg base (CX1 P w) "Hand" CH 5 ["self", "name", "settings", "lines"] (fP CH)) (jy:Cc P w K mg base (CX1 P w) "Hand" CH 5 ["self", "name", "settings", "lines"] (fP CH)) (bQ:bF P w K mg base (CX1 P w) CH "note" 1 ["self"] (lq C CS CH)):eU P w K mg base (CX1 P w) 14 f fd ["_law_script"] (FE T K):=by
 have S:=Gk
 refine l0 F S (fun vs H Q E h=>?_) (fun f cdv A outer s H vs Q E hr h=>?_)
 ·obtain ⟨a,ns,rfl,_⟩:=h
  rfl
 obtain ⟨a,ns,rfl,hS,h63,hT,q⟩:=h
 refine ⟨_,(@aj _ _ _ _ _ (@aL _ _ 1 _ _ _ _ S.nd rfl (by first | exact Or.inl rfl | exact Or.inr rfl) (@aG _ _ _ _ _ _ _ _ _ _ _ _ gj (hr.mono (by first | decide | omega)) NE.pass (@aa _ _ _ _ _ (@pv _ 0 _ _ (by rfl) (by first | exact Or.inl rfl | exact Or.inr (Or.inl rfl) | exact Or.inr (Or.inr rfl)) (by decide) (by decide)) (@ah _) (by rfl)) (by rfl) (by decide) (by rfl) (by rfl)) (by rfl) (by first | exact .inl rfl | exact .inr rfl | assumption)) (@aj _ _ _ _ _ (@aL _ _ 2 _ _ _ _ S.nd rfl (by first | exact Or.inl rfl | exact Or.inr rfl) (@DA _ _ _ _ _ (@fC _ _ _ _ _ _ _ _ _ (@aF _ _ _ _) (@br _ _ _ _ (@ah _)) (@fC _ _ _ _ _ _ _ _ _ (@aF _ _ _ _) (@br _ _ _ _ (@ah _)) (@fC _ _ _ _ _ _ _ _ _ (@aF _ _ _ _) (@AK _ _) (@fC _ _ _ _ _ _ _ _ _ (@aF _ _ _ _) (@af _ _ _ _) (@fC _ _ _ _ _ _ _ _ _ (@aF _ _ _ _) (@af _ _ _ _) (@fC _ _ _ _ _ _ _ _ _ (@aF _ _ _ _) (@fS _ _ _) (@Ds _ _))))))) rfl rfl (List.cons_ne_nil _ _) (Nat.le_of_ble_eq_true rfl)) (by rfl) (by first | exact .inl rfl | exact .inr rfl | assumption)) (@aj _ _ _ _ _ (@aL _ _ 3 _ _ _ _ S.nd rfl (by first | exact Or.inl rfl | exact Or.inr rfl) (Gw jy (hr.mono (by first | decide | omega)) NE.pass (@aa _ _ _ _ _ (@aF _ _ _ _) (@aa _ _ _ _ _ (@aG _ _ _ _ _ _ _ _ _ _ _ _ dX (hr.mono (by first | decide | omega)) NE.pass (@aa _ _ _ _ _ (@pv _ 1 _ _ (by rfl) (by first | exact Or.inl rfl | exact Or.inr (Or.inl rfl) | exact Or.inr (Or.inr rfl)) (by decide) (by decide)) (@ah _) (by rfl)) (by rfl) (by decide) (by rfl) (by rfl)) (@ah _) (by rfl)) (by rfl))) (by rfl) (by first | exact .inl rfl | exact .inr rfl | assumption)) (@aj _ _ _ _ _ (@lF _ _ _ _ _ _ _ _ PassesOwn.never rfl (@oh _ _ _ _ _ _ _ rfl BT.range (@aa _ _ _ _ _ (@af _ _ _ _) (@aa _ _ _ _ _ (@aX _ _ _ _ _ _ _ _ _ (@iY _ rfl) rfl BT.max L3.cI (@aa _ _ _ _ _ (@af _ _ _ _) (@aa _ _ _ _ _ (@aX _ _ _ _ _ _ _ _ _ (@F7 _ rfl) rfl BT.min L3.vH (@aa _ _ _ _ _ (@aX _ _ _ _ _ _ _ _ _ (@oM _) rfl BT.len L3.jm (@aa _ _ _ _ _ (@pv _ 0 _ _ (by rfl) (by first | exact Or.inl rfl | exact Or.inr (Or.inl rfl) | exact Or.inr (Or.inr rfl)) (by decide) (by decide)) (@ah _) (by rfl)) (by decide) (by decide) (by rfl) (by rfl)) (@aa _ _ _ _ _ (@af _ _ _ _) (@ah _) (by rfl)) (by rfl)) (by decide) (by decide) (by rfl) (by rfl)) (@ah _) (by rfl)) (by rfl)) (by decide) (by decide) (by rfl) (by rfl)) (@ah _) (by rfl)) (by rfl)) (by rfl) (by rfl)) (@bB _ _ 4 _ S.nd rfl (by first | exact Or.inl rfl | exact Or.inr rfl) (by first | exact .inl rfl | exact .inr rfl | assumption)) (@aj _ _ _ _ _ (@aL _ _ 5 _ _ _ _ S.nd rfl (by first | exact Or.inl rfl | exact Or.inr rfl) (@aG _ _ _ _ _ _ _ _ _ _ _ _ cJ (hr.mono (by first | decide | omega)) NE.pass (@aa _ _ _ _ _ (@pv _ 0 _ _ (by rfl) (by first | exact Or.inl rfl | exact Or.inr (Or.inl rfl) | exact Or.inr (Or.inr rfl)) (by decide) (by decide)) (@aa _ _ _ _ _ (@pv _ 4 _ _ (by rfl) (by first | exact Or.inl rfl | exact Or.inr (Or.inl rfl) | exact Or.inr (Or.inr rfl)) (by decide) (by decide)) (@ah _) (by rfl)) (by rfl)) (by rfl) (by decide) (by rfl) (by rfl)) (by rfl) (by first | exact .inl rfl | exact .inr rfl | assumption)) (@aj _ _ _ _ _ (@aL _ _ 6 _ _ _ _ S.nd rfl (by first | exact Or.inl rfl | exact Or.inr rfl) (@aG _ _ _ _ _ _ _ _ _ _ _ _ aH (hr.mono (by first | decide | omega)) NE.pass (@aa _ _ _ _ _ (@pv _ 5 _ _ (by rfl) (by first | exact Or.inl rfl | exact Or.inr (Or.inl rfl) | exact Or.inr (Or.inr rfl)) (by decide) (by decide)) (@aa _ _ _ _ _ (@af _ _ _ _) (@ah _) (by rfl)) (by rfl)) (by rfl) (by decide) (by rfl) (by rfl)) (by rfl) (by first | exact .inl rfl | exact .inr rfl | assumption)) (@aj _ _ _ _ _ (@lF _ _ _ _ _ _ _ _ PassesOwn.never rfl (@oi _ _ _ _ _ _ rfl BT.range (@aa _ _ _ _ _ (@aP _ _ _ _ _ _ _ _ (@bK _) (@af _ _ _ _) (@aG _ _ _ _ _ _ _ _ _ _ _ _ aH (hr.mono (by first | decide | omega)) NE.pass (@aa _ _ _ _ _ (@pv _ 5 _ _ (by rfl) (by first | exact Or.inl rfl | exact Or.inr (Or.inl rfl) | exact Or.inr (Or.inr rfl)) (by decide) (by decide)) (@aa _ _ _ _ _ (@af _ _ _ _) (@ah _) (by rfl)) (by rfl)) (by rfl) (by decide) (by rfl) (by rfl))) (@ah _) (by rfl)) (by rfl)) (@bB _ _ 7 _ S.nd rfl (by first | exact Or.inl rfl | exact Or.inr rfl) (by first | exact .inl rfl | exact .inr rfl | assumption)) (@ak _ _ _ (@bg _ _ _ _ _ _ _ _ (@cT _ _ _ _ (@cK _ _ _ (@aG _ _ _ _ _ _ _ _ _ _ _ _ tV (hr.mono (by first | decide | omega)) NE.pass (@aa _ _ _ _ _ (@pv _ 5 _ _ (by rfl) (by first | exact Or.inl rfl | exact Or.inr (Or.inl rfl) | exact Or.inr (Or.inr rfl)) (by decide) (by decide)) (@aa _ _ _ _ _ (@pv _ 3 _ _ (by rfl) (by first | exact Or.inl rfl | exact Or.inr (Or.inl rfl) | exact Or.inr (Or.inr rfl)) (by decide) (by decide)) (@aa _ _ _ _ _ (@pv _ 1 _ _ (by rfl) (by first | exact Or.inl rfl | exact Or.inr (Or.inl rfl) | exact Or.inr (Or.inr rfl)) (by decide) (by decide)) (@aa _ _ _ _ _ (@pv _ 2 _ _ (by rfl) (by first | exact Or.inl rfl | exact Or.inr (Or.inl rfl) | exact Or.inr (Or.inr rfl)) (by decide) (by decide)) (@ah _) (by rfl)) (by rfl)) (by rfl)) (by rfl)) (by rfl) (by decide) (by rfl) (by rfl)) (by intro _;rfl))) (@ak _ _ _ (@az _ _ _ _ (@dY _ _ _ _))) (@aK _))) (by intro _;rfl)) (@ak _ _ _ (@bg _ _ _ _ _ _ _ _ (@aJ _ _ _ _ _ _ _ _ (@iV _) (@pv _ 6 _ _ (by rfl) (by first | exact Or.inl rfl | exact Or.inr (Or.inl rfl) | exact Or.inr (Or.inr rfl)) (by decide) (by decide)) (@af _ _ _ _) (@aI _ _ (by decide) (by decide))) (@ak _ _ _ (@aL _ _ 3 _ _ _ _ S.nd rfl (by first | exact Or.inl rfl | exact Or.inr rfl) (@sd _ _ _ _ _ _ _ _ _ _ _ _ _ je (hr.mono (by first | decide | omega)) NE.pass (@aa _ _ _ _ _ (@aF _ _ _ _) (@aa _ _ _ _ _ (@bP _ _ _ _ _ (@pv _ 3 _ _ (by rfl) (by first | exact Or.inl rfl | exact Or.inr (Or.inl rfl) | exact Or.inr (Or.inr rfl)) (by decide) (by decide)) rfl) (@aa _ _ _ _ _ (@ay _ _ _ _ _ _ _ (@bu _) (@br _ _ _ _ (@aa _ _ _ _ _ (@cj _ _ _ _ _ _ _ _ _ _ _ _ _ bQ (hr.mono (by first | decide | omega)) NE.pass (@pv _ 3 _ _ (by rfl) (by first | exact Or.inl rfl | exact Or.inr (Or.inl rfl) | exact Or.inr (Or.inr rfl)) (by decide) (by decide)) (by rfl)) (@aa _ _ _ _ _ (@aG _ _ _ _ _ _ _ _ _ _ _ _ kX (hr.mono (by first | decide | omega)) NE.pass (@aa _ _ _ _ _ (@cj _ _ _ _ _ _ _ _ _ _ _ _ _ bQ (hr.mono (by first | decide | omega)) NE.pass (@pv _ 3 _ _ (by rfl) (by first | exact Or.inl rfl | exact Or.inr (Or.inl rfl) | exact Or.inr (Or.inr rfl)) (by decide) (by decide)) (by rfl)) (@ah _) (by rfl)) (by rfl) (by decide) (by rfl) (by rfl)) (@ah _) (by rfl)) (by rfl))) (@aP _ _ _ _ _ _ _ _ (@AN _) (@pv _ 6 _ _ (by rfl) (by first | exact Or.inl rfl | exact Or.inr (Or.inl rfl) | exact Or.inr (Or.inr rfl)) (by decide) (by decide)) (@af _ _ _ _)) (fun _ _=>rfl)) (@ah _) (by rfl)) (by rfl)) (by rfl)) (by rfl) (by decide) (by rfl) (by rfl)) (by rfl) (by first | exact .inl rfl | exact .inr rfl | assumption))) (@aK _)))))) (by intro _;rfl)) (@aj _ _ _ _ _ (@aL _ _ 8 _ _ _ _ S.nd rfl (by first | exact Or.inl rfl | exact Or.inr rfl) (@sd _ _ _ _ _ _ _ _ _ _ _ _ _ je (hr.mono (by first | decide | omega)) NE.pass (@aa _ _ _ _ _ (@aF _ _ _ _) (@aa _ _ _ _ _ (@bP _ _ _ _ _ (@pv _ 3 _ _ (by rfl) (by first | exact Or.inl rfl | exact Or.inr (Or.inl rfl) | exact Or.inr (Or.inr rfl)) (by decide) (by decide)) rfl) (@aa _ _ _ _ _ (@cj _ _ _ _ _ _ _ _ _ _ _ _ _ bQ (hr.mono (by first | decide | omega)) NE.pass (@pv _ 3 _ _ (by rfl) (by first | exact Or.inl rfl | exact Or.inr (Or.inl rfl) | exact Or.inr (Or.inr rfl)) (by decide) (by decide)) (by rfl)) (@ah _) (by rfl)) (by rfl)) (by rfl)) (by rfl) (by decide) (by rfl) (by rfl)) (by rfl) (by first | exact .inl rfl | exact .inr rfl | assumption)) (@ak _ _ _ (@az _ _ _ _ (@aG _ _ _ _ _ _ _ _ _ _ _ _ qL (hr.mono (by first | decide | omega)) NE.pass (@aa _ _ _ _ _ (@pv _ 8 _ _ (by rfl) (by first | exact Or.inl rfl | exact Or.inr (Or.inl rfl) | exact Or.inr (Or.inr rfl)) (by decide) (by decide)) (@aa _ _ _ _ _ (@sd _ _ _ _ _ _ _ _ _ _ _ _ _ je (hr.mono (by first | decide | omega)) NE.pass (@aa _ _ _ _ _ (@aF _ _ _ _) (@aa _ _ _ _ _ (@bP _ _ _ _ _ (@pv _ 3 _ _ (by rfl) (by first | exact Or.inl rfl | exact Or.inr (Or.inl rfl) | exact Or.inr (Or.inr rfl)) (by decide) (by decide)) rfl) (@aa _ _ _ _ _ (@aG _ _ _ _ _ _ _ _ _ _ _ _ kX (hr.mono (by first | decide | omega)) NE.pass (@aa _ _ _ _ _ (@cj _ _ _ _ _ _ _ _ _ _ _ _ _ bQ (hr.mono (by first | decide | omega)) NE.pass (@pv _ 3 _ _ (by rfl) (by first | exact Or.inl rfl | exact Or.inr (Or.inl rfl) | exact Or.inr (Or.inr rfl)) (by decide) (by decide)) (by rfl)) (@ah _) (by rfl)) (by rfl) (by decide) (by rfl) (by rfl)) (@ah _) (by rfl)) (by rfl)) (by rfl)) (by rfl) (by decide) (by rfl) (by rfl)) (@aa _ _ _ _ _ (@pv _ 1 _ _ (by rfl) (by first | exact Or.inl rfl | exact Or.inr (Or.inl rfl) | exact Or.inr (Or.inr rfl)) (by decide) (by decide)) (@aa _ _ _ _ _ (@pv _ 0 _ _ (by rfl) (by first | exact Or.inl rfl | exact Or.inr (Or.inl rfl) | exact Or.inr (Or.inr rfl)) (by decide) (by decide)) (@ah _) (by rfl)) (by rfl)) (by rfl)) (by rfl)) (by rfl) (by decide) (by rfl) (by rfl))))))))),?_⟩
 try dsimp only [aY]
 have hnl:(ns.map V.int).length=ns.length:=List.length_map ..
 obtain ⟨H0,eH0⟩:∃ H0:Hp,BR T H=H0:=⟨_,rfl⟩
 have t0:H0 T=none:=by rw [← eH0];exact if_pos rfl
 have s0:aM H0 H:=by rw [← eH0];exact BP
 have hS0:SqL K H0 a (ns.map V.int):=by rw [← eH0];exact Chg.sq (ES hT) hT hS
 walk_at "go"
 refine ⟨a,ns,rfl,hS,h63,fun r H1 hrn hw hdr s1=>?_⟩
 walk_at "go"
 refine ED fun k H2 nk1 nk2 nk3 nk4 hk2 s2=>?_
 walk_at "go"
 refine EB ?_
 walk_at "go"
 refine ⟨r,rfl,hdr.same s2,hrn,fun ps sp H3 hss s3=>?_⟩
 walk_at "go"
 refine eB (C:=C) (CS:=CS) (sp:=sp) (c:=r.c) (s:=r.s) (far:=r.far) (room:=r.room) (term:=5) (ws:=r.ws) (ls:=[]) (.inl ⟨rfl,rfl⟩) (fun _ h=>by simp at h) (fun _ h=>by simp at h) (Nat.zero_le _) hss fun x l H4 nx nl hd s4=>?_
 have s12:aM H0 H2:=s0.trans (s1.trans s2)
 have s14:aM H0 H4:=s12.trans (s3.trans s4)
 have s34:aM H2 H4:=s3.trans s4
 have hk4:=hk2.same s34
 have k0:LS C CS CH T H0 H4 ⟨x,l,ps,sp, "ann",r.c,r.s,r.far,r.room,5,r.ws⟩ [] (some (0,0)) r k Kn.nil 5:=
  { hd:=hd,dr:=(hdr.same s2).same s34,kn:=hk4,l1:=fun z=>aq (s3 _ _ hk2.m) nl z.symm,l2:=fun z=>aq (s3 _ _ hk2.h) nl z.symm,rd:=⟨rfl,rfl,rfl,hw,hw⟩,ok:=⟨(fun _ h=>by simp at h),(fun m k z=>by cases z;exact Int.le_refl _),Nat.zero_le _⟩,ll:=Nat.zero_le _,kl:=⟨Nat.zero_le _,Nat.zero_le _,Nat.zero_le _⟩,j:=J.nil hrn.sh.c1 hrn.sh.s1,tb:=TabAt.same hT (s1.trans (s2.trans s34)),s:=s14,n1:=none_le (s12.trans s3) nx,n2:=none_le (s12.trans s3) nl,n3:=none_le (s0.trans s1) nk1,n4:=none_le (s0.trans s1) nk2,n5:=none_le (s0.trans s1) nk3,n6:=none_le (s0.trans s1) nk4 }
 walk_at "go"
 refine iM (s14.seq hS0) ?_
 walk_at "go"
 refine vh (fun i σ H'=>∃ (u4 u5 u6 u7:Option V) (d:Hd) (ls:Lns) (pl:Option (Int×Int)) (κ : Kn),σ=[some (.ref a),some (.ref r.t),some (.ref k.p),some (.ref d.p),u4,u5,u6,u7,none]∧LS C CS CH T H0 H' d ls pl r k κ (2 * i+5)) ⟨_,_,_,_,_,[],_,_,rfl,k0⟩ ?_ ?_
 ·rintro i σ HG hi ⟨u4,u5,u6,u7,d,ls,pl,κ,rfl,h⟩
  have Lu:i < 50:=by omega
  try dsimp only [bE]
  have L:=Led.start HG (fun _=>False)
  walk_at "go"
  refine k9 L (h.s.seq hS0) h63 (by omega) fun p H1 np L s1=>?_
  walk_at "go"
  refine bD L .head (by decide) (by decide) (by decide) fun ag H2 a0 a1 L _=>?_
  walk_at "go"
  refine bD L .head (by decide) (by decide) (by decide) fun tn H3 b0 b1 L s3=>?_
  have hh3:=cD.at (L.at_ (p,cD _) (by walk_at "mem"))
  have sG:aM HG H3:=L.same
  have d0:=h.ds np sG hh3
  have np0:=none_le h.s np
  clear L
  walk_at "go"
  refine vh (fun j σ H'=>∃ (v7:Option V) (ls:Lns) (pl:Option (Int×Int)) (κ : Kn) (b:Int),σ=[some (.ref a),some (.ref r.t),some (.ref k.p),some (.ref d.p),some (.int (1+(i:Int))),some (.ref p),some (.int ag),v7,none]∧DS C CS CH H' p b d ls pl r k κ∧b≤10000+10000 * j∧cO ls pl∧ls.length≤2 * i+5+j∧KnL κ (2 * i+5+j)∧JL d ls pl κ∧jO H' T∧aM H0 H')
   ⟨_,ls,pl,κ,_,rfl,d0,by decide,h.ok,h.ll,h.kl,h.j,TabAt.same h.tb sG,h.s.trans sG⟩ ?_ ?_
  ·rintro j σ HJ hj ⟨v7,ls,pl,κ,b,rfl,ds,hb,hok,hl,hkl,hjj,htb,hsj⟩
   try dsimp only [bE]
   walk_at "go"
   refine ⟨p,b,d,ls,pl,r,k,κ,2 * i+5+j,rfl,ds,by omega,hok,hl,hkl,by omega,hrn,hjj,fun ls' pl' κ' H' ds' ok' l' kl' j' fa=>?_⟩
   walk_at "go"
   exact ⟨_,ls',pl',κ',_,rfl,ds',by omega,ok',l',kl',j',CC ds htb fa,fun q o e=>fa q o (hsj q o e) (aq e np0) (aq e h.n1) (aq e h.n2) (aq e h.n3) (aq e h.n4) (aq e h.n5) (aq e h.n6)⟩
  ·rintro σ HJ ⟨v7,ls,pl,κ,b,rfl,ds,hb,hok,hl,hkl,hjj,htb,hsj⟩
   have le2 : 2 * i+5+(1+tn).toNat≤2 * (i+1)+5:=by omega
   have h':LS C CS CH T H0 HJ d ls pl r k κ (2 * (i+1)+5):={ h with hd:=ds.hd,dr:=ds.dr,kn:=ds.kn,ok:=hok,ll:=Nat.le_trans hl le2,kl:=⟨Nat.le_trans hkl.m le2,Nat.le_trans hkl.h le2,Nat.le_trans hkl.g le2⟩,j:=hjj,tb:=htb,s:=hsj }
   obtain ⟨⟨dx,sv,hp,_⟩,_,hLJ,hssJ⟩:=id h'.hd
   have hll:=h'.ll
   walk_at "go"
   refine bS (fun c=>?_) (fun c=>?_)
   ·walk_at "go"
    refine ⟨d.p,CH,dx,_,_,rfl,hp,SC.cl,SC.n2,gX _ _ _ _,?_⟩
    walk_at "go"
    refine aZ hp j0 ?_
    walk_at "go"
    refine ⟨d,ls,pl,rfl,h'.hd,fun nb H5 nnb hnb s5=>?_⟩
    walk_at "go"
    refine aZ (s5 _ _ hp) j0 ?_
    walk_at "go"
    refine ⟨d,ls,pl,rfl,h'.hd.same s5,fun nc H6 nnc hnc s6=>?_⟩
    have h6:=h'.same (s5.trans s6)
    walk_at "go"
    refine ⟨nc,ls,rfl,SqL.of hnc,bH.same hLJ (s5.trans s6),hok.good,by omega,h6.tb,fun rr rs H7 nrr hrr hLr hgr hlr hRd c7 tb7=>?_⟩
    have h7:=h6.chg c7 t0 tb7
    obtain ⟨ps6,hT6⟩:=TabAt.tbl h6.tb
    have KZ:=c7.oth _ _ (s6 _ _ hnb) (fun z=>by have:=s6 _ _ hnb;rw [z,hT6] at this;cases this)
    obtain ⟨⟨dx7,sv7,hp7,_⟩,_,hL7,hss7⟩:=id h7.hd
    have L:=Led.start H7 (fun _=>False)
    walk_at "go"
    have s8:=L'.same
    obtain rfl | rfl:ag=18∨ag=19:=by omega
    ·refine g5 L' .head (v:=.ref nb) (by with_unfolding_all exact rfl) ?_
     walk_at "go"
     refine eB (C:=C) (CS:=CS) (sp:=d.sp) (c:=d.c) (s:=d.s) (far:=d.far) (room:=d.room) (term:=d.term) (ws:=d.ws) (.inr ⟨nb,rfl,s8 _ _ KZ⟩) (bH.same hL7 s8) hok.good (by omega) (hss7.same s8) fun x l H9 nx nl hd9 s9=>?_
     walk_at "go"
     exact ⟨_,_,_,_,_,ls,_,κ,rfl,(h7.same s8).anew (Rds.refl _) hok.good h7.ll (by omega) nx nl hd9 s9⟩
    ·refine g5 L' .head (v:=.ref rr) (by with_unfolding_all exact rfl) ?_
     walk_at "go"
     refine eB (C:=C) (CS:=CS) (sp:=d.sp) (c:=d.c) (s:=d.s) (far:=d.far) (room:=d.room) (term:=d.term) (ws:=d.ws) (.inr ⟨rr,rfl,s8 _ _ hrr⟩) (bH.same hLr s8) hgr (by omega) (hss7.same s8) fun x l H9 nx nl hd9 s9=>?_
     walk_at "go"
     exact ⟨_,_,_,_,_,rs,_,κ,rfl,(h7.same s8).anew hRd hgr (by omega) (by omega) nx nl hd9 s9⟩
   ·walk_at "go"
    exact ⟨_,_,_,_,d,ls,pl,κ,rfl,h'⟩
 ·rintro σ HG ⟨u4,u5,u6,u7,d,ls,pl,κ,rfl,h⟩
  obtain ⟨⟨dx,sv,hp,_⟩,_,hLJ,hssJ⟩:=id h.hd
  have hll:=h.ll
  walk_at "go"
  refine ⟨d.p,CH,dx,_,_,rfl,hp,SC.cl,SC.n2,gX _ _ _ _,?_⟩
  walk_at "go"
  refine aZ hp j0 ?_
  walk_at "go"
  refine ⟨d,ls,pl,rfl,h.hd,fun nb H5 nnb hnb s5=>?_⟩
  walk_at "go"
  have h5:=h.same s5
  have hll:ls.length≤390:=by omega
  refine eB (C:=C) (CS:=CS) (sp:=d.sp) (c:=d.c) (s:=d.s) (far:=d.far) (room:=d.room) (term:=d.term) (ws:=d.ws) (.inr ⟨nb,rfl,hnb⟩) (bH.same hLJ s5) h.ok.good (by omega) (hssJ.same s5) fun x l H6 nx nl hd6 s6=>?_
  have h6:=h5.same s6
  have n6:=none_le h5.s nx
  have n6':=none_le h5.s nl
  obtain ⟨⟨dx6,sv6,hp6,_⟩,_,hL6,hss6⟩:=id h6.hd
  walk_at "go"
  refine ⟨d.p,CH,dx6,_,_,rfl,hp6,SC.cl,SC.n2,gX _ _ _ _,?_⟩
  walk_at "go"
  refine aZ hp6 j0 ?_
  walk_at "go"
  refine ⟨d,ls,pl,rfl,h6.hd,fun nc H7 nnc hnc s7=>?_⟩
  have h7:=h6.same s7
  walk_at "go"
  refine ⟨nc,ls,rfl,SqL.of hnc,bH.same hL6 s7,h.ok.good,by omega,h7.tb,fun rr rs H8 nrr hrr hLr hgr hlr hRd c8 tb8=>?_⟩
  have h8:=h7.chg c8 t0 tb8
  obtain ⟨⟨dx8,sv8,hp8,_⟩,_,hL8,hss8⟩:=id h8.hd
  have hd8:=GQ (hd6.same s7) h7.tb c8
  walk_at "go"
  refine eB (C:=C) (CS:=CS) (sp:=d.sp) (c:=d.c) (s:=d.s) (far:=d.far) (room:=d.room) (term:=d.term) (ws:=d.ws) (.inr ⟨rr,rfl,hrr⟩) hLr hgr (by omega) hss8 fun y l2 H9 ny nl2 hd9 s9=>?_
  walk_at "go"
  have en:nt rs=nt ls:=hRd.f
  have eg:gmx rs=gmx ls:=hRd.g
  obtain ⟨⟨_,_,hx8,_⟩,hl8,_⟩:=id hd8
  rw [en] at hd9
  refine ⟨H0,_,_,ls,rs,_,_,r.t,a,r.s,r.a,ns,rfl,{ hd:=hd8.same s9,he:=hd9,do':=⟨h.ok.good,(fun m k z=>by cases z;exact Int.le_refl _),by omega⟩,eo:=⟨hgr,(fun m k z=>by cases z;exact Int.le_refl _),by omega⟩,dl:=by omega,el:=by omega,t:=⟨aq hx8 ny,aq hl8 nl2,rfl,rfl,rfl,rfl,rfl,en.symm,eg.symm⟩,s:=h8.s.trans s9,n1:=n6,n2:=n6',n3:=none_le h8.s ny,n4:=none_le h8.s nl2 },(h8.dr.same s9).dr,hS0,h63,fun H'=>?_⟩
  walk_at "go"
  exact q _
end
open PySem.W in
structure ExW (K:Frag) (mg:Str→Option Value) (x qual:Str) (C:Addr) (st:Stmt) (ps:List Str):Prop where
 dat:tZ K mg x qual C st ps
 get:zw K C
 hd:hasDictIn K C=true
 ov:∃ cd,clsIn K C=some cd∧cZ cd.mro∧cd.hasDict=true
 sa:findIn K (.ref C) "__setattr__" = some (some (.builtin "object.__setattr__"))
open PySem.W in
theorem ExW.put {K:Frag} {mg:Str→Option Value} {x qual f:Str} {C:Addr} {st:Stmt} {ps:List Str} (W:ExW K mg x qual C st ps) (t:takerIn K C f=some none):vN K C f:=⟨W.get,W.sa,W.ov,t⟩
open PySem.W in
theorem BG {K:Frag} {h:Heap} {mg:Str→Option Value} {x qual:Str} {CW CR f:Addr} {st:Stmt} {ps:List Str} {cbW:ClassData} {dd od an:Option Addr} {k0 k1 k2 k3 k5:Option Value} {oc kV doc pm cdv ct:Value} {osl:Array (Option Value)} (X:K.In h) (G:h.Ns mainGlobals mg)
  (a1:nsIn K mainGlobals x=some (some (.ref CW))) (g6:specialIn K (.builtin "object.__class__") "__get__" = some (some (.builtin "getset_descriptor.__get__"))) (g7:takesIn K (.builtin "object.__class__")=some true)
  (v1:findIn K (.ref CW) "__getattribute__" = some (some (.builtin "BaseException.__getattribute__"))) (v2:findIn K (.ref CW) "__getattr__" = some none) (v3:mroIn K CW (.type "BaseException")=some true) (v4:mroIn K CW (.type "object")=some true)
  (v5:findIn K (.ref CW) "__class__" = some (some (.builtin "object.__class__"))) (v8:clsIn K CW=some cbW) (r0:excIn K CR d7 "ValueError.__new__" = true)
  (u1:findIn K (.ref CW) "__setattr__" = some (some (.builtin "object.__setattr__"))) (u3:K.lookup CW=some ⟨.type "type",dd,.cls cbW,#[k0,k1,k2,k3,some (.builtin "ValueError.__new__"),k5]⟩) (u4:cbW.mro = .ref CW::.ref CR::d7) (u5:cbW.hasDel=false) (u6:cbW.hasDict=true)
  (i1:findIn K (.ref CW) "__init__" = some (some (.ref f))) (i2:typeIn K (.ref f)=some (.type "function")) (i3:K.lookup f=some ⟨oc,od,.func (fnOf "__init__" qual (bw st) (aS st) (ai st) .none kV doc pm an cdv ct),osl⟩) (i4:codeIn K cdv qual=true) (i5:keepIn K (.ref f)=true) (i6:keepIn K (.ref CW)=true)
  (b:∀ (kV doc pm:Value) (an:Option Addr) (cdv ct:Value) (us:List Value),us.length=ps.length→bindArgs (fnOf "__init__" qual (bw st) (aS st) (ai st) .none kV doc pm an cdv ct) ⟨us,[]⟩=pure (ps.zip us)) (x1:hasDictIn K CW=true):ExW K mg x qual CW st ps:=
 ⟨EN X G a1 (BJ u3 u4 u5 r0) i1 i2 i3 i4 i5 i6 b,⟨v1,v2,v3,v4,v5,g6,g7,CP v8⟩,x1,⟨cbW,v8,u4▸cZ.two,u6⟩,u1⟩
end Law
namespace L4
open PySem PySem.Spec PyProof.Rows L2 L3
theorem xD {l:PySem.W.OpenLaw} {n k:Nat} {q:Program} {loose:List Str} {XP:(Str→Option Value)→Heap→Prop} {YP:World→Heap→Prop} {d:DefRec} {K:Params→PySem.W.Frag} {CX:Program→World→CXT} {sp:PySem.W.Frag→Sp} {x:Str} {T c:Addr}
  (hn:l.most=some n) (hn2:n≤sizeLine) (hdf:d.params.defaults=[]) (hr:bY k callerA)
  (hY:∀ (w:World) (h:Heap),YP w h→(K w.params).In h∧h.get? T=some (PySem.W.tabObj #[])) (hc:∀ P:Params,PySem.W.codeHdIn (K P) c T=true) (hKT:∀ P:Params,(K P).lookup T=none)
  (F:∀ (w:World) (mg:Str→Option Value) (fa:Addr) (h:Heap),(K w.params).In h→h.Ns mainGlobals mg→mg d.name=some (.ref fa) →
   ∃ fd:FuncData,(∀ (s:Shared) (u:Value),BindsTo s fd ⟨[u],[]⟩ [(x,u)]) ∧
    ∀ base:Heap,(K w.params).In base→base.Ns mainGlobals mg→base.BuiltinsAt mg T→PySem.W.CodeHd base c T→eU l.prog w (K w.params) mg base (CX l.prog w) k fa fd [x] (sp (K w.params)))
  (hsp:∀ (K:PySem.W.Frag) (H:Hp) (a:Addr) (ns:List Int),ns.length≤n→Ca T H→H T=some (.tbl #[])→SqL K H a (ns.map V.int)→sp K [.ref a] H (fun v _=>v = .bl true) fun _ _ _=>False)
  (hCX:∀ (P:Program) (w:World) (H:Hp) (s:Shared) (e:Value) (s':Shared),CX P w [] H s (fun _ _ _=>False) e s'→False) :
  PySem.W.WalkO q loose XP YP l.row.toRowW d [] (fun f vs=>PySem.call f vs):=by
 refine Att.tW hn hdf fun w s₀ s₁ mg mb fa o pm cd doc a vs ns G Y ho hd hcd hmg hobj hints hlen hg=>?_
 obtain ⟨KX,hT⟩:=hY w _ Y
 obtain ⟨fd,hb,hF⟩:=F w mg fa _ KX G.T.g hmg
 obtain ⟨bm,ob,b1,b2,b3,b4,b5,b6⟩:=G.T.bmain
 have hbP:bm≠T:=fun q=>by
  rw [q,hT] at b3;cases b3;cases b4
 have hbG:bm≠mainGlobals:=fun q=>by
  obtain ⟨o,es,ep,e,hd,_⟩:=G.T.g
  rw [q,e] at b3;cases b3;rw [hd] at b6;cases b6
 exact yS (T:=T) (c:=c) KX G.T.g G.T.b G.T.builtins G.T.nolimit hg hT (PySem.W.codeHd_of_K KX (hc _)) (hKT _) ⟨bm,ob,b1,b2,hbG,hbP,b3,b4,b5,b6⟩ hobj hints (Nat.le_trans hlen hn2) hr (fun base k1 k2 k3=>hF base k1 k2 k3 (PySem.W.codeHd_of_K k1 (hc _))) hb (fun H hO hHT hS=>hsp (K w.params) H a ns hlen hO hHT hS) fun H e s'=>hCX _ _ H s₁ e s'
end L4
namespace Law
open PySem PySem.Spec PyProof.Rows L2 L3 L4
structure IB (K:PySem.W.Frag) (mg:Str→Option Value) (CD CU CA CN CW CT CR:Addr):Prop where
 d:nI K mg "Down" CD
 u:nI K mg "Up" CU
 a:nI K mg "NoArea" CA
 n:nI K mg "NoRoom" CN
 w:tZ K mg "Wait" "Wait.__init__" CW (inClass (top 8) 0) ["self", "reading"]
 pw:vN K CW "reading"
 t:tZ K mg "NoNote" "NoNote.__init__" CT (inClass (top 9) 0) ["self", "moment"]
 pt:vN K CT "moment"
 b:xC K mg "RiseError" CR
 hR:mg "RiseError" = some (.ref CR)
 hD:mg "Down" = some (.ref CD)
 hU:mg "Up" = some (.ref CU)
 hA:mg "NoArea" = some (.ref CA)
 hN:mg "NoRoom" = some (.ref CN)
 hW:mg "Wait" = some (.ref CW)
 hT:mg "NoNote" = some (.ref CT)
 et:∀ c∈ers CD CU CA CN CW CT,PySem.W.exmOne K (.ref c) (.ref CR)=some true
open PySem.W in
theorem Ef {K:Frag} {h:Heap} {mg:Str→Option Value} {CD CU CA CN CW CT CR:Addr} {R:Addr→Addr→Addr→Addr→Addr→Addr→Addr→Prop} (X:K.In h) (G:h.Ns mainGlobals mg)
  (WW:ExW K mg "Wait" "Wait.__init__" CW (inClass (top 8) 0) ["self", "reading"]) (WT:ExW K mg "NoNote" "NoNote.__init__" CT (inClass (top 9) 0) ["self", "moment"]) (tw:takerIn K CW "reading" = some none) (tt:takerIn K CT "moment" = some none)
  (aD:nsIn K mainGlobals "Down" = some (some (.ref CD))) (aU:nsIn K mainGlobals "Up" = some (some (.ref CU))) (aA:nsIn K mainGlobals "NoArea" = some (some (.ref CA))) (aN:nsIn K mainGlobals "NoRoom" = some (some (.ref CN))) (aW:nsIn K mainGlobals "Wait" = some (some (.ref CW))) (aT:nsIn K mainGlobals "NoNote" = some (some (.ref CT))) (aR:nsIn K mainGlobals "RiseError" = some (some (.ref CR)))
  (d1:excIn K CD d7 "ValueError.__new__" = true) (d2:findIn K (.ref CD) "__init__" = some (some (.builtin "ValueError.__init__"))) (d3:keepIn K (.ref CD)=true)
  (u1:excIn K CU d7 "ValueError.__new__" = true) (u2:findIn K (.ref CU) "__init__" = some (some (.builtin "ValueError.__init__"))) (u3:keepIn K (.ref CU)=true)
  (c1:excIn K CA d7 "ValueError.__new__" = true) (c2:findIn K (.ref CA) "__init__" = some (some (.builtin "ValueError.__init__"))) (c3:keepIn K (.ref CA)=true)
  (n1:excIn K CN d7 "ValueError.__new__" = true) (n2:findIn K (.ref CN) "__init__" = some (some (.builtin "ValueError.__init__"))) (n3:keepIn K (.ref CN)=true)
  (r1:specialIn K (.ref CR) "__getattribute__" = some (some (.builtin "type.__getattribute__"))) (r2:readsIn K CR (.type "type")=true) (r3:findCls K (.ref CR) (.type "type") "__init__" = some (.val (.builtin "ValueError.__init__")))
  (m1:exmOne K (.ref CD) (.ref CR)=some true) (m2:exmOne K (.ref CU) (.ref CR)=some true) (m3:exmOne K (.ref CA) (.ref CR)=some true) (m4:exmOne K (.ref CN) (.ref CR)=some true) (m5:exmOne K (.ref CW) (.ref CR)=some true) (m6:exmOne K (.ref CT) (.ref CR)=some true)
  (hR:R CD CU CA CN CW CT CR):∃ CD CU CA CN CW CT CR:Addr,IB K mg CD CU CA CN CW CT CR∧R CD CU CA CN CW CT CR:=
 ⟨CD,CU,CA,CN,CW,CT,CR,⟨⟨iN d1,d2,d3,mg_of X G aD⟩,⟨iN u1,u2,u3,mg_of X G aU⟩,⟨iN c1,c2,c3,mg_of X G aA⟩,⟨iN n1,n2,n3,mg_of X G aN⟩,WW.dat,WW.put tw,WT.dat,WT.put tt,⟨mg_of X G aR,r1,r2,r3⟩,mg_of X G aR,mg_of X G aD,mg_of X G aU,mg_of X G aA,mg_of X G aN,mg_of X G aW,mg_of X G aT,fun c hc=>by
  simp only [ers,List.mem_cons,List.not_mem_nil,or_false] at hc
  rcases hc with rfl | rfl | rfl | rfl | rfl | rfl
  ·exact m1
  ·exact m2
  ·exact m3
  ·exact m4
  ·exact m5
  ·exact m6⟩,hR⟩
structure Ky (K:PySem.W.Frag) (mg:Str→Option Value) (CH:Addr):Prop where
 is_up:dc K CH "is_up" "Hand.is_up" (inClass (top 64) 1) ["self"]
 place:dc K CH "place" "Hand.place" (inClass (top 64) 2) ["self"]
 note:dc K CH "note" "Hand.note" (inClass (top 64) 3) ["self"]
 area:dc K CH "area" "Hand.area" (inClass (top 64) 4) ["self"]
 stand:dc K CH "stand" "Hand.stand" (inClass (top 64) 5) ["self"]
 go:dc K CH "go" "Hand.go" (inClass (top 64) 6) ["self", "step"]
 jG:dc K CH "fall" "Hand.fall" (inClass (top 64) 7) ["self"]
 rise:dc K CH "rise" "Hand.rise" (inClass (top 64) 8) ["self"]
 take:dc K CH "take" "Hand.take" (inClass (top 64) 9) ["self", "grant", "area"]
 write:dc K CH "write" "Hand.write" (inClass (top 64) 10) ["self", "reading"]
 make:dc K CH "make" "Hand.make" (inClass (top 64) 11) ["self", "reading"]
 gW:dc K CH "hear" "Hand.hear" (inClass (top 64) 12) ["self", "bound"]
 tell:dc K CH "tell" "Hand.tell" (inClass (top 64) 13) ["self"]
 give_back:dc K CH "give_back" "Hand.give_back" (inClass (top 64) 14) ["self"]
structure Kz (K:PySem.W.Frag) (mg:Str→Option Value):Prop where
 d_is_whole:Dat K mg "is_whole" "is_whole" (top 12) ["thing"]
 d_is_whole_from:Dat K mg "is_whole_from" "is_whole_from" (top 13) ["thing", "least"]
 d_is_side:Dat K mg "is_side" "is_side" (top 14) ["thing"]
 d_mark_of:Dat K mg "mark_of" "mark_of" (top 16) ["shape", "moment", "slot", "count"]
 d_is_span:Dat K mg "is_span" "is_span" (top 42) ["thing", "least"]
 d_is_rule:Dat K mg "is_rule" "is_rule" (top 43) ["thing"]
 d_are_rules:Dat K mg "are_rules" "are_rules" (top 44) ["thing"]
 d_has_rule:Dat K mg "has_rule" "has_rule" (top 46) ["settings", "word"]
 d_slot_of:Dat K mg "slot_of" "slot_of" (top 18) ["area"]
 d_first_of:Dat K mg "first_of" "first_of" (top 19) ["area"]
 d_end_of:Dat K mg "end_of" "end_of" (top 20) ["area"]
 d_ended_at:Dat K mg "ended_at" "ended_at" (top 21) ["area", "end"]
 d_read_on:Dat K mg "read_on" "read_on" (top 30) ["told", "line"]
 d_read_note:Dat K mg "read_note" "read_note" (top 31) ["lines"]
 d_tooks_of:Dat K mg "tooks_of" "tooks_of" (top 35) ["lines"]
 d_greatest_taken:Dat K mg "greatest_taken" "greatest_taken" (top 36) ["lines"]
 d_bound_of:Dat K mg "bound_of" "bound_of" (top 23) ["place"]
 d_raised:Dat K mg "raised" "raised" (top 24) ["place", "bound"]
 d_next_place:Dat K mg "next_place" "next_place" (top 25) ["shape", "place"]
 d_moment_at:Dat K mg "moment_at" "moment_at" (top 26) ["area", "place", "reading"]
 d_made:Dat K mg "made" "made" (top 27) ["shape", "far", "area", "place", "reading"]
 d_grant_in:Dat K mg "grant_in" "grant_in" (top 48) ["stand"]
 d_area_in:Dat K mg "area_in" "area_in" (top 49) ["stand"]
 d_held_in:Dat K mg "held_in" "held_in" (top 50) ["stand"]
 d_heard_in:Dat K mg "heard_in" "heard_in" (top 51) ["stand"]
 d_start_by:Dat K mg "start_by" "start_by" (top 52) ["note"]
 d_need_up:Dat K mg "need_up" "need_up" (top 53) ["place"]
 d_need_area:Dat K mg "need_area" "need_area" (top 54) ["area"]
 d_falling:Dat K mg "falling" "falling" (top 55) ["stand"]
 d_rising:Dat K mg "rising" "rising" (top 56) ["stand"]
 d_taking:Dat K mg "taking" "taking" (top 57) ["settings", "stand", "grant", "area"]
 d_hearing:Dat K mg "hearing" "hearing" (top 61) ["settings", "stand", "bound"]
 d_giving:Dat K mg "giving" "giving" (top 62) ["settings", "stand"]
 d_mark_and_place:Dat K mg "mark_and_place" "mark_and_place" (top 58) ["settings", "stand", "reading"]
 d_writing:Dat K mg "writing" "writing" (top 59) ["settings", "stand", "reading"]
 d_making:Dat K mg "making" "making" (top 60) ["settings", "stand", "reading"]
 d_area_of:Dat K mg "area_of" "area_of" (top 32) ["lines"]
 d__law_hand:Dat K mg "_law_hand" "_law_hand" (top 66) ["_law_script", "_law_k"]
 d__law_pick:Dat K mg "_law_pick" "_law_pick" (top 67) ["_law_hand_here", "_law_many"]
 d__law_whole:Dat K mg "_law_whole" "_law_whole" (top 68) ["_law_found"]
 d__law_pair:Dat K mg "_law_pair" "_law_pair" (top 69) ["_law_hand_here"]
 d__law_drawn:Dat K mg "_law_drawn" "_law_drawn" (top 70) ["_law_script"]
 d__law_area:Dat K mg "_law_area" "_law_area" (top 71) ["_law_hand_here", "_law_drawn_here", "_law_at_here"]
 d__law_read:Dat K mg "_law_read" "_law_read" (top 72) ["_law_lines"]
 d__law_greatest:Dat K mg "_law_greatest" "_law_greatest" (top 73) ["_law_lines"]
 d__law_settings:Dat K mg "_law_settings" "_law_settings" (top 74) ["_law_drawn_here"]
 d__law_at:Dat K mg "_law_at" "_law_at" (top 75) ["_law_ann", "_law_drawn_here"]
 d__law_reading:Dat K mg "_law_reading" "_law_reading" (top 76) ["_law_hand_here", "_law_ann", "_law_drawn_here"]
 d__law_bound:Dat K mg "_law_bound" "_law_bound" (top 77) ["_law_hand_here", "_law_ann", "_law_drawn_here"]
 d__law_grant:Dat K mg "_law_grant" "_law_grant" (top 78) ["_law_hand_here", "_law_ann"]
structure Li (P:Program) (w:World) (K:PySem.W.Frag) (mg:Str→Option Value) (base:Heap) (C CS CH CD CU CA CN CW CT:Addr):Prop where
 cJ:Cal P w K mg base (CX1 P w) "_law_hand" 1 ["_law_script", "_law_k"] (jT K)
 aH:Cal P w K mg base (CX1 P w) "_law_pick" 11 ["_law_hand_here", "_law_many"] dQ
 gj:Cal P w K mg base (CX1 P w) "_law_drawn" 13 ["_law_script"] (pJ K)
 dX:Cal P w K mg base (CX1 P w) "_law_settings" 6 ["_law_drawn_here"] (gF C CS)
 eO:Cal P w K mg base (CX1 P w) "tooks_of" 2 ["lines"] (kM K)
 cX:Cal P w K mg base (CX1 P w) "end_of" 1 ["area"] nY
 bx:Cal P w K mg base (CX1 P w) "read_note" 4 ["lines"] (eX K)
 gk:Cal P w K mg base (CX1 P w) "_law_bound" 12 ["_law_hand_here", "_law_ann", "_law_drawn_here"] (c5 C CS CH)
 cH:Cal P w K mg base (CX1 P w) "_law_reading" 12 ["_law_hand_here", "_law_ann", "_law_drawn_here"] (c5 C CS CH)
 gi:Cal P w K mg base (CX1 P w) "_law_grant" 12 ["_law_hand_here", "_law_ann"] (lu C CS CH)
 ir:Cal P w K mg base (CX1 P w) "_law_area" 12 ["_law_hand_here", "_law_drawn_here", "_law_at_here"] pD
 dI:Cal P w K mg base (CX1 P w) "_law_at" 7 ["_law_ann", "_law_drawn_here"] (rG C CS CH)
 ig:Cal P w K mg base (CX1 P w) "_law_read" 2 ["_law_lines"] (pB K)
 gC:Cal P w K mg base (CX1 P w) "_law_greatest" 2 ["_law_lines"] (gG K)
 u__law_whole:Cr P w K mg base (CX1 P w) "_law_whole" 1 ["_law_found"] fu
 je:Mak P w K mg base (CX1 P w) "Hand" CH 5 ["self", "name", "settings", "lines"] (fP CH)
 jy:Cc P w K mg base (CX1 P w) "Hand" CH 5 ["self", "name", "settings", "lines"] (fP CH)
 gz:bF P w K mg base (CX1 P w) CH "is_up" 1 ["self"] (uy C CS CH)
 gy:bF P w K mg base (CX1 P w) CH "place" 1 ["self"] (pA C CS CH)
 bQ:bF P w K mg base (CX1 P w) CH "note" 1 ["self"] (lq C CS CH)
 bZ:bF P w K mg base (CX1 P w) CH "area" 6 ["self"] (lA C CS CH)
 iC:bF P w K mg base (CX1 P w) CH "fall" 6 ["self"] (pI C CS CH CD)
 iz:bF P w K mg base (CX1 P w) CH "rise" 6 ["self"] (pq C CS CH CU)
 iy:bF P w K mg base (CX1 P w) CH "take" 6 ["self", "grant", "area"] (o9 C CS CH CD)
 gx:bF P w K mg base (CX1 P w) CH "write" 6 ["self", "reading"] (kL C CS CH CD CA CN CW)
 iA:bF P w K mg base (CX1 P w) CH "make" 6 ["self", "reading"] (kN C CS CH CD CA CN CW CT)
 iB:bF P w K mg base (CX1 P w) CH "hear" 6 ["self", "bound"] (pF C CS CH CD)
 e8:bF P w K mg base (CX1 P w) CH "tell" 2 ["self"] (ux C CS CH CD)
 dJ:bF P w K mg base (CX1 P w) CH "give_back" 6 ["self"] (kO C CS CH CD CA CN)
section
variable {P:Program} {w:World} {K:PySem.W.Frag} {mg:Str→Option Value} {base:Heap} {C CS CH CD CU CA CN CW CT CR aR aN:Addr}
theorem Ei (BT:Bt mg) (NE:bf (CX1 P w)) (D:Kz K mg) (M:Ky K mg CH) (ER:IB K mg CD CU CA CN CW CT CR) (DSh:uo K mg "Shape" "Shape.__init__" C (inClass (top 15) 0) ["self", "counts", "slots"]) (SC:ShC K C) (DSt:oW K mg "Settings" "Settings.__init__" CS (inClass (top 45) 0) ["self", "shape", "far", "room", "term", "rules"]) (SS:StC K CS)
  (DHd:oX K mg "Hand" "Hand.__init__" CH (inClass (top 64) 0) ["self", "name", "settings", "lines"]) (HC:HdC K CH) (vn:GlV mg "GREATEST_SIDE" (.int 1000)) (vm:GlV mg "GREATEST_SPAN" (.int 1000000000000)) (e7:GlV mg "RULES" (.ref aR)) (hR:∀ H,SqT K H aR (n8.map V.str)) (fL:GlV mg "NOTHING" (.ref aN)) (hN:∀ H,SqT K H aN [.int 0,.non,.int 0,.int 0]):Li P w K mg base C CS CH CD CU CA CN CW CT:=by
 have EV:=AS (P:=P) (w:=w) (base:=base) (CX:=CX1 P w) D.d_is_whole BT
 have B4:=DU D.d_is_whole_from NE EV
 have qb:=AX DSh SC NE (DJ D.d_is_side NE vn B4)
 have vD:=DO (P:=P) (w:=w) (base:=base) (CX:=CX1 P w) D.d_mark_of SC
 have EZ:=AY D.d_are_rules BT NE (DK (P:=P) (w:=w) (base:=base) (CX:=CX1 P w) D.d_is_rule BT e7 hR)
 have jd:=sy DSt SS BT NE e7 (DI D.d_is_span NE vm B4) EZ
 have iO:=uU (P:=P) (w:=w) (base:=base) (CX:=CX1 P w) D.d_has_rule SS
 have BY:=uP (P:=P) (w:=w) (base:=base) (CX:=CX1 P w) D.d_slot_of
 have qJ:=sJ (P:=P) (w:=w) (base:=base) (CX:=CX1 P w) D.d_first_of
 have xw:=yK (P:=P) (w:=w) (base:=base) (CX:=CX1 P w) D.d_end_of
 have kY:=AZ D.d_read_note NE fL hN (yv D.d_read_on BT NE xw (A9 D.d_ended_at NE BY qJ))
 have EX:=sr (P:=P) (w:=w) (base:=base) (CX:=CX1 P w) D.d_tooks_of
 have E3:=sH D.d_greatest_taken BT NE (sr (P:=P) (w:=w) (base:=base) (CX:=CX1 P w) D.d_tooks_of)
 have qK:=sL (P:=P) (w:=w) (base:=base) (CX:=CX1 P w) D.d_bound_of
 have fM:=yw (P:=P) (w:=w) (base:=base) (CX:=CX1 P w) D.d_raised BT
 have HU:=nh (P:=P) (w:=w) (base:=base) (CX:=CX1 P w) D.d_next_place SC
 have mz:=p6 D.d_moment_at BT NE qJ
 have vL:=DX (P:=P) (w:=w) (base:=base) ER.w ER.b ER.pw
 have mS:=yM (P:=P) (w:=w) (base:=base) ER.t ER.b ER.pt
 have vE:=DQ D.d_made BT NE ER.n vL mz xw BY vD HU
 have gf:=sI (P:=P) (w:=w) (base:=base) (CX:=CX1 P w) D.d_grant_in
 have cP:=uR (P:=P) (w:=w) (base:=base) (CX:=CX1 P w) D.d_held_in
 have jl:=sF (P:=P) (w:=w) (base:=base) (CX:=CX1 P w) D.d_heard_in
 have bL:=uX (P:=P) (w:=w) (base:=base) (CX:=CX1 P w) D.d_area_in
 have dG:=su (P:=P) (w:=w) (base:=base) (CX:=CX1 P w) D.d_start_by BT
 have bC:=uQ (P:=P) (w:=w) (base:=base) D.d_need_up NE ER.d
 have di:=p5 (P:=P) (w:=w) (base:=base) D.d_need_area NE ER.a
 have kr:=uV D.d_falling NE bC
 have mw:=yu D.d_rising NE ER.u dG
 have mq:=yr D.d_taking NE bC iO qK fM
 have ko:=uS D.d_hearing NE bC iO jl fM
 have mG:=yJ D.d_giving BT NE ER.n bC di bL qJ xw qK cP gf iO
 have F8:=GA D.d_mark_and_place SS NE bC di bL vE
 have kg:=uO D.d_writing SS NE F8 bL cP mz
 have mD:=yx D.d_making NE mS F8 bL cP mz iO
 have fN:=uW D.d_area_of NE kY
 obtain ⟨je,jy⟩:=A7 DHd HC BT NE kY dG
 have Ff:=A6 (P:=P) (w:=w) (mg:=mg) (base:=base) (CX:=CX1 P w) (C:=C) (CS:=CS) M.is_up HC
 have xA:=A0 (P:=P) (w:=w) (mg:=mg) (base:=base) (CX:=CX1 P w) (C:=C) (CS:=CS) M.place HC
 have Cd:=DN (P:=P) (w:=w) (mg:=mg) (base:=base) (CX:=CX1 P w) (C:=C) (CS:=CS) M.note HC BT
 have Ce:=DW (C:=C) (CS:=CS) M.area HC NE fN
 have gw:=AV (C:=C) (CS:=CS) M.stand HC NE kY E3
 have vM:=Jj (P:=P) (w:=w) (mg:=mg) (base:=base) (CX:=CX1 P w) (C:=C) (CS:=CS) M.go HC
 have Ir:=DV M.jG HC NE vM gw kr
 have Im:=DL M.rise HC NE vM gw mw
 have Il:=DG M.take HC NE vM gw mq
 have Fe:=AR M.write HC NE vM gw kg
 have Io:=DP M.make HC NE vM gw mD
 have Ip:=DR M.gW HC NE vM gw ko
 have Ik:=DF (C:=C) (CS:=CS) M.tell HC NE bC qK
 have Iq:=A8 M.give_back HC NE vM gw mG
 have B3:=DT (P:=P) (w:=w) (base:=base) (CX:=CX1 P w) D.d__law_hand BT
 have jk:=DM (P:=P) (w:=w) (base:=base) (CX:=CX1 P w) D.d__law_pick NE
 have Cv:=yy (P:=P) (w:=w) (base:=base) (CX:=CX1 P w) D.d__law_whole BT
 have E4:=Ba D.d__law_drawn BT NE B3 jk (A3 D.d__law_pair NE jk)
 have E2:=A5 D.d__law_area BT NE jk
 have E1:=A2 (P:=P) (w:=w) (base:=base) (CX:=CX1 P w) D.d__law_read BT
 have tS:=p8 (P:=P) (w:=w) (base:=base) (CX:=CX1 P w) D.d__law_greatest BT
 have HX:=p7 D.d__law_settings BT NE qb jd
 have B0:=GC D.d__law_at BT NE xA Ce
 have Kl:=sE D.d__law_reading BT NE jk B0
 have Ko:=yE D.d__law_bound BT NE jk B0
 have Km:=yD D.d__law_grant BT NE jk tS Cd
 exact ⟨B3,jk,E4,HX,EX,xw,kY,Ko,Kl,Km,E2,B0,E1,tS,Cv,je,jy,Ff,xA,Cd,Ce,Ir,Im,Il,Fe,Io,Ip,Ik,Iq⟩
end
open PySem.W in
theorem zL {K:Frag} {h:Heap} {mg:Str→Option Value} {x:Str} {a:Addr} {dd:Option Addr} {its:Array Value} {n:Nat} {sl:Array (Option Value)} {xs:List V} (X:K.In h) (G:h.Ns mainGlobals mg)
  (n1:nsIn K mainGlobals x=some (some (.ref a))) (n2:K.lookup a=some ⟨.type "tuple",dd,.seq its n,sl⟩) (n3:Vals xs its.toList) (hz:its.size≤sizeLine):∃ aN,GlV mg x (.ref aN)∧∀ H,SqT K H aN xs:=
 ⟨a,⟨_,mg_of X G n1,rfl⟩,fun _=>.inr ⟨_,its,n,n2,rfl,rfl,hz,n3⟩⟩
end Law
open PySem PySem.W PyProof.Rows
local macro_rules | `(tactic| walk_at "dat")=>`(tactic| (dsimp only [L2.KOf];refine' L3.dat_mk KX G ?a ?l ?c ?k ?b;(case a=>k_is);(case l=>k_is);(case c=>k_is);(case k=>k_is);(case b=>first | exact (fun _ _ _ _ _ _ us hl=>match us,hl with | [_],_=>rfl) | exact (fun _ _ _ _ _ _ us hl=>match us,hl with | [_,_],_=>rfl) | exact (fun _ _ _ _ _ _ us hl=>match us,hl with | [_,_,_],_=>rfl) | exact (fun _ _ _ _ _ _ us hl=>match us,hl with | [_,_,_,_],_=>rfl) | exact (fun _ _ _ _ _ _ us hl=>match us,hl with | [_,_,_,_,_],_=>rfl))))
namespace PySem.W.Fast
def tw6682230004155227599 : Unit := ()
def tw17057840966400220886 : Unit := ()
def tw4592681799785738872 : Unit := ()
def tw2558309704405926892 : Unit := ()
def tw7092133311352498727 : Unit := ()
def tw14995703464894063254 : Unit := ()
def tw18438039341175328557 : Unit := ()
def tw1320839300650144861 : Unit := ()
def tw6450450358115102735 : Unit := ()
def tw8666880369034851596 : Unit := ()
def tw14006560495998691071 : Unit := ()
def tw129752741044610496 : Unit := ()
def tw3084211711395991769 : Unit := ()
def tw11109826480364714072 : Unit := ()
def tw16912386910882366625 : Unit := ()
def tw13677564669920003955 : Unit := ()
def tw14794309319819879213 : Unit := ()
def tw7945508372995419362 : Unit := ()
def tw9065041598369139355 : Unit := ()
def tw11544003107835900429 : Unit := ()
def tw7040775045227968267 : Unit := ()
def tw9268251104369474560 : Unit := ()
def tw3454986735537193517 : Unit := ()
def tw2001556631766484931 : Unit := ()
def tw8992069555220947217 : Unit := ()
def tw6389660116992047071 : Unit := ()
def tw9620991598597977293 : Unit := ()
def tw15394366810865276218 : Unit := ()
def tw17823998057804093767 : Unit := ()
def tw4562371112296833917 : Unit := ()
def tw15384193376735668614 : Unit := ()
def tw8216047359985609318 : Unit := ()
def tw9691915204564206045 : Unit := ()
def tw15532879011456095676 : Unit := ()
def tw9119876666980478607 : Unit := ()
def tw18155871011934481908 : Unit := ()
def tw12008026946918997950 : Unit := ()
def tw6435517565141453894 : Unit := ()
def tw12686691963281424833 : Unit := ()
def tw14959011714463204302 : Unit := ()
def tw6633363487008343630 : Unit := ()
def tw16479171219298189930 : Unit := ()
def tw1564977602259802034 : Unit := ()
def tw17646223938954795217 : Unit := ()
def tw17220354708382549658 : Unit := ()
def tw2757749793127244067 : Unit := ()
def tw4094623858360485888 : Unit := ()
def tw8016376477532246805 : Unit := ()
def tw1592761040046831436 : Unit := ()
def tw17138467717429321377 : Unit := ()
def tw10050742574991941612 : Unit := ()
def tw7095304436799676065 : Unit := ()
def tw6369760400852130198 : Unit := ()
def tw17823154152757469321 : Unit := ()
def tw14835501846812043076 : Unit := ()
def tw15703839913463810130 : Unit := ()
def tw13409074507374272149 : Unit := ()
def tw4601688907025655772 : Unit := ()
def tw5064472324895860805 : Unit := ()
def tw17500165860342026975 : Unit := ()
def tw9504105334288989617 : Unit := ()
def tw14833187333067129525 : Unit := ()
def tw12207422438037184229 : Unit := ()
def tw13942405069474639963 : Unit := ()
def tw9633628949992349276 : Unit := ()
def tw13106000578148933522 : Unit := ()
def tw9250664331724222557 : Unit := ()
def tw7785416996913027155 : Unit := ()
def tw18178961017350108305 : Unit := ()
def tw16416282389393817331 : Unit := ()
def tw5774586486449609840 : Unit := ()
def tw7774375209554975514 : Unit := ()
def tw2087809349996766354 : Unit := ()
def tw14024597010759685911 : Unit := ()
def tw17501359652733504581 : Unit := ()
def tw6182970149520395010 : Unit := ()
def tw11135685079027164225 : Unit := ()
def tw16818649309662993848 : Unit := ()
def tw15537423220630144996 : Unit := ()
def tw15807627012935588280 : Unit := ()
def tw4090110024044220634 : Unit := ()
def tw10706373224521839545 : Unit := ()
def tw130950928351514733 : Unit := ()
def tw13478001726033012947 : Unit := ()
def tw7827441440591130743 : Unit := ()
def tw9688966234321837545 : Unit := ()
def tw543273464101566709 : Unit := ()
def tw1637364346309745873 : Unit := ()
def tw10365503521980300565 : Unit := ()
def tw7222695785494611968 : Unit := ()
def tw7245520654572029854 : Unit := ()
def tw17413278645072111679 : Unit := ()
def tw2689942757177264972 : Unit := ()
def tw2689621087153183113 : Unit := ()
def tw7380633248287845438 : Unit := ()
def tw18245314435309558177 : Unit := ()
def tw18294608871065385598 : Unit := ()
def tw14556626846750686804 : Unit := ()
def tw591526031808417578 : Unit := ()
def tw3612071622319133428 : Unit := ()
def tw1731804665243616298 : Unit := ()
def tw7362370507273307621 : Unit := ()
def tw1498051602305348629 : Unit := ()
def tw5661374303650485750 : Unit := ()
def tw3009692363981126502 : Unit := ()
def tw17781006322018652027 : Unit := ()
def tw14225180627747236408 : Unit := ()
def tw7935127955441375652 : Unit := ()
def tw2385546915311734776 : Unit := ()
def tw17774129900025191405 : Unit := ()
def tw15250170556409355159 : Unit := ()
def tw4291757125959463931 : Unit := ()
def tw11855377902400493963 : Unit := ()
def tw12339713457190482066 : Unit := ()
def tw13334015478090238455 : Unit := ()
def tw13976615680290239424 : Unit := ()
def tw6097503726409725698 : Unit := ()
end PySem.W.Fast
set_option maxHeartbeats 0 in
theorem PySem.Challenge.cw_risemarks_k38_whole_marks_rise_holds : PySem.Challenge.rw_risemarks_k38_whole_marks_rise.Holds := by
 w_on;o_law;k_head;(case hw=>w_witness2)
 k_fill
 refine L4.xD (l:=PySem.Challenge.rw_risemarks_k38_whole_marks_rise) (n:=63) (k:=14) (x:="_law_script") (CX:=L4.CX1) (sp:=Law.FE 304) (T:=304) (c:=308) rfl (by decide) rfl ⟨rfl,by decide,by decide⟩ (fun w h Y=>⟨PySem.W.km_in_of Y,PySem.W.km_tabs_of Y 304 (by simp)⟩) ?HC ?HK ?F ?S ?C
 case HC=>intro P;kernel_rfl
 case HK=>intro P;kernel_rfl
 case S=>exact fun K H a ns hl hO hT hS=>⟨a,ns,rfl,hS,hl,.inl hT,fun _=>rfl⟩
 case C=>exact fun P w H s e s' z=>L4.uY _ _ _ _ _ z
 case F=>
  intro w mg fa h KX G hmg
  have BT:L3.Bt mg:=by
   refine' ⟨?_,?_,?_,?_,?_,?_,?_,?_,?_,?_,?_,?_,?_,?_,?_,?_,?_,?_⟩ <;> refine' PySem.W.mg_none_of KX G ?_ <;> k_is
  have vQ:L3.Dat (L2.KOf KX) mg "is_whole" "is_whole" (Law.top 12) ["thing"]:=by walk_at "dat"
  have kI:L3.Dat (L2.KOf KX) mg "is_whole_from" "is_whole_from" (Law.top 13) ["thing", "least"]:=by walk_at "dat"
  have zD:L3.Dat (L2.KOf KX) mg "is_side" "is_side" (Law.top 14) ["thing"]:=by walk_at "dat"
  have zB:L3.Dat (L2.KOf KX) mg "mark_of" "mark_of" (Law.top 16) ["shape", "moment", "slot", "count"]:=by walk_at "dat"
  have zC:L3.Dat (L2.KOf KX) mg "is_span" "is_span" (Law.top 42) ["thing", "least"]:=by walk_at "dat"
  have zE:L3.Dat (L2.KOf KX) mg "is_rule" "is_rule" (Law.top 43) ["thing"]:=by walk_at "dat"
  have ua:L3.Dat (L2.KOf KX) mg "are_rules" "are_rules" (Law.top 44) ["thing"]:=by walk_at "dat"
  have vU:L3.Dat (L2.KOf KX) mg "has_rule" "has_rule" (Law.top 46) ["settings", "word"]:=by walk_at "dat"
  have zy:L3.Dat (L2.KOf KX) mg "slot_of" "slot_of" (Law.top 18) ["area"]:=by walk_at "dat"
  have vW:L3.Dat (L2.KOf KX) mg "first_of" "first_of" (Law.top 19) ["area"]:=by walk_at "dat"
  have Cp:L3.Dat (L2.KOf KX) mg "end_of" "end_of" (Law.top 20) ["area"]:=by walk_at "dat"
  have vX:L3.Dat (L2.KOf KX) mg "ended_at" "ended_at" (Law.top 21) ["area", "end"]:=by walk_at "dat"
  have zz:L3.Dat (L2.KOf KX) mg "read_on" "read_on" (Law.top 30) ["told", "line"]:=by walk_at "dat"
  have t7:L3.Dat (L2.KOf KX) mg "read_note" "read_note" (Law.top 31) ["lines"]:=by walk_at "dat"
  have vO:L3.Dat (L2.KOf KX) mg "tooks_of" "tooks_of" (Law.top 35) ["lines"]:=by walk_at "dat"
  have kB:L3.Dat (L2.KOf KX) mg "greatest_taken" "greatest_taken" (Law.top 36) ["lines"]:=by walk_at "dat"
  have vY:L3.Dat (L2.KOf KX) mg "bound_of" "bound_of" (Law.top 23) ["place"]:=by walk_at "dat"
  have Cm:L3.Dat (L2.KOf KX) mg "raised" "raised" (Law.top 24) ["place", "bound"]:=by walk_at "dat"
  have qU:L3.Dat (L2.KOf KX) mg "next_place" "next_place" (Law.top 25) ["shape", "place"]:=by walk_at "dat"
  have t9:L3.Dat (L2.KOf KX) mg "moment_at" "moment_at" (Law.top 26) ["area", "place", "reading"]:=by walk_at "dat"
  have ID:L3.Dat (L2.KOf KX) mg "made" "made" (Law.top 27) ["shape", "far", "area", "place", "reading"]:=by walk_at "dat"
  have vV:L3.Dat (L2.KOf KX) mg "grant_in" "grant_in" (Law.top 48) ["stand"]:=by walk_at "dat"
  have zJ:L3.Dat (L2.KOf KX) mg "area_in" "area_in" (Law.top 49) ["stand"]:=by walk_at "dat"
  have zG:L3.Dat (L2.KOf KX) mg "held_in" "held_in" (Law.top 50) ["stand"]:=by walk_at "dat"
  have vS:L3.Dat (L2.KOf KX) mg "heard_in" "heard_in" (Law.top 51) ["stand"]:=by walk_at "dat"
  have vP:L3.Dat (L2.KOf KX) mg "start_by" "start_by" (Law.top 52) ["note"]:=by walk_at "dat"
  have zA:L3.Dat (L2.KOf KX) mg "need_up" "need_up" (Law.top 53) ["place"]:=by walk_at "dat"
  have t8:L3.Dat (L2.KOf KX) mg "need_area" "need_area" (Law.top 54) ["area"]:=by walk_at "dat"
  have zI:L3.Dat (L2.KOf KX) mg "falling" "falling" (Law.top 55) ["stand"]:=by walk_at "dat"
  have Ck:L3.Dat (L2.KOf KX) mg "rising" "rising" (Law.top 56) ["stand"]:=by walk_at "dat"
  have Cj:L3.Dat (L2.KOf KX) mg "taking" "taking" (Law.top 57) ["settings", "stand", "grant", "area"]:=by walk_at "dat"
  have zH:L3.Dat (L2.KOf KX) mg "hearing" "hearing" (Law.top 61) ["settings", "stand", "bound"]:=by walk_at "dat"
  have Co:L3.Dat (L2.KOf KX) mg "giving" "giving" (Law.top 62) ["settings", "stand"]:=by walk_at "dat"
  have ku:L3.Dat (L2.KOf KX) mg "mark_and_place" "mark_and_place" (Law.top 58) ["settings", "stand", "reading"]:=by walk_at "dat"
  have zx:L3.Dat (L2.KOf KX) mg "writing" "writing" (Law.top 59) ["settings", "stand", "reading"]:=by walk_at "dat"
  have Cn:L3.Dat (L2.KOf KX) mg "making" "making" (Law.top 60) ["settings", "stand", "reading"]:=by walk_at "dat"
  have oV:L3.Dat (L2.KOf KX) mg "area_of" "area_of" (Law.top 32) ["lines"]:=by walk_at "dat"
  have uf:L3.Dat (L2.KOf KX) mg "_law_hand" "_law_hand" (Law.top 66) ["_law_script", "_law_k"]:=by walk_at "dat"
  have ud:L3.Dat (L2.KOf KX) mg "_law_pick" "_law_pick" (Law.top 67) ["_law_hand_here", "_law_many"]:=by walk_at "dat"
  have qV:L3.Dat (L2.KOf KX) mg "_law_whole" "_law_whole" (Law.top 68) ["_law_found"]:=by walk_at "dat"
  have ue:L3.Dat (L2.KOf KX) mg "_law_pair" "_law_pair" (Law.top 69) ["_law_hand_here"]:=by walk_at "dat"
  have qX:L3.Dat (L2.KOf KX) mg "_law_drawn" "_law_drawn" (Law.top 70) ["_law_script"]:=by walk_at "dat"
  have uh:L3.Dat (L2.KOf KX) mg "_law_area" "_law_area" (Law.top 71) ["_law_hand_here", "_law_drawn_here", "_law_at_here"]:=by walk_at "dat"
  have uc:L3.Dat (L2.KOf KX) mg "_law_read" "_law_read" (Law.top 72) ["_law_lines"]:=by walk_at "dat"
  have kK:L3.Dat (L2.KOf KX) mg "_law_greatest" "_law_greatest" (Law.top 73) ["_law_lines"]:=by walk_at "dat"
  have kJ:L3.Dat (L2.KOf KX) mg "_law_settings" "_law_settings" (Law.top 74) ["_law_drawn_here"]:=by walk_at "dat"
  have zK:L3.Dat (L2.KOf KX) mg "_law_at" "_law_at" (Law.top 75) ["_law_ann", "_law_drawn_here"]:=by walk_at "dat"
  have mV:L3.Dat (L2.KOf KX) mg "_law_reading" "_law_reading" (Law.top 76) ["_law_hand_here", "_law_ann", "_law_drawn_here"]:=by walk_at "dat"
  have qY:L3.Dat (L2.KOf KX) mg "_law_bound" "_law_bound" (Law.top 77) ["_law_hand_here", "_law_ann", "_law_drawn_here"]:=by walk_at "dat"
  have qW:L3.Dat (L2.KOf KX) mg "_law_grant" "_law_grant" (Law.top 78) ["_law_hand_here", "_law_ann"]:=by walk_at "dat"
  have qZ:L3.Dat (L2.KOf KX) mg "_law_asked" "_law_asked" (Law.top 79) ["_law_ann", "_law_word", "_law_one", "_law_other"]:=by walk_at "dat"
  have jQ:L3.Dat (L2.KOf KX) mg "_law_mark_right" "_law_mark_right" (Law.top 80) ["_law_drawn_here", "_law_known", "_law_ann", "_law_reading_here", "_law_mark"]:=by walk_at "dat"
  have jR:L3.Dat (L2.KOf KX) mg "_law_back_right" "_law_back_right" (Law.top 81) ["_law_drawn_here", "_law_known", "_law_told"]:=by walk_at "dat"
  have jP:L3.Dat (L2.KOf KX) mg "_law_take_right" "_law_take_right" (Law.top 82) ["_law_known", "_law_grant_here", "_law_area_here", "_law_told"]:=by walk_at "dat"
  have ug:L3.Dat (L2.KOf KX) mg "_law_deed" "_law_deed" (Law.top 83) ["_law_hand_here", "_law_ann", "_law_drawn_here", "_law_known"]:=by walk_at "dat"
  have q9:L3.Dat (L2.KOf KX) mg "_law_alike" "_law_alike" (Law.top 84) ["_law_one", "_law_other", "_law_drawn_here", "_law_script"]:=by walk_at "dat"
  have zF:L3.Dat (L2.KOf KX) mg "held_of" "held_of" (Law.top 33) ["lines"]:=by walk_at "dat"
  have vR:L3.Dat (L2.KOf KX) mg "heard_of" "heard_of" (Law.top 34) ["lines"]:=by walk_at "dat"
  have Fj:L3.Dat (L2.KOf KX) mg "short" "short" (Law.top 38) ["lines"]:=by walk_at "dat"
  have nJ:L4.Cf (L2.KOf KX) mg "short_tooks" "short_tooks" (Law.top 37) ["lines"] 308:=by
   dsimp only [L2.KOf]
   refine' L4.D6 KX G ?a ?l ?c ?k ?b
   (case a=>k_is);(case l=>k_is);(case c=>k_is);(case k=>k_is)
   (case b=>exact fun _ _ _ _ _ _ us hl=>match us,hl with | [_],_=>rfl)
  have KA:L3.Dat (L2.KOf KX) mg "law" "law" (Law.top 85) ["_law_script"]:=by walk_at "dat"
  obtain ⟨C,D_Shape,nc,ns⟩:∃ C,L3.uo (L2.KOf KX) mg "Shape" "Shape.__init__" C (L2.inClass (Law.top 15) 0) ["self", "counts", "slots"]∧L2.bq (L2.KOf KX) C "counts" ∧ L2.bq (L2.KOf KX) C "slots" := by
   dsimp only [L2.KOf]
   refine' ⟨_,L3.EU KX G ?aC ?a ?i ?l ?c ?k ?pg ?hd ?po ?sa ?mk ?kc ?b,?n1,?n2⟩
   (case aC=>k_is);(case a=>k_is);(case i=>k_is);(case l=>k_is);(case c=>k_is);(case k=>k_is);(case pg=>k_is);(case hd=>k_is);(case po=>k_is);(case sa=>k_is);(case mk=>k_is);(case kc=>k_is)
   (case n1=>unfold L2.bq;k_is);(case n2=>unfold L2.bq;k_is)
   (case b=>exact fun _ _ _ _ _ _ us hl=>match us,hl with | [_,_,_],_=>rfl)
  have SC:Law.ShC (L2.KOf KX) C:=⟨D_Shape.cls,nc,ns⟩
  have vn:L3.GlV mg "GREATEST_SIDE" (.int 1000):=by
   refine' ⟨_,PySem.W.mg_of KX G ?_,?_⟩
   rotate_left
   ·k_is
   ·exact ⟨_,rfl⟩
  have vm:L3.GlV mg "GREATEST_SPAN" (.int 1000000000000):=by
   refine' ⟨_,PySem.W.mg_of KX G ?_,?_⟩
   rotate_left
   ·k_is
   ·exact ⟨_,rfl⟩
  obtain ⟨CS,D_Settings,n1,n2,n3,n4,n5⟩:∃ C,L4.oW (L2.KOf KX) mg "Settings" "Settings.__init__" C (L2.inClass (Law.top 45) 0) ["self", "shape", "far", "room", "term", "rules"]∧L2.bq (L2.KOf KX) C "shape" ∧ L2.bq (L2.KOf KX) C "far" ∧ L2.bq (L2.KOf KX) C "room" ∧ L2.bq (L2.KOf KX) C "term" ∧ L2.bq (L2.KOf KX) C "rules" := by
   dsimp only [L2.KOf]
   refine' ⟨_,L4.BS KX G ?aC ?a ?i ?l ?tl ?c ?pg ?hd ?po ?sa ?mk ?kc ?b,?n1,?n2,?n3,?n4,?n5⟩
   (case aC=>k_is);(case a=>k_is);(case i=>k_is);(case l=>k_is);(case tl=>k_is);(case c=>k_is);(case pg=>k_is);(case hd=>k_is);(case po=>k_is);(case sa=>k_is);(case mk=>k_is);(case kc=>k_is)
   (case n1=>unfold L2.bq;k_is);(case n2=>unfold L2.bq;k_is);(case n3=>unfold L2.bq;k_is);(case n4=>unfold L2.bq;k_is);(case n5=>unfold L2.bq;k_is)
   (case b=>exact fun _ _ _ _ _ _ _ us hl=>match us,hl with | [_,_,_,_,_,_],_=>⟨_,rfl,rfl⟩)
  have SS:Law.StC (L2.KOf KX) CS:=⟨D_Settings.cl,n1,n2,n3,n4,n5⟩
  obtain ⟨aR,e7,hR⟩:∃ aR,L3.GlV mg "RULES" (.ref aR)∧∀ H,L2.SqT (L2.KOf KX) H aR (Law.n8.map L2.V.str):=by
   dsimp only [L2.KOf]
   refine' Law.zL KX G ?n1 ?n2 ?n3 ?n4
   (case n1=>k_is);(case n2=>k_is);(case n3=>exact .cons ⟨_,rfl⟩ (.cons ⟨_,rfl⟩ (.cons ⟨_,rfl⟩ (.cons ⟨_,rfl⟩ (.cons ⟨_,rfl⟩ .nil)))));(case n4=>exact Nat.le_of_lt (L2.small1000 (by decide)))
  obtain ⟨aN,fL,hN⟩:∃ aN,L3.GlV mg "NOTHING" (.ref aN)∧∀ H,L2.SqT (L2.KOf KX) H aN [.int 0,.non,.int 0,.int 0]:=by
   dsimp only [L2.KOf]
   refine' Law.zL KX G ?n1 ?n2 ?n3 ?n4
   (case n1=>k_is);(case n2=>k_is);(case n3=>exact .cons ⟨_,rfl⟩ (.cons rfl (.cons ⟨_,rfl⟩ (.cons ⟨_,rfl⟩ .nil))));(case n4=>exact Nat.le_of_lt (L2.small1000 (by decide)))
  obtain ⟨CH,D_Hand,n1,n2,n3,n4,HM⟩:∃ C,L4.oX (L2.KOf KX) mg "Hand" "Hand.__init__" C (L2.inClass (Law.top 64) 0) ["self", "name", "settings", "lines"]∧L2.bq (L2.KOf KX) C "name" ∧ L2.bq (L2.KOf KX) C "settings" ∧ L2.bq (L2.KOf KX) C "lines" ∧ L2.bq (L2.KOf KX) C "spot" ∧ Law.Ky (L2.KOf KX) mg C:=by
   dsimp only [L2.KOf]
   refine' ⟨_,L4.BU KX G ?aC ?a ?i ?l ?tl ?c ?pg ?hd ?po ?sa ?mk ?kc ?b ?b1,?n1,?n2,?n3,?n4,⟨L4.cS ⟨?pg,?hd,?po,?sa⟩ ?is_up_a ?is_up_i ?is_up_l ?is_up_c ?is_up_k ?is_up_b,L4.cS ⟨?pg,?hd,?po,?sa⟩ ?place_a ?place_i ?place_l ?place_c ?place_k ?place_b,L4.cS ⟨?pg,?hd,?po,?sa⟩ ?note_a ?note_i ?note_l ?note_c ?note_k ?note_b,L4.cS ⟨?pg,?hd,?po,?sa⟩ ?area_a ?area_i ?area_l ?area_c ?area_k ?area_b,L4.cS ⟨?pg,?hd,?po,?sa⟩ ?stand_a ?stand_i ?stand_l ?stand_c ?stand_k ?stand_b,L4.cS ⟨?pg,?hd,?po,?sa⟩ ?go_a ?go_i ?go_l ?go_c ?go_k ?go_b,L4.cS ⟨?pg,?hd,?po,?sa⟩ ?fall_a ?fall_i ?fall_l ?fall_c ?fall_k ?fall_b,L4.cS ⟨?pg,?hd,?po,?sa⟩ ?rise_a ?rise_i ?rise_l ?rise_c ?rise_k ?rise_b,L4.cS ⟨?pg,?hd,?po,?sa⟩ ?take_a ?take_i ?take_l ?take_c ?take_k ?take_b,L4.cS ⟨?pg,?hd,?po,?sa⟩ ?write_a ?write_i ?write_l ?write_c ?write_k ?write_b,L4.cS ⟨?pg,?hd,?po,?sa⟩ ?make_a ?make_i ?make_l ?make_c ?make_k ?make_b,L4.cS ⟨?pg,?hd,?po,?sa⟩ ?hear_a ?hear_i ?hear_l ?hear_c ?hear_k ?hear_b,L4.cS ⟨?pg,?hd,?po,?sa⟩ ?tell_a ?tell_i ?tell_l ?tell_c ?tell_k ?tell_b,L4.cS ⟨?pg,?hd,?po,?sa⟩ ?give_back_a ?give_back_i ?give_back_l ?give_back_c ?give_back_k ?give_back_b⟩⟩
   (case aC=>k_is);(case a=>k_is);(case i=>k_is);(case l=>k_is);(case tl=>k_is);(case c=>k_is);(case pg=>k_is);(case hd=>k_is);(case po=>k_is);(case sa=>k_is);(case mk=>k_is);(case kc=>k_is)
   (case n1=>unfold L2.bq;k_is);(case n2=>unfold L2.bq;k_is);(case n3=>unfold L2.bq;k_is);(case n4=>unfold L2.bq;k_is)
   (case b=>exact fun _ _ _ _ _ _ _ us hl=>match us,hl with | [_,_,_,_],_=>⟨_,rfl,rfl⟩)
   (case b1=>exact fun _ _ _ _ _ _ _ us hl=>match us,hl with | [_,_,_],_=>⟨_,rfl,rfl⟩)
   (case is_up_a=>k_is);(case is_up_i=>k_is);(case is_up_l=>k_is);(case is_up_c=>k_is);(case is_up_k=>k_is);(case is_up_b=>exact fun _ _ _ _ _ _ us hl=>match us,hl with | [_],_=>rfl)
   (case place_a=>k_is);(case place_i=>k_is);(case place_l=>k_is);(case place_c=>k_is);(case place_k=>k_is);(case place_b=>exact fun _ _ _ _ _ _ us hl=>match us,hl with | [_],_=>rfl)
   (case note_a=>k_is);(case note_i=>k_is);(case note_l=>k_is);(case note_c=>k_is);(case note_k=>k_is);(case note_b=>exact fun _ _ _ _ _ _ us hl=>match us,hl with | [_],_=>rfl)
   (case area_a=>k_is);(case area_i=>k_is);(case area_l=>k_is);(case area_c=>k_is);(case area_k=>k_is);(case area_b=>exact fun _ _ _ _ _ _ us hl=>match us,hl with | [_],_=>rfl)
   (case stand_a=>k_is);(case stand_i=>k_is);(case stand_l=>k_is);(case stand_c=>k_is);(case stand_k=>k_is);(case stand_b=>exact fun _ _ _ _ _ _ us hl=>match us,hl with | [_],_=>rfl)
   (case go_a=>k_is);(case go_i=>k_is);(case go_l=>k_is);(case go_c=>k_is);(case go_k=>k_is);(case go_b=>exact fun _ _ _ _ _ _ us hl=>match us,hl with | [_,_],_=>rfl)
   (case fall_a=>k_is);(case fall_i=>k_is);(case fall_l=>k_is);(case fall_c=>k_is);(case fall_k=>k_is);(case fall_b=>exact fun _ _ _ _ _ _ us hl=>match us,hl with | [_],_=>rfl)
   (case rise_a=>k_is);(case rise_i=>k_is);(case rise_l=>k_is);(case rise_c=>k_is);(case rise_k=>k_is);(case rise_b=>exact fun _ _ _ _ _ _ us hl=>match us,hl with | [_],_=>rfl)
   (case take_a=>k_is);(case take_i=>k_is);(case take_l=>k_is);(case take_c=>k_is);(case take_k=>k_is);(case take_b=>exact fun _ _ _ _ _ _ us hl=>match us,hl with | [_,_,_],_=>rfl)
   (case write_a=>k_is);(case write_i=>k_is);(case write_l=>k_is);(case write_c=>k_is);(case write_k=>k_is);(case write_b=>exact fun _ _ _ _ _ _ us hl=>match us,hl with | [_,_],_=>rfl)
   (case make_a=>k_is);(case make_i=>k_is);(case make_l=>k_is);(case make_c=>k_is);(case make_k=>k_is);(case make_b=>exact fun _ _ _ _ _ _ us hl=>match us,hl with | [_,_],_=>rfl)
   (case hear_a=>k_is);(case hear_i=>k_is);(case hear_l=>k_is);(case hear_c=>k_is);(case hear_k=>k_is);(case hear_b=>exact fun _ _ _ _ _ _ us hl=>match us,hl with | [_,_],_=>rfl)
   (case tell_a=>k_is);(case tell_i=>k_is);(case tell_l=>k_is);(case tell_c=>k_is);(case tell_k=>k_is);(case tell_b=>exact fun _ _ _ _ _ _ us hl=>match us,hl with | [_],_=>rfl)
   (case give_back_a=>k_is);(case give_back_i=>k_is);(case give_back_l=>k_is);(case give_back_c=>k_is);(case give_back_k=>k_is);(case give_back_b=>exact fun _ _ _ _ _ _ us hl=>match us,hl with | [_],_=>rfl)
  have HC:Law.HdC (L2.KOf KX) CH:=⟨D_Hand.cl,n1,n2,n3,n4⟩
  obtain ⟨CD,CU,CA,CN,CW,CT,CR,ER,RR⟩:∃ CD CU CA CN CW CT CR:PySem.Addr,Law.IB (L2.KOf KX) mg CD CU CA CN CW CT CR∧True:=by
   dsimp only [L2.KOf]
   refine' Law.Ef (R:=fun _ _ _ _ _ _ _=>True) KX G (Law.BG KX G ?aW ?g6 ?g7 ?v1 ?v2 ?v3 ?v4 ?v5 ?v8 ?r0 ?s1 ?s3 ?s4 ?s5 ?s6 ?i1 ?i2 ?i3 ?i4 ?i5 ?i6 ?b ?x1) (Law.BG KX G ?aT ?g6 ?g7 ?w1 ?w2 ?w3 ?w4 ?w5 ?w8 ?r0 ?t1 ?t3 ?t4 ?t5 ?t6 ?j1 ?j2 ?j3 ?j4 ?j5 ?j6 ?bb ?y1) ?tw ?tt ?aD ?aU ?aA ?aN ?aW ?aT ?aR ?d1 ?d2 ?d3 ?u1 ?u2 ?u3 ?c1 ?c2 ?c3 ?n1 ?n2 ?n3 ?r1 ?r2 ?r3 ?m1 ?m2 ?m3 ?m4 ?m5 ?m6 ?hR
   (case aD=>k_is);(case aU=>k_is);(case aA=>k_is);(case aN=>k_is);(case aW=>k_is);(case aT=>k_is);(case aR=>k_is)
   (case g6=>k_is);(case g7=>k_is)
   (case v1=>k_is);(case v2=>k_is);(case v3=>k_is);(case v4=>k_is);(case v5=>k_is);(case v8=>k_is)
   (case w1=>k_is);(case w2=>k_is);(case w3=>k_is);(case w4=>k_is);(case w5=>k_is);(case w8=>k_is)
   (case s1=>k_is);(case s3=>k_is);(case s4=>rfl);(case s5=>rfl);(case s6=>rfl)
   (case t1=>k_is);(case t3=>k_is);(case t4=>rfl);(case t5=>rfl);(case t6=>rfl)
   (case r0=>k_exc);(case r1=>k_is);(case r2=>k_is);(case r3=>k_is)
   (case i1=>k_is);(case i2=>k_is);(case i3=>k_is);(case i4=>k_is);(case i5=>k_is);(case i6=>k_is)
   (case j1=>k_is);(case j2=>k_is);(case j3=>k_is);(case j4=>k_is);(case j5=>k_is);(case j6=>k_is)
   (case b=>exact fun _ _ _ _ _ _ us hl=>match us,hl with | [_,_],_=>rfl)
   (case bb=>exact fun _ _ _ _ _ _ us hl=>match us,hl with | [_,_],_=>rfl)
   (case x1=>k_is);(case y1=>k_is);(case tw=>k_is);(case tt=>k_is)
   (case d1=>k_exc);(case d2=>k_is);(case d3=>k_is);(case u1=>k_exc);(case u2=>k_is);(case u3=>k_is);(case c1=>k_exc);(case c2=>k_is);(case c3=>k_is);(case n1=>k_exc);(case n2=>k_is);(case n3=>k_is)
   (case m1=>kts_exm);(case m2=>kts_exm);(case m3=>kts_exm);(case m4=>kts_exm);(case m5=>kts_exm);(case m6=>kts_exm)
   (case hR=>trivial)
  have HD:Law.Kz (L2.KOf KX) mg:=⟨vQ,kI,zD,zB,zC,zE,ua,vU,zy,vW,Cp,vX,zz,t7,vO,kB,vY,Cm,qU,t9,ID,vV,zJ,zG,vS,vP,zA,t8,zI,Ck,Cj,zH,Co,ku,zx,Cn,oV,uf,ud,qV,ue,qX,uh,uc,kK,kJ,zK,mV,qY,qW⟩
  obtain ⟨f,fd,F,b,m⟩:=KA.ex
  have e:=hmg.symm.trans m
  cases e
  obtain ⟨oc,od,kV,doc,pm,an,cdv,ct,osl,rfl,lk,hcd⟩:=id F.ex
  refine ⟨PySem.W.fnOf "law" "law" (L2.bw (Law.top 85)) (L2.aS (Law.top 85)) (L2.ai (Law.top 85)) .none kV doc pm an cdv ct,fun s u=>.of_eq rfl,fun base kb nb hB hC=>?_⟩
  have NE:=@L4.uY PySem.Challenge.rw_risemarks_k38_whole_marks_rise.prog w
  have HH:=Law.Ei (P:=PySem.Challenge.rw_risemarks_k38_whole_marks_rise.prog) (w:=w) (base:=base) BT NE HD HM ER D_Shape SC D_Settings SS D_Hand HC vn vm e7 hR fL hN
  have BX:=Law.yt nJ BT NE hC hB HH.eO (Law.yL oV NE HH.bx) HH.cX
  have kX:=Law.AW Fj NE BX (Law.yI zF NE HH.bx) (Law.uT vR NE HH.bx)
  have xx:=Law.yG qZ BT NE ER.hR ER.et HH.iy HH.gx HH.iA HH.iB HH.dJ HH.iC HH.iz
  have vD:=Law.yC jQ BT NE HH.u__law_whole.cal HH.ig HH.bQ
  have Ia:=Law.yF jR BT NE HH.u__law_whole.cal
  have HS:=Law.yz (P:=PySem.Challenge.rw_risemarks_k38_whole_marks_rise.prog) (w:=w) (base:=base) jP BT NE
  have HZ:=Law.A4 ug BT NE HH.aH HH.cH HH.gk HH.gi HH.ir HH.dI xx vD Ia HS HH.gz HH.bZ
  have E5:=Law.yH q9 BT NE HH.cJ HH.aH HH.cH xx HH.e8 HH.bZ
  exact Law.GB F BT NE HC HH.cJ HH.aH HH.gj HH.dX HZ E5 kX HH.je HH.jy HH.bQ
end
