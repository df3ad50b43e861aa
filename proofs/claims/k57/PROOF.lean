import PyProof.Rows.All
import Wide.All
import OpenK.AllK
import Wide.FinOn
import PyProof.EqAt
import PyProof.EqKinds
import PyProof.TupleCall
import Lean
import PySem.Challenge.RW_risemarks_k57_whole_letters_in_any_order
abbrev MO:=@List.getElem?_append_right
abbrev MP:=@List.getElem?_append_left
abbrev MQ:=@List.mem_or_eq_of_mem_set
abbrev MT:=@List.getElem?_eq_getElem
abbrev MU:=@Int.eq_ofNat_of_zero_le
abbrev MV:=@List.getElem?_set_self
abbrev MW:=@List.length_singleton
abbrev MX:=@List.mem_append_right
abbrev MY:=@List.length_replicate
abbrev M0:=@List.mem_of_getElem?
abbrev M3:=@List.mem_cons_of_mem
abbrev M4:=@List.pairwise_append
abbrev M5:=@List.getElem_of_mem
abbrev M6:=@List.length_append
abbrev M7:=@List.mem_cons_self
abbrev M8:=@Bool.false_ne_true
abbrev M9:=@Nat.lt_of_lt_of_le
abbrev Na:=@List.size_toArray
abbrev Nb:=@List.getElem?_map
abbrev Nc:=@Nat.le_succ_of_le
abbrev Nd:=@List.length_cons
abbrev Nf:=@List.length_take
abbrev Ng:=@List.take_length
abbrev Nh:=@List.length_map
abbrev Ni:=@List.length_nil
abbrev Nj:=@List.map_append
abbrev Nk:=@List.append_nil
abbrev Nl:=@List.length_set
abbrev Nm:=@Option.some.inj
abbrev Nn:=@decide_eq_false
abbrev Np:=@decide_eq_true
abbrev Nq:=@Nat.le_trans
abbrev Nr:=@Nat.le_of_lt
abbrev Nu:=@Nat.ne_of_lt
abbrev Nv:=@Nat.sub_self
abbrev Nz:=@Int.le_trans
abbrev NB:=@Nat.le_refl
abbrev NC:=@Nat.zero_le
abbrev ND:=@Nat.le_succ
abbrev NF:=@Int.le_refl
section
set_option Elab.async false
set_option linter.all false
set_option maxRecDepth 100000
set_option maxHeartbeats 4000000
namespace L2
open PySem PySem.Spec PyProof.Rows
abbrev Key:=Sum Int Str
def nX:Key→Value→Bool
  | .inl k,v=>Value.isInt k v
  | .inr x,v=>Value.isStrOf x v
def LO (w:World):Key→Int
  | .inl k=>hashInt k
  | .inr x=>hashStr w x
theorem b9:∀ {k:Key} {v:Value},nX k v=true→(∃ i t,k=Sum.inl i∧v=Value.int i t)∨(∃ x t,k=Sum.inr x∧v=Value.str x t)
  | .inl i,v,h=>by
    obtain ⟨t,e⟩:=Value.isInt_shape (k:=i) (v:=v) h
    exact .inl ⟨i,t,rfl,e⟩
  | .inr x,v,h=>by
    obtain ⟨t,e⟩:=Value.isStrOf_shape (x:=x) (v:=v) h
    exact .inr ⟨x,t,rfl,e⟩
theorem yN (i:Int) (t:Tok):nX (.inl i) (.int i t)=true:=by simp [nX,Value.isInt]
theorem yM (x:Str) (t:Tok):nX (.inr x) (.str x t)=true:=by simp [nX,Value.isStrOf]
theorem HQ (a b:Int):decide ((Sum.inl a:Key)=Sum.inl b)=(a == b):=by
  by_cases e:a=b
  · subst e;simp
  · have h:¬ (Sum.inl a:Key)=Sum.inl b:=fun q=>e (Sum.inl.inj q)
    rw [Nn h]
    exact (beq_eq_false_iff_ne.mpr e).symm
theorem HL (a b:Str):decide ((Sum.inr a:Key)=Sum.inr b)=decide (a=b):=by
  by_cases e:a=b
  · subst e;simp
  · have h:¬ (Sum.inr a:Key)=Sum.inr b:=fun q=>e (Sum.inr.inj q)
    rw [Nn h,Nn e]
theorem HP (a:Int) (b:Str):decide ((Sum.inl a:Key)=Sum.inr b)=false:=Nn (fun q=>nomatch q)
theorem HN (a:Str) (b:Int):decide ((Sum.inr a:Key)=Sum.inl b)=false:=Nn (fun q=>nomatch q)
def cy (prog:Program) (w:World):PySem.KeyKind prog w Key where
  is:=nX
  hash:=LO w
  inj:=fun v a b ha hb=>by
    rcases b9 ha with ⟨i,t,rfl,rfl⟩ | ⟨x,t,rfl,rfl⟩
    · rcases b9 hb with ⟨j,u,rfl,e⟩ | ⟨y,u,rfl,e⟩
      · injection e with e1 _;rw [e1]
      · exact nomatch e
    · rcases b9 hb with ⟨j,u,rfl,e⟩ | ⟨y,u,rfl,e⟩
      · exact nomatch e
      · injection e with e1 _;rw [e1]
  byValue:=fun k v h=>by
    rcases b9 h with ⟨i,t,rfl,rfl⟩ | ⟨x,t,rfl,rfl⟩ <;> rfl
  pyHash:=fun hv h=>by
    rcases b9 hv with ⟨i,t,rfl,rfl⟩ | ⟨x,t,rfl,rfl⟩
    · exact wpAny_pyHash_int h
    · exact wpAny_pyHash_str h
  eqBool:=fun hu hv h=>by
    rcases b9 hu with ⟨i,t,rfl,rfl⟩ | ⟨x,t,rfl,rfl⟩
    · rcases b9 hv with ⟨j,u,rfl,rfl⟩ | ⟨y,u,rfl,rfl⟩
      · rw [HQ] at h;exact wpAny_eqBool_int h
      · rw [HP] at h;exact SeqAt.EqAt.int_str i t y u _ _ _ _ h
    · rcases b9 hv with ⟨j,u,rfl,rfl⟩ | ⟨y,u,rfl,rfl⟩
      · rw [HN] at h;exact SeqAt.EqAt.str_int x t j u _ _ _ _ h
      · rw [HL] at h;exact wpAny_eqBool_str h
  «strs»:=fun k x t v h=>by
    rcases b9 h with ⟨i,u,rfl,e⟩ | ⟨y,u,rfl,e⟩
    · exact nomatch e
    · injection e with e1 _
      subst e1
      cases v <;> rfl
theorem sf (prog:Program) (w:World) (i:Int) (t:Tok):(cy prog w).is (.inl i) (.int i t)=true:=yN i t
theorem se (prog:Program) (w:World) (x:Str) (t:Tok):(cy prog w).is (.inr x) (.str x t)=true:=yM x t
inductive V where
  | non | bl (b:Bool) | int (i:Int) | str (x:Str) | byt (b:Array UInt8) | flt (b:UInt64) | ref (a:Addr) | ty (n:String)
  deriving DecidableEq
def RelV:V→Value→Prop
  | .non,u=>u=Value.none
  | .bl b,u=>u=Value.bool b
  | .int i,u=>∃ t,u=Value.int i t
  | .str x,u=>∃ t,u=Value.str x t
  | .byt b,u=>∃ t,u=Value.bytes b t
  | .flt b,u=>∃ t,u=Value.float b t
  | .ref a,u=>u=Value.ref a
  | .ty n,u=>u=Value.type n
abbrev Vals:List V→List Value→Prop:=Paired RelV
theorem Vals.length {xs:List V} {us:List Value} (r:Vals xs us):xs.length=us.length:=Paired.length r
theorem Vals.get:∀ {xs:List V} {us:List Value} {i:Nat} {x:V},Vals xs us→xs[i]?=some x→∃ u,us[i]?=some u∧RelV x u
  | _,_,_,_,.nil,e=>by simp at e
  | _,_,0,_,.cons r _,e=>by simp at e;subst e;exact ⟨_,rfl,r⟩
  | _,_,i+1,x,.cons _ t,e=>by
    obtain ⟨u,h1,h2⟩:=Vals.get (i:=i) (x:=x) t (by simpa using e)
    exact ⟨u,by simpa using h1,h2⟩
theorem Vals.set {x:V} {u:Value} (r:RelV x u):∀ {xs:List V} {us:List Value} (i:Nat),Vals xs us→Vals (xs.set i x) (us.set i u)
  | _,_,_,.nil=>.nil
  | _,_,0,.cons _ t=>.cons r t
  | _,_,i+1,.cons q t=>.cons q (Vals.set r i t)
theorem Vals.append:∀ {xs ys:List V} {us ws:List Value},Vals xs us→Vals ys ws→Vals (xs++ys) (us++ws)
  | _,_,_,_,.nil,s=>s
  | _,_,_,_,.cons r t,s=>.cons r (Vals.append t s)
theorem Vals.take:∀ {xs:List V} {us:List Value} (n:Nat),Vals xs us→Vals (xs.take n) (us.take n)
  | _,_,0,_=>.nil
  | _,_,_+1,.nil=>.nil
  | _,_,n+1,.cons r t=>.cons r (Vals.take n t)
theorem Vals.drop:∀ {xs:List V} {us:List Value} (n:Nat),Vals xs us→Vals (xs.drop n) (us.drop n)
  | _,_,0,r=>r
  | _,_,_+1,.nil=>.nil
  | _,_,n+1,.cons _ t=>Vals.drop n t
def fB:Option V→Option Value→Prop
  | some v,some u=>RelV v u
  | none,none=>True
  | _,_=>False
def KV {κ : Type}:List (κ×V)→List (κ×Value)→Prop:=Paired fun (p : κ×V) (q : κ×Value)=>p.1=q.1∧RelV p.2 q.2
def kV:Key→V
  | .inl i=>.int i
  | .inr x=>.str x
inductive HO where
    | lst (xs:List V)
    | tup (xs:List V)
    | dK (kvs:List (Key×V)) | dT (kvs:List (List Key×V))
    | set (S:Int→Bool) (n:Nat)
    | ins (C dx:Addr) (fs:List (Str×V))
    | own (x:Addr)
    | xd (fs:List (Str×V))
    | met (f x:Addr)
    | rng (lo hi:Int)
    | frz (o:Obj) (u:HO)
    | tbl (ps:Array Value)
    | ext (φ : Heap→Prop)
abbrev Hp:=Addr→Option HO
def upd (H:Hp) (a:Addr) (o:HO):Hp:=fun b=>if b=a then some o else H b
theorem aE {H:Hp} {a:Addr} {o:HO}:upd H a o a=some o:=by unfold upd;rw [if_pos rfl]
theorem aF {H:Hp} {a b:Addr} {o:HO} (h:b≠a):upd H a o b=H b:=by unfold upd;rw [if_neg h]
theorem e8 {H:Hp} {a:Addr} {o u:HO}:upd (upd H a o) a u=upd H a u:=by
  funext b;unfold upd;split <;> rfl
theorem KA {H:Hp} {a b:Addr} {o u:HO} (h:H a=some o) (h':H b=some u) (d:o≠u):a≠b:=by
  intro e;subst e;rw [h] at h';exact d (Nm h')
theorem aG {H:Hp} {a b:Addr} {o:HO} (h:H a=some o) (h':H b=none):a≠b:=by
  intro e;subst e;rw [h] at h';cases h'
section
variable (P:Program) (w:World)
def bP (H:Hp) (h:Heap) (a:Addr):HO→Prop
  | .lst xs=>xs.length≤sizeLine∧∃ (its:List Value) (n:Nat),Vals xs its∧h.get? a=some { cls:=.type "list",data:=.seq its.toArray n }
  | .tup xs=>xs.length≤sizeLine∧∃ its:List Value,Vals xs its∧IsTup h a its.toArray
  | .dK kvs=>kvs.length≤sizeLine∧(a == sysModules)=false∧∃ vs,KV kvs vs∧h.DictOf (cy P w) a vs
  | .dT kvs=>kvs.length≤sizeLine∧(a == sysModules)=false∧∃ xs:List (List Key×Addr×Value),
      Paired (fun (p:List Key×V) (q:List Key×Addr×Value)=>p.1=q.1∧H q.2.1=some (.tup (p.1.map kV))∧RelV p.2 q.2.2) kvs xs ∧
      ∃ o es ep,h.get? a=some o∧o.ExactDict∧o.data = .dict es ep∧es.toList=xs.map (entryOfKey (tupleKind (cy P w)))∧(xs.map (·.1)).Nodup
  | .set S n=>h.SetOf (intKind P w) a S n
  | .ins C dx fs=>H dx=some (.own a)∧fs.length≤1000∧dx≠a∧h.get? a=some (PySem.W.instObj C dx) ∧
      ∃ mA,h.Ns1 dx mA∧(∀ f,fB (fs.lookup f) (mA f))∧PySem.Within mA (fs.map (·.1))
  | .own _=>∃ o,h.get? a=some o
  | .xd fs=>∃ mA,h.Ns1 a mA∧∀ f,fB (fs.lookup f) (mA f)
  | .rng lo hi=>∃ t u v,h.get? a=some { cls:=.type "range",data:=.fields #[.int lo t,.int hi u,.int 1 v] }
  | .frz o u=>h.get? a=some o∧bP H h a u
  | .tbl ps=>h.get? a=some { cls:=.none,data:=.fields ps }
  | .met f x=>h.get? a=some (PySem.W.methodObj (.ref f) (.ref x))
  | .ext φ=>φ h∧(∃ o,h.get? a=some o)∧∀ h1 h2:Heap,φ h1→(∀ o,h1.get? a=some o→h2.get? a=some o)→φ h2
def HOk (H:Hp) (h:Heap):Prop:=∀ a o,H a=some o→bP P w H h a o
end
section
variable {P:Program} {w:World} {H H':Hp} {h h':Heap} {a:Addr} {o:HO}
theorem bP.lt (x:bP P w H h a o):a < h.objs.size:=by
  cases o with
  | lst xs=>obtain ⟨_,_,_,_,e⟩:=x;exact Heap.lt_size e
  | tup xs=>obtain ⟨_,_,_,p⟩:=x;exact p.lt
  | dK kvs=>obtain ⟨_,_,_,_,o,_,_,e,_⟩:=x;exact Heap.lt_size e
  | dT kvs=>obtain ⟨_,_,_,_,o,_,_,e,_⟩:=x;exact Heap.lt_size e
  | set S n=>obtain ⟨o,_,_,_,e,_⟩:=x;exact Heap.lt_size e
  | ins C dx fs=>obtain ⟨_,_,_,e,_⟩:=x;exact Heap.lt_size e
  | own y=>obtain ⟨_,e⟩:=x;exact Heap.lt_size e
  | xd fs=>obtain ⟨_,⟨_,_,_,e,_⟩,_⟩:=x;exact Heap.lt_size e
  | rng lo hi=>obtain ⟨_,_,_,e⟩:=x;exact Heap.lt_size e
  | frz ob u=>obtain ⟨e,_⟩:=x;exact Heap.lt_size e
  | tbl ps=>exact Heap.lt_size (show h.get? a=some _ from x)
  | met f y=>exact Heap.lt_size (show h.get? a=some _ from x)
  | ext φ=>obtain ⟨_,⟨_,e⟩,_⟩:=x;exact Heap.lt_size e
theorem Paired.Hq {α β : Type} {F G : α→β→Prop}:∀ {l₁ : List α} {l₂ : List β},Paired F l₁ l₂→(∀ a b,F a b→G a b)→Paired G l₁ l₂
  | _,_,.nil,_=>.nil
  | _,_,.cons r t,f=>.cons (f _ _ r) (Paired.Hq t f)
theorem bP.stay (x:bP P w H h a o) (k:∀ b u,(b=a∨H b=some (.own a))→h.get? b=some u→h'.get? b=some u)
    (ho:∀ b,H b=some (.own a)→H' b=some (.own a)) (ht:∀ b xs,H b=some (.tup xs)→H' b=some (.tup xs)):bP P w H' h' a o:=by
  induction o with
  | lst xs=>obtain ⟨z,its,n,r,e⟩:=x;exact ⟨z,its,n,r,k _ _ (.inl rfl) e⟩
  | tup xs=>obtain ⟨z,its,r,ob,e,c⟩:=x;exact ⟨z,its,r,ob,k _ _ (.inl rfl) e,c⟩
  | dK kvs=>obtain ⟨z,y,vs,r,ob,es,ep,e,c⟩:=x;exact ⟨z,y,vs,r,ob,es,ep,k _ _ (.inl rfl) e,c⟩
  | dT kvs=>
    obtain ⟨z,y,xs,r,ob,es,ep,e,c⟩:=x
    exact ⟨z,y,xs,Paired.Hq r fun p q z=>⟨z.1,ht _ _ z.2.1,z.2.2⟩,ob,es,ep,k _ _ (.inl rfl) e,c⟩
  | set S n=>obtain ⟨ob,es,ep,t,e,c⟩:=x;exact ⟨ob,es,ep,t,k _ _ (.inl rfl) e,c⟩
  | ins C dx fs=>
    obtain ⟨d,z,ne,e,mA,⟨od,es,ep,e2,c⟩,r⟩:=x
    exact ⟨ho _ d,z,ne,k _ _ (.inl rfl) e,mA,⟨od,es,ep,k _ _ (.inr d) e2,c⟩,r⟩
  | own y=>obtain ⟨ob,e⟩:=x;exact ⟨ob,k _ _ (.inl rfl) e⟩
  | xd fs=>obtain ⟨mA,⟨od,es,ep,e,c⟩,r⟩:=x;exact ⟨mA,⟨od,es,ep,k _ _ (.inl rfl) e,c⟩,r⟩
  | rng lo hi=>obtain ⟨t,u,v,e⟩:=x;exact ⟨t,u,v,k _ _ (.inl rfl) e⟩
  | frz ob u ih=>obtain ⟨e,q⟩:=x;exact ⟨k _ _ (.inl rfl) e,ih q⟩
  | tbl ps=>
    have e:h.get? a=some { cls:=.none,data:=.fields ps }:=x
    show h'.get? a=some { cls:=.none,data:=.fields ps }
    exact k a _ (.inl rfl) e
  | met f y=>
    have e:h.get? a=some (PySem.W.methodObj (.ref f) (.ref y)):=x
    show h'.get? a=some (PySem.W.methodObj (.ref f) (.ref y))
    exact k a _ (.inl rfl) e
  | ext φ=>obtain ⟨p,⟨o,e⟩,st⟩:=x;exact ⟨st _ _ p fun o q=>k _ _ (.inl rfl) q,⟨o,k _ _ (.inl rfl) e⟩,st⟩
theorem HOk.lt (x:HOk P w H h) (e:H a=some o):a < h.objs.size:=(x a o e).lt
theorem HOk.fresh (x:HOk P w H h) (e:h.objs.size≤a):H a=none:=by
  cases q:H a with
  | none=>rfl
  | some u=>exact absurd (M9 (x.lt q) e) (Nat.lt_irrefl _)
theorem HOk.kept (x:HOk P w H h) (k:∀ b u,h.get? b=some u→h'.get? b=some u):HOk P w H h':=fun a o e=>
  (x a o e).stay (fun b u _ q=>k b u q) (fun _ q=>q) fun _ _ q=>q
theorem HOk.laid (x:HOk P w H h) (k:∀ b u,h.get? b=some u→h'.get? b=some u) (hp:h.objs.size≤a) (new:bP P w (upd H a o) h' a o):HOk P w (upd H a o) h':=fun b u e=>by
  have hn:=x.fresh hp
  by_cases hb:b=a
  · subst hb;rw [aE] at e;cases e;exact new
  · rw [aF hb] at e
    exact (x b u e).stay (fun c v _ q=>k c v q) (fun c q=>by rw [aF (aG q hn)];exact q) fun c xs q=>by rw [aF (aG q hn)];exact q
end
def Rd (H:Hp) (a:Addr) (u:HO):Prop:=H a=some u∨∃ o,H a=some (.frz o u)
theorem Rd.ok {P:Program} {w:World} {H:Hp} {h:Heap} {a:Addr} {u:HO} (r:Rd H a u) (x:HOk P w H h):bP P w H h a u:=by
  rcases r with r | ⟨o,r⟩
  · exact x a u r
  · obtain ⟨_,q⟩:=x a _ r
    exact q
def Mut:Option HO→Prop
  | some (.lst _)=>True
  | some (.dK _)=>True
  | some (.dT _)=>True
  | some (.set _ _)=>True
  | some (.ins _ _ _)=>True
  | some (.ext _)=>True
  | _=>False
section
variable {P:Program} {w:World} {H:Hp} {h h':Heap} {x e:Addr} {o':HO}
theorem HOk.write (ok:HOk P w H h) (mu:Mut (H x)) (he:e=x∨H e=some (.own x)) (k:∀ b u,b≠e→h.get? b=some u→h'.get? b=some u) (heo:∃ u,h'.get? e=some u)
    (new:bP P w (upd H x o') h' x o'):HOk P w (upd H x o') h':=fun b u q=>by
  have Kw:∀ c y,H c=some (.own y)→c≠x:=fun c y r z=>by subst z;rw [r] at mu;exact mu
  have LG:∀ c xs,H c=some (.tup xs)→c≠x:=fun c xs r z=>by subst z;rw [r] at mu;exact mu
  by_cases hb:b=x
  · subst hb;rw [aE] at q;cases q;exact new
  · rw [aF hb] at q
    by_cases hbe:b=e
    · have q':H b=some (.own x):=by
        rcases he with z | z
        · exact absurd (hbe.trans z) hb
        · rw [hbe];exact z
      rw [q] at q';cases q'
      obtain ⟨v,hv⟩:=heo
      exact ⟨v,by rw [hbe];exact hv⟩
    · refine (ok b u q).stay (fun c v hc r=>k c v ?_ r) (fun c r=>by rw [aF (Kw c b r)];exact r) fun c xs r=>by rw [aF (LG c xs r)];exact r
      rcases hc with rfl | hc
      · exact hbe
      · rintro rfl
        rcases he with z | z
        · exact Kw c b hc z
        · rw [hc] at z;cases z;exact hb rfl
end
structure Un (fs ex:List Addr) (H H':Hp) (h h':Heap):Prop where
  keep:∀ b o,h.get? b=some o→H b=none→b∉fs→b∉ex→h'.get? b=some o
  slot:∀ b o,h.get? b=some o→H b=none→b∈fs→b∉ex→∃ sl,h'.get? b=some { o with slots:=sl }
  free:∀ b o,h.get? b=some o→H b=none→b∉ex→H' b=none
  there:∀ b o,h.get? b=some o→b∉ex→∃ o',h'.get? b=some o'
  tups:∀ b xs,H b=some (.tup xs)→H' b=some (.tup xs)
  iS:∀ b o u,H b=some (.frz o u)→H' b=some (.frz o u)
  i8:∀ b ps,H b=some (.tbl ps)→∃ more,H' b=some (.tbl (ps++more))
section
variable {fs fs' ex ex':List Addr} {H H1 H2:Hp} {h h1 h2 h':Heap} {a x e:Addr} {o:HO}
theorem Un.any (u:Un fs ex H H1 h h1) {b:Addr} {ob:Obj} (q:h.get? b=some ob) (n:H b=none) (hx:b∉ex):∃ sl,h1.get? b=some { ob with slots:=sl }:=by
  by_cases hb:b∈fs
  · exact u.slot b ob q n hb hx
  · exact ⟨ob.slots,u.keep b ob q n hb hx⟩
theorem Un.trans (a:Un fs ex H H1 h h1) (b:Un fs ex H1 H2 h1 h2):Un fs ex H H2 h h2 where
  keep:=fun c ob q n hc hx=>b.keep c ob (a.keep c ob q n hc hx) (a.free c ob q n hx) hc hx
  slot:=fun c ob q n hc hx=>by
    obtain ⟨sl,e1⟩:=a.slot c ob q n hc hx
    obtain ⟨sl',e2⟩:=b.slot c _ e1 (a.free c ob q n hx) hc hx
    exact ⟨sl',e2⟩
  free:=fun c ob q n hx=>by
    obtain ⟨o',e1⟩:=a.there c ob q hx
    exact b.free c o' e1 (a.free c ob q n hx) hx
  there:=fun c ob q hx=>by
    obtain ⟨o',e1⟩:=a.there c ob q hx
    exact b.there c o' e1 hx
  tups:=fun c xs q=>b.tups c xs (a.tups c xs q)
  iS:=fun c ob xs q=>b.iS c ob xs (a.iS c ob xs q)
  i8:=fun c ps q=>by
    obtain ⟨m1,e1⟩:=a.i8 c ps q
    obtain ⟨m2,e2⟩:=b.i8 c _ e1
    exact ⟨m1++m2,by rw [e2,Array.append_assoc]⟩
theorem Un.kept (k:∀ b u,h.get? b=some u→h'.get? b=some u):Un fs ex H H h h':=
  ⟨fun b ob q _ _ _=>k b ob q,fun b ob q _ _ _=>⟨ob.slots,k b ob q⟩,fun _ _ _ n _=>n,fun b ob q _=>⟨ob,k b ob q⟩,fun _ _ q=>q,fun _ _ _ q=>q,fun _ ps q=>⟨#[],by rw [q];simp⟩⟩
theorem Un.refl:Un fs ex H H h h:=Un.kept fun _ _ q=>q
theorem Un.laid (k:∀ b u,h.get? b=some u→h'.get? b=some u) (hp:h.objs.size≤a) (hn:H a=none):Un fs ex H (upd H a o) h h' where
  keep:=fun b u q _ _ _=>k b u q
  slot:=fun b u q _ _ _=>⟨u.slots,k b u q⟩
  free:=fun b u q n _=>by rw [aF (Nu (M9 (Heap.lt_size q) hp))];exact n
  there:=fun b u q _=>⟨u,k b u q⟩
  tups:=fun b xs q=>by rw [aF (aG q hn)];exact q
  iS:=fun b u xs q=>by rw [aF (aG q hn)];exact q
  i8:=fun b ps q=>⟨#[],by rw [aF (aG q hn),q];simp⟩
theorem Un.write (mu:Mut (H x)) (he:e=x∨H e=some (.own x)) (k:∀ b u,b≠e→h.get? b=some u→h'.get? b=some u) (heo:∃ u,h'.get? e=some u):Un fs ex H (upd H x o) h h':=by
  have hx:∀ b,H b=none→b≠x:=fun b n z=>by subst z;rw [n] at mu;exact mu
  have hb:∀ b,H b=none→b≠e:=fun b n z=>by
    subst z
    rcases he with r | r
    · exact hx b n r
    · rw [n] at r;cases r
  have hm:∀ b u,H b=some u→¬ Mut (some u)→b≠x:=fun b u q nm z=>by subst z;rw [q] at mu;exact nm mu
  refine ⟨fun b u q n _ _=>k b u (hb b n) q,fun b u q n _ _=>⟨u.slots,k b u (hb b n) q⟩,fun b u q n _=>by rw [aF (hx b n)];exact n,fun b u q _=>?_,
    fun b xs q=>by rw [aF (hm b _ q fun z=>z)];exact q,fun b u xs q=>by rw [aF (hm b _ q fun z=>z)];exact q,fun b ps q=>⟨#[],by rw [aF (hm b _ q fun z=>z),q];simp⟩⟩
  by_cases hbe:b=e
  · subst hbe;exact heo
  · exact ⟨u,k b u hbe q⟩
end
def trk (h:Heap) (H:Hp):List Addr:=(List.range h.objs.size).filter fun a=>(H a).isSome
def pU (h:Heap) (H:Hp):Heap:=PySem.W.hideAll h (trk h H)
theorem yT (h:Heap) (H:Hp):(pU h H).objs.size=h.objs.size:=PySem.W.hideAll_size _ _
theorem BP {h:Heap} {H:Hp} {b:Addr} {o:Obj} (e:h.get? b=some o) (n:H b=none):(pU h H).get? b=some o:=
  PySem.W.hideAll_get _ e fun hm=>by
    have q:(H b).isSome=true:=(List.mem_filter.mp hm).2
    rw [n] at q;simp at q
theorem Ey {h:Heap} {H:Hp} {b:Addr} {o:Obj} (e:(pU h H).get? b=some o):h.get? b=some o∧H b=none:=by
  have e':h.get? b=some o:=PySem.W.of_hideAll (trk h H) e
  refine ⟨e',?_⟩
  cases q:H b with
  | none=>rfl
  | some x=>
    have hm:b∈trk h H:=List.mem_filter.mpr ⟨List.mem_range.mpr (Heap.lt_size e'),by simp [q]⟩
    have z:(pU h H).get? b=none:=PySem.W.hideAll_none (trk h H) hm
    rw [z] at e;cases e
def FL (g h:Heap) (L:Addr):List (Addr×Obj):=(List.range h.objs.size).filterMap fun a=>if a=L∨(g.get? a).isSome=true then none else (h.get? a).map fun o=>(a,o)
def rest (g h:Heap) (L d:Addr):List (Addr×Obj):=(FL g h L).filter fun p=>decide (p.1≠d)
structure Mod (K:PySem.W.Frag) (mg:Str→Option Value) (base:Heap):Prop where
  kin:K.In base
  glob:base.Ns mainGlobals mg
  blt:∃ mb,base.Ns builtinsNs mb∧∀ x:Str,x ≠ "__name__" → mb x=bootBuiltins x
  nolimit:base.NoLimit
structure Cx where
  prog:Program
  w:World
  K:PySem.W.Frag
  mg:Str→Option Value
  base:Heap
  A:Around
  N:List Str
  s₀ : Shared
  H₀ : Hp
  env:Env
  outer:List Env
  stack:List Env
  ex:List Addr
  fn:Str→Bool
  calm:Bool
  pn:List (Addr×Obj)
  xe:Value→Shared→Prop
def frs (l:List Env):List Addr:=l.filterMap (·.frame)
abbrev Cx.fs (X:Cx):List Addr:=frs X.outer
def Vis (sc:Scope) (x:Str):Prop:=sc.names.lookup x=some .local∨sc.names.lookup x=some .cell∨sc.names.lookup x=some .free
def Loc (sc:Scope) (x:Str):Prop:=sc.names.lookup x=some .local∨sc.names.lookup x=some .cell
def Look (env:Env) (h:Heap) (m:Str→Option Value) (x:Str) (u:Value):Prop:=
  (env.kindOf x=some .local∧m x=some u)∨((env.kindOf x=some .cell∨env.kindOf x=some .free)∧∃ c,env.cells.lookup x=some c∧h.IsCell c (some u))
structure Cx.Ok (X:Cx):Prop where
  mod:Mod X.K X.mg X.base
  kind:X.env.scope.kind = .function
  glob:X.env.globals=mainGlobals
  blt:X.env.builtins=builtinsNs
  above:X.s₀.heap.objs.size≤X.env.locals
  inj:∀ x y c,X.env.cells.lookup x=some c→X.env.cells.lookup y=some c→x=y
  has:∀ x,(X.env.kindOf x=some .cell∨X.env.kindOf x=some .free)→∃ c,X.env.cells.lookup x=some c
  cab:∀ x c,X.fn x=true→X.env.cells.lookup x=some c→X.s₀.heap.objs.size≤c
  hd:X.calm=true→X.A.handled=none
  frames:X.A.frames=some X.stack
  stk:X.stack=X.outer∨(X.stack=X.env::X.outer∧X.env.frame=some X.env.locals)
  exf:∀ b∈X.ex,b≠X.env.locals∧∀ x c,X.env.cells.lookup x=some c→c≠b
  bs:∀ b o,X.base.get? b=some o→X.s₀.heap.get? b=some o∧X.H₀ b=none
  bsz:X.base.objs.size≤X.s₀.heap.objs.size
  noex:∀ b o,X.base.get? b=some o→b∉X.ex
  exfs:∀ b∈X.ex,b∉X.fs
  iQ:X.s₀.heap.FunFrames X.base X.outer
  frf:∀ b∈X.fs,X.H₀ b=none
structure Inv (X:Cx) (pins:List (Addr×Obj)) (σ : List (Option V)) (H:Hp) (s:Shared):Prop where
  ok:X.Ok
  os:s.os=X.s₀.os
  bare:AllBare s.gens
  base:Un X.fs X.ex X.H₀ H X.s₀.heap s.heap
  loc:∃ m,s.heap.Ns X.env.locals m∧∀ (i:Nat) (x:Str) (v:V),X.N[i]?=some x→σ[i]?=some (some v)→Vis X.env.scope x→∃ u,RelV v u∧Look X.env s.heap m x u
  cell:∀ x c,X.env.cells.lookup x=some c→∃ v,s.heap.IsCell c v
  free:H X.env.locals=none
  freeC:∀ x c,X.env.cells.lookup x=some c→H c=none
  pin:∀ p∈X.pn++pins,s.heap.get? p.1=some p.2∧H p.1=none∧p.1≠X.env.locals∧p.1∉X.fs∧∀ v,p.2.data≠.cell v
  hok:HOk X.prog X.w H s.heap
  len : σ.length=X.N.length
section
variable {X:Cx} {pins:List (Addr×Obj)} {σ : List (Option V)} {H H':Hp} {s:Shared} {h':Heap}
theorem Cx.Ok.LL (ok:X.Ok) {b:Addr} {o:Obj} (e:X.base.get? b=some o):b∉X.fs:=fun hb=>by
  have:=(ok.iQ.mem hb).1
  rw [e] at this;cases this
theorem Inv.bs (I:Inv X pins σ H s):∀ b o,X.base.get? b=some o→s.heap.get? b=some o∧H b=none:=fun b o e=>
  ⟨I.base.keep b o (I.ok.bs b o e).1 (I.ok.bs b o e).2 (I.ok.LL e) (I.ok.noex b o e),I.base.free b o (I.ok.bs b o e).1 (I.ok.bs b o e).2 (I.ok.noex b o e)⟩
theorem Inv.bk (I:Inv X pins σ H s):∀ b o,X.base.get? b=some o→s.heap.get? b=some o:=fun b o e=>(I.bs b o e).1
theorem Inv.mod (I:Inv X pins σ H s):Mod X.K X.mg X.base:=I.ok.mod
theorem Inv.kIn (I:Inv X pins σ H s):X.K.In s.heap:=I.ok.mod.kin.keeps I.bk
theorem Inv.lt (I:Inv X pins σ H s):X.env.locals < s.heap.objs.size:=let ⟨_,hn,_⟩:=I.loc;hn.lt
theorem Inv.sz (I:Inv X pins σ H s):X.s₀.heap.objs.size≤s.heap.objs.size:=Nq I.ok.above (Nr I.lt)
theorem Inv.Kx (I:Inv X pins σ H s) {a:Addr} (h:s.heap.objs.size≤a):a∉X.fs:=fun hb=>by
  obtain ⟨_,o,ho,_⟩:=I.ok.iQ.mem hb
  exact absurd (M9 (Heap.lt_size ho) (Nq I.sz h)) (Nat.lt_irrefl _)
theorem Inv.cne (I:Inv X pins σ H s):∀ x c,X.env.cells.lookup x=some c→c≠X.env.locals:=fun x c e z=>by
  obtain ⟨v,o,ho,hd⟩:=I.cell x c e
  obtain ⟨m,⟨o',es,ep,ho',hd',_⟩,_⟩:=I.loc
  rw [z,ho'] at ho;cases ho;rw [hd'] at hd;cases hd
theorem Inv.iQ (I:Inv X pins σ H s):s.heap.FunFrames X.base X.outer:=by
  have all:∀ (l:List Env),(∀ b∈frs l,b∈X.fs)→X.s₀.heap.FunFrames X.base l→s.heap.FunFrames X.base l:=by
    intro l
    induction l with
    | nil=>intro _ _;trivial
    | cons env r ih=>
      intro hs hl
      obtain ⟨hk,⟨L,o,hf,hn,ho,hd⟩,hr⟩:=hl
      have hL:L∈X.fs:=hs L (by unfold frs;rw [List.filterMap_cons,hf];exact M7)
      obtain ⟨sl,e⟩:=I.base.slot L o ho (I.ok.frf L hL) hL fun z=>I.ok.exfs L z hL
      exact ⟨hk,⟨L,_,hf,hn,e,hd⟩,ih (fun b hb=>hs b (by unfold frs;rw [List.filterMap_cons,hf];exact M3 _ hb)) hr⟩
  exact all X.outer (fun _ hb=>hb) I.ok.iQ
theorem Inv.stack (I:Inv X pins σ H s):s.heap.FunFrames X.base X.stack:=by
  rcases I.ok.stk with e | ⟨e,hf⟩
  · rw [e];exact I.iQ
  · rw [e]
    obtain ⟨m,hn,_⟩:=I.loc
    refine .cons (by rw [I.ok.kind];decide) hf hn ?_ I.iQ
    exact Heap.get?_none_of_le (Nq I.ok.bsz I.ok.above)
theorem Inv.oN (I:Inv X pins σ H s):∀ b∈frs X.stack,b∈X.env.locals::X.fs:=fun b hb=>by
  rcases I.ok.stk with e | ⟨e,hf⟩
  · rw [e] at hb;exact M3 _ hb
  · rw [e] at hb
    unfold frs at hb
    rw [List.filterMap_cons,hf] at hb
    exact hb
theorem Inv.oO (I:Inv X pins σ H s):∀ b∈frs X.stack,H b=none:=fun b hb=>by
  rcases List.mem_cons.mp (I.oN b hb) with e | hb
  · rw [e];exact I.free
  · obtain ⟨_,o,ho,_⟩:=I.ok.iQ.mem hb
    exact I.base.free b o ho (I.ok.frf b hb) fun z=>I.ok.exfs b z hb
theorem Inv.step {g':Array GenState} {t':Nat} {d':Drawn} {ch:List Addr} (I:Inv X pins σ H s)
    (hch:∀ b∈ch,(b∈X.ex∨X.s₀.heap.objs.size≤b)∧b≠X.env.locals∧(∀ x c,X.env.cells.lookup x=some c→c≠b)∧∀ p∈X.pn++pins,p.1≠b)
    (keep:∀ b o,b≠X.env.locals→b∉X.fs→b∉ch→s.heap.get? b=some o→H b=none→h'.get? b=some o)
    (slot:∀ b o,b≠X.env.locals→b∈X.fs→b∉ch→s.heap.get? b=some o→H b=none→∃ sl,h'.get? b=some { o with slots:=sl }) (free:∀ b o,b∉ch→s.heap.get? b=some o→H b=none→H' b=none)
    (there:∀ b o,b∉ch→s.heap.get? b=some o→∃ o',h'.get? b=some o')
    (tups:∀ b xs,H b=some (.tup xs)→H' b=some (.tup xs)) (iS:∀ b o u,H b=some (.frz o u)→H' b=some (.frz o u)) (i8:∀ b ps,H b=some (.tbl ps)→∃ more,H' b=some (.tbl (ps++more)))
    (ns:∀ m,s.heap.Ns X.env.locals m→h'.Ns X.env.locals m) (hok:HOk X.prog X.w H' h') (hg:AllBare g') :
    Inv X pins σ H' { s with heap:=h',gens:=g',drawn:=d',toks:=t' }:=by
  have neL:∀ b o,X.s₀.heap.get? b=some o→b≠X.env.locals:=fun b o e=>Nu (M9 (Heap.lt_size e) I.ok.above)
  have neC:∀ b o,X.s₀.heap.get? b=some o→b∉X.ex→b∉ch:=fun b o e hx hb=>by
    rcases (hch b hb).1 with z | z
    · exact hx z
    · exact absurd (M9 (Heap.lt_size e) z) (Nat.lt_irrefl _)
  have cellK:∀ x c,X.env.cells.lookup x=some c→∀ v,s.heap.IsCell c v→h'.IsCell c v:=fun x c e v ⟨o,ho,hd⟩=>by
    have nch:c∉ch:=fun z=>(hch c z).2.2.1 x c e rfl
    by_cases hc:c∈X.fs
    · obtain ⟨sl,q⟩:=slot c o (I.cne x c e) hc nch ho (I.freeC x c e)
      exact ⟨_,q,hd⟩
    · exact ⟨o,keep c o (I.cne x c e) hc nch ho (I.freeC x c e),hd⟩
  refine ⟨I.ok,I.os,hg,⟨fun b o e n hb hx=>?_,fun b o e n hb hx=>?_,fun b o e n hx=>?_,fun b o e hx=>?_,fun b xs e=>tups b xs (I.base.tups b xs e),fun b o xs e=>iS b o xs (I.base.iS b o xs e),fun b ps e=>?_⟩,?_,fun x c e=>?_,?_,fun x c e=>?_,fun p hp=>?_,hok,I.len⟩
  · exact keep b o (neL b o e) hb (neC b o e hx) (I.base.keep b o e n hb hx) (I.base.free b o e n hx)
  · obtain ⟨sl,e1⟩:=I.base.slot b o e n hb hx
    obtain ⟨sl',e2⟩:=slot b _ (neL b o e) hb (neC b o e hx) e1 (I.base.free b o e n hx)
    exact ⟨sl',e2⟩
  · obtain ⟨o',e1⟩:=I.base.there b o e hx
    exact free b o' (neC b o e hx) e1 (I.base.free b o e n hx)
  · obtain ⟨o',e1⟩:=I.base.there b o e hx
    exact there b o' (neC b o e hx) e1
  · obtain ⟨m1,e1⟩:=I.base.i8 b ps e
    obtain ⟨m2,e2⟩:=i8 b _ e1
    exact ⟨m1++m2,by rw [e2,Array.append_assoc]⟩
  · obtain ⟨m,hn,hl⟩:=I.loc
    refine ⟨m,ns m hn,fun i x v e1 e2 e3=>?_⟩
    obtain ⟨u,r,l⟩:=hl i x v e1 e2 e3
    refine ⟨u,r,?_⟩
    rcases l with l | ⟨k,c,e,z⟩
    · exact .inl l
    · exact .inr ⟨k,c,e,cellK x c e _ z⟩
  · obtain ⟨v,z⟩:=I.cell x c e
    exact ⟨v,cellK x c e v z⟩
  · obtain ⟨m,⟨o,_,_,ho,_⟩,_⟩:=I.loc
    exact free _ o (fun z=>(hch _ z).2.1 rfl) ho I.free
  · obtain ⟨v,o,ho,hd⟩:=I.cell x c e
    exact free c o (fun z=>(hch c z).2.2.1 x c e rfl) ho (I.freeC x c e)
  · obtain ⟨e,n,ne,nf,d⟩:=I.pin p hp
    have nch:p.1∉ch:=fun z=>(hch p.1 z).2.2.2 p hp rfl
    exact ⟨keep p.1 p.2 ne nf nch e n,free p.1 p.2 nch e n,ne,nf,d⟩
theorem Inv.un {t':Nat} (I:Inv X pins σ H s) (u:Un X.fs [] H H' s.heap h') (hok:HOk X.prog X.w H' h'):Inv X pins σ H' { s with heap:=h',toks:=t' }:=by
  obtain ⟨m,⟨o,es,ep,ho,r⟩,_⟩:=id I.loc
  obtain ⟨sl,hL⟩:=u.any ho I.free (by simp)
  exact I.step (g':=s.gens) (d':=s.drawn) (ch:=[]) (fun _ z=>nomatch z) (fun b o _ hb _ e n=>u.keep b o e n hb (by simp)) (fun b o _ hb _ e n=>u.slot b o e n hb (by simp)) (fun b o _ e n=>u.free b o e n (by simp)) (fun b o _ e=>u.there b o e (by simp)) u.tups u.iS u.i8 (fun m' hm=>by
    obtain ⟨o',es',ep',ho',r'⟩:=hm
    rw [ho] at ho';cases ho'
    exact ⟨_,es',ep',hL,r'⟩) hok I.bare
theorem Inv.call {g':Array GenState} {t':Nat} {d':Drawn} {ch:List Addr} (I:Inv X pins σ H s) (u:Un (frs X.stack) ch H H' s.heap h') (hok:HOk X.prog X.w H' h') (hg:AllBare g')
    (hch:∀ b∈ch,(b∈X.ex∨X.s₀.heap.objs.size≤b)∧b≠X.env.locals∧(∀ x c,X.env.cells.lookup x=some c→c≠b)∧∀ p∈X.pn++pins,p.1≠b) :
    Inv X pins σ H' { s with heap:=h',gens:=g',drawn:=d',toks:=t' }:=by
  obtain ⟨m,⟨o,es,ep,ho,r⟩,_⟩:=id I.loc
  obtain ⟨sl,hL⟩:=u.any ho I.free fun z=>(hch _ z).2.1 rfl
  exact I.step (ch:=ch) hch (fun b o hL hb hc e n=>u.keep b o e n (fun z=>(List.mem_cons.mp (I.oN b z)).elim hL hb) hc) (fun b o _ _ hc e n=>u.any e n hc) (fun b o hc e n=>u.free b o e n hc) (fun b o hc e=>u.there b o e hc) u.tups u.iS u.i8 (fun m' hm=>by
    obtain ⟨o',es',ep',ho',r'⟩:=hm
    rw [ho] at ho';cases ho'
    exact ⟨_,es',ep',hL,r'⟩) hok hg
theorem Inv.turned {t':Nat} {it:Addr} (I:Inv X pins σ H s) (k:∀ b o,b≠it→s.heap.get? b=some o→h'.get? b=some o) (hn:H it=none) (hL:it≠X.env.locals)
    (h1:it∈X.ex∨X.s₀.heap.objs.size≤it) (h2:∀ x c,X.env.cells.lookup x=some c→c≠it) (h3:∀ p∈X.pn++pins,p.1≠it):Inv X pins σ H { s with heap:=h',toks:=t' }:=by
  have nit:∀ b u,H b=some u→b≠it:=fun b u e z=>by rw [z,hn] at e;cases e
  refine I.step (g':=s.gens) (d':=s.drawn) (ch:=[it]) (fun b hb=>?_) (fun b o _ _ hc e _=>k b o (fun z=>hc (by simp [z])) e) (fun b o _ _ hc e _=>⟨o.slots,k b o (fun z=>hc (by simp [z])) e⟩) (fun _ _ _ _ n=>n)
    (fun b o hc e=>⟨o,k b o (fun z=>hc (by simp [z])) e⟩) (fun _ _ e=>e) (fun _ _ _ e=>e) (fun b ps e=>⟨#[],by rw [e];simp⟩) (fun m hm=>?_) (fun b u e=>?_) I.bare
  · have e:b=it:=by simpa using hb
    subst e
    exact ⟨h1,hL,h2,h3⟩
  · obtain ⟨o,es,ep,ho,r⟩:=hm
    exact ⟨o,es,ep,k _ o (Ne.symm hL) ho,r⟩
  · refine (I.hok b u e).stay (fun c v hc q=>k c v ?_ q) (fun _ q=>q) fun _ _ q=>q
    rcases hc with z | z
    · rw [z];exact nit b u e
    · exact nit c _ z
theorem Inv.tok (I:Inv X pins σ H s) (t:Nat):Inv X pins σ H { s with toks:=t }:=I.un (h':=s.heap) (t':=t) Un.refl I.hok
theorem Inv.kept {t':Nat} (I:Inv X pins σ H s) (k:∀ b u,s.heap.get? b=some u→h'.get? b=some u):Inv X pins σ H { s with heap:=h',toks:=t' }:=I.un (Un.kept k) (I.hok.kept k)
theorem Inv.laid {a:Addr} {o:HO} {t':Nat} (I:Inv X pins σ H s) (k:∀ b u,s.heap.get? b=some u→h'.get? b=some u) (hp:s.heap.objs.size≤a) (new:bP X.prog X.w (upd H a o) h' a o) :
    Inv X pins σ (upd H a o) { s with heap:=h',toks:=t' }:=I.un (Un.laid k hp (I.hok.fresh hp)) (I.hok.laid k hp new)
theorem Inv.write {x e:Addr} {o:HO} {t':Nat} (I:Inv X pins σ H s) (mu:Mut (H x)) (he:e=x∨H e=some (.own x)) (k:∀ b u,b≠e→s.heap.get? b=some u→h'.get? b=some u) (heo:∃ u,h'.get? e=some u)
    (new:bP X.prog X.w (upd H x o) h' x o):Inv X pins σ (upd H x o) { s with heap:=h',toks:=t' }:=I.un (Un.write mu he k heo) (I.hok.write mu he k heo new)
theorem Inv.kN {lu:List (Addr×Obj)} (I:Inv X pins σ H s) (h:∀ p∈lu,s.heap.get? p.1=some p.2∧H p.1=none∧p.1≠X.env.locals∧p.1∉X.fs∧∀ v,p.2.data≠.cell v):Inv X lu σ H s:=
  ⟨I.ok,I.os,I.bare,I.base,I.loc,I.cell,I.free,I.freeC,fun p hp=>(List.mem_append.mp hp).elim (fun z=>I.pin p (List.mem_append_left _ z)) (h p),I.hok,I.len⟩
theorem rX {N:List Str} (hN:N.Nodup) {i j:Nat} {x:Str} (a:N[i]?=some x) (b:N[j]?=some x):i=j:=by
  obtain ⟨h1,e1⟩:=List.getElem?_eq_some_iff.mp a
  obtain ⟨h2,e2⟩:=List.getElem?_eq_some_iff.mp b
  exact (List.getElem_inj hN).mp (e1.trans e2.symm)
theorem nu {M:Model} {A:Around} {E:Value→Shared→Prop} {i:Nat} {x:Str} {v:V} {u:Value} {Q:Unit→Shared→Prop} (I:Inv X pins σ H s) (hN:X.N.Nodup) (hi:X.N[i]?=some x) (hx:Loc X.env.scope x) (r:RelV v u)
    (h:∀ s',Inv X pins (σ.set i (some v)) H s'→(∃ a,Heap.SameBut a s.heap s'.heap∧(a=X.env.locals∨X.env.cells.lookup x=some a))→Q () s') (hf:X.fn x=true∨X.env.scope.names.lookup x=some .local:=by first | exact .inl rfl | exact .inr rfl | assumption):wpAny M A (storeName X.env x u) Q E s:=by
  obtain ⟨m,hn,hl⟩:=id I.loc
  have hcls:(X.env.scope.kind == .class || (X.env.scope.kind == .module && X.env.locals != X.env.globals))=false:=by rw [I.ok.kind];rfl
  have hiσ : i < σ.length:=by rw [I.len];exact (List.getElem?_eq_some_iff.mp hi).1
  have cne:=I.cne
  have tracked:∀ {a:Addr} {h':Heap},(∃ o,s.heap.get? a=some o∧H a=none)→Heap.SameBut a s.heap h'→HOk X.prog X.w H h':=fun {a h'} ha hs b ob e=>by
    obtain ⟨_,_,hfree⟩:=ha
    refine (I.hok b ob e).stay (fun c w' hc q=>(hs.2 c ?_).trans q) (fun _ q=>q) fun _ _ q=>q
    rintro rfl
    rcases hc with rfl | hc
    · rw [hfree] at e;cases e
    · rw [hfree] at hc;cases hc
  rcases hx with hk | hk
  · refine wpAny_storeName_local hk hn (fun h' hn' hs=>?_) hcls
    obtain ⟨oL,_,_,hoL,_⟩:=id hn
    refine h _ ⟨I.ok,I.os,I.bare,⟨fun b o e n hb hx=>?_,fun b o e n hb hx=>?_,I.base.free,fun b o e hx=>?_,I.base.tups,I.base.iS,I.base.i8⟩,⟨_,hn',fun j y v' e1 e2 e3=>?_⟩,fun y c e=>?_,I.free,I.freeC,fun p hp=>?_,tracked ⟨oL,hoL,I.free⟩ hs,by simpa using I.len⟩ ⟨_,hs,.inl rfl⟩
    · exact (hs.2 b (Nu (M9 (Heap.lt_size e) I.ok.above))).trans (I.base.keep b o e n hb hx)
    · obtain ⟨sl,e1⟩:=I.base.slot b o e n hb hx
      exact ⟨sl,(hs.2 b (Nu (M9 (Heap.lt_size e) I.ok.above))).trans e1⟩
    · obtain ⟨o',e1⟩:=I.base.there b o e hx
      exact ⟨o',(hs.2 b (Nu (M9 (Heap.lt_size e) I.ok.above))).trans e1⟩
    · by_cases hj:j=i
      · subst hj
        rw [hi] at e1;cases e1
        rw [MV hiσ] at e2
        cases e2
        exact ⟨u,r,.inl ⟨hk,by simp⟩⟩
      · rw [List.getElem?_set_ne (Ne.symm hj)] at e2
        obtain ⟨u',r',q⟩:=hl j y v' e1 e2 e3
        refine ⟨u',r',?_⟩
        rcases q with ⟨k,e⟩ | ⟨k,c,e,z⟩
        · refine .inl ⟨k,?_⟩
          have:y≠x:=fun e=>hj (rX hN e1 (e▸hi))
          simp [this,e]
        · exact .inr ⟨k,c,e,z.sameBut hs (cne y c e)⟩
    · obtain ⟨w',z⟩:=I.cell y c e
      exact ⟨w',z.sameBut hs (cne y c e)⟩
    · obtain ⟨e,n,ne,nf,d⟩:=I.pin p hp
      exact ⟨(hs.2 p.1 ne).trans e,n,ne,nf,d⟩
  · have hfn:X.fn x=true:=by
      rcases hf with z | z
      · exact z
      · rw [z] at hk;cases hk
    obtain ⟨c,hc⟩:=I.ok.has x (.inl hk)
    obtain ⟨w',z⟩:=I.cell x c hc
    refine wpAny_storeName_cell I.ok.kind hk hc z (fun h' hc' hs=>?_)
    obtain ⟨oc,hoc,hocd⟩:=id z
    refine h { s with heap:=h' } ⟨I.ok,I.os,I.bare,⟨fun b o e n hb hx=>?_,fun b o e n hb hx=>?_,I.base.free,fun b o e hx=>?_,I.base.tups,I.base.iS,I.base.i8⟩,⟨m,hn.sameBut hs (Ne.symm (cne x c hc)),fun j y v' e1 e2 e3=>?_⟩,fun y c' e=>?_,I.free,I.freeC,fun p hp=>?_,tracked ⟨oc,hoc,I.freeC x c hc⟩ hs,by simpa using I.len⟩ ⟨c,hs,.inr hc⟩
    · exact (hs.2 b (Nu (M9 (Heap.lt_size e) (I.ok.cab x c hfn hc)))).trans (I.base.keep b o e n hb hx)
    · obtain ⟨sl,e1⟩:=I.base.slot b o e n hb hx
      exact ⟨sl,(hs.2 b (Nu (M9 (Heap.lt_size e) (I.ok.cab x c hfn hc)))).trans e1⟩
    · obtain ⟨o',e1⟩:=I.base.there b o e hx
      exact ⟨o',(hs.2 b (Nu (M9 (Heap.lt_size e) (I.ok.cab x c hfn hc)))).trans e1⟩
    · by_cases hj:j=i
      · subst hj
        rw [hi] at e1;cases e1
        rw [MV hiσ] at e2
        cases e2
        exact ⟨u,r,.inr ⟨.inl hk,c,hc,hc'⟩⟩
      · rw [List.getElem?_set_ne (Ne.symm hj)] at e2
        obtain ⟨u',r',q⟩:=hl j y v' e1 e2 e3
        refine ⟨u',r',?_⟩
        rcases q with q | ⟨k,c',e,z'⟩
        · exact .inl q
        · refine .inr ⟨k,c',e,z'.sameBut hs ?_⟩
          rintro rfl
          exact hj (rX hN e1 (I.ok.inj _ _ _ e hc▸hi))
    · by_cases hcc:c'=c
      · subst hcc;exact ⟨_,hc'⟩
      · obtain ⟨w2,z2⟩:=I.cell y c' e
        exact ⟨w2,z2.sameBut hs hcc⟩
    · obtain ⟨e,n,ne,nf,d⟩:=I.pin p hp
      refine ⟨(hs.2 p.1 ?_).trans e,n,ne,nf,d⟩
      intro q
      rw [q,hoc] at e
      have q':oc=p.2:=Nm e
      exact d w' (by rw [← q'];exact hocd)
theorem qH {M:Model} {A:Around} {E:Value→Shared→Prop} {i:Nat} {x:Str} {v:V} {u:Value} {Q:Unit→Shared→Prop} (I:Inv X pins σ H s) (hN:X.N.Nodup) (hi:X.N[i]?=some x) (hx:Loc X.env.scope x) (r:RelV v u)
    (h:∀ s',Inv X pins (σ.set i (some v)) H s'→Q () s') (hf:X.fn x=true∨X.env.scope.names.lookup x=some .local:=by first | exact .inl rfl | exact .inr rfl | assumption):wpAny M A (storeName X.env x u) Q E s:=
  nu I hN hi hx r (fun s' I' _=>h s' I') hf
theorem Inv.GG {s':Shared} {ch:List Addr} (I:Inv X pins σ H s) (ho:s'.os=s.os) (u:Un (frs X.stack) ch H H' s.heap s'.heap) (hok:HOk X.prog X.w H' s'.heap) (hg:AllBare s'.gens)
    (hch:∀ b∈ch,(b∈X.ex∨X.s₀.heap.objs.size≤b)∧b≠X.env.locals∧(∀ x c,X.env.cells.lookup x=some c→c≠b)∧∀ p∈X.pn++pins,p.1≠b):Inv X pins σ H' s':=by
  obtain ⟨h',g',d',t',o'⟩:=s'
  have e:o'=s.os:=ho
  subst e
  exact I.call (g':=g') (t':=t') (d':=d') u hok hg hch
end
abbrev XK:=Value→Option Addr→Hp→Prop
abbrev St:=List (Option V)
abbrev VK:=V→Hp→Prop
abbrev TE:=St→Hp→VK→Prop
abbrev TT:=St→Hp→(Bool→Hp→Prop)→Prop
abbrev TA:=St→Hp→(List V→Hp→Prop)→Prop
structure Ends where
  nx:St→Hp→Prop
  rt:VK
  bk:St→Hp→Prop:=fun _ _=>False
  ct:St→Hp→Prop:=fun _ _=>False
abbrev TS:=Ends→St→Hp→Prop
def EP (X:Cx) (pins:List (Addr×Obj)) (σ : St) (Q:VK) (u:Value) (s':Shared):Prop:=∃ v H',Inv X pins σ H' s'∧RelV v u∧Q v H'
def TP (X:Cx) (pins:List (Addr×Obj)) (σ : St) (Q:Bool→Hp→Prop) (b:Bool) (s':Shared):Prop:=∃ H',Inv X pins σ H' s'∧Q b H'
def AP (X:Cx) (pins:List (Addr×Obj)) (σ : St) (Q:List V→Hp→Prop) (us:List Value) (s':Shared):Prop:=∃ vs H',Inv X pins σ H' s'∧Vals vs us∧Q vs H'
def SP (X:Cx) (pins:List (Addr×Obj)) (D:Ends) (f:Flow) (s':Shared):Prop:=
  match f with
  | .next=>∃ σ' H',Inv X pins σ' H' s'∧D.nx σ' H'
  | .brk=>∃ σ' H',Inv X pins σ' H' s'∧D.bk σ' H'
  | .cont=>∃ σ' H',Inv X pins σ' H' s'∧D.ct σ' H'
  | .ret u=>∃ v σ' H',Inv X pins σ' H' s'∧RelV v u∧D.rt v H'
def PE (X:Cx) (e:Expr) (t:TE):Prop:=
  ∀ (pins:List (Addr×Obj)) (s:Shared) (σ : St) (H:Hp) (Q:VK),Inv X pins σ H s→t σ H Q→wpAny (model X.prog X.w) X.A (eval e X.env) (EP X pins σ Q) X.xe s
def PT (X:Cx) (e:Expr) (t:TT):Prop:=
  ∀ (pins:List (Addr×Obj)) (s:Shared) (σ : St) (H:Hp) (Q:Bool→Hp→Prop),Inv X pins σ H s→t σ H Q→wpAny (model X.prog X.w) X.A (isTrue e X.env (eval e X.env)) (TP X pins σ Q) X.xe s
def PW (X:Cx) (e:Expr) (t:TT):Prop:=
  ∀ (whole:Sem Value) (pins:List (Addr×Obj)) (s:Shared) (σ : St) (H:Hp) (Q:Bool→Hp→Prop),Inv X pins σ H s→t σ H Q→wpAny (model X.prog X.w) X.A (isTrue e X.env whole) (TP X pins σ Q) X.xe s
theorem PW.pt {X:Cx} {e:Expr} {t:TT} (h:PW X e t):PT X e t:=h _
def PA (X:Cx) (es:List Expr) (t:TA):Prop:=
  ∀ (pos:Pos) (pins:List (Addr×Obj)) (s:Shared) (σ : St) (H:Hp) (Q:List V→Hp→Prop),Inv X pins σ H s→t σ H Q→wpAny (model X.prog X.w) X.A (spliced (backTo pos (starEach es X.env))) (AP X pins σ Q) X.xe s
def PS (X:Cx) (st:Stmt) (t:TS):Prop:=
  ∀ (pins:List (Addr×Obj)) (s:Shared) (σ : St) (H:Hp) (D:Ends),Inv X pins σ H s→t D σ H→wpAny (model X.prog X.w) X.A (exec st X.env) (SP X pins D) X.xe s
def PSs (X:Cx) (st:List Stmt) (t:TS):Prop:=
  ∀ (pins:List (Addr×Obj)) (s:Shared) (σ : St) (H:Hp) (D:Ends),Inv X pins σ H s→t D σ H→wpAny (model X.prog X.w) X.A (execs st X.env) (SP X pins D) X.xe s
theorem thn {α : Type} {t:Sem α} {Q Q' : α→Shared→Prop} {M:Model} {A:Around} {E:Value→Shared→Prop} {s:Shared} (h:wpAny M A t Q E s) (hQ:∀ a s,Q a s→Q' a s):wpAny M A t Q' E s:=wpAny_mono h hQ fun _ _ x=>x
section
variable {X:Cx}
def GO (i:Nat):TE:=fun σ H Q=>∃ v,σ[i]?=some (some v)∧Q v H
def tC (v:V):TE:=fun _ H Q=>Q v H
theorem G1 {i:Nat} {x:Str} {pos:Pos} (hN:X.N[i]?=some x) (hv:Vis X.env.scope x) (hd:(x == ("__debug__" : Str))=false:=by decide) (hcd:(x == ("__classdict__" : Str))=false:=by decide):PE X (.Name x pos) (GO i):=by
  intro pins s σ H Q I h
  obtain ⟨v,e,h⟩:=h
  obtain ⟨m,hn,hl⟩:=I.loc
  obtain ⟨u,r,l⟩:=hl i x v hN e hv
  have fin:EP X pins σ Q u s:=⟨v,H,I,r,h⟩
  rcases l with ⟨hk,hm⟩ | ⟨hk,c,hc,hcell⟩
  · exact wpAny_Name (wpAny_loadName_local I.ok.kind hk hn hm fin) hd
  · rcases hk with hk | hk
    · exact wpAny_Name (wpAny_loadName_cell I.ok.kind hk hc hcell fin) hd
    · exact wpAny_Name (wpAny_loadName_free I.ok.kind hk hc hcell fin hcd) hd
theorem ai {i j pos}:PE X (.Constant (.int i) j pos) (tC (.int i)):=fun _ _ _ H _ I h=>wpAny_Constant_int ⟨.int i,H,I.tok _,⟨_,rfl⟩,h⟩
theorem eu {b j pos}:PE X (.Constant (.bool b) j pos) (tC (.bl b)):=fun _ _ _ H _ I h=>Constant_bool ⟨.bl b,H,I,rfl,h⟩
theorem pH {j pos}:PE X (.Constant .none j pos) (tC .non):=fun _ _ _ H _ I h=>Constant_none ⟨.non,H,I,rfl,h⟩
theorem bB {x j pos}:PE X (.Constant (.str x) j pos) (tC (.str x)):=fun _ _ _ H _ I h=>Calls.Constant_str ⟨.str x,H,I.tok _,⟨_,rfl⟩,h⟩
def Gl (X:Cx) (x:Str):Prop:=X.env.kindOf x=some .globalImplicit
theorem eG {E:Value→Shared→Prop} {pins:List (Addr×Obj)} {s:Shared} {σ : St} {H:Hp} {x:Str} {u:Value} {pos:Pos} {Q:Value→Shared→Prop} (I:Inv X pins σ H s) (hg:Gl X x) (hm:X.mg x=some u) (h:Q u s)
    (hd:(x == ("__debug__" : Str))=false:=by decide):wpAny (model X.prog X.w) X.A (eval (.Name x pos) X.env) Q E s:=
  Calls.Name_function_global I.ok.kind hg (Calls.loadGlobal_global (by rw [I.ok.glob];exact I.mod.glob.keeps I.bk) hm h) hd
theorem fm {E:Value→Shared→Prop} {pins:List (Addr×Obj)} {s:Shared} {σ : St} {H:Hp} {x:Str} {u:Value} {pos:Pos} {Q:Value→Shared→Prop} (I:Inv X pins σ H s) (hg:Gl X x) (hm:X.mg x=none) (hv:bootBuiltins x=some u) (h:Q u s)
    (hn:x ≠ "__name__" := by decide) (hd:(x == ("__debug__" : Str))=false:=by decide):wpAny (model X.prog X.w) X.A (eval (.Name x pos) X.env) Q E s:=by
  obtain ⟨mb,h1,h2⟩:=I.mod.blt
  exact Calls.Name_function_global I.ok.kind hg (Calls.loadGlobal_builtin (by rw [I.ok.glob];exact I.mod.glob.keeps I.bk) hm (by rw [I.ok.blt];exact h1.keeps I.bk) ((h2 x hn).trans hv) h) hd
theorem DZ {x:Str} {v:V} {u:Value} {pos:Pos} (hg:Gl X x) (hm:X.mg x=some u) (r:RelV v u) (hd:(x == ("__debug__" : Str))=false:=by decide):PE X (.Name x pos) (tC v):=
  fun _ _ _ H _ I h=>eG I hg hm ⟨v,H,I,r,h⟩ hd
theorem pJ {x:Str} {v:V} {u:Value} {pos:Pos} (hg:Gl X x) (hm:X.mg x=none) (hv:bootBuiltins x=some u) (r:RelV v u) (hn:x ≠ "__name__" := by decide) (hd:(x == ("__debug__" : Str))=false:=by decide):PE X (.Name x pos) (tC v):=
  fun _ _ _ H _ I h=>fm I hg hm hv ⟨v,H,I,r,h⟩ hn hd
variable {a b:Expr} {ta tb:TE} {pos:Pos}
def PC (X:Cx) (op:CmpOp) (a b:Expr) (t:TE):Prop:=
  ∀ (pins:List (Addr×Obj)) (s:Shared) (σ : St) (H:Hp) (Q:VK),Inv X pins σ H s→t σ H Q →
    wpAny (model X.prog X.w) X.A (eval a X.env) (fun v s₁=>wpAny (model X.prog X.w) X.A (eval b X.env) (fun u s₂=>wpAny (model X.prog X.w) X.A (compareOp op v u) (EP X pins σ Q) X.xe s₂) X.xe s₁) X.xe s
theorem rY (b:Expr) {op:CmpOp} (h:op≠.In) (h2:op≠.NotIn):behindInMarks op b=false:=by
  have e1:(op == CmpOp.In)=false:=by cases op <;> first | rfl | exact absurd rfl h
  have e2:(op == CmpOp.NotIn)=false:=by cases op <;> first | rfl | exact absurd rfl h2
  cases b <;> simp [behindInMarks,e1,e2]
def JR (ta:TE):TE:=fun σ H Q=>ta σ H fun x H1=>Q (.bl (decide (x = .non))) H1
def F3 (ta:TE):TE:=fun σ H Q=>ta σ H fun x H1=>Q (.bl (!decide (x = .non))) H1
theorem RelV.rW {x:V} {v:Value} (r:RelV x v):(v == Value.none)=decide (x = .non):=by
  cases x with
  | non=>cases r;rfl
  | bl _=>cases r;rfl
  | int _=>obtain ⟨t,rfl⟩:=r;rfl
  | str _=>obtain ⟨t,rfl⟩:=r;rfl
  | byt _=>obtain ⟨t,rfl⟩:=r;rfl
  | flt _=>obtain ⟨t,rfl⟩:=r;rfl
  | ref _=>cases r;rfl
  | ty _=>cases r;rfl
theorem iJ {j pos'} (ha:PE X a ta):PC X .Is a (.Constant .none j pos') (JR ta):=by
  intro pins s σ H Q I h
  refine thn (ha pins s σ H _ I h) fun v s1 ⟨x,H1,I1,r1,q1⟩=>?_
  exact Constant_none (is_none_gen ⟨.bl _,H1,I1,by rw [r1.rW];rfl,q1⟩)
theorem wV {j pos'} (ha:PE X a ta):PC X .IsNot a (.Constant .none j pos') (F3 ta):=by
  intro pins s σ H Q I h
  refine thn (ha pins s σ H _ I h) fun v s1 ⟨x,H1,I1,r1,q1⟩=>?_
  exact Constant_none (isnot_none_gen ⟨.bl _,H1,I1,by rw [r1.rW];rfl,q1⟩)
def tB (t:TE):TT:=fun σ H Q=>t σ H fun x H1=>∃ c,x = .bl c∧Q c H1
theorem G5 {op:CmpOp} {t:TE} (h:PC X op a b t) (h1:behindInMarks op b=false:=by first | exact rY _ (by decide) (by decide) | rfl):PE X (.Compare a [op] [b] pos) t:=fun pins s σ H Q I hw=>wpAny_Compare1 (h pins s σ H Q I hw) h1
theorem gy {op:CmpOp} {t:TE} (h:PC X op a b t) (h1:behindInMarks op b=false:=by first | exact rY _ (by decide) (by decide) | rfl):PT X (.Compare a [op] [b] pos) (tB t):=by
  intro pins s σ H Q I hw
  refine wpAny_isTrue_Compare1 (thn (h pins s σ H _ I hw) fun v s1 h1=>thn h1 fun u s2 h2=>thn h2 fun c s3 ⟨x,H1,I1,r1,q1⟩=>?_) h1
  obtain ⟨d,rfl,q⟩:=q1
  cases r1
  exact wpAny_truthy_bool ⟨H1,I1,q⟩
theorem cj {e:Expr} {t:TE} (h:PE X e t) (he:∀ whole,isTrue e X.env whole=(do let v ← whole;standAt e.pos;holding [v] (truthy v)):=by intro _;rfl):PT X e (tB t):=by
  intro pins s σ H Q I hw
  refine isTrue_plain (thn (h pins s σ H _ I hw) fun v s1 ⟨x,H1,I1,r1,q1⟩=>?_) (he _)
  obtain ⟨d,rfl,q⟩:=q1
  cases r1
  exact wpAny_truthy_bool ⟨H1,I1,q⟩
variable {tA tB':TT} {rest:List Expr}
def JW (t u:TT):TT:=fun σ H Q=>t σ H fun c H1=>if c=true then u σ H1 Q else Q false H1
def tOr (t u:TT):TT:=fun σ H Q=>t σ H fun c H1=>if c=true then Q true H1 else u σ H1 Q
def JP (t:TT):TT:=fun σ H Q=>t σ H fun c H1=>Q (!c) H1
theorem fU (ha:PT X a tA):PW X (.BoolOp .And [a] pos) tA:=by
  intro wh pins s σ H Q I h
  refine isTrue_and (thn (ha pins s σ H Q I h) fun c s1 e=>?_)
  cases c with
  | true=>exact isTrue_and_nil e
  | false=>exact e
theorem pF (ha:PT X a tA):PW X (.BoolOp .Or [a] pos) tA:=by
  intro wh pins s σ H Q I h
  refine isTrue_or (thn (ha pins s σ H Q I h) fun c s1 e=>?_)
  cases c with
  | false=>exact isTrue_or_nil e
  | true=>exact e
theorem iE (ha:PT X a tA) (hb:PW X (.BoolOp .And (b::rest) pos) tB'):PW X (.BoolOp .And (a::b::rest) pos) (JW tA tB'):=by
  intro wh pins s σ H Q I h
  refine isTrue_and (thn (ha pins s σ H _ I h) fun c s1 ⟨H1,I1,q1⟩=>?_)
  cases c with
  | true=>exact hb wh pins s1 σ H1 Q I1 q1
  | false=>exact ⟨H1,I1,q1⟩
theorem wO (ha:PT X a tA) (hb:PW X (.BoolOp .Or (b::rest) pos) tB'):PW X (.BoolOp .Or (a::b::rest) pos) (tOr tA tB'):=by
  intro wh pins s σ H Q I h
  refine isTrue_or (thn (ha pins s σ H _ I h) fun c s1 ⟨H1,I1,q1⟩=>?_)
  cases c with
  | true=>exact ⟨H1,I1,q1⟩
  | false=>exact hb wh pins s1 σ H1 Q I1 q1
theorem dj (ha:PT X a tA):PT X (.UnaryOp .Not a pos) (JP tA):=by
  intro pins s σ H Q I h
  exact isTrue_not (ha pins s σ H (fun c H1=>Q (!c) H1) I h)
def F9 (ta tb:TE):TE:=fun σ H Q=>ta σ H fun x H1=>∃ c,x = .bl c∧if c=true then tb σ H1 Q else Q (.bl false) H1
def F2 (ta:TE):TE:=fun σ H Q=>ta σ H fun x H1=>∃ c,x = .bl c∧Q (.bl (!c)) H1
theorem iH {op} {t:TE} (h:PE X a t):PE X (.BoolOp op [a] pos) t:=fun pins s σ H Q I hw=>BoolOp_one (h pins s σ H Q I hw)
theorem iI (ha:PE X a ta) (hb:PE X (.BoolOp .And (b::rest) pos) tb):PE X (.BoolOp .And (a::b::rest) pos) (F9 ta tb):=by
  intro pins s σ H Q I h
  refine BoolOp_and (thn (ha pins s σ H _ I h) fun v s1 ⟨x,H1,I1,r1,q1⟩=>?_)
  obtain ⟨c,rfl,q1⟩:=q1
  cases r1
  refine wpAny_truthy_bool ?_
  cases c with
  | true=>exact hb pins s1 σ H1 Q I1 q1
  | false=>exact ⟨.bl false,H1,I1,rfl,q1⟩
theorem G3 (ha:PE X a ta):PE X (.UnaryOp .Not a pos) (F2 ta):=by
  intro pins s σ H Q I h
  refine UnaryOp_ (thn (ha pins s σ H _ I h) fun v s1 ⟨x,H1,I1,r1,q1⟩=>?_)
  obtain ⟨c,rfl,q1⟩:=q1
  cases r1
  exact not_of (wpAny_truthy_bool ⟨.bl (!c),H1,I1,rfl,q1⟩)
def tIf (t:TT) (ta tb:TE):TE:=fun σ H Q=>t σ H fun c H1=>if c=true then ta σ H1 Q else tb σ H1 Q
theorem eU {c:Expr} (hc:PT X c tA) (ha:PE X a ta) (hb:PE X b tb):PE X (.IfExp c a b pos) (tIf tA ta tb):=by
  intro pins s σ H Q I h
  refine wpAny_IfExp (thn (hc pins s σ H _ I h) fun d s1 ⟨H1,I1,q1⟩=>?_)
  cases d with
  | true=>exact ha pins s1 σ H1 Q I1 q1
  | false=>exact hb pins s1 σ H1 Q I1 q1
end
def SqL (K:PySem.W.Frag) (H:Hp) (a:Addr) (xs:List V):Prop:=
  Rd H a (.lst xs) ∨
    ∃ (o:Obj) (its:Array Value) (n:Nat),K.lookup a=some o∧o.cls = .type "list" ∧ o.dict=none∧o.data = .seq its n∧its.size≤sizeLine∧Vals xs its.toList
def SqT (K:PySem.W.Frag) (H:Hp) (a:Addr) (xs:List V):Prop:=
  Rd H a (.tup xs) ∨
    ∃ (o:Obj) (its:Array Value) (n:Nat),K.lookup a=some o∧o.cls = .type "tuple" ∧ o.data = .seq its n∧its.size≤sizeLine∧Vals xs its.toList
def Ms:Value→Option V
  | .none=>some .non
  | .bool b=>some (.bl b)
  | .int i _=>some (.int i)
  | .str x _=>some (.str x)
  | .bytes b _=>some (.byt b)
  | .float b _=>some (.flt b)
  | .ref a=>some (.ref a)
  | .type n=>some (.ty n)
  | _=>none
theorem RelV.abs {x:V} {u:Value} (r:RelV x u):Ms u=some x:=by
  cases x with
  | non=>cases r;rfl
  | bl _=>cases r;rfl
  | int _=>obtain ⟨t,rfl⟩:=r;rfl
  | str _=>obtain ⟨t,rfl⟩:=r;rfl
  | byt _=>obtain ⟨t,rfl⟩:=r;rfl
  | flt _=>obtain ⟨t,rfl⟩:=r;rfl
  | ref _=>cases r;rfl
  | ty _=>cases r;rfl
theorem RelV.inj {x y:V} {u:Value} (r:RelV x u) (q:RelV y u):x=y:=Nm (r.abs.symm.trans q.abs)
theorem Vals.inj:∀ {xs ys:List V} {us:List Value},Vals xs us→Vals ys us→xs=ys
  | _,_,_,.nil,.nil=>rfl
  | _,_,_,.cons r t,.cons r' t'=>by rw [r.inj r',Vals.inj t t']
section
variable {X:Cx} {pins:List (Addr×Obj)} {σ : St} {H:Hp} {s:Shared} {a:Addr} {xs ys:List V}
theorem SqL.of {K:PySem.W.Frag} (h:H a=some (.lst xs)):SqL K H a xs:=.inl (.inl h)
theorem SqT.of {K:PySem.W.Frag} (h:H a=some (.tup xs)):SqT K H a xs:=.inl (.inl h)
theorem Inv.list (I:Inv X pins σ H s) (h:SqL X.K H a xs):∃ its:List Value,Vals xs its∧PlainL s.heap a its.toArray∧xs.length≤sizeLine:=by
  rcases h with h | ⟨o,its,n,hk,hc,hd,hs,hz,r⟩
  · obtain ⟨z,its,n,r,e⟩:=h.ok I.hok
    exact ⟨its,r,⟨_,n,e,rfl,rfl,rfl⟩,z⟩
  · refine ⟨its.toList,r,⟨o,n,I.kIn a o hk,hc,hd,by simpa using hs⟩,?_⟩
    have e:=r.length
    simp only [Array.length_toList] at e
    omega
theorem Inv.tuple (I:Inv X pins σ H s) (h:SqT X.K H a xs):∃ its:List Value,Vals xs its∧IsTup s.heap a its.toArray∧xs.length≤sizeLine:=by
  rcases h with h | ⟨o,its,n,hk,hc,hs,hz,r⟩
  · obtain ⟨z,its,r,p⟩:=h.ok I.hok
    exact ⟨its,r,p,z⟩
  · refine ⟨its.toList,r,⟨o,I.kIn a o hk,hc,n,by simpa using hs⟩,?_⟩
    have e:=r.length
    simp only [Array.length_toList] at e
    omega
theorem Inv.lF (I:Inv X pins σ H s) (h:SqL X.K H a xs) (h':SqL X.K H a ys):xs=ys:=by
  obtain ⟨its,r,⟨o,n,e,_,_,d⟩,_⟩:=I.list h
  obtain ⟨its',r',⟨o',n',e',_,_,d'⟩,_⟩:=I.list h'
  rw [e] at e';cases e'
  rw [d] at d'
  injection d' with d1 _
  have:its=its':=by simpa using congrArg Array.toList d1
  subst this
  exact r.inj r'
theorem Inv.nj (I:Inv X pins σ H s) (h:SqT X.K H a xs) (h':SqT X.K H a ys):xs=ys:=by
  obtain ⟨its,r,⟨o,e,_,n,d⟩,_⟩:=I.tuple h
  obtain ⟨its',r',⟨o',e',_,n',d'⟩,_⟩:=I.tuple h'
  rw [e] at e';cases e'
  rw [d] at d'
  injection d' with d1 _
  have:its=its':=by simpa using congrArg Array.toList d1
  subst this
  exact r.inj r'
end
abbrev Cx.iC (X:Cx) (E:Value→Shared→Prop):Cx:={ X with xe:=E }
abbrev Cx.nox (X:Cx):Cx:=X.iC fun _ _=>False
theorem Cx.Ok.iC {X:Cx} (ok:X.Ok) (E:Value→Shared→Prop):(X.iC E).Ok:=
  ⟨ok.mod,ok.kind,ok.glob,ok.blt,ok.above,ok.inj,ok.has,ok.cab,ok.hd,ok.frames,ok.stk,ok.exf,ok.bs,ok.bsz,ok.noex,ok.exfs,ok.iQ,ok.frf⟩
theorem Cx.Ok.c6 {X:Cx} {E:Value→Shared→Prop} (ok:(X.iC E).Ok):X.Ok:=
  ⟨ok.mod,ok.kind,ok.glob,ok.blt,ok.above,ok.inj,ok.has,ok.cab,ok.hd,ok.frames,ok.stk,ok.exf,ok.bs,ok.bsz,ok.noex,ok.exfs,ok.iQ,ok.frf⟩
section
variable {X:Cx} {pins:List (Addr×Obj)} {σ : St} {H:Hp} {s:Shared} {E:Value→Shared→Prop}
theorem Inv.iC (I:Inv X pins σ H s) (E:Value→Shared→Prop):Inv (X.iC E) pins σ H s:=⟨I.ok.iC E,I.os,I.bare,I.base,I.loc,I.cell,I.free,I.freeC,I.pin,I.hok,I.len⟩
theorem Inv.c6 (I:Inv (X.iC E) pins σ H s):Inv X pins σ H s:=⟨I.ok.c6,I.os,I.bare,I.base,I.loc,I.cell,I.free,I.freeC,I.pin,I.hok,I.len⟩
theorem SP.c6 {D:Ends} {f:Flow} {s':Shared} (h:SP (X.iC E) pins D f s'):SP X pins D f s':=by
  cases f with
  | next=>obtain ⟨σ',H',I,q⟩:=h;exact ⟨σ',H',I.c6,q⟩
  | brk=>obtain ⟨σ',H',I,q⟩:=h;exact ⟨σ',H',I.c6,q⟩
  | cont=>obtain ⟨σ',H',I,q⟩:=h;exact ⟨σ',H',I.c6,q⟩
  | ret u=>obtain ⟨v,σ',H',I,r,q⟩:=h;exact ⟨v,σ',H',I.c6,r,q⟩
theorem PSs.nox {st:List Stmt} {t:TS} (h:PSs X.nox st t):PSs X st t:=fun pins s σ H D I hw=>
  wpAny_mono (h pins s σ H D (I.iC _) hw) (fun _ _ q=>q.c6) fun _ _ z=>False.elim z
end
section
variable {X:Cx} {st:Stmt} {rest:List Stmt} {t u:TS} {e:Expr} {te:TE} {pos:Pos}
def F4:TS:=fun D σ H=>D.nx σ H
def GQ (t u:TS):TS:=fun D σ H=>t { D with nx:=u D } σ H
theorem aJ:PSs X [] F4:=fun _ _ σ H _ I h=>wpAny_execs_nil ⟨σ,H,I,h⟩
theorem ak (h1:PS X st t) (h2:PSs X rest u):PSs X (st::rest) (GQ t u):=by
  intro pins s σ H D I h
  refine wpAny_execs_cons (thn (h1 pins s σ H { D with nx:=u D } I h) fun f s1 q=>?_)
  cases f with
  | next=>
    obtain ⟨σ',H',I',q⟩:=q
    exact h2 pins s1 σ' H' D I' q
  | ret v=>exact q
  | brk=>exact q
  | cont=>exact q
theorem ao (h1:PS X st t):PSs X [st] t:=by
  intro pins s σ H D I h
  refine wpAny_execs_cons (thn (h1 pins s σ H D I h) fun f s1 q=>?_)
  cases f with
  | next=>exact wpAny_execs_nil q
  | ret v=>exact q
  | brk=>exact q
  | cont=>exact q
theorem Inv.quiet {pins:List (Addr×Obj)} {σ : St} {H:Hp} {s:Shared} (I:Inv X pins σ H s):interactive X.env=false:=by simp [interactive,I.ok.kind]
def F7 (te:TE):TS:=fun D σ H=>te σ H fun _ H1=>D.nx σ H1
theorem bC (he:PE X e te) (hs:swapsWith e none pos.line X.env=pure false:=by rfl):PS X (.Expr e pos) (F7 te):=by
  intro pins s σ H D I h
  exact wpAny_Expr_any (thn (he pins s σ H _ I h) fun v s1 ⟨x,H1,I1,r1,q1⟩=>⟨σ,H1,I1,q1⟩) I.quiet hs
def JO (te:TE):TS:=fun D σ H=>te σ H D.rt
theorem aB (he:PE X e te):PS X (.Return (some e) pos) (JO te):=by
  intro pins s σ H D I h
  exact wpAny_Return_some (thn (he pins s σ H _ I h) fun v s1 ⟨x,H1,I1,r1,q1⟩=>⟨x,σ,H1,I1,r1,q1⟩)
def JS (c:TT) (t u:TS):TS:=fun D σ H=>c σ H fun b H1=>if b=true then t D σ H1 else u D σ H1
theorem bf {c:Expr} {a b:List Stmt} {tc:TT} (hc:PT X c tc) (ha:PSs X a t) (hb:PSs X b u):PS X (.If c a b pos) (JS tc t u):=by
  intro pins s σ H D I h
  refine wpAny_If (thn (hc pins s σ H _ I h) fun d s1 ⟨H1,I1,q1⟩=>?_)
  cases d with
  | true=>exact ha pins s1 σ H1 D I1 q1
  | false=>exact hb pins s1 σ H1 D I1 q1
def GR:TS:=fun _ _ _=>False
theorem gz:PS X st GR:=fun _ _ _ _ _ _ h=>h.elim
end
abbrev TG:=V→St→Hp→(St→Hp→Prop)→Prop
abbrev TGs:=List V→St→Hp→(St→Hp→Prop)→Prop
def PG (X:Cx) (target:Expr) (t:TG):Prop:=
  ∀ (pins:List (Addr×Obj)) (s:Shared) (σ : St) (H:Hp) (v:V) (u:Value) (Q:St→Hp→Prop),Inv X pins σ H s→RelV v u→t v σ H Q →
    wpAny (model X.prog X.w) X.A (assign target X.env u) (fun _ s'=>∃ σ' H',Inv X pins σ' H' s'∧Q σ' H') X.xe s
def PGs (X:Cx) (ts:List Expr) (t:TGs):Prop:=
  ∀ (pins:List (Addr×Obj)) (s:Shared) (σ : St) (H:Hp) (vs:List V) (us:List Value) (Q:St→Hp→Prop),Inv X pins σ H s→Vals vs us→t vs σ H Q →
    wpAny (model X.prog X.w) X.A (assignInOrder ((assignEach ts X.env).map (·.2)) us) (fun _ s'=>∃ σ' H',Inv X pins σ' H' s'∧Q σ' H') X.xe s
abbrev FO:=V→V→V→Hp→(Hp→Prop)→Prop
def Lq (X:Cx) (t:FO):Prop:=
  ∀ (pins:List (Addr×Obj)) (s:Shared) (σ : St) (H:Hp) (o i v:V) (ov iv u:Value) (Q:Hp→Prop),Inv X pins σ H s→RelV o ov→RelV i iv→RelV v u→t o i v H Q →
    wpAny (model X.prog X.w) X.A (setItem ov iv u) (fun _ s'=>∃ H',Inv X pins σ H' s'∧Q H') X.xe s
section
variable {X:Cx} {pos:Pos}
abbrev bD (i:Nat):TG:=fun v σ H Q=>Q (σ.set i (some v)) H
theorem bu {i:Nat} {x:Str} (hN:X.N.Nodup) (hi:X.N[i]?=some x) (hx:Loc X.env.scope x) (hf:X.fn x=true∨X.env.scope.names.lookup x=some .local:=by first | exact .inl rfl | exact .inr rfl | assumption):PG X (.Name x pos) (bD i):=by
  intro pins s σ H v u Q I r h
  exact wpAny_assign_Name (qH I hN hi hx r (fun s' I'=>⟨_,H,I',h⟩) hf)
def Cc:TGs:=fun vs σ H Q=>vs=[]∧Q σ H
def jr (t:TG) (u:TGs):TGs:=fun vs σ H Q=>∃ v r,vs=v::r∧t v σ H fun σ' H'=>u r σ' H' Q
theorem fh:PGs X [] Cc:=by
  intro pins s σ H vs us Q I r h
  obtain ⟨e,h⟩:=h
  subst e
  cases r
  exact assignInOrder_nil ⟨σ,H,I,h⟩
theorem bL {e:Expr} {es:List Expr} {t:TG} {u:TGs} (h1:PG X e t) (h2:PGs X es u)
    (hs:(assignEach (e::es) X.env).map (·.2)=assign e X.env::(assignEach es X.env).map (·.2):=by rfl):PGs X (e::es) (jr t u):=by
  intro pins s σ H vs us Q I r h
  obtain ⟨v,vr,e1,h⟩:=h
  subst e1
  cases r with
  | cons r rr=>
    rw [hs]
    refine assignInOrder_cons (thn (h1 pins s σ H _ _ _ I r h) fun _ s1 ⟨σ1,H1,I1,q1⟩=>?_)
    exact h2 pins s1 σ1 H1 _ _ Q I1 rr q1
def Cb (K:PySem.W.Frag) (n:Nat) (t:TGs):TG:=fun v σ H Q=>∃ a xs,v = .ref a∧SqT K H a xs∧xs.length=n∧t xs σ H Q
theorem gB {es:List Expr} {k:Nat} {t:TGs} {n:Nat} (hc:X.calm=true) (h:PGs X es t)
    (hn:(assignEach es X.env).length=n:=by rfl) (hst:(assignEach es X.env).findIdx? (·.1)=none:=by rfl):PG X (.Tuple es k pos) (Cb X.K n t):=by
  intro pins s σ H v u Q I r hw
  obtain ⟨a,xs,e1,hq,hl,hw⟩:=hw
  subst e1
  cases r
  obtain ⟨its,rv,ht,hz⟩:=I.tuple hq
  refine assign_Tuple_tuple (I.ok.hd hc) ht (by simp [hn,← hl,rv.length]) hst fun h' hx=>?_
  have I1:Inv X pins σ H { s with heap:=h' }:=I.kept (t':=s.toks) fun b o e=>hx b o (Nu (Heap.lt_size e)) e
  exact h pins _ σ H xs _ Q I1 (by simpa using rv) hw
def Li (to ti:TE) (t:FO):TG:=fun v σ H Q=>to σ H fun o H1=>ti σ H1 fun i H2=>t o i v H2 fun H3=>Q σ H3
theorem iG {o i:Expr} {to ti:TE} {t:FO} (ho:PE X o to) (hi:PE X i ti) (hs:Lq X t)
    (ha:∀ v,assign (.Subscript o i pos) X.env v=(do
      let ov ← holding [v] (eval o X.env)
      let iv ← holding [v,ov] (eval i X.env)
      standAt pos
      holding [v,ov,iv] (setItem ov iv v)
      release [v,ov,iv] []):=by intro _;rfl):PG X (.Subscript o i pos) (Li to ti t):=by
  intro pins s σ H v u Q I r h
  rw [ha]
  refine wpAny_bind (wpAny_holding (thn (ho pins s σ H _ I h) fun ov s1 ⟨x,H1,I1,r1,q1⟩=>?_))
  refine wpAny_bind (wpAny_holding (thn (hi pins s1 σ H1 _ I1 q1) fun iv s2 ⟨y,H2,I2,r2,q2⟩=>?_))
  refine wpAny_bind (wpAny_standAt (wpAny_bind (wpAny_holding (thn (hs pins s2 σ H2 x y v ov iv u _ I2 r1 r2 r q2) fun _ s3 ⟨H3,I3,q3⟩=>?_))))
  exact wpAny_release ⟨σ,H3,I3,q3⟩
def GS (te:TE) (g:TG):TS:=fun D σ H=>te σ H fun x H1=>g x σ H1 D.nx
theorem fW {tg e:Expr} {te:TE} {g:TG} (he:PE X e te) (hg:PG X tg g) (hs:swapsWithSole [tg] e pos.line X.env=pure false:=by rfl) (hw:swappedStores [tg] e X.env=pure none:=by rfl)
    (h1:(assignEach [tg] X.env).map (·.2)=[assign tg X.env]:=by rfl):PS X (.Assign [tg] e pos) (GS te g):=by
  intro pins s σ H D I h
  refine wpAny_Assign_stores (thn (he pins s σ H _ I h) fun v s1 ⟨x,H1,I1,r1,q1⟩=>?_) hs hw
  rw [h1]
  exact thn (hg pins s1 σ H1 x v _ I1 r1 q1) fun _ s2 q=>q
theorem aM {i:Nat} {x:Str} {e:Expr} {te:TE} {pos':Pos} (hN:X.N.Nodup) (hi:X.N[i]?=some x) (hx:Loc X.env.scope x) (he:PE X e te) (hs:swapsWith e (some (.Name x pos')) pos.line X.env=pure false:=by rfl) (hf:X.fn x=true∨X.env.scope.names.lookup x=some .local:=by first | exact .inl rfl | exact .inr rfl | assumption) :
    PS X (.Assign [.Name x pos'] e pos) (GS te (bD i)):=by
  intro pins s σ H D I h
  refine wpAny_Assign_Name (thn (he pins s σ H _ I h) fun v s1 ⟨y,H1,I1,r1,q1⟩=>?_) hs
  exact qH I1 hN hi hx r1 (fun s2 I2=>⟨_,H1,I2,q1⟩) hf
end
structure It where
  go:Nat→Hp→Prop
  yld:Nat→Hp→V→Hp→Prop
  stop:Nat→Hp→Prop
def mF (X:Cx) (pins:List (Addr×Obj)) (H:Hp) (b:Addr):Prop:=
  H b=none∧b≠X.env.locals∧b∉X.fs∧(b∈X.ex∨X.s₀.heap.objs.size≤b)∧(∀ x c,X.env.cells.lookup x=some c→c≠b)∧∀ p∈X.pn++pins,p.1≠b
theorem Inv.Lj {X:Cx} {pins:List (Addr×Obj)} {σ : St} {H H':Hp} {s:Shared} {b:Addr} (I:Inv X pins σ H s) (hb:s.heap.objs.size≤b) (hn:H' b=none):mF X pins H' b:=by
  refine ⟨hn,Nat.ne_of_gt (M9 I.lt hb),I.Kx hb,.inr (Nq I.sz hb),fun x c e z=>?_,fun p hp z=>?_⟩
  · obtain ⟨v,q⟩:=I.cell x c e
    exact absurd (M9 q.lt (by rw [z];exact hb)) (Nat.lt_irrefl _)
  · exact absurd (M9 (Heap.lt_size (I.pin p hp).1) (by rw [z];exact hb)) (Nat.lt_irrefl _)
structure Turn (P:Program) (w:World) (K:PySem.W.Frag) (tg:Expr) (J:It) (fp:List Addr) (it:Addr) (tn:Nat→Heap→Prop):Prop where
  mem:it∈fp
  obj:∀ i h,tn i h→∀ b∈fp,∃ o,h.get? b=some o∧∀ v,o.data≠.cell v
  keep:∀ i h h',tn i h→(∀ b∈fp,∀ o,h.get? b=some o→h'.get? b=some o)→tn i h'
  item:∀ (X:Cx),X.prog=P→X.w=w→X.K=K→X.calm=true→∀ (i:Nat) (pins:List (Addr×Obj)) (s:Shared) (σ : St) (H:Hp) (E:Value→Shared→Prop),Inv X pins σ H s→(∀ b∈fp,mF X pins H b)→tn i s.heap→J.go i H →
    wpAny (model P w) X.A (pyNext (.ref it)) (fun r s1=>∃ u,r=some u ∧
      wpAny (model P w) X.A (letOwnedTupleGo tg (.ref it) u) (fun _ s2=>∃ x H',Inv X pins σ H' s2∧RelV x u∧J.yld i H x H'∧tn (i+1) s2.heap∧∀ b∈fp,H' b=none) E s1) E s
  done:∀ (X:Cx),X.prog=P→X.w=w→X.K=K→X.calm=true→∀ (i:Nat) (pins:List (Addr×Obj)) (s:Shared) (σ : St) (H:Hp) (E:Value→Shared→Prop),Inv X pins σ H s→(∀ b∈fp,mF X pins H b)→tn i s.heap→J.stop i H →
    wpAny (model P w) X.A (pyNext (.ref it)) (fun r s1=>r=none∧Inv X pins σ H s1) E s
  self:∀ (A:Around) (i:Nat) (s:Shared) (Q:Value→Shared→Prop) (E:Value→Shared→Prop),tn i s.heap→Q (.ref it) s→wpAny (model P w) A (pyIter (.ref it)) Q E s
abbrev TI:=St→Hp→(It→Hp→Prop)→Prop
def PIE (X:Cx) (pins:List (Addr×Obj)) (σ : St) (tg:Expr) (R:It→Hp→Prop) (itv:Value) (s2:Shared):Prop:=
  ∃ (it:Addr) (fp:List Addr) (tn:Nat→Heap→Prop) (J:It) (H':Hp),itv = .ref it∧Inv X pins σ H' s2∧Turn X.prog X.w X.K tg J fp it tn∧tn 0 s2.heap∧(∀ b∈fp,mF X pins H' b)∧R J H'
def PI (X:Cx) (tg iter:Expr) (wi:TI):Prop:=
  ∀ (pins:List (Addr×Obj)) (s:Shared) (σ : St) (H:Hp) (R:It→Hp→Prop),Inv X pins σ H s→wi σ H R →
    wpAny (model X.prog X.w) X.A (eval iter X.env) (fun v s1=>wpAny (model X.prog X.w) X.A (pyIter v) (PIE X pins σ tg R) X.xe s1) X.xe s
theorem Gw {M:Model} {A:Around} {E:Value→Shared→Prop} {s:Shared} {tg:Expr} {it:Addr} {u:Value} {o:Obj} {n:String} {vs:Array Value} {Q:Unit→Shared→Prop} (ho:s.heap.get? it=some o) (hc:o.cls = .type n) (hd:o.data = .fields vs)
    (hn:["enumerate", "zip", "dict_itemiterator", "dict_reverseitemiterator", "odict_iterator", "itertools.zip_longest", "itertools.pairwise"].contains n=false) (hQ:Q () s):wpAny M A (letOwnedTupleGo tg (.ref it) u) Q E s:=by
  unfold letOwnedTupleGo
  cases tg <;> first
    | exact wpAny_pure hQ
    | (cases u <;> first
        | exact wpAny_pure hQ
        | (refine wpAny_bind (wpAny_load ho ?_)
           rw [hc,hd]
           show wpAny M A (if (["enumerate", "zip", "dict_itemiterator", "dict_reverseitemiterator", "odict_iterator", "itertools.zip_longest", "itertools.pairwise"].contains n && vs[0]? == some (rawInt _))=true then _ else _) Q E s
           rw [if_neg (by intro h;rw [hn,Bool.false_and] at h;cases h)]
           exact wpAny_pure hQ))
def Itl (K:PySem.W.Frag) (a:Addr):It:=
  ⟨fun i H=>∃ xs x,SqL K H a xs∧xs[i]?=some x,fun i H x H'=>H'=H∧∀ xs,SqL K H a xs→xs[i]?=some x,fun i H=>∃ xs,SqL K H a xs∧xs.length≤i⟩
def Itr (lo:Int) (n:Nat):It:=⟨fun i _=>i < n,fun i H x H'=>H'=H∧x = .int (lo+i),fun i _=>n≤i⟩
theorem xS {P:Program} {w:World} {K:PySem.W.Frag} {tg:Expr} (a it:Addr):Turn P w K tg (Itl K a) [it] it (fun i h=>h.IsListIter it a i) where
  mem:=by simp
  obj:=fun i h st b hb=>by
    have e:b=it:=by simpa using hb
    subst e
    obtain ⟨o,e,c,d⟩:=st
    exact ⟨o,e,fun v z=>by rw [d] at z;cases z⟩
  keep:=fun i h h' st k=>st.at fun o e=>k it (by simp) o e
  item:=by
    intro X hP hw hK hc i pins s σ H E I hf st hg
    subst hP hw hK
    obtain ⟨xs,x,hq,hx⟩:=hg
    obtain ⟨its,rv,p,hz⟩:=I.list hq
    obtain ⟨u,hu,ru⟩:=rv.get hx
    obtain ⟨f0,f1,f2,f3,f4,f5⟩:=hf it (by simp)
    refine wpAny_pyNext_list_item st p.isList (x:=u) (by simpa using hu) fun h' st' sb=>?_
    have I1:Inv X pins σ H { s with heap:=h' }:=I.turned (t':=s.toks) (fun b o hb e=>(sb.2 b hb).trans e) f0 f1 f3 f4 f5
    obtain ⟨o,e,c,d⟩:=id st'
    exact ⟨u,rfl,Gw (s:={ s with heap:=h' }) e c d (by decide) ⟨x,H,I1,ru,⟨rfl,fun ys hy=>by rw [I.lF hy hq];exact hx⟩,st',fun b hb=>(hf b hb).1⟩⟩
  done:=by
    intro X hP hw hK hc i pins s σ H E I hf st hg
    subst hP hw hK
    obtain ⟨xs,hq,hx⟩:=hg
    obtain ⟨its,rv,p,hz⟩:=I.list hq
    obtain ⟨f0,f1,f2,f3,f4,f5⟩:=hf it (by simp)
    have hl:=rv.length
    exact wpAny_pyNext_list_end (I.ok.hd hc) st p.isList (by simp;omega) fun h' eb=>⟨rfl,I.turned (t':=s.toks) (fun b o hb e=>eb b o hb e) f0 f1 f3 f4 f5⟩
  self:=fun _ _ _ _ _ st h=>wpAny_pyIter_listiter st h
theorem t8 {P:Program} {w:World} {K:PySem.W.Frag} {tg:Expr} (it:Addr) (lo:Int) (n:Nat):Turn P w K tg (Itr lo n) [it] it (fun i h=>IsRangeIter h it (lo+(i:Nat) * 1) ((n:Int) - (i:Nat)) 1) where
  mem:=by simp
  obj:=fun i h st b hb=>by
    have e:b=it:=by simpa using hb
    subst e
    exact ⟨_,st,fun v z=>by
      have z':Data.fields _=Data.cell v:=z
      cases z'⟩
  keep:=fun i h h' st k=>k it (by simp) _ st
  item:=by
    intro X hP hw hK hc i pins s σ H E I hf st hg
    subst hP hw hK
    obtain ⟨f0,f1,f2,f3,f4,f5⟩:=hf it (by simp)
    have W:=Walks.range (prog:=X.prog) (w:=X.w) (I.ok.hd hc) it lo 1 n
    refine W.item i s _ _ hg st fun v h' tk hv st' kk=>?_
    obtain ⟨t,rfl⟩:=hv
    have I1:Inv X pins σ H { s with heap:=h',toks:=tk }:=I.turned (fun b o hb e=>kk b o (by simpa using hb) e) f0 f1 f3 f4 f5
    refine ⟨_,rfl,Gw (s:={ s with heap:=h',toks:=tk }) (n:="range_iterator") st' rfl rfl (by decide) ⟨.int (lo+i),H,I1,⟨t,?_⟩,⟨rfl,rfl⟩,st',fun b hb=>(hf b hb).1⟩⟩
    rw [Int.mul_one]
  done:=by
    intro X hP hw hK hc i pins s σ H E I hf st hg
    subst hP hw hK
    obtain ⟨f0,f1,f2,f3,f4,f5⟩:=hf it (by simp)
    exact wpAny_pyNext_range_end (I.ok.hd hc) st (by have:n≤i:=hg;omega) fun h' eb=>⟨rfl,I.turned (t':=s.toks) (fun b o hb e=>eb b o hb e) f0 f1 f3 f4 f5⟩
  self:=fun _ _ _ _ _ st h=>wpAny_pyIter_rangeiter st h
section
variable {X:Cx} {tg:Expr}
def Gu (K:PySem.W.Frag) (tl:TE):TI:=fun σ H R=>tl σ H fun x H1=>∃ a,x = .ref a∧(∃ xs,SqL K H1 a xs)∧R (Itl K a) H1
theorem b8 {l:Expr} {tl:TE} (hl:PE X l tl):PI X tg l (Gu X.K tl):=by
  intro pins s σ H R I h
  refine thn (hl pins s σ H _ I h) fun v s1 ⟨x,H1,I1,r1,q1⟩=>?_
  obtain ⟨a,e,⟨xs,hq⟩,q⟩:=q1
  subst e
  cases r1
  obtain ⟨its,rv,p,hz⟩:=I1.list hq
  refine wpAny_pyIter_list p.isList ?_
  refine ⟨s1.heap.objs.size,[s1.heap.objs.size],_,_,H1,rfl,I1.kept (t':=s1.toks) fun b o e=>Heap.get?_push_of_some _ e,xS a _,⟨_,Heap.get?_push_size _ rfl,rfl,rfl⟩,fun b hb=>?_,q⟩
  have e:b=s1.heap.objs.size:=by simpa using hb
  subst e
  exact I1.Lj (NB _) (I1.hok.fresh (NB _))
theorem rD {pins:List (Addr×Obj)} {σ : St} {H:Hp} {s:Shared} {R:It→Hp→Prop} {E:Value→Shared→Prop} {lo hi:Int} {t u v:Tok} {tk:Nat} (I:Inv X pins σ H s) (h1 : -(2 ^ 62)≤lo) (h2:lo < 2 ^ 62) (h3 : -(2 ^ 62)≤hi) (h4:hi < 2 ^ 62)
    (q:R (Itr lo (hi - lo).toNat) H):wpAny (model X.prog X.w) X.A (pyIter (.ref s.heap.objs.size)) (PIE X pins σ tg R) E { s with heap:=s.heap.push { cls:=.type "range",data:=.fields #[.int lo t,.int hi u,.int 1 v] },toks:=tk }:=by
  refine wpAny_pyIter_range (IsRange.new ..) (small_one h1 h2 h3 h4) ?_
  have I1:Inv X pins σ H { s with heap:=s.heap.push { cls:=.type "range",data:=.fields #[.int lo t,.int hi u,.int 1 v] },toks:=tk }:=I.kept fun b o e=>Heap.get?_push_of_some _ e
  refine ⟨(s.heap.push { cls:=.type "range",data:=.fields #[.int lo t,.int hi u,.int 1 v] }).objs.size,[(s.heap.push { cls:=.type "range",data:=.fields #[.int lo t,.int hi u,.int 1 v] }).objs.size],_,_,H,rfl,
    I1.kept (t':=tk) fun b o e=>Heap.get?_push_of_some _ e,t8 _ lo (hi - lo).toNat,?_,fun b hb=>?_,q⟩
  · have e1:lo+((0:Nat):Int) * 1=lo:=by simp
    have e2:(((hi - lo).toNat:Nat):Int) - ((0:Nat):Int)=Builtin.Range.rangeSize lo hi 1:=by rw [rangeSize_one];split <;> omega
    show IsRangeIter _ _ (lo+((0:Nat):Int) * 1) ((((hi - lo).toNat:Nat):Int) - ((0:Nat):Int)) 1
    rw [e1,e2]
    exact Heap.get?_push_size _ rfl
  · have e:b=(s.heap.push { cls:=.type "range",data:=.fields #[.int lo t,.int hi u,.int 1 v] }).objs.size:=by simpa using hb
    subst e
    exact I1.Lj (NB _) (I1.hok.fresh (NB _))
def Gs (ta:TA):TI:=fun σ H R=>ta σ H fun vs H1=>∃ j:Int,vs=[.int j]∧-(2 ^ 62)≤j∧j < 2 ^ 62∧R (Itr 0 j.toNat) H1
def Gq (ta:TA):TI:=fun σ H R=>ta σ H fun vs H1=>∃ i j:Int,vs=[.int i,.int j]∧(-(2 ^ 62)≤i∧i < 2 ^ 62∧-(2 ^ 62)≤j∧j < 2 ^ 62)∧R (Itr i (j - i).toNat) H1
theorem nQ {a:Expr} {ta:TA} {p pos:Pos} (hg:Gl X "range") (hm:X.mg "range" = none) (ha:PA X [a] ta) (hs:starEach [a] X.env=[(false,eval a X.env)]:=by rfl):PI X tg (.Call (.Name "range" p) [a] [] pos) (Gs ta):=by
  intro pins s σ H R I h
  refine Call_ (fm I hg hm boot_range (PyProof.Rows.callWith_type1 (thn (ha pos pins s σ H _ I h) fun us s1 ⟨vs,H1,I1,r1,q1⟩=>?_) hs rfl))
  obtain ⟨j,e,q1,q2,q⟩:=q1
  subst e
  cases r1 with
  | cons r rr=>
    cases rr
    obtain ⟨t,rfl⟩:=r
    exact call_range_1 (rD I1 (by omega) (by omega) q1 q2 (by simpa using q))
theorem yj {a b:Expr} {ta:TA} {p pos:Pos} (hg:Gl X "range") (hm:X.mg "range" = none) (ha:PA X [a,b] ta) (hs:starEach [a,b] X.env=[(false,eval a X.env),(false,eval b X.env)]:=by rfl) (hs2:starEach [b] X.env=[(false,eval b X.env)]:=by rfl) :
    PI X tg (.Call (.Name "range" p) [a,b] [] pos) (Gq ta):=by
  intro pins s σ H R I h
  refine Call_ (fm I hg hm boot_range (PyProof.Rows.callWith_type1 (thn (ha pos pins s σ H _ I h) fun us s1 ⟨vs,H1,I1,r1,q1⟩=>?_) (by rw [hs,hs2]) (by rw [hs2];rfl)))
  obtain ⟨i,j,e,⟨q1,q2,q3,q4⟩,q⟩:=q1
  subst e
  cases r1 with
  | cons r rr=>
    cases rr with
    | cons r' rr=>
      cases rr
      obtain ⟨t,rfl⟩:=r
      obtain ⟨t',rfl⟩:=r'
      exact call_range_2 (rD I1 q1 q2 q3 q4 q)
def JT (wi:TI) (g:TG) (tb:TS):TS:=fun D σ H=>wi σ H fun J H1=>∃ W:Nat→Nat→St→Hp→Prop,(∃ m,W 0 m σ H1)∧∀ i m σ H,W i m σ H →
  (J.stop i H∧D.nx σ H)∨(J.go i H∧∃ N:St→Hp→Prop,(∀ σ' H',N σ' H'→∃ m',m' < m∧W (i+1) m' σ' H')∧∀ x H',J.yld i H x H'→g x σ H' fun σ2 H2=>tb { D with nx:=N,ct:=N,bk:=D.nx } σ2 H2)
def gA (fp:List Addr) (h:Heap):List (Addr×Obj):=fp.filterMap fun b=>(h.get? b).map fun o=>(b,o)
theorem iL {fp:List Addr} {h:Heap} {b:Addr} {o:Obj} (hb:b∈fp) (e:h.get? b=some o):(b,o)∈gA fp h:=List.mem_filterMap.mpr ⟨b,hb,by rw [e];rfl⟩
theorem nU {fp:List Addr} {h:Heap} {p:Addr×Obj} (hp:p∈gA fp h):p.1∈fp∧h.get? p.1=some p.2:=by
  obtain ⟨b,hb,e⟩:=List.mem_filterMap.mp hp
  cases q:h.get? b with
  | none=>rw [q] at e;cases e
  | some o=>
    rw [q] at e
    have e':(b,o)=p:=Nm e
    subst e'
    exact ⟨hb,q⟩
theorem Inv.pinned {pins:List (Addr×Obj)} {σ : St} {H:Hp} {s:Shared} {fp:List Addr} (I:Inv X pins σ H s) (hf:∀ b∈fp,mF X pins H b) (ho:∀ b∈fp,∃ o,s.heap.get? b=some o∧∀ v,o.data≠.cell v):Inv X (pins++gA fp s.heap) σ H s:=
  I.kN fun p hp=>(List.mem_append.mp hp).elim (fun z=>I.pin p (MX _ z)) fun z=>by
    obtain ⟨hb,e⟩:=nU z
    obtain ⟨f0,f1,f2,_⟩:=hf p.1 hb
    obtain ⟨o,e',d⟩:=ho p.1 hb
    rw [e] at e';cases e'
    exact ⟨e,f0,f1,f2,d⟩
theorem Inv.i7 {pins pl:List (Addr×Obj)} {σ : St} {H:Hp} {s:Shared} (I:Inv X (pins++pl) σ H s):Inv X pins σ H s:=I.kN fun p hp=>I.pin p (MX _ (List.mem_append_left _ hp))
theorem fV {iter:Expr} {body:List Stmt} {wi:TI} {g:TG} {tb:TS} {pos:Pos} (hp:PassesOwn (model X.prog X.w) X.A X.env X.xe) (hc:X.calm=true) (hi:PI X tg iter wi) (hg:PG X tg g) (hb:PSs X body tb)
    (hs:∀ x,foldedSetIterable iter X.env x=pure x:=by intro _;rfl):PS X (.For tg iter body [] pos) (JT wi g tb):=by
  intro pins s σ H D I h
  refine wpAny_For (thn (hi pins s σ H _ I h) fun v s1 h1=>thn h1 fun itv s2 h2=>?_) hs
  obtain ⟨it,fp,tn,J,H2,e,I2,T,st2,f2,W,⟨m0,w0⟩,turn⟩:=h2
  subst e
  -- what stays true of the iterator's objects through the loop
  have GU:∀ {H':Hp},(∀ b∈fp,H' b=none)→∀ b∈fp,mF X pins H' b:=fun hn b hb=>⟨hn b hb,(f2 b hb).2⟩
  refine codeAny_forLoop_any (fun n s'=>∃ i σ' H',Inv X pins σ' H' s'∧tn i s'.heap∧(∀ b∈fp,H' b=none)∧W i n σ' H') ?_ m0 ⟨0,σ,H2,I2,st2,fun b hb=>(f2 b hb).1,w0⟩
  rintro n s3 ⟨i,σ3,H3,I3,st3,fr3,w3⟩
  rcases turn i n σ3 H3 w3 with ⟨stop,qn⟩ | ⟨go,N,hN,step⟩
  · refine wpAny_passesOwn hp (thn (T.done X rfl rfl rfl hc i pins s3 σ3 H3 X.xe I3 (GU fr3) st3 stop) fun r s4 ⟨hr,I4⟩=>?_)
    subst hr
    exact wpAny_execs_nil ⟨σ3,H3,I4,qn⟩
  · refine wpAny_passesOwn hp (thn (T.item X rfl rfl rfl hc i pins s3 σ3 H3 X.xe I3 (GU fr3) st3 go) fun r s4 ⟨u,hr,h4⟩=>?_)
    subst hr
    refine wpAny_passesOwn hp (thn h4 fun _ s5 ⟨x,H5,I5,r5,y5,st5,fr5⟩=>?_)
    have I5':=I5.pinned (GU fr5) (T.obj _ _ st5)
    refine wpAny_passesOwn hp (thn (hg _ s5 σ3 H5 x u _ I5' r5 (step x H5 y5)) fun _ s6 ⟨σ6,H6,I6,q6⟩=>?_)
    refine wpAny_passesOwn hp (thn (hb _ s6 σ6 H6 _ I6 q6) fun f s7 q7=>?_)
    have again:∀ {σ7:St} {H7:Hp},Inv X (pins++gA fp s5.heap) σ7 H7 s7→N σ7 H7→∃ m,m < n∧∃ i σ' H',Inv X pins σ' H' s7∧tn i s7.heap∧(∀ b∈fp,H' b=none)∧W i m σ' H':=fun {σ7 H7} I7 n7=>by
      obtain ⟨m',hm,w7⟩:=hN σ7 H7 n7
      refine ⟨m',hm,i+1,σ7,H7,I7.i7,T.keep _ _ _ st5 fun b hb o e=>(I7.pin (b,o) (MX _ (MX _ (iL hb e)))).1,fun b hb=>?_,w7⟩
      obtain ⟨o,e,d⟩:=T.obj _ _ st5 b hb
      exact (I7.pin (b,o) (MX _ (MX _ (iL hb e)))).2.1
    cases f with
    | next=>obtain ⟨σ7,H7,I7,n7⟩:=q7;exact again I7 n7
    | cont=>obtain ⟨σ7,H7,I7,n7⟩:=q7;exact again I7 n7
    | brk=>obtain ⟨σ7,H7,I7,q7⟩:=q7;exact ⟨σ7,H7,I7.i7,q7⟩
    | ret v=>obtain ⟨x7,σ7,H7,I7,r7,q7⟩:=q7;exact ⟨x7,σ7,H7,I7.i7,r7,q7⟩
end
theorem Cd {K:PySem.W.Frag} {a:Addr} {xs:List V} {g:TG} {tb:TS} {D:Ends} {σ : St} {H:Hp} (Pv:Nat→St→Hp→Prop) (h0:Pv 0 σ H) (hl:∀ i σ H,i≤xs.length→Pv i σ H→SqL K H a xs)
    (hs:∀ i x σ H,xs[i]?=some x→Pv i σ H→g x σ H fun σ2 H2=>tb { D with nx:=Pv (i+1),ct:=Pv (i+1),bk:=D.nx } σ2 H2) (hd:∀ σ H,Pv xs.length σ H→D.nx σ H) :
    ∃ W:Nat→Nat→St→Hp→Prop,(∃ m,W 0 m σ H)∧∀ i m σ H,W i m σ H →
      ((Itl K a).stop i H∧D.nx σ H)∨((Itl K a).go i H∧∃ N:St→Hp→Prop,(∀ σ' H',N σ' H'→∃ m',m' < m∧W (i+1) m' σ' H')∧∀ x H',(Itl K a).yld i H x H'→g x σ H' fun σ2 H2=>tb { D with nx:=N,ct:=N,bk:=D.nx } σ2 H2):=by
  refine ⟨fun i m σ H=>m=xs.length - i∧i≤xs.length∧Pv i σ H,⟨xs.length,by simp,NC _,h0⟩,?_⟩
  rintro i m σ H ⟨rfl,hi,p⟩
  have q:=hl i σ H hi p
  by_cases hlt:i < xs.length
  · refine .inr ⟨⟨xs,xs[i],q,by simp [hlt]⟩,Pv (i+1),fun σ' H' p'=>⟨xs.length - (i+1),by omega,rfl,hlt,p'⟩,fun x H' y=>?_⟩
    obtain ⟨e,y⟩:=y
    subst e
    exact hs i x σ _ (y xs q) p
  · have e:i=xs.length:=by omega
    subst e
    exact .inl ⟨⟨xs,q,NB _⟩,hd σ H p⟩
theorem y9 {lo:Int} {n:Nat} {g:TG} {tb:TS} {D:Ends} {σ : St} {H:Hp} (Pv:Nat→St→Hp→Prop) (h0:Pv 0 σ H)
    (hs:∀ i σ H,i < n→Pv i σ H→g (.int (lo+i)) σ H fun σ2 H2=>tb { D with nx:=Pv (i+1),ct:=Pv (i+1),bk:=D.nx } σ2 H2) (hd:∀ σ H,Pv n σ H→D.nx σ H) :
    ∃ W:Nat→Nat→St→Hp→Prop,(∃ m,W 0 m σ H)∧∀ i m σ H,W i m σ H →
      ((Itr lo n).stop i H∧D.nx σ H)∨((Itr lo n).go i H∧∃ N:St→Hp→Prop,(∀ σ' H',N σ' H'→∃ m',m' < m∧W (i+1) m' σ' H')∧∀ x H',(Itr lo n).yld i H x H'→g x σ H' fun σ2 H2=>tb { D with nx:=N,ct:=N,bk:=D.nx } σ2 H2):=by
  refine ⟨fun i m σ H=>m=n - i∧i≤n∧Pv i σ H,⟨n,by simp,NC _,h0⟩,?_⟩
  rintro i m σ H ⟨rfl,hi,p⟩
  by_cases hlt:i < n
  · refine .inr ⟨hlt,Pv (i+1),fun σ' H' p'=>⟨n - (i+1),by omega,rfl,hlt,p'⟩,fun x H' y=>?_⟩
    obtain ⟨e,y⟩:=y
    subst e y
    exact hs i σ _ hlt p
  · have e:i=n:=by omega
    subst e
    exact .inl ⟨NB _,hd σ H p⟩
abbrev R2:=V→V→Hp→VK→Prop
def OpR (X:Cx) (f:Value→Value→Sem Value) (r:R2):Prop:=
  ∀ (pins:List (Addr×Obj)) (s:Shared) (σ : St) (H:Hp) (x y:V) (v u:Value) (Q:VK),Inv X pins σ H s→RelV x v→RelV y u→r x y H Q →
    wpAny (model X.prog X.w) X.A (f v u) (EP X pins σ Q) X.xe s
def UnR (X:Cx) (f:Value→Sem Value) (r:V→Hp→VK→Prop):Prop:=
  ∀ (pins:List (Addr×Obj)) (s:Shared) (σ : St) (H:Hp) (x:V) (v:Value) (Q:VK),Inv X pins σ H s→RelV x v→r x H Q →
    wpAny (model X.prog X.w) X.A (f v) (EP X pins σ Q) X.xe s
def cH (X:Cx) (f:Value) (r:List V→Hp→VK→Prop):Prop:=
  ∀ (pins:List (Addr×Obj)) (s:Shared) (σ : St) (H:Hp) (xs:List V) (us:List Value) (Q:VK),Inv X pins σ H s→Vals xs us→r xs H Q →
    wpAny (model X.prog X.w) X.A (call f us) (EP X pins σ Q) X.xe s
def tOp (r:R2) (ta tb:TE):TE:=fun σ H Q=>ta σ H fun x H1=>tb σ H1 fun y H2=>r x y H2 Q
def tUn (r:V→Hp→VK→Prop) (ta:TE):TE:=fun σ H Q=>ta σ H fun x H1=>r x H1 Q
def rI (C:Int→Int→Prop) (g:Int→Int→V):R2:=fun x y H Q=>∃ i j,x = .int i∧y = .int j∧C i j∧Q (g i j) H
def rI0 (g:Int→Int→V):R2:=fun x y H Q=>∃ i j,x = .int i∧y = .int j∧Q (g i j) H
def rU (g:Int→V):V→Hp→VK→Prop:=fun x H Q=>∃ i,x = .int i∧Q (g i) H
section
variable {X:Cx} {a b c:Expr} {ta tb tc:TE} {pos:Pos}
theorem Jp (ha:PE X a ta) (hb:PE X b tb) {pins:List (Addr×Obj)} {s:Shared} {σ : St} {H:Hp} {R:V→V→Hp→Prop} (I:Inv X pins σ H s)
    (h:ta σ H fun x H1=>tb σ H1 fun y H2=>R x y H2) {Q:Value→Shared→Prop} {f:Value→Value→Sem Value}
    (hf:∀ v u s2 x y H2,Inv X pins σ H2 s2→RelV x v→RelV y u→R x y H2→wpAny (model X.prog X.w) X.A (f v u) Q X.xe s2) :
    wpAny (model X.prog X.w) X.A (eval a X.env) (fun v s₁=>wpAny (model X.prog X.w) X.A (eval b X.env) (fun u s₂=>wpAny (model X.prog X.w) X.A (f v u) Q X.xe s₂) X.xe s₁) X.xe s:=by
  refine thn (ha pins s σ H _ I h) fun v s1 ⟨x,H1,I1,r1,q1⟩=>?_
  refine thn (hb pins s1 σ H1 _ I1 q1) fun u s2 ⟨y,H2,I2,r2,q2⟩=>?_
  exact hf v u s2 x y H2 I2 r1 r2 q2
theorem aP {op:Operator} {r:R2} (ho:OpR X (binaryOp op) r) (ha:PE X a ta) (hb:PE X b tb):PE X (.BinOp a op b pos) (tOp r ta tb):=by
  intro pins s σ H Q I h
  exact wpAny_BinOp (Jp ha hb I h fun v u s2 x y H2 I2 rx ry q=>ho pins s2 σ H2 x y v u Q I2 rx ry q)
theorem Kq {op:UnaryOp} {r:V→Hp→VK→Prop} (ho:UnR X (unaryOp op) r) (ha:PE X a ta):PE X (.UnaryOp op a pos) (tUn r ta):=by
  intro pins s σ H Q I h
  exact UnaryOp_ (thn (ha pins s σ H _ I h) fun v s1 ⟨x,H1,I1,r1,q1⟩=>ho pins s1 σ H1 x v Q I1 r1 q1)
theorem opI {f:Value→Value→Sem Value} {C:Int→Int→Prop} {g:Int→Int→Int}
    (rule:∀ (i j:Int) (t u:Tok) (s:Shared) (Q:Value→Shared→Prop) (E:Value→Shared→Prop),C i j→Q (.int (g i j) s.toks) { s with toks:=s.toks+1 }→wpAny (model X.prog X.w) X.A (f (.int i t) (.int j u)) Q E s) :
    OpR X f (rI C fun i j=>.int (g i j)):=by
  intro pins s σ H x y v u Q I rx ry h
  obtain ⟨i,j,rfl,rfl,hc,q⟩:=h
  obtain ⟨t,rfl⟩:=rx
  obtain ⟨t',rfl⟩:=ry
  exact rule i j t t' s _ _ hc ⟨.int (g i j),H,I.tok _,⟨_,rfl⟩,q⟩
theorem Ks {f:Value→Value→Sem Value} {g:Int→Int→Int}
    (rule:∀ (i j:Int) (t u:Tok) (s:Shared) (Q:Value→Shared→Prop) (E:Value→Shared→Prop),Q (.int (g i j) s.toks) { s with toks:=s.toks+1 }→wpAny (model X.prog X.w) X.A (f (.int i t) (.int j u)) Q E s) :
    OpR X f (rI0 fun i j=>.int (g i j)):=by
  intro pins s σ H x y v u Q I rx ry h
  obtain ⟨i,j,rfl,rfl,q⟩:=h
  obtain ⟨t,rfl⟩:=rx
  obtain ⟨t',rfl⟩:=ry
  exact rule i j t t' s _ _ ⟨.int (g i j),H,I.tok _,⟨_,rfl⟩,q⟩
theorem D6 {f:Value→Value→Sem Value} {g:Int→Int→Bool}
    (rule:∀ (i j:Int) (t u:Tok) (s:Shared) (Q:Value→Shared→Prop) (E:Value→Shared→Prop),Q (.bool (g i j)) s→wpAny (model X.prog X.w) X.A (f (.int i t) (.int j u)) Q E s) :
    OpR X f (rI0 fun i j=>.bl (g i j)):=by
  intro pins s σ H x y v u Q I rx ry h
  obtain ⟨i,j,rfl,rfl,q⟩:=h
  obtain ⟨t,rfl⟩:=rx
  obtain ⟨t',rfl⟩:=ry
  exact rule i j t t' s _ _ ⟨.bl (g i j),H,I,rfl,q⟩
def MD (i j:Int):Prop:=0≤j∧j≤1000000∧i.natAbs < 2 ^ 64
def C3 (i j:Int):Prop:=(-(2 ^ 64) < i∧i < 2 ^ 64)∨(-(2 ^ 64) < j∧j < 2 ^ 64)
theorem C3.ok {i j:Int} (h:C3 i j):IntMulOk i j:=by
  rcases h with ⟨h1,h2⟩ | ⟨h1,h2⟩
  · exact .of_left (intBits_le_64 h1 h2)
  · exact .of_right (intBits_le_64 h1 h2)
theorem bM:OpR X (binaryOp .Add) (rI0 fun i j=>.int (i+j)):=Ks fun _ _ _ _ _ _ _ q=>add_int q
theorem gD:OpR X (binaryOp .Sub) (rI0 fun i j=>.int (i - j)):=Ks fun _ _ _ _ _ _ _ q=>sub_int q
theorem A8:OpR X (binaryOp .Mult) (rI C3 fun i j=>.int (i * j)):=opI fun _ _ _ _ _ _ _ hc q=>mul_int q hc.ok
theorem c8:OpR X (binaryOp .Mod) (rI (fun _ j=>0 < j) fun i j=>.int (i % j)):=opI fun i j _ _ _ _ _ hc q=>by
  have h1:(0:Int) < j:=hc
  exact mod_int' (by omega) (by rw [Int.fmod_eq_emod_of_nonneg i (by omega)];exact q)
theorem iK:OpR X (binaryOp .Pow) (rI MD fun i j=>.int (i ^ j.toNat)):=opI fun _ _ _ _ _ _ _ hc q=>pow_int_small hc.1 hc.2.1 hc.2.2 q
theorem unI {f:Value→Sem Value} {g:Int→Int}
    (rule:∀ (i:Int) (t:Tok) (s:Shared) (Q:Value→Shared→Prop) (E:Value→Shared→Prop),Q (.int (g i) s.toks) { s with toks:=s.toks+1 }→wpAny (model X.prog X.w) X.A (f (.int i t)) Q E s) :
    UnR X f (rU fun i=>.int (g i)):=by
  intro pins s σ H x v Q I rx h
  obtain ⟨i,rfl,q⟩:=h
  obtain ⟨t,rfl⟩:=rx
  exact rule i t s _ _ ⟨.int (g i),H,I.tok _,⟨_,rfl⟩,q⟩
theorem GN:UnR X (unaryOp .USub) (rU fun i=>.int (-i)):=unI fun _ _ _ _ _ q=>neg_int q
end
def J1:V→V→Bool
  | .non,.non=>true | .non,.int _=>true | .int _,.non=>true | .non,.bl _=>true | .bl _,.non=>true | .non,.str _=>true | .str _,.non=>true
  | .int _,.int _=>true | .bl _,.bl _=>true | .str _,.str _=>true | .byt _,.byt _=>true
  | .int _,.str _=>true | .str _,.int _=>true | .bl _,.str _=>true | .str _,.bl _=>true
  | _,_=>false
def rEq:R2:=fun x y H Q=>J1 x y=true∧Q (.bl (decide (x=y))) H
def rNe:R2:=fun x y H Q=>J1 x y=true∧Q (.bl (!decide (x=y))) H
theorem xA {i j:Int}:decide (V.int i=V.int j)=(i == j):=by
  rw [Bool.eq_iff_iff]
  simp
theorem Co {i j:Bool}:decide (V.bl i=V.bl j)=(i == j):=by
  rw [Bool.eq_iff_iff]
  simp
theorem xy {i j:Str}:decide (V.str i=V.str j)=(i == j):=by
  rw [Bool.eq_iff_iff]
  simp
theorem xB {i j:Array UInt8}:decide (V.byt i=V.byt j)=(i.toList == j.toList):=by
  rw [Bool.eq_iff_iff]
  cases i
  cases j
  simp
section
variable {X:Cx} {a b c:Expr} {ta tb tc:TE} {pos:Pos}
theorem bN {pins:List (Addr×Obj)} {σ : St} {H:Hp} {s:Shared} {Q:VK} {k k':Bool} (I:Inv X pins σ H s) (q:Q (.bl k) H) (e:k=k'):EP X pins σ Q (.bool k') s:=by
  subst e
  exact ⟨.bl k,H,I,rfl,q⟩
theorem bZ:OpR X (compareOp .Eq) rEq:=by
  intro pins s σ H x y v u Q I rx ry h
  obtain ⟨hs,q⟩:=h
  cases x with
  | non=>
    cases rx
    cases y with
    | non=>cases ry;exact PySem.EqNone.eq_none_none (bN I q (by simp))
    | bl j=>cases ry;exact PySem.EqNone.eq_none_bool (bN I q (by simp))
    | int j=>obtain ⟨t',rfl⟩:=ry;exact PySem.EqNone.eq_none_int (bN I q (by simp))
    | str j=>obtain ⟨t',rfl⟩:=ry;exact PySem.EqNone.eq_none_str (bN I q (by simp))
    | _=>exact absurd (show false=true from hs) M8
  | bl i=>
    cases rx
    cases y with
    | non=>cases ry;exact PySem.EqNone.eq_bool_none (bN I q (by simp))
    | bl j=>cases ry;exact eq_bool (bN I q Co)
    | str j=>obtain ⟨t',rfl⟩:=ry;exact PySem.EqMixed.eq_bool_str (bN I q (by simp))
    | _=>exact absurd (show false=true from hs) M8
  | int i=>
    obtain ⟨t,rfl⟩:=rx
    cases y with
    | non=>cases ry;exact PySem.EqNone.eq_int_none (bN I q (by simp))
    | int j=>obtain ⟨t',rfl⟩:=ry;exact eq_int (bN I q xA)
    | str j=>obtain ⟨t',rfl⟩:=ry;exact PySem.EqMixed.eq_int_str (bN I q (by simp))
    | _=>exact absurd (show false=true from hs) M8
  | str i=>
    obtain ⟨t,rfl⟩:=rx
    cases y with
    | non=>cases ry;exact PySem.EqNone.eq_str_none (bN I q (by simp))
    | bl j=>cases ry;exact PySem.EqMixed.eq_str_bool (bN I q (by simp))
    | int j=>obtain ⟨t',rfl⟩:=ry;exact PySem.EqMixed.eq_str_int (bN I q (by simp))
    | str j=>obtain ⟨t',rfl⟩:=ry;exact eq_str (bN I q xy)
    | _=>exact absurd (show false=true from hs) M8
  | byt i=>
    obtain ⟨t,rfl⟩:=rx
    cases y with
    | byt j=>obtain ⟨t',rfl⟩:=ry;exact PySem.W.eq_bytes (bN I q xB)
    | _=>exact absurd (show false=true from hs) M8
  | _=>cases y <;> exact absurd (show false=true from hs) M8
theorem Gn:OpR X (compareOp .NotEq) rNe:=by
  intro pins s σ H x y v u Q I rx ry h
  obtain ⟨hs,q⟩:=h
  cases x with
  | non=>
    cases rx
    cases y with
    | non=>cases ry;exact PySem.EqNone.ne_none_none (bN I q (by simp))
    | bl j=>cases ry;exact PySem.EqNone.ne_none_bool (bN I q (by simp))
    | int j=>obtain ⟨t',rfl⟩:=ry;exact PySem.EqNone.ne_none_int (bN I q (by simp))
    | str j=>obtain ⟨t',rfl⟩:=ry;exact PySem.EqNone.ne_none_str (bN I q (by simp))
    | _=>exact absurd (show false=true from hs) M8
  | bl i=>
    cases rx
    cases y with
    | non=>cases ry;exact PySem.EqNone.ne_bool_none (bN I q (by simp))
    | bl j=>cases ry;exact ne_bool (bN I q (congrArg not Co))
    | str j=>obtain ⟨t',rfl⟩:=ry;exact PySem.EqMixed.ne_bool_str (bN I q (by simp))
    | _=>exact absurd (show false=true from hs) M8
  | int i=>
    obtain ⟨t,rfl⟩:=rx
    cases y with
    | non=>cases ry;exact PySem.EqNone.ne_int_none (bN I q (by simp))
    | int j=>obtain ⟨t',rfl⟩:=ry;exact ne_int (bN I q (congrArg not xA))
    | str j=>obtain ⟨t',rfl⟩:=ry;exact PySem.EqMixed.ne_int_str (bN I q (by simp))
    | _=>exact absurd (show false=true from hs) M8
  | str i=>
    obtain ⟨t,rfl⟩:=rx
    cases y with
    | non=>cases ry;exact PySem.EqNone.ne_str_none (bN I q (by simp))
    | bl j=>cases ry;exact PySem.EqMixed.ne_str_bool (bN I q (by simp))
    | int j=>obtain ⟨t',rfl⟩:=ry;exact PySem.EqMixed.ne_str_int (bN I q (by simp))
    | str j=>obtain ⟨t',rfl⟩:=ry;exact ne_str (bN I q (congrArg not xy))
    | _=>exact absurd (show false=true from hs) M8
  | byt i=>
    obtain ⟨t,rfl⟩:=rx
    cases y with
    | byt j=>obtain ⟨t',rfl⟩:=ry;exact PySem.W.ne_bytes (bN I q (congrArg not xB))
    | _=>exact absurd (show false=true from hs) M8
  | _=>cases y <;> exact absurd (show false=true from hs) M8
theorem fG:OpR X (compareOp .Lt) (rI0 fun i j=>.bl (decide (i < j))):=D6 fun _ _ _ _ _ _ _ q=>lt_int q
theorem nR:OpR X (compareOp .LtE) (rI0 fun i j=>.bl (decide (i≤j))):=D6 fun _ _ _ _ _ _ _ q=>le_int q
theorem jg:OpR X (compareOp .Gt) (rI0 fun i j=>.bl (decide (j < i))):=D6 fun _ _ _ _ _ _ _ q=>gt_int q
theorem wW:OpR X (compareOp .GtE) (rI0 fun i j=>.bl (decide (j≤i))):=D6 fun _ _ _ _ _ _ _ q=>ge_int q
theorem aO (b:Expr) {op:CmpOp} (h:op≠.In:=by decide) (h2:op≠.NotIn:=by decide):behindInMarks op b=false:=by
  have e1:(op == CmpOp.In)=false:=by cases op <;> first | rfl | exact absurd rfl h
  have e2:(op == CmpOp.NotIn)=false:=by cases op <;> first | rfl | exact absurd rfl h2
  cases b <;> simp [behindInMarks,e1,e2]
theorem cJ {op:CmpOp} {r:R2} (ho:OpR X (compareOp op) r) (ha:PE X a ta) (hb:PE X b tb) (hm:behindInMarks op b=false):PE X (.Compare a [op] [b] pos) (tOp r ta tb):=by
  intro pins s σ H Q I h
  exact wpAny_Compare1 (Jp ha hb I h fun v u s2 x y H2 I2 rx ry q=>ho pins s2 σ H2 x y v u Q I2 rx ry q) hm
def F0 (t:TE):TT:=fun σ H Q=>t σ H fun x H'=>∃ k,x = .bl k∧Q k H'
theorem aK {op:CmpOp} {r:R2} (ho:OpR X (compareOp op) r) (ha:PE X a ta) (hb:PE X b tb) (hm:behindInMarks op b=false):PT X (.Compare a [op] [b] pos) (F0 (tOp r ta tb)):=by
  intro pins s σ H Q I h
  refine wpAny_isTrue_Compare1 (thn (ha pins s σ H _ I h) fun v s1 ⟨x,H1,I1,r1,q1⟩=>thn (hb pins s1 σ H1 _ I1 q1) fun u s2 ⟨y,H2,I2,r2,q2⟩=>
    thn (ho pins s2 σ H2 x y v u _ I2 r1 r2 q2) fun c s3 ⟨z,H3,I3,r3,k,e,q3⟩=>?_) hm
  subst e
  cases r3
  exact wpAny_truthy_bool ⟨H3,I3,q3⟩
def zU (r r':R2) (ta tb tc:TE):TE:=fun σ H Q=>ta σ H fun x H1=>tb σ H1 fun y H2=>r x y H2 fun z H3=>∃ k,z = .bl k ∧
  (if k=true then tc σ H3 fun w' H4=>r' y w' H4 Q else Q (.bl false) H3)
theorem A5 {op op':CmpOp} {r r':R2} (ho:OpR X (compareOp op) r) (ho':OpR X (compareOp op') r') (ha:PE X a ta) (hb:PE X b tb) (hc:PE X c tc)
    (hm:lastMarks [op,op'] [b,c]=false:=by with_unfolding_all rfl):PE X (.Compare a [op,op'] [b,c] pos) (zU r r' ta tb tc):=by
  intro pins s σ H Q I h
  refine Compare_chain (thn (ha pins s σ H _ I h) fun v s1 ⟨x,H1,I1,r1,q1⟩=>chain_link (thn (hb pins s1 σ H1 _ I1 q1) fun u s2 ⟨y,H2,I2,r2,q2⟩=>
    thn (ho pins s2 σ H2 x y v u _ I2 r1 r2 q2) fun d s3 ⟨z,H3,I3,r3,k,e,q3⟩=>?_)) hm
  subst e
  cases r3
  refine wpAny_truthy_bool ?_
  cases k with
  | false=>exact ite_ff ⟨.bl false,H3,I3,rfl,q3⟩
  | true=>exact ite_tt (chain_last (thn (hc pins s3 σ H3 _ I3 q3) fun w' s4 ⟨z',H4,I4,r4,q4⟩=>ho' pins s4 σ H4 y z' u w' Q I4 r2 r4 q4))
theorem lG:(sizeLine:Nat) < 2 ^ 63:=by rw [sizeLine_eq];decide
theorem vals1 {x:V} {us:List Value} (r:Vals [x] us):∃ u,us=[u]∧RelV x u:=by
  cases r with
  | cons r1 r2=>cases r2;exact ⟨_,rfl,r1⟩
theorem vals2 {x y:V} {us:List Value} (r:Vals [x,y] us):∃ u w',us=[u,w']∧RelV x u∧RelV y w':=by
  cases r with
  | cons r1 r2=>
    cases r2 with
    | cons r3 r4=>cases r4;exact ⟨_,_,rfl,r1,r3⟩
theorem zh (hc:X.calm=true):cH X (.builtin "max") (fun xs H Q=>∃ i j,xs=[.int i,.int j]∧Q (.int (if j > i then j else i)) H):=by
  intro pins s σ H xs us Q I r h
  obtain ⟨i,j,rfl,q⟩:=h
  obtain ⟨u,w',rfl,⟨t,rfl⟩,⟨t',rfl⟩⟩:=vals2 r
  refine max_two_ints (I.ok.hd hc) fun h' tk k=>⟨_,H,I.kept k,?_,q⟩
  by_cases hj:j > i
  · rw [if_pos hj,if_pos hj];exact ⟨_,rfl⟩
  · rw [if_neg hj,if_neg hj];exact ⟨_,rfl⟩
theorem zg (hc:X.calm=true):cH X (.builtin "min") (fun xs H Q=>∃ i j,xs=[.int i,.int j]∧Q (.int (if j < i then j else i)) H):=by
  intro pins s σ H xs us Q I r h
  obtain ⟨i,j,rfl,q⟩:=h
  obtain ⟨u,w',rfl,⟨t,rfl⟩,⟨t',rfl⟩⟩:=vals2 r
  refine min_two_ints (I.ok.hd hc) fun h' tk k=>⟨_,H,I.kept k,?_,q⟩
  by_cases hj:j < i
  · rw [if_pos hj,if_pos hj];exact ⟨_,rfl⟩
  · rw [if_neg hj,if_neg hj];exact ⟨_,rfl⟩
theorem zk:cH X (.type "int") (fun xs H Q=>(∃ i,xs=[.int i]∧Q (.int i) H)∨∃ k,xs=[.bl k]∧Q (.int (if k then 1 else 0)) H):=by
  intro pins s σ H xs us Q I r h
  rcases h with ⟨i,rfl,q⟩ | ⟨k,rfl,q⟩
  · obtain ⟨u,rfl,t,rfl⟩:=vals1 r
    exact call_int_int ⟨.int i,H,I,⟨_,rfl⟩,q⟩
  · obtain ⟨u,rfl,r1⟩:=vals1 r
    cases r1
    exact call_int_bool ⟨.int (if k then 1 else 0),H,I.tok _,⟨_,rfl⟩,q⟩
end
structure vP (h:Heap) (x dx C:Addr) (mA:Str→Option Value):Prop where
  obj:h.get? x=some (PySem.W.instObj C dx)
  ns:h.Ns1 dx mA
  ne:dx≠x
theorem yI {h:Heap} {dx:Addr} {mA:Str→Option Value} (n:h.Ns1 dx mA):∃ od,h.get? dx=some od∧∀ name,PySem.W.lookIn name od=some (mA name):=by
  obtain ⟨o,es,ep,ho,hd,hk,_,hm⟩:=n
  refine ⟨o,ho,fun name=>?_⟩
  have e:=hm name
  unfold nsFind findBy at e
  rw [← Array.find?_toList] at e
  unfold PySem.W.lookIn
  rw [hd]
  dsimp only
  split
  · rename_i y q
    rw [q] at e
    exact congrArg some e
  · rename_i q
    rw [q] at e
    have a:es.toList.any (·.refKey)=false:=by
      rw [List.any_eq_false]
      intro y hy
      obtain ⟨z,t,hkey⟩:=hk y (Array.mem_toList_iff.mp hy)
      simp [DictEntry.refKey,hkey]
    have a':¬ es.toList.any (·.refKey)=true:=by rw [a];exact M8
    rw [if_neg a']
    exact congrArg some e
theorem vP.look {h:Heap} {x dx C:Addr} {mA:Str→Option Value} (I:vP h x dx C mA):∃ od,PySem.W.InstAt h x (PySem.W.instObj C dx) C (some od)∧∀ name,PySem.W.lookIn name od=some (mA name):=
  let ⟨od,ho,hl⟩:=yI I.ns
  ⟨od,⟨I.obj,rfl,rfl,ho⟩,hl⟩
section
variable {prog:Program} {w:World} {A:Around} {E:Value→Shared→Prop} {s:Shared} {K:PySem.W.Frag} {x dx C f:Addr} {mA:Str→Option Value} {name:Str} {v:Value}
theorem get_map {expr:Bool} {Q:Value→Shared→Prop} (X:K.In s.heap) (I:vP s.heap x dx C mA) (hg:PySem.W.plainGet K C name=true) (hh:PySem.W.hasDictIn K C=true)
    (ha:PySem.W.findIn K (.ref C) name=some none) (hv:mA name=some v) (hv':PySem.W.handedIn v=true) (h:Q v { s with toks:=s.toks+1 }) :
    wpAny (model prog w) A (getAttr (.ref x) name expr) Q E s:=by
  obtain ⟨od,J,hl⟩:=I.look
  exact PySem.W.get_value X J (PySem.W.plainGet_of hg).1 (PySem.W.findObj_own hh ha rfl (by rw [hl,hv])) hv' h
theorem BS {pl:Sem Bool} {Q:Value×List Value→Shared→Prop} (X:K.In s.heap) (I:vP s.heap x dx C mA) (hg:PySem.W.plainGet K C name=true)
    (hf:PySem.W.findIn K (.ref C) name=some (some (.ref f))) (ht:PySem.W.isFn K (.ref f)=true) (hv:mA name=none) (h:Q (.ref f,[.ref x]) s) :
    wpAny (model prog w) A (getMethod (.ref x) name pl) Q E s:=by
  obtain ⟨od,J,hl⟩:=I.look
  exact PySem.W.method_fn X J (PySem.W.plainGet_of hg).1 (PySem.W.plainGet_of hg).2 hf (beq_iff_eq.mp ht) (by show (PySem.W.lookIn name od).map (·.isSome)=some false;rw [hl,hv];rfl) h
theorem Dn {ns:List Str} {Q:Unit→Shared→Prop} (X:K.In s.heap) (I:vP s.heap x dx C mA)
    (hs:PySem.W.findIn K (.ref C) "__setattr__" = some (some (.builtin "object.__setattr__"))) (hp:PySem.W.plainOver K C=true) (ht:PySem.W.takerIn K C name=some none) (hh:PySem.W.hasDictIn K C=true)
    (hw:PySem.Within mA ns) (hsz:ns.length≤sizeLine)
    (h:∀ h',vP h' x dx C (fun y=>if y=name then some v else mA y)→Heap.SameBut dx s.heap h'→Q () { s with heap:=h',toks:=s.toks+2 }) :
    wpAny (model prog w) A (setAttr (.ref x) name v) Q E s:=by
  obtain ⟨od,J,hl⟩:=I.look
  refine PySem.W.set_plain X J hs (PySem.W.osa_open (s:={ s with toks:=s.toks+1 }) (r:=none) X J hp ht fun b=>?_)
  obtain ⟨cd,hc,hd'⟩:=PySem.W.any_some hh
  have hx:s.heap.get? x=some ⟨.ref C,some dx,.plain,#[]⟩:=I.obj
  refine wpAny_bind (wpAny_pure (wpAny_bind (wpAny_bind (wpAny_loadPart hx (wpAny_bind (PySem.W.Looks.here (s:={ s with toks:=s.toks+1 }) (PySem.W.looks_clsIn X hc) ?_))))))
  rw [hd']
  refine wpAny_pure (a:=some dx) (wpAny_bind (wpAny_pure (wpAny_bind ?_)))
  refine wpAny_nsSet1 (s:={ s with toks:=s.toks+1 }) I.ns fun h' hn2 hs2=>?_
  obtain ⟨oD,esD,epD,hoD,hdD,hcD⟩:=hn2.count (PySem.Within.cons name v hw)
  refine wpAny_bind (wpAny_lookBehind hoD (by rw [hdD];exact pastItsLine_dict (Nq hcD (by rw [Nd];omega))) ?_)
  exact wpAny_pure (h _ ⟨(hs2.2 _ (Ne.symm I.ne)).trans I.obj,hn2,I.ne⟩ hs2)
theorem BD {R:Result→Shared→Prop} {vs:List Value} {kw:List (Str×Value)} (X:K.In s.heap) (hm:PySem.W.makesIn K C=true)
    (hi:PySem.W.findIn K (.ref C) "__init__" = some (some (.ref f))) (hf:PySem.W.typeIn K (.ref f)=some (.type "function"))
    (h:codeAny (model prog w) (A.under (.builtin "type.__call__" ⟨.ref C::vs,kw⟩)) (.call (.ref f) ⟨.ref (s.heap.objs.size+1)::vs,kw⟩) (PySem.W.InitBack (s.heap.objs.size+1) R)
      { s with heap:=(s.heap.push PySem.W.emptyDict).push (PySem.W.instObj C s.heap.objs.size) }) :
    codeAny (model prog w) A (.call (.ref C) ⟨vs,kw⟩) R s:=by
  obtain ⟨hh,g,d,t,os⟩:=s
  exact PySem.W.make_core (PySem.W.makes_of X hm) (PySem.W.looks_findIn X hi) (fun self=>PySem.W.bind_fn X self hf) (.inl rfl) h
end
def bO (f:Str) (v:V):List (Str×V)→List (Str×V)
  | []=>[(f,v)]
  | (g,x)::r=>if g=f then (g,v)::r else (g,x)::bO f v r
theorem gE (f g:Str) (v:V):∀ fs:List (Str×V),(bO f v fs).lookup g=if g=f then some v else fs.lookup g
  | []=>by
    show List.lookup g [(f,v)]=_
    by_cases h:g=f
    · have hb:(g == f)=true:=beq_iff_eq.mpr h
      simp only [List.lookup,hb,if_pos h]
    · have hb:(g == f)=false:=beq_eq_false_iff_ne.mpr h
      simp only [List.lookup,hb,if_neg h]
  | (k,x)::r=>by
    have ih:=gE f g v r
    rw [show bO f v ((k,x)::r)=(if k=f then (k,v)::r else (k,x)::bO f v r) from rfl]
    by_cases hk:k=f
    · rw [if_pos hk]
      by_cases h:g=k
      · have hb:(g == k)=true:=beq_iff_eq.mpr h
        simp only [List.lookup,hb,if_pos (h.trans hk)]
      · have hb:(g == k)=false:=beq_eq_false_iff_ne.mpr h
        simp only [List.lookup,hb,if_neg (fun e:g=f=>h (e.trans hk.symm))]
    · rw [if_neg hk]
      by_cases h:g=k
      · have hb:(g == k)=true:=beq_iff_eq.mpr h
        simp only [List.lookup,hb,if_neg (fun e:g=f=>hk (h.symm.trans e))]
      · have hb:(g == k)=false:=beq_eq_false_iff_ne.mpr h
        simp only [List.lookup,hb]
        exact ih
theorem fJ (f:Str) (v:V):∀ fs:List (Str×V),f∈(bO f v fs).map (·.1)∧∀ g,g∈fs.map (·.1)→g∈(bO f v fs).map (·.1)
  | []=>⟨by simp [bO],fun g h=>by simp at h⟩
  | (k,x)::r=>by
    obtain ⟨i1,i2⟩:=fJ f v r
    rw [show bO f v ((k,x)::r)=(if k=f then (k,v)::r else (k,x)::bO f v r) from rfl]
    by_cases hk:k=f
    · rw [if_pos hk]
      subst hk
      exact ⟨by simp,fun g h=>by simpa using h⟩
    · rw [if_neg hk]
      refine ⟨?_,fun g h=>?_⟩
      · rw [List.map_cons]
        exact M3 _ i1
      · rw [List.map_cons] at h ⊢
        rcases List.mem_cons.mp h with e | e
        · exact List.mem_cons.mpr (.inl e)
        · exact M3 _ (i2 g e)
theorem jZ (f:Str) (v:V):∀ fs:List (Str×V),(bO f v fs).length≤fs.length+1
  | []=>by simp [bO]
  | (k,x)::r=>by
    have ih:=jZ f v r
    rw [show bO f v ((k,x)::r)=(if k=f then (k,v)::r else (k,x)::bO f v r) from rfl]
    by_cases hk:k=f
    · rw [if_pos hk,Nd,Nd];omega
    · rw [if_neg hk,Nd,Nd];omega
theorem fB.some_of {v:V} {o:Option Value} (r:fB (some v) o):∃ u,o=some u∧RelV v u:=by
  cases o with
  | none=>exact (show False from r).elim
  | some u=>exact ⟨u,rfl,r⟩
theorem fB.none_of {o:Option Value} (r:fB none o):o=none:=by
  cases o with
  | none=>rfl
  | some u=>exact (show False from r).elim
theorem yU {v:V} {u:Value} (r:RelV v u):PySem.W.handedIn u=true:=by
  cases v with
  | non=>cases (show u=Value.none from r);rfl
  | bl b=>cases (show u=Value.bool b from r);rfl
  | int i=>obtain ⟨t,e⟩:=(show ∃ t,u=Value.int i t from r);cases e;rfl
  | str x=>obtain ⟨t,e⟩:=(show ∃ t,u=Value.str x t from r);cases e;rfl
  | byt b=>obtain ⟨t,e⟩:=(show ∃ t,u=Value.bytes b t from r);cases e;rfl
  | flt b=>obtain ⟨t,e⟩:=(show ∃ t,u=Value.float b t from r);cases e;rfl
  | ref a=>cases (show u=Value.ref a from r);rfl
  | ty n=>cases (show u=Value.type n from r);rfl
section
variable {P:Program} {w:World} {H H':Hp} {h h':Heap} {a C dx:Addr} {fs fs':List (Str×V)}
theorem jm (hok:HOk P w H h) (e:H a=some (.ins C dx fs)):∃ mA,vP h a dx C mA∧(∀ f,fB (fs.lookup f) (mA f))∧PySem.Within mA (fs.map (·.1))∧fs.length≤1000∧H dx=some (.own a):=by
  obtain ⟨d,z,ne,ob,mA,n,r,q⟩:=(show bP P w H h a (.ins C dx fs) from hok a _ e)
  exact ⟨mA,⟨ob,n,ne⟩,r,q,z,d⟩
end
structure Cls (K:PySem.W.Frag) (C:Addr):Prop where
  pg:PySem.W.plainGet K C Str.empty=true
  hd:PySem.W.hasDictIn K C=true
  po:PySem.W.plainOver K C=true
  sa:PySem.W.findIn K (.ref C) "__setattr__" = some (some (.builtin "object.__setattr__"))
theorem Cls.get {K:PySem.W.Frag} {C:Addr} (c:Cls K C) (f:Str):PySem.W.plainGet K C f=true:=c.pg
def aY (K:PySem.W.Frag) (C:Addr) (f:Str):Prop:=PySem.W.findIn K (.ref C) f=some none
theorem aY.JN {K:PySem.W.Frag} {C:Addr} {f:Str} (n:aY K C f):PySem.W.takerIn K C f=some none:=by
  unfold PySem.W.takerIn
  rw [show PySem.W.findIn K (.ref C) f=some none from n]
  rfl
structure Con (K:PySem.W.Frag) (C:Addr) (f:Str) (v:V) (u:Value):Prop where
  at_:PySem.W.findIn K (.ref C) f=some (some u)
  rel:RelV v u
  get:PySem.W.specialIn K u "__get__" = some none
  cp:PySem.W.copiedNames.contains f=false
structure Meth (K:PySem.W.Frag) (C:Addr) (m:Str) (f:Addr):Prop where
  at_:PySem.W.findIn K (.ref C) m=some (some (.ref f))
  fn:PySem.W.isFn K (.ref f)=true
  kp:PySem.W.keepIn K (.ref f)=true
section
variable {X:Cx} {pins:List (Addr×Obj)} {σ : St} {H:Hp} {s:Shared} {a C dx:Addr} {fs:List (Str×V)} {f:Str} {v:V} {A:Around} {E:Value→Shared→Prop}
theorem vo {b:Bool} {Q:Value→Shared→Prop} (I:Inv X pins σ H s) (e:H a=some (.ins C dx fs)) (c:Cls X.K C) (n:aY X.K C f) (l:fs.lookup f=some v)
    (h:∀ u s',Inv X pins σ H s'→RelV v u→Q u s'):wpAny (model X.prog X.w) A (getAttr (.ref a) f b) Q E s:=by
  obtain ⟨mA,O,r,_,_,_⟩:=jm I.hok e
  obtain ⟨u,hu,ru⟩:=fB.some_of (v:=v) (o:=mA f) (by rw [← l];exact r f)
  exact get_map I.kIn O (c.get f) c.hd n hu (yU ru) (h u _ (I.tok _) ru)
theorem gc {m:Str} {g:Addr} {pl:Sem Bool} {Q:Value×List Value→Shared→Prop} (I:Inv X pins σ H s) (e:H a=some (.ins C dx fs)) (c:Cls X.K C) (k:Meth X.K C m g) (l:fs.lookup m=none)
    (h:Q (.ref g,[.ref a]) s):wpAny (model X.prog X.w) A (getMethod (.ref a) m pl) Q E s:=by
  obtain ⟨mA,O,r,_,_,_⟩:=jm I.hok e
  have hn:mA m=none:=fB.none_of (by rw [← l];exact r m)
  exact BS I.kIn O (c.get m) k.at_ k.fn hn h
theorem uu {y:V} {u:Value} {Q:Unit→Shared→Prop} (I:Inv X pins σ H s) (e:H a=some (.ins C dx fs)) (c:Cls X.K C) (n:aY X.K C f) (hl:fs.length < 1000) (ry:RelV y u)
    (h:∀ s',Inv X pins σ (upd H a (.ins C dx (bO f y fs))) s'→Q () s'):wpAny (model X.prog X.w) A (setAttr (.ref a) f u) Q E s:=by
  obtain ⟨mA,O,r,wi,_,ho⟩:=jm I.hok e
  have hz:(fs.map (·.1)).length≤sizeLine:=by rw [Nh,sizeLine_eq];omega
  refine Dn I.kIn O c.sa c.po n.JN c.hd wi hz fun h' O' sb=>h _ ?_
  have hd:∃ o,h'.get? dx=some o:=let ⟨o,_,_,e',_⟩:=O'.ns;⟨o,e'⟩
  refine I.write (x:=a) (e:=dx) (by rw [e];exact True.intro) (.inr ho) (fun b q hb z=>(sb.2 b hb).trans z) hd ?_
  refine ⟨by rw [aF O.ne];exact ho,?_,O.ne,O'.obj,_,O'.ns,fun g=>?_,fun g hg=>?_⟩
  · have:=jZ f y fs;omega
  · show fB ((bO f y fs).lookup g) (if g=f then some u else mA g)
    rw [gE]
    by_cases q:g=f
    · rw [if_pos q,if_pos q];exact ry
    · rw [if_neg q,if_neg q];exact r g
  · by_cases q:g=f
    · rw [q];exact (fJ f y fs).1
    · refine (fJ f y fs).2 g (wi g fun z=>hg ?_)
      show (if g=f then some u else mA g)=none
      rw [if_neg q];exact z
theorem Inv.made (I:Inv X pins σ H s):Inv X pins σ (upd (upd H s.heap.objs.size (.own (s.heap.objs.size+1))) (s.heap.objs.size+1) (.ins C s.heap.objs.size []))
    { s with heap:=(s.heap.push PySem.W.emptyDict).push (PySem.W.instObj C s.heap.objs.size) }:=by
  have e1:(s.heap.push PySem.W.emptyDict).get? s.heap.objs.size=some PySem.W.emptyDict:=Heap.get?_push_size s.heap rfl
  have e2:((s.heap.push PySem.W.emptyDict).push (PySem.W.instObj C s.heap.objs.size)).get? (s.heap.objs.size+1)=some (PySem.W.instObj C s.heap.objs.size):=by
    have:=Heap.get?_push_size (s.heap.push PySem.W.emptyDict) (o:=PySem.W.instObj C s.heap.objs.size) rfl
    rwa [Heap.size_push] at this
  have e3:(s.heap.push PySem.W.emptyDict).Ns s.heap.objs.size (fun _=>none):=⟨PySem.W.emptyDict,#[],_,e1,rfl,(fun e he=>absurd he (by simp)),fun _=>rfl⟩
  have I1:=I.laid (a:=s.heap.objs.size) (o:=.own (s.heap.objs.size+1)) (h':=s.heap.push PySem.W.emptyDict) (t':=s.toks) (fun b u q=>Heap.get?_push_of_some _ q) (NB _) ⟨_,e1⟩
  refine I1.laid (a:=s.heap.objs.size+1) (o:=.ins C s.heap.objs.size []) (t':=s.toks) (fun b u q=>Heap.get?_push_of_some _ q) (Nat.le_of_eq (Heap.size_push _ _)) ?_
  have ne:s.heap.objs.size≠s.heap.objs.size+1:=Nu (Nat.lt_succ_self _)
  refine ⟨by rw [aF ne,aE],NC _,ne,e2,fun _=>none,(Heap.Ns1.of_empty e3).at fun o q=>Heap.get?_push_of_some _ q,fun _=>True.intro,fun y hy=>absurd rfl hy⟩
theorem FF {prog:Program} {w:World} {env:Env} {e:Expr} {f:Str} {pos:Pos} {s:Shared} {Q:Value→Shared→Prop} (hb:attributeBase e f env (eval e env)=eval e env)
    (h:wpAny (model prog w) A (eval e env) (fun o s₁=>wpAny (model prog w) A (getAttr o f true) Q E s₁) E s):wpAny (model prog w) A (eval (.Attribute e f pos) env) Q E s:=
  Attribute_any_ h (by rw [arm_eval_Attribute,hb])
end
def JU (K:PySem.W.Frag) (ta:TE) (f:Str):TE:=fun σ H Q=>ta σ H fun x H1=>∃ a C dx fs v,x = .ref a∧H1 a=some (.ins C dx fs)∧Cls K C∧aY K C f∧fs.lookup f=some v∧Q v H1
def Ka (K:PySem.W.Frag) (ta tv:TE) (f:Str):TS:=fun D σ H=>tv σ H fun y H1=>ta σ H1 fun x H2=>∃ a C dx fs,x = .ref a∧H2 a=some (.ins C dx fs)∧Cls K C∧aY K C f∧fs.length < 1000 ∧
  D.nx σ (upd H2 a (.ins C dx (bO f y fs)))
section
variable {X:Cx} {o e value:Expr} {f:Str} {pos pos' tpos:Pos} {ta tv:TE}
theorem aQ (he:PE X e ta) (hb:attributeBase e f X.env (eval e X.env)=eval e X.env):PE X (.Attribute e f pos) (JU X.K ta f):=by
  intro pins s σ H Q I h
  refine FF hb (thn (he pins s σ H _ I h) fun u s1 ⟨x,H1,I1,rx,a,C,dx,fs,v,ex,ea,c,n,l,q⟩=>?_)
  subst ex
  obtain rfl:u=Value.ref a:=rx
  exact vo I1 ea c n l fun u' s2 I2 ru=>⟨v,H1,I2,ru,q⟩
theorem cU (ha:PE X o ta) (hv:PE X value tv) (hs:swapsWith value (some (.Attribute o f pos')) pos.line X.env=pure false):PS X (.Assign [.Attribute o f pos'] value pos) (Ka X.K ta tv f):=by
  intro pins s σ H D I h
  refine plainObj_wpAny_Assign_Attribute (thn (hv pins s σ H _ I h) fun u s1 ⟨y,H1,I1,ry,q⟩=>thn (ha pins s1 σ H1 _ I1 q) fun ov s2 ⟨x,H2,I2,rx,a,C,dx,fs,ex,ea,c,n,l,q2⟩=>?_) hs
  subst ex
  obtain rfl:ov=Value.ref a:=rx
  exact uu I2 ea c n l ry fun s3 I3=>⟨σ,_,I3,q2⟩
end
section
variable {X:Cx} {pins:List (Addr×Obj)} {σ : St} {H:Hp} {s:Shared} {A:Around} {E:Value→Shared→Prop} {Q:Value→Shared→Prop} {c:Value} {b:Bool}
inductive iy (K:PySem.W.Frag) (H:Hp):V→Value→Prop where
  | non:iy K H .non (.type "NoneType")
  | bl (x:Bool):iy K H (.bl x) (.type "bool")
  | int (i:Int):iy K H (.int i) (.type "int")
  | str (x:Str):iy K H (.str x) (.type "str")
  | flt (x:UInt64):iy K H (.flt x) (.type "float")
  | lst {a:Addr} {xs:List V} (e:H a=some (.lst xs)):iy K H (.ref a) (.type "list")
  | frz {a:Addr} {o:Obj} {xs:List V} (e:H a=some (.frz o (.lst xs))):iy K H (.ref a) (.type "list")
  | tup {a:Addr} {xs:List V} (e:H a=some (.tup xs)):iy K H (.ref a) (.type "tuple")
  | dK {a:Addr} {kvs:List (Key×V)} (e:H a=some (.dK kvs)):iy K H (.ref a) (.type "dict")
  | dT {a:Addr} {kvs:List (List Key×V)} (e:H a=some (.dT kvs)):iy K H (.ref a) (.type "dict")
  | ins {a C dx:Addr} {fs:List (Str×V)} (e:H a=some (.ins C dx fs)) (cl:Cls K C) (ha:PySem.W.findIn K (.ref C) "__class__" = some (some (.builtin "object.__class__")))
      (hn:PySem.W.specialIn K (.builtin "object.__class__") "__get__" = some (some (.builtin "getset_descriptor.__get__"))) (htk:PySem.W.takesIn K (.builtin "object.__class__")=some true)
      (hm:PySem.W.mroIn K C (.type "object")=some true):iy K H (.ref a) (.ref C)
theorem nZ {x:V} {u t:Value} (I:Inv X pins σ H s) (rx:RelV x u) (ty:iy X.K H x t) (e:PySem.W.kitOne X.K t c=some b) (h:∀ tk,Q (.bool b) { s with toks:=tk }) :
    wpAny (model X.prog X.w) A (call (.builtin "isinstance") [u,c]) Q E s:=by
  cases ty with
  | non=>cases (show u=Value.none from rx);exact PySem.W.kia_one PySem.W.kitx_none I.kIn True.intro e (fun z=>nomatch z) h
  | bl y=>cases (show u=Value.bool y from rx);exact PySem.W.kia_one PySem.W.kitx_bool I.kIn True.intro e (fun z=>nomatch z) h
  | int i=>obtain ⟨t,q⟩:=(show ∃ t,u=Value.int i t from rx);cases q;exact PySem.W.kia_one PySem.W.kitx_int I.kIn True.intro e (fun z=>nomatch z) h
  | str y=>obtain ⟨t,q⟩:=(show ∃ t,u=Value.str y t from rx);cases q;exact PySem.W.kia_one PySem.W.kitx_str I.kIn True.intro e (fun z=>nomatch z) h
  | flt y=>obtain ⟨t,q⟩:=(show ∃ t,u=Value.float y t from rx);cases q;exact PySem.W.kia_one PySem.W.kitx_float I.kIn True.intro e (fun z=>nomatch z) h
  | @lst a xs ea=>
    cases (show u=Value.ref a from rx)
    obtain ⟨_,_,n,_,h1⟩:=(show bP X.prog X.w H s.heap a (.lst xs) from I.hok a _ ea)
    exact PySem.W.kia_one PySem.W.kitx_list I.kIn ⟨_,h1,rfl⟩ e (fun z=>nomatch z) h
  | @frz a ob xs ea=>
    cases (show u=Value.ref a from rx)
    obtain ⟨_,_,_,n,_,h1⟩:=(show bP X.prog X.w H s.heap a (.frz ob (.lst xs)) from I.hok a _ ea)
    exact PySem.W.kia_one PySem.W.kitx_list I.kIn ⟨_,h1,rfl⟩ e (fun z=>nomatch z) h
  | @tup a xs ea=>
    cases (show u=Value.ref a from rx)
    obtain ⟨_,_,_,p⟩:=(show bP X.prog X.w H s.heap a (.tup xs) from I.hok a _ ea)
    obtain ⟨o,h1,h2,_⟩:=p
    exact PySem.W.kia_one PySem.W.kitx_tuple I.kIn ⟨o,h1,h2⟩ e (fun z=>nomatch z) h
  | @dK a kvs ea=>
    cases (show u=Value.ref a from rx)
    obtain ⟨_,_,vs,_,p⟩:=(show bP X.prog X.w H s.heap a (.dK kvs) from I.hok a _ ea)
    obtain ⟨o,es,ep,h1,h2,_⟩:=p
    exact PySem.W.kia_one PySem.W.kitx_dict I.kIn ⟨o,h1,h2.1⟩ e (fun z=>nomatch z) h
  | @dT a kvs ea=>
    cases (show u=Value.ref a from rx)
    obtain ⟨_,_,xs,_,o,es,ep,h1,h2,_⟩:=(show bP X.prog X.w H s.heap a (.dT kvs) from I.hok a _ ea)
    exact PySem.W.kia_one PySem.W.kitx_dict I.kIn ⟨o,h1,h2.1⟩ e (fun z=>nomatch z) h
  | @ins a C dx fs ea cl ha hn htk hm=>
    cases (show u=Value.ref a from rx)
    obtain ⟨mA,O,_⟩:=jm I.hok ea
    obtain ⟨od,J,_⟩:=O.look
    exact PySem.W.kia_one (PySem.W.kitx_own (cl.get _) cl.hd ha hn htk hm) I.kIn J e (fun z=>nomatch z) h
end
structure bX (k:Nat) (A:Around):Prop where
  hd:A.handled=none
  dp:A.depth+3 * k+5 < recursionLimit
  un:A.units+16 * k+200 < cLine
theorem bX.mono {j k:Nat} {A:Around} (r:bX k A) (h:j≤k):bX j A:=⟨r.hd,by have:=r.dp;omega,by have:=r.un;omega⟩
theorem bX.deeper {k:Nat} {A:Around} (r:bX (k+1) A) (env:Env):bX k (A.deeper env):=
  ⟨r.hd,by have:=r.dp;show A.depth+1+3 * k+5 < _;omega,by have:=r.un;show A.units+3+16 * k+200 < _;omega⟩
theorem vg {A:Around} {C:Addr} {us:List Value} {kw:List (Str×Value)}:(A.under (.builtin "type.__call__" ⟨.ref C::us,kw⟩)).depth=A.depth+1:=by
  first | rfl | simp [Around.under,Code.weight,Code.isCreation,Code.isGuard,Code.isCaller,Code.frames,Code.isFrame,guardIds]
theorem vf {A:Around} {C:Addr} {us:List Value} {kw:List (Str×Value)}:(A.under (.builtin "type.__call__" ⟨.ref C::us,kw⟩)).units=A.units+1:=by
  first | rfl | simp [Around.under,Code.cUnits,Code.frames,Code.isFrame]
theorem bX.make {k:Nat} {A:Around} (r:bX (k+1) A) (C:Addr) (us:List Value) (kw:List (Str×Value)):bX k (A.under (.builtin "type.__call__" ⟨.ref C::us,kw⟩)):=
  ⟨r.hd,by have:=r.dp;rw [vg];omega,by have:=r.un;rw [vf];omega⟩
theorem bX.depth {k:Nat} {A:Around} (r:bX k A):A.depth < recursionLimit:=by have:=r.dp;omega
theorem bX.units {k:Nat} {A:Around} (r:bX k A):A.units+64 < cLine:=by have:=r.un;omega
def oK:TA:=fun _ H Q=>Q [] H
def nk (ta:TE) (tr:TA):TA:=fun σ H Q=>ta σ H fun x H1=>tr σ H1 fun xs H2=>Q (x::xs) H2
section
variable {X:Cx} {e:Expr} {es:List Expr} {te:TE} {t:TA} {pos:Pos}
theorem af:PA X [] oK:=fun _ _ _ _ H Q I h=>Calls.spliced_nil ⟨[],H,I,.nil,h⟩
theorem aa (ha:PE X e te) (hr:PA X es t) (hs:starEach (e::es) X.env=(false,eval e X.env)::starEach es X.env:=by rfl):PA X (e::es) (nk te t):=by
  intro pos pins s σ H Q I h
  rw [hs]
  show wpAny _ _ (spliced ((false,eval e X.env)::backTo pos (starEach es X.env))) _ _ s
  refine Calls.spliced_cons (thn (ha pins s σ H _ I h) fun u s1 ⟨x,H1,I1,r1,q1⟩=>?_)
  exact thn (hr pos pins s1 σ H1 _ I1 q1) fun us s2 ⟨xs,H2,I2,r2,q2⟩=>⟨x::xs,H2,I2,.cons r1 r2,q2⟩
def Dc (t:TA):TE:=fun σ H Q=>t σ H fun xs H1=>xs.length≤sizeLine∧∀ p,H1 p=none→Q (.ref p) (upd H1 p (.tup xs))
def JQ (t:TA):TE:=fun σ H Q=>t σ H fun xs H1=>xs.length≤sizeLine∧∀ p,H1 p=none→Q (.ref p) (upd H1 p (.lst xs))
theorem bA {x1} (h:PA X es t):PE X (.Tuple es x1 pos) (Dc t):=by
  intro pins s σ H Q I hq
  refine wpAny_Tuple_spliced (thn (h pos pins s σ H _ I hq) fun us s1 ⟨xs,H1,I1,r,z,q⟩=>⟨by rw [← r.length];exact z,?_⟩)
  have hf:H1 s1.heap.objs.size=none:=I1.hok.fresh (NB _)
  refine ⟨.ref s1.heap.objs.size,upd H1 s1.heap.objs.size (.tup xs),I1.laid (t':=s1.toks) (fun b u e=>Heap.get?_push_of_some _ e) (NB _) ?_,rfl,q _ hf⟩
  exact ⟨z,us,r,⟨_,Heap.get?_push_size _ rfl,rfl,_,rfl⟩⟩
theorem bQ (h:PA X es t):PE X (.List es pos) (JQ t):=by
  intro pins s σ H Q I hq
  refine wpAny_List_spliced (thn (h pos pins s σ H _ I hq) fun us s1 ⟨xs,H1,I1,r,z,q⟩=>⟨by rw [← r.length];exact z,?_⟩)
  have hf:H1 s1.heap.objs.size=none:=I1.hok.fresh (NB _)
  refine ⟨.ref s1.heap.objs.size,upd H1 s1.heap.objs.size (.lst xs),I1.laid (t':=s1.toks) (fun b u e=>Heap.get?_push_of_some _ e) (NB _) ?_,rfl,q _ hf⟩
  exact ⟨z,us,0,r,Heap.get?_push_size _ rfl⟩
end
abbrev Sp:=List V→Hp→VK→XK→Prop
abbrev CXT:=List Env→Hp→Shared→XK→Value→Shared→Prop
structure tM (P:Program) (w:World) (K:PySem.W.Frag) (mg:Str→Option Value) (base:Heap) (A:Around) (outer:List Env) (s:Shared) (H:Hp):Prop where
  frames:A.frames=some outer
  mod:Mod K mg base
  bs:∀ b o,base.get? b=some o→s.heap.get? b=some o∧H b=none
  bsz:base.objs.size≤s.heap.objs.size
  iQ:s.heap.FunFrames base outer
  frf:∀ b∈frs outer,H b=none
  hok:HOk P w H s.heap
  bare:AllBare s.gens
def CE (outer:List Env) (P:Program) (w:World) (H:Hp) (s:Shared) (Q:VK) (u:Value) (s':Shared):Prop:=
  ∃ v H',s'.os=s.os∧AllBare s'.gens∧Un (frs outer) [] H H' s.heap s'.heap∧HOk P w H' s'.heap∧RelV v u∧Q v H'
def CR (CX:CXT) (outer:List Env) (P:Program) (w:World) (H:Hp) (s:Shared) (Q:VK) (E:XK) (r:Result) (s':Shared):Prop:=
  match r with
  | .ok (.ret u)=>CE outer P w H s Q u s'
  | .ok _=>False
  | .error e=>CX outer H s E e s'
structure e7 (P:Program) (w:World) (K:PySem.W.Frag) (mg:Str→Option Value) (base:Heap) (CX:CXT) (k:Nat) (f:Addr) (fd:FuncData) (ps:List Str) (sp:Sp):Prop where
  len:∀ vs H Q E,sp vs H Q E→vs.length=ps.length
  run:∀ (A:Around) (outer:List Env) (s:Shared) (H:Hp) (args:Args) (us:List Value) (vs:List V) (Q:VK) (E:XK),bX k A→tM P w K mg base A outer s H→BindsTo s fd args (ps.zip us)→Vals vs us→sp vs H Q E →
    codeAny (model P w) A (.call (.ref f) args) (CR CX outer P w H s Q E) s
theorem e7.imp {P:Program} {w:World} {K:PySem.W.Frag} {mg:Str→Option Value} {base:Heap} {CX:CXT} {k:Nat} {f:Addr} {fd:FuncData} {ps:List Str} {sp sp':Sp} (F:e7 P w K mg base CX k f fd ps sp)
    (h:∀ vs H Q E,sp' vs H Q E→sp vs H Q E):e7 P w K mg base CX k f fd ps sp':=
  ⟨fun vs H Q E q=>F.len vs H Q E (h _ _ _ _ q),fun A outer s H args us vs Q E hr he hb hv hs=>F.run A outer s H args us vs Q E hr he hb hv (h _ _ _ _ hs)⟩
theorem tM.make {P:Program} {w:World} {K:PySem.W.Frag} {mg:Str→Option Value} {base:Heap} {A:Around} {outer:List Env} {s:Shared} {H:Hp} (e:tM P w K mg base A outer s H) (C:Addr) (us:List Value) (kw:List (Str×Value)) :
    tM P w K mg base (A.under (.builtin "type.__call__" ⟨.ref C::us,kw⟩)) outer s H:=⟨by first | exact e.frames | (simpa [Around.under,Code.envs,Code.isFrame,pushEnvs] using e.frames),e.mod,e.bs,e.bsz,e.iQ,e.frf,e.hok,e.bare⟩
section
variable {X:Cx} {pins:List (Addr×Obj)} {σ : St} {H:Hp} {s s':Shared}
theorem Inv.Fo (I:Inv X pins σ H s):tM X.prog X.w X.K X.mg X.base X.A X.stack s H:=
  ⟨I.ok.frames,I.ok.mod,I.bs,Nq I.ok.bsz I.sz,I.stack,I.oO,I.hok,I.bare⟩
theorem Inv.after {Q:VK} {u:Value} (I:Inv X pins σ H s) (h:CE X.stack X.prog X.w H s Q u s'):EP X pins σ Q u s':=by
  obtain ⟨v,H',os,bare,un,hok,r,q⟩:=h
  obtain ⟨hh,g,d,t,os'⟩:=s'
  obtain rfl:os'=s.os:=os
  exact ⟨v,H',I.call (h':=hh) (g':=g) (d':=d) (t':=t) (ch:=[]) un hok bare (fun b z=>absurd z (by simp)),r,q⟩
end
def zW (sp:Sp) (dvs:List V) (E:XK) (t:TA):TE:=fun σ H Q=>t σ H fun vs H1=>sp (vs++dvs) H1 Q E
def qF (C:Addr) (m:Str) (sp:Sp) (dvs:List V) (E:XK) (ta:TE) (t:TA):TE:=fun σ H Q=>ta σ H fun x H1=>∃ a dx fs,x = .ref a∧H1 a=some (.ins C dx fs)∧fs.lookup m=none ∧
  t σ H1 fun vs H2=>sp (x::(vs++dvs)) H2 Q E
def kQ (C:Addr) (sp:Sp) (dvs:List V) (E:XK) (t:TA):TE:=fun σ H Q=>t σ H fun vs H1=>∀ x dx,H1 x=none→H1 dx=none→dx≠x →
  sp (.ref x::(vs++dvs)) (upd (upd H1 dx (.own x)) x (.ins C dx [])) (fun v H2=>v = .non∧Q (.ref x) H2) E
def Binds (K:PySem.W.Frag) (fd:FuncData) (ps:List Str) (ds:List Value):Prop:=
  ∀ (s:Shared) (us:List Value),K.In s.heap→(us++ds).length=ps.length→BindsTo s fd ⟨us,[]⟩ (ps.zip (us++ds))
theorem Binds.all {K:PySem.W.Frag} {fd:FuncData} {ps:List Str} (h:∀ us:List Value,us.length=ps.length→bindArgs fd ⟨us,[]⟩=pure (ps.zip us)):Binds K fd ps []:=fun s us _ hl=>by
  rw [Nk] at hl ⊢
  exact .of_eq (h us hl)
def Passes (CX:CXT) (X:Cx) (E:XK):Prop:=∀ (pins:List (Addr×Obj)) (σ : St) (H:Hp) (s:Shared) (e:Value) (s':Shared),Inv X pins σ H s→CX X.stack H s E e s'→X.xe e s'
section
variable {X:Cx} {CX:CXT} {k:Nat} {f C:Addr} {fd:FuncData} {ps:List Str} {sp:Sp} {dvs:List V} {ds:List Value} {E:XK} {x m:Str} {p pos apos:Pos} {e o:Expr} {es:List Expr} {ta:TE} {t:TA}
theorem uI {pins:List (Addr×Obj)} {σ : St} {H:Hp} {s:Shared} {Q:VK} {us:List Value} {vs:List V} (F:e7 X.prog X.w X.K X.mg X.base CX k f fd ps sp) (hr:bX k X.A) (hb:Binds X.K fd ps ds) (hd:Vals dvs ds) (hx:Passes CX X E)
    (I:Inv X pins σ H s) (r:Vals vs us) (h:sp (vs++dvs) H Q E):wpAny (model X.prog X.w) X.A (call (.ref f) us) (EP X pins σ Q) X.xe s:=by
  have r2:Vals (vs++dvs) (us++ds):=r.append hd
  have hl:(us++ds).length=ps.length:=by rw [← r2.length];exact F.len _ _ _ _ h
  refine wpAny_call (codeAny_mono (F.run X.A X.stack s H ⟨us,[]⟩ (us++ds) (vs++dvs) Q E hr I.Fo (hb s us I.kIn hl) r2 h) fun r s' hq=>?_)
  cases r with
  | error e=>exact hx pins σ H s e s' I hq
  | ok fl=>
    cases fl with
    | ret u=>exact I.after hq
    | next=>exact False.elim hq
    | brk=>exact False.elim hq
    | cont=>exact False.elim hq
theorem D3 (F:e7 X.prog X.w X.K X.mg X.base CX k f fd ps sp) (hr:bX k X.A) (hg:Gl X x) (hm:X.mg x=some (.ref f)) (hk:PySem.W.keepIn X.K (.ref f)=true) (hb:Binds X.K fd ps ds) (hd:Vals dvs ds) (hx:Passes CX X E)
    (ha:PA X (e::es) t) (hdb:(x == ("__debug__" : Str))=false:=by decide) (he:starEach (e::es) X.env=(false,eval e X.env)::starEach es X.env:=by rfl) (hpl:(backTo pos (starEach es X.env)).any (·.1)=false:=by rfl) :
    PE X (.Call (.Name x p) (e::es) [] pos) (zW sp dvs E t):=by
  intro pins s σ H Q I h
  refine wpAny_Call_Name_kw (eG I hg hm ?_ hdb)
  refine PySem.W.callWith_K (h₀:=X.base) I.ok.mod.kin hk (thn (ha pos pins s σ H _ I h) fun us s1 ⟨vs,H1,I1,r,q⟩=>⟨I1.kIn,?_⟩) he hpl
  exact uI F hr hb hd hx I1 r q
theorem DW {pl:Sem Bool} (he:PE X o ta) (c:Cls X.K C) (hm:Meth X.K C m f) (F:e7 X.prog X.w X.K X.mg X.base CX k f fd ps sp) (hr:bX k X.A) (hb:Binds X.K fd ps ds) (hd:Vals dvs ds) (hx:Passes CX X E) (ha:PA X (e::es) t)
    (hst:starEach (e::es) X.env=(false,eval e X.env)::starEach es X.env:=by rfl) (hpl:(backTo pos (starEach es X.env)).any (·.1)=false:=by rfl)
    (ht:eval (.Call (.Attribute o m apos) (e::es) [] pos) X.env=(do
      let ov ← eval o X.env
      standAt apos.atName
      let (f,first) ← holding [ov] (getMethod ov m pl)
      callWith pos f first (backTo pos (starEach (e::es) X.env)) (backToKw pos (keywordEach [] X.env))):=by rfl) :
    PE X (.Call (.Attribute o m apos) (e::es) [] pos) (qF C m sp dvs E ta t):=by
  intro pins s σ H Q I h
  refine PySem.W.methodCall_KW (pl:=pl) (thn (he pins s σ H _ I h) fun u s1 ⟨x,H1,I1,rx,a,dx,fs,ex,ea,l,q⟩=>?_) ht
  subst ex
  obtain rfl:u=Value.ref a:=rx
  refine gc I1 ea c hm l ?_
  refine PySem.W.callWith_K (first:=[.ref a]) (h₀:=X.base) I.ok.mod.kin hm.kp (thn (ha pos pins s1 σ H1 _ I1 q) fun us s2 ⟨vs,H2,I2,r,q2⟩=>⟨I2.kIn,?_⟩) hst hpl
  exact uI (us:=.ref a::us) (vs:=.ref a::vs) F hr hb hd hx I2 (.cons rfl r) q2
theorem A1 {pl:Sem Bool} (he:PE X o ta) (c:Cls X.K C) (hm:Meth X.K C m f) (F:e7 X.prog X.w X.K X.mg X.base CX k f fd ps sp) (hr:bX k X.A) (hb:Binds X.K fd ps ds) (hd:Vals dvs ds) (hx:Passes CX X E)
    (ht:eval (.Call (.Attribute o m apos) [] [] pos) X.env=(do
      let ov ← eval o X.env
      standAt apos.atName
      let (f,first) ← holding [ov] (getMethod ov m pl)
      callWith pos f first (backTo pos (starEach [] X.env)) (backToKw pos (keywordEach [] X.env))):=by rfl) :
    PE X (.Call (.Attribute o m apos) [] [] pos) (qF C m sp dvs E ta oK):=by
  intro pins s σ H Q I h
  refine PySem.W.methodCall_KW (pl:=pl) (thn (he pins s σ H _ I h) fun u s1 ⟨x,H1,I1,rx,a,dx,fs,ex,ea,l,q⟩=>?_) ht
  subst ex
  obtain rfl:u=Value.ref a:=rx
  refine gc I1 ea c hm l ?_
  exact PySem.W.callWith_K0 (first:=[.ref a]) I1.kIn hm.kp (uI (us:=[.ref a]) (vs:=[.ref a]) F hr hb hd hx I1 (.cons rfl .nil) q)
structure Mk (K:PySem.W.Frag) (C f:Addr):Prop where
  makes:PySem.W.makesIn K C=true
  init:PySem.W.findIn K (.ref C) "__init__" = some (some (.ref f))
  fn:PySem.W.isFn K (.ref f)=true
  kp:PySem.W.keepIn K (.ref C)=true
theorem rB {pins:List (Addr×Obj)} {σ : St} {H:Hp} {s:Shared} {Q:VK} {us:List Value} {vs:List V} (M:Mk X.K C f) (F:e7 X.prog X.w X.K X.mg X.base CX k f fd ps sp) (hr:bX (k+1) X.A) (hb:Binds X.K fd ps ds) (hd:Vals dvs ds)
    (hx:Passes CX X E) (I:Inv X pins σ H s) (r:Vals vs us)
    (h:∀ x dx,H x=none→H dx=none→dx≠x→sp (.ref x::(vs++dvs)) (upd (upd H dx (.own x)) x (.ins C dx [])) (fun v H2=>v = .non∧Q (.ref x) H2) E) :
    wpAny (model X.prog X.w) X.A (call (.ref C) us) (EP X pins σ Q) X.xe s:=by
  have hq:=h (s.heap.objs.size+1) s.heap.objs.size (I.hok.fresh (ND _)) (I.hok.fresh (NB _)) (Nu (Nat.lt_succ_self _))
  have I2:=Inv.made (C:=C) I
  have r2:Vals (V.ref (s.heap.objs.size+1)::(vs++dvs)) (Value.ref (s.heap.objs.size+1)::(us++ds)):=.cons rfl (r.append hd)
  have hl:(Value.ref (s.heap.objs.size+1)::us++ds).length=ps.length:=by
    have e:=r2.length
    rw [F.len _ _ _ _ hq] at e
    exact e.symm
  refine wpAny_call (BD (f:=f) I.kIn M.makes M.init (beq_iff_eq.mp M.fn) (codeAny_mono (F.run _ X.stack _ _ ⟨Value.ref (s.heap.objs.size+1)::us,[]⟩ (Value.ref (s.heap.objs.size+1)::(us++ds)) _ _ E (hr.make C us [])
    (I2.Fo.make C us []) (hb _ (Value.ref (s.heap.objs.size+1)::us) I2.kIn hl) r2 hq) fun r s' hq'=>?_))
  cases r with
  | error e=>exact hx pins σ _ _ e s' I2 hq'
  | ok fl=>
    cases fl with
    | ret u=>
      obtain ⟨v,H',I3,rv,ev,q3⟩:=I2.after hq'
      subst ev
      exact ⟨rv,⟨V.ref (s.heap.objs.size+1),H',I3,rfl,q3⟩⟩
    | next=>exact False.elim hq'
    | brk=>exact False.elim hq'
    | cont=>exact False.elim hq'
theorem wU (M:Mk X.K C f) (F:e7 X.prog X.w X.K X.mg X.base CX k f fd ps sp) (hr:bX (k+1) X.A) (hg:Gl X x) (hm:X.mg x=some (.ref C)) (hb:Binds X.K fd ps ds) (hd:Vals dvs ds) (hx:Passes CX X E)
    (ha:PA X (e::es) t) (hdb:(x == ("__debug__" : Str))=false:=by decide) (he:starEach (e::es) X.env=(false,eval e X.env)::starEach es X.env:=by rfl) (hpl:(backTo pos (starEach es X.env)).any (·.1)=false:=by rfl) :
    PE X (.Call (.Name x p) (e::es) [] pos) (kQ C sp dvs E t):=by
  intro pins s σ H Q I h
  refine wpAny_Call_Name_kw (eG I hg hm ?_ hdb)
  refine PySem.W.callWith_K (h₀:=X.base) I.ok.mod.kin M.kp (thn (ha pos pins s σ H _ I h) fun us s1 ⟨vs,H1,I1,r,q⟩=>⟨I1.kIn,?_⟩) he hpl
  exact rB M F hr hb hd hx I1 r q
theorem A2 (M:Mk X.K C f) (F:e7 X.prog X.w X.K X.mg X.base CX k f fd ps sp) (hr:bX (k+1) X.A) (hg:Gl X x) (hm:X.mg x=some (.ref C)) (hb:Binds X.K fd ps ds) (hd:Vals dvs ds) (hx:Passes CX X E)
    (hdb:(x == ("__debug__" : Str))=false:=by decide):PE X (.Call (.Name x p) [] [] pos) (kQ C sp dvs E oK):=by
  intro pins s σ H Q I h
  refine wpAny_Call_Name_kw (eG I hg hm ?_ hdb)
  exact PySem.W.callWith_K0 I.kIn M.kp (rB (us:=[]) M F hr hb hd hx I .nil h)
end
section
variable {X:Cx} {CX:CXT} {k:Nat} {f C:Addr} {fd:FuncData} {ps ks:List Str} {sp:Sp} {E:XK} {x m:Str} {p pos apos kpos:Pos} {e o:Expr} {es:List Expr} {kws:List Keyword} {te ta:TE} {t tk:TA} {nm:Option Str}
structure My (K:PySem.W.Frag) (fd:FuncData) (ps ks:List Str) (g:List Value→List Value→List Value) (gV:List V→List V→List V):Prop where
  to:∀ (s:Shared) (us ws:List Value),K.In s.heap→(g us ws).length=ps.length→BindsTo s fd ⟨us,ks.zip ws⟩ (ps.zip (g us ws))
  rel:∀ {vs:List V} {us:List Value} {zs:List V} {ws:List Value},Vals vs us→Vals zs ws→Vals (gV vs zs) (g us ws)
variable {g:List Value→List Value→List Value} {gV:List V→List V→List V}
end
structure aq (N P:List Str) (sc:Scope):Prop where
  kind:sc.kind = .function
  co:sc.isCoroutine=false
  gen:sc.isGenerator=false
  nd:N.Nodup
  pre:N.take P.length=P
  par:∀ x∈P,sc.names.lookup x=some .local∨sc.names.lookup x=some .cell
  nofree:∀ y∈sc.names,y.2≠.free
theorem ou {kindOf:Str→Option NameKind} {x:Str}:∀ {binds:List (Str×Value)} {m:Str→Option Value},(∀ v,(x,v)∉binds)→bindL kindOf binds m x=m x
  | [],_,_=>rfl
  | (n,v)::r,m,h=>by
    unfold bindL
    rw [ou fun w hw=>h w (M3 _ hw)]
    split
    · have:x≠n:=by rintro rfl;exact h v M7
      simp [this]
    · rfl
theorem oA {kindOf:Str→Option NameKind} {x:Str}:∀ {binds:List (Str×Value)} {m:Str→Option Value},(∀ v,(x,v)∉binds)→bindC kindOf binds m x=m x
  | [],_,_=>rfl
  | (n,v)::r,m,h=>by
    unfold bindC
    rw [oA fun w hw=>h w (M3 _ hw)]
    split
    · rfl
    · have:x≠n:=by rintro rfl;exact h v M7
      simp [this]
theorem oz {kindOf:Str→Option NameKind} {x:Str} {v:Value}:∀ {P:List Str} {vs:List Value} {i:Nat} {m:Str→Option Value},P.Nodup→P[i]?=some x→vs[i]?=some v→kindOf x=some .local →
    bindL kindOf (P.zip vs) m x=some v
  | [],_,_,_,_,h,_,_=>by simp at h
  | _::_,[],_,_,_,_,h,_=>by simp at h
  | p::P,w::vs,0,m,nd,h1,h2,hk=>by
    simp at h1 h2;subst h1;subst h2
    show bindL kindOf ((p,w)::P.zip vs) m p=_
    unfold bindL
    rw [ou fun v hv=>(List.nodup_cons.mp nd).1 (List.of_mem_zip hv).1,if_pos hk]
    simp
  | p::P,w::vs,i+1,m,nd,h1,h2,hk=>by
    show bindL kindOf ((p,w)::P.zip vs) m x=_
    unfold bindL
    exact oz (i:=i) (List.nodup_cons.mp nd).2 (by simpa using h1) (by simpa using h2) hk
theorem oB {kindOf:Str→Option NameKind} {x:Str} {v:Value}:∀ {P:List Str} {vs:List Value} {i:Nat} {m:Str→Option Value},P.Nodup→P[i]?=some x→vs[i]?=some v→kindOf x≠some .local →
    bindC kindOf (P.zip vs) m x=some v
  | [],_,_,_,_,h,_,_=>by simp at h
  | _::_,[],_,_,_,_,h,_=>by simp at h
  | p::P,w::vs,0,m,nd,h1,h2,hk=>by
    simp at h1 h2;subst h1;subst h2
    show bindC kindOf ((p,w)::P.zip vs) m p=_
    unfold bindC
    rw [oA fun v hv=>(List.nodup_cons.mp nd).1 (List.of_mem_zip hv).1,if_neg hk]
    simp
  | p::P,w::vs,i+1,m,nd,h1,h2,hk=>by
    show bindC kindOf ((p,w)::P.zip vs) m x=_
    unfold bindC
    exact oB (i:=i) (List.nodup_cons.mp nd).2 (by simpa using h1) (by simpa using h2) hk
def start (N:List Str) (vs:List V):St:=vs.map some++List.replicate (N.length - vs.length) none
def aZ (CX:CXT) (P:Program) (w:World) (K:PySem.W.Frag) (mg:Str→Option Value) (base:Heap) (N:List Str) (qual:Str) (scope:Scope) (f:Addr) (cd:Value) (A:Around) (outer:List Env) (s:Shared) (H:Hp) (E:XK):Cx where
  prog:=P
  w:=w
  K:=K
  mg:=mg
  base:=base
  A:=A.deeper (envOfC qual scope s.heap.objs.size f cd)
  N:=N
  s₀:=s
  H₀:=H
  env:=envOfC qual scope s.heap.objs.size f cd
  outer:=outer
  stack:=envOfC qual scope s.heap.objs.size f cd::outer
  ex:=[]
  calm:=true
  fn:=fun _=>true
  pn:=[]
  xe:=fun e s'=>wpAny (model P w) (A.deeper (envOfC qual scope s.heap.objs.size f cd)) (leaving (envOfC qual scope s.heap.objs.size f cd) e) (fun _ s''=>CX outer H s E e s'') (fun e' s''=>CX outer H s E e' s'') s'
theorem sW {sc:Scope} {n:Nat} {x:Str} (h:sc.names.lookup x=some .cell):∃ c,(cellsFrom n sc.names []).lookup x=some c:=by
  have q:=PySem.W.cellsFrom_some sc.names n [] (.inl h)
  exact Option.isSome_iff_exists.mp q
theorem yR {CX:CXT} {P:Program} {w:World} {K:PySem.W.Frag} {mg:Str→Option Value} {base:Heap} {N ps:List Str} {qual:Str} {scope:Scope} {f:Addr} {cd:Value} {A:Around} {outer:List Env} {s s1:Shared} {H:Hp} {E:XK} {us:List Value} {vs:List V}
    (S:aq N ps scope) (hd:A.handled=none) (e0:tM P w K mg base A outer s H) (hl:vs.length=ps.length) (r:Vals vs us)
    (x:InCallC s s.heap.objs.size (bindL (envOfC qual scope s.heap.objs.size f cd).kindOf (ps.zip us) fun _=>none) (cellsFrom (s.heap.objs.size+1) scope.names []) (bindC (envOfC qual scope s.heap.objs.size f cd).kindOf (ps.zip us) fun _=>none) s1) :
    Inv (aZ CX P w K mg base N qual scope f cd A outer s H E) [] (start N vs) H s1:=by
  have hpl:ps.length≤N.length:=by have:=congrArg List.length S.pre;rw [Nf] at this;omega
  obtain ⟨h1,tk,rfl,hk⟩:=x.done
  have noA:∀ b:Addr,b∉(aZ CX P w K mg base N qual scope f cd A outer s H E).ex:=fun b z=>absurd (show b∈([]:List Addr) from z) (by simp)
  refine ⟨⟨e0.mod,S.kind,rfl,rfl,NB _,fun y z c h1 h2=>?_,fun y hy=>?_,fun y c _ h=>?_,fun _=>hd,Around.frames_deeper e0.frames,.inr ⟨rfl,rfl⟩,fun b z=>absurd z (noA b),e0.bs,e0.bsz,fun b _ _=>noA b,fun b z=>absurd z (noA b),e0.iQ,e0.frf⟩,
    rfl,e0.bare,Un.kept hk,⟨_,x.toInCall.ns,fun i y v h1 h2 h3=>?_⟩,fun y c h=>⟨_,x.cell y c h⟩,e0.hok.fresh (NB _),fun y c h=>?_,fun p hp=>absurd (show p∈([]:List (Addr×Obj)) from hp) (by simp),e0.hok.kept hk,?_⟩
  · exact name_of_addr x.apart (PySem.mem_of_lookup h1) (PySem.mem_of_lookup h2)
  · have hy:scope.names.lookup y=some .cell∨scope.names.lookup y=some .free:=hy
    rcases hy with hy | hy
    · exact sW hy
    · exact absurd rfl (S.nofree _ (PySem.mem_of_lookup hy))
  · exact Nr (x.above y c (PySem.mem_of_lookup h))
  · have hi:i < vs.length:=by
      unfold start at h2
      by_cases hi:i < vs.length
      · exact hi
      · rw [MO (by simpa using hi)] at h2
        rw [List.getElem?_replicate] at h2
        split at h2 <;> cases h2
    have ha:vs[i]?=some v:=by
      unfold start at h2
      rw [MP (by simpa using hi),Nb] at h2
      cases e:vs[i]? with
      | none=>rw [e] at h2;cases h2
      | some a=>rw [e] at h2;cases h2;rfl
    obtain ⟨u,hu,rv⟩:=r.get ha
    have hp:ps[i]?=some y:=by
      rw [← S.pre,List.getElem?_take_of_lt (by omega)];exact h1
    have ndP:ps.Nodup:=by rw [← S.pre];exact S.nd.sublist (List.take_sublist _ _)
    refine ⟨u,rv,?_⟩
    rcases S.par y (M0 hp) with k | k
    · exact .inl ⟨k,oz ndP hp hu k⟩
    · obtain ⟨c,e⟩:=sW (n:=s.heap.objs.size+1) k
      refine .inr ⟨.inl k,c,e,?_⟩
      have q:=x.cell y c e
      rw [oB ndP hp hu (by show scope.names.lookup y≠_;rw [k];decide)] at q
      exact q
  · exact e0.hok.fresh (Nr (x.above y c (PySem.mem_of_lookup h)))
  · unfold start
    show _=N.length
    rw [M6,Nh,MY]
    omega
theorem sJ {CX:CXT} {P:Program} {w:World} {K:PySem.W.Frag} {mg:Str→Option Value} {base:Heap} {k:Nat} {f:Addr} {name qual:Str} {params:Arguments} {body:List Stmt} {scope:Scope} {dV kV doc pm cdv ct oc:Value} {an od:Option Addr}
    {osl:Array (Option Value)} {N ps:List Str} {sp:Sp} (lk:K.lookup f=some ⟨oc,od,.func (PySem.W.fnOf name qual params body scope dV kV doc pm an cdv ct),osl⟩) (hcd:PySem.W.codeIn K cdv qual=true) (S:aq N ps scope)
    (len:∀ vs H Q E,sp vs H Q E→vs.length=ps.length)
    (hbody:∀ (A:Around) (outer:List Env) (s:Shared) (H:Hp) (vs:List V) (Q:VK) (E:XK),bX k (A.deeper (envOfC qual scope s.heap.objs.size f cdv))→sp vs H Q E →
      ∃ t,PSs (aZ CX P w K mg base N qual scope f cdv A outer s H E) body t∧t { nx:=fun _ H'=>Q .non H',rt:=Q } (start N vs) H) :
    e7 P w K mg base CX (k+1) f (PySem.W.fnOf name qual params body scope dV kV doc pm an cdv ct) ps sp:=by
  refine ⟨len,fun A outer s H args us vs Q E hr e0 hb r hsp=>?_⟩
  have hl:=len _ _ _ _ hsp
  have KX:K.In s.heap:=e0.mod.kin.keeps fun b o e=>(e0.bs b o e).1
  have lim:s.heap.NoLimit:=e0.mod.nolimit.keeps fun b o e=>(e0.bs b o e).1
  have hkind:∀ y∈ps.zip us,scope.names.lookup y.1=some .local∨(scope.names.lookup y.1=some .cell∧((cellsFrom (s.heap.objs.size+1) scope.names []).lookup y.1).isSome=true):=fun ⟨n,v⟩ hy=>by
    rcases S.par n (List.of_mem_zip hy).1 with q | q
    · exact .inl q
    · exact .inr ⟨q,PySem.W.cellsFrom_some _ _ _ (.inl q)⟩
  refine codeAny_call_function hr.depth (KX _ _ lk) rfl S.co S.gen rfl (PySem.W.codeRec_of KX hcd) (hb _ _ _ _ ?_)
  refine wpAny_newFunctionEnv_cells S.kind hkind fun env he s1 x=>?_
  subst he
  refine ⟨lim.keeps x.toInCall.keep,codeAny_func ?_⟩
  obtain ⟨t,ht,hq⟩:=hbody A outer s H vs Q E (hr.deeper _) hsp
  have I:Inv (aZ CX P w K mg base N qual scope f cdv A outer s H E) [] (start N vs) H s1:=yR S hr.hd e0 hl r x
  refine wpAny_mono (ht [] s1 (start N vs) H _ I hq) (fun fl s' hs=>?_) fun e s' hs=>hs
  have fin:∀ {σ':St} {H':Hp} {v:V} {u:Value},Inv (aZ CX P w K mg base N qual scope f cdv A outer s H E) [] σ' H' s'→RelV v u→Q v H'→CE outer P w H s Q u s':=
    fun {σ' H' v u} J rv q=>⟨v,H',J.os,J.bare,J.base,J.hok,rv,q⟩
  cases fl with
  | ret u=>
    obtain ⟨v,σ',H',J,rv,q⟩:=hs
    exact fin J rv q
  | next=>
    obtain ⟨σ',H',J,q⟩:=hs
    exact fin (v:=V.non) (u:=Value.none) J rfl q
  | brk=>
    obtain ⟨_,_,_,q⟩:=hs
    exact False.elim q
  | cont=>
    obtain ⟨_,_,_,q⟩:=hs
    exact False.elim q
section
variable {X:Cx} {x:Str} {p pos:Pos} {e:Expr} {es:List Expr} {t:TA} {id T:String} {r:List V→Hp→VK→Prop}
def tCB (r:List V→Hp→VK→Prop) (t:TA):TE:=fun σ H Q=>t σ H fun vs H1=>r vs H1 Q
theorem aX (hc:cH X (.builtin id) r) (hg:Gl X x) (hm:X.mg x=none) (hv:bootBuiltins x=some (.builtin id)) (ha:PA X (e::es) t) (hn:x ≠ "__name__" := by decide) (hdb:(x == ("__debug__" : Str))=false:=by decide)
    (he:starEach (e::es) X.env=(false,eval e X.env)::starEach es X.env:=by rfl) (hpl:(backTo pos (starEach es X.env)).any (·.1)=false:=by rfl):PE X (.Call (.Name x p) (e::es) [] pos) (tCB r t):=by
  intro pins s σ H Q I h
  refine wpAny_Call_Name_kw (fm I hg hm hv ?_ hn hdb)
  exact PyProof.Rows.callWith_builtin1 (thn (ha pos pins s σ H _ I h) fun us s1 ⟨vs,H1,I1,r1,q1⟩=>hc pins s1 σ H1 vs us Q I1 r1 q1) he hpl
theorem dm (hc:cH X (.type T) r) (hg:Gl X x) (hm:X.mg x=none) (hv:bootBuiltins x=some (.type T)) (ha:PA X (e::es) t) (hn:x ≠ "__name__" := by decide) (hdb:(x == ("__debug__" : Str))=false:=by decide)
    (he:starEach (e::es) X.env=(false,eval e X.env)::starEach es X.env:=by rfl) (hpl:(backTo pos (starEach es X.env)).any (·.1)=false:=by rfl):PE X (.Call (.Name x p) (e::es) [] pos) (tCB r t):=by
  intro pins s σ H Q I h
  refine wpAny_Call_Name_kw (fm I hg hm hv ?_ hn hdb)
  exact PyProof.Rows.callWith_type1 (thn (ha pos pins s σ H _ I h) fun us s1 ⟨vs,H1,I1,r1,q1⟩=>hc pins s1 σ H1 vs us Q I1 r1 q1) he hpl
end
end L2
namespace HT
open PySem PyProof.Rows
def lexLt:List Int→List Int→Bool
  | [],[]=>false
  | [],_::_=>true
  | _::_,[]=>false
  | x::xs,y::ys=>if x=y then lexLt xs ys else decide (x < y)
theorem iM (x y:Int) (xs ys:List Int):lexLt (x::xs) (y::ys)=if x=y then lexLt xs ys else decide (x < y):=rfl
theorem mW:lexLt [] []=false:=rfl
theorem lH (y:Int) (ys:List Int):lexLt [] (y::ys)=true:=rfl
theorem lI (x:Int) (xs:List Int):lexLt (x::xs) []=false:=rfl
theorem Ck (A:Around) (s:Shared) (a:Int) (t:Tok) (c:Int) (u:Tok):∃ e,SeqAt.EqAt A s (.int a t) (.int c u) e∧(e=true↔a=c):=
  ⟨(a == c),SeqAt.EqAt.int_int a t c u,by simp⟩
section
variable {prog:Program} {w:World} {A:Around} {E:Value→Shared→Prop} {s:Shared}
def sIx (n d:Nat):Option Int→Nat
  | none=>d
  | some v=>if v < 0 then (v+(n:Int)).toNat else min v.toNat n
theorem rA (n d:Nat):sIx n d none=d:=rfl
theorem wL (n d k:Nat):sIx n d (some (k:Int))=min k n:=by
  show (if (k:Int) < 0 then ((k:Int)+(n:Int)).toNat else min (k:Int).toNat n)=min k n
  rw [if_neg (by omega),Int.toNat_natCast]
end
end HT
namespace L2
open PySem PySem.Spec PyProof.Rows
abbrev TO:=St→Hp→(Option Int→Hp→Prop)→Prop
def PO (X:Cx) (e:Option Expr) (t:TO):Prop:=
  ∀ (pins:List (Addr×Obj)) (s:Shared) (σ : St) (H:Hp) (Q:Option Int→Hp→Prop),Inv X pins σ H s→t σ H Q →
    wpAny (model X.prog X.w) X.A (evalPart e X.env) (fun u s'=>∃ o H',Inv X pins σ H' s'∧IsPart u o∧Q o H') X.xe s
def wm:TO:=fun _ H Q=>Q none H
def F1 (t:TE):TO:=fun σ H Q=>t σ H fun x H1=>∃ i,x = .int i∧Q (some i) H1
theorem intsAre_of {ns:List Int}:∀ {us:List Value},Vals (ns.map V.int) us→IntsAre us ns:=by
  induction ns with
  | nil=>intro us r;rw [List.map_nil] at r;cases r;exact .nil
  | cons n ns ih=>
    intro us r
    rw [List.map_cons] at r
    cases r with
    | cons r1 r2=>
      obtain ⟨t,e⟩:=r1
      subst e
      exact .cons n t (ih r2)
section
variable {X:Cx} {e:Expr} {te:TE} {lo hi:Option Expr} {tl th:TO} {pos p2:Pos}
theorem wR:PO X none wm:=by
  intro pins s σ H Q I h
  rw [evalPart_none]
  exact wpAny_pure ⟨none,H,I,.none,h⟩
theorem wQ (h:PE X e te):PO X (some e) (F1 te):=by
  intro pins s σ H Q I hw
  rw [evalPart_some]
  refine thn (h pins s σ H _ I hw) fun u s1 ⟨x,H1,I1,r1,q1⟩=>?_
  obtain ⟨i,rfl,q⟩:=q1
  obtain ⟨t,rfl⟩:=r1
  exact ⟨some i,H1,I1,.int i t,q⟩
def SlR (X:Cx) (r:V→Option Int→Option Int→Hp→VK→Prop):Prop:=
  ∀ (pins:List (Addr×Obj)) (s:Shared) (σ : St) (H:Hp) (x:V) (v vl vu:Value) (lo hi:Option Int) (sl:Addr) (Q:VK),Inv X pins σ H s→RelV x v→s.heap.IsSliceOf sl vl vu .none→IsPart vl lo→IsPart vu hi→r x lo hi H Q →
    ∃ T id,typeLookup (.type T) "__getitem__" = pure (some (.builtin id))∧s.TypeIs v T∧wpAny (model X.prog X.w) X.A (getItem v (.ref sl)) (EP X pins σ Q) X.xe s
def tSl (r:V→Option Int→Option Int→Hp→VK→Prop) (te:TE) (tl th:TO):TE:=fun σ H Q=>te σ H fun x H1=>tl σ H1 fun l H2=>th σ H2 fun u H3=>r x l u H3 Q
theorem rH {r:V→Option Int→Option Int→Hp→VK→Prop} (hr:SlR X r) (he:PE X e te) (hl:PO X lo tl) (hu:PO X hi th):PE X (.Subscript e (.Slice lo hi none p2) pos) (tSl r te tl th):=by
  intro pins s σ H Q I h
  refine Subscript_ (thn (he pins s σ H _ I h) fun v s1 ⟨x,H1,I1,r1,q1⟩=>?_)
  refine wpAny_Slice (thn (hl pins s1 σ H1 _ I1 q1) fun vl s2 ⟨l,H2,I2,pl,q2⟩=>thn (hu pins s2 σ H2 _ I2 q2) fun vu s3 ⟨u,H3,I3,pu,q3⟩=>?_)
  rw [evalPart_none]
  refine wpAny_pure ?_
  have I4:Inv X pins σ H3 { s3 with heap:=s3.heap.push { cls:=.type "slice",data:=.fields #[vl,vu,.none] } }:=I3.kept (t':=s3.toks) fun b ob q=>Heap.get?_push_of_some _ q
  obtain ⟨T,id,hT,ht,hg⟩:=hr pins { s3 with heap:=s3.heap.push { cls:=.type "slice",data:=.fields #[vl,vu,.none] } } σ H3 x v vl vu l u s3.heap.objs.size Q I4 r1 (Heap.IsSliceOf.new ..) pl pu q3
  show wpAny (model X.prog X.w) X.A (subscriptTail e (.Slice lo hi none p2) v (.ref s3.heap.objs.size)) (EP X pins σ Q) X.xe { s3 with heap:=s3.heap.push { cls:=.type "slice",data:=.fields #[vl,vu,.none] } }
  exact tail_any (ops:=[.ref s3.heap.objs.size,v]) ht hT hg (by with_unfolding_all rfl)
def sU (xs:List V) (lo hi:Option Int):List V:=(xs.drop (HT.sIx xs.length 0 lo)).take (HT.sIx xs.length xs.length hi - HT.sIx xs.length 0 lo)
theorem sS (xs:List V) (lo hi:Option Int):(sU xs lo hi).length≤xs.length:=by
  unfold sU
  rw [Nf,List.length_drop]
  omega
end
def ixN (n:Nat) (i:Int):Option Nat:=if 0≤i then (if i < n then some i.toNat else none) else if -(n:Int)≤i then some (i+n).toNat else none
def atI {α : Type} (xs:List α) (i:Int):Option α:=(ixN xs.length i).bind fun j=>xs[j]?
theorem xq {n:Nat} {i:Int} {j:Nat} (h:ixN n i=some j):seqIndex? i n=some j∧j < n∧-(n:Int)≤i∧i < n:=by
  unfold ixN at h
  by_cases h0 : 0≤i
  · rw [if_pos h0] at h
    by_cases h1:i < n
    · rw [if_pos h1] at h
      have e:i.toNat=j:=Nm h
      exact ⟨by rw [seqIndex_of h0 h1,e],by omega,by omega,h1⟩
    · rw [if_neg h1] at h;cases h
  · rw [if_neg h0] at h
    by_cases h1 : -(n:Int)≤i
    · rw [if_pos h1] at h
      have e:(i+n).toNat=j:=Nm h
      exact ⟨by rw [seqIndex_neg (by omega) h1,e],by omega,h1,by omega⟩
    · rw [if_neg h1] at h;cases h
theorem qi {α : Type} {xs:List α} {i:Int} {v : α} (h:atI xs i=some v):∃ j,seqIndex? i xs.length=some j∧xs[j]?=some v∧j < xs.length∧-(xs.length:Int)≤i∧i < xs.length:=by
  unfold atI at h
  cases e:ixN xs.length i with
  | none=>rw [e] at h;cases h
  | some j=>
    rw [e] at h
    obtain ⟨h1,h2,h3,h4⟩:=xq e
    exact ⟨j,h1,h,h2,h3,h4⟩
theorem cS {α : Type} {xs:List α} {j:Nat} {v : α} (h:xs[j]?=some v):atI xs (j:Int)=some v:=by
  have hj:j < xs.length:=(List.getElem?_eq_some_iff.mp h).1
  have e:ixN xs.length (j:Int)=some j:=by
    unfold ixN
    rw [if_pos (by omega),if_pos (by omega)];simp
  unfold atI;rw [e];exact h
theorem Cz {α : Type} (xs:List α) (v : α):atI (xs++[v]) (-1)=some v:=by
  have hl:(xs++[v]).length=xs.length+1:=by simp
  have e:ixN (xs++[v]).length (-1)=some xs.length:=by
    unfold ixN
    rw [hl,if_neg (by decide),if_pos (by omega)]
    congr 1
    omega
  unfold atI
  rw [e]
  show (xs++[v])[xs.length]?=some v
  simp
def FQ (b:Expr):Prop:=∀ o i,subscripted b false o i=operate [o,i] (getItem o i)
def IxR (X:Cx) (r:R2):Prop:=
  ∀ (value slice:Expr) (pins:List (Addr×Obj)) (s:Shared) (σ : St) (H:Hp) (x y:V) (v u:Value) (Q:VK),Inv X pins σ H s→RelV x v→RelV y u→r x y H Q →
    subscripted slice false v u=operate [v,u] (getItem v u)→wpAny (model X.prog X.w) X.A (subscriptTail value slice v u) (EP X pins σ Q) X.xe s
def MtR (X:Cx) (id:String) (r:V→List V→Hp→VK→Prop):Prop:=
  ∀ (pins:List (Addr×Obj)) (s:Shared) (σ : St) (H:Hp) (x:V) (xs:List V) (v:Value) (us:List Value) (Q:VK),Inv X pins σ H s→RelV x v→Vals xs us→r x xs H Q →
    wpAny (model X.prog X.w) X.A (call (.builtin id) (v::us)) (EP X pins σ Q) X.xe s
section
variable {X:Cx} {a b:Expr} {ta tb:TE} {pos:Pos}
theorem ay {r:R2} (hr:IxR X r) (ha:PE X a ta) (hb:PE X b tb) (hs:FQ b):PE X (.Subscript a b pos) (tOp r ta tb):=by
  intro pins s σ H Q I h
  exact Subscript_ (Jp ha hb I h fun v u s2 x y H2 I2 rx ry q=>hr a b pins s2 σ H2 x y v u Q I2 rx ry q (hs _ _))
def DQ (K:PySem.W.Frag):R2:=fun x y H Q=>∃ p xs i v,x = .ref p∧y = .int i∧SqL K H p xs∧atI xs i=some v∧Q v H
def DP (K:PySem.W.Frag):R2:=fun x y H Q=>∃ p xs i v,x = .ref p∧y = .int i∧SqT K H p xs∧atI xs i=some v∧Q v H
def Kh:R2:=fun x y H Q=>∃ z i c,x = .str z∧y = .int i∧z.length≤sizeLine∧atI z.cps.toList i=some c∧Q (.str ⟨#[c]⟩) H
theorem bH:IxR X (DQ X.K):=by
  intro value slice pins s σ H x y v u Q I rx ry h hs
  obtain ⟨p,xs,i,z,rfl,rfl,hq,he,q⟩:=h
  cases rx
  obtain ⟨t,rfl⟩:=ry
  obtain ⟨its,r,pl,hz⟩:=I.list hq
  obtain ⟨j,h1,h2,h3,h4,h5⟩:=qi he
  obtain ⟨w,ew,rw'⟩:=r.get h2
  have hl:=r.length
  have hn:=lG
  have fin:EP X pins σ Q w s:=⟨z,H,I,rw',q⟩
  by_cases h0 : 0≤i
  · have hj:i.toNat=j:=by
      rw [seqIndex_of h0 h5] at h1
      exact Nm h1
    exact item_listR pl.isList h0 (by omega) (by rw [hj];simpa using ew) fin hs
  · have hj:(i+(its.toArray.size:Int)).toNat=j:=by
      rw [seqIndex_neg (by omega) h4] at h1
      rw [Na,← hl]
      exact Nm h1
    exact subscriptTail_builtinR (x:=w) pl.isList.typeIs slot_list_getitem.lookup
      (wpAny_getItem_list_neg (Q:=fun r s'=>r=w∧EP X pins σ Q r s') pl.isList (by omega) (by rw [Na] <;> omega) (by omega) (by rw [hj];simpa using ew) ⟨rfl,fin⟩) hs
theorem au:IxR X (DP X.K):=by
  intro value slice pins s σ H x y v u Q I rx ry h hs
  obtain ⟨p,xs,i,z,rfl,rfl,hq,he,q⟩:=h
  cases rx
  obtain ⟨t,rfl⟩:=ry
  obtain ⟨its,r,pl,hz⟩:=I.tuple hq
  obtain ⟨j,h1,h2,h3,h4,h5⟩:=qi he
  obtain ⟨w,ew,rw'⟩:=r.get h2
  have hl:=r.length
  have hn:=lG
  have fin:EP X pins σ Q w s:=⟨z,H,I,rw',q⟩
  exact subscriptTail_builtinR (x:=w) pl.typeIs slot_tuple_getitem.lookup
    (getItem_tuple (j:=j) (Q:=fun r s'=>r=w∧EP X pins σ Q r s') pl (by omega) (by omega) (by rw [Na,← hl];exact h1) (by simpa using ew) ⟨rfl,fin⟩) hs
theorem BL:IxR X Kh:=by
  intro value slice pins s σ H x y v u Q I rx ry h hs
  obtain ⟨z,i,c,rfl,rfl,hz,he,q⟩:=h
  obtain ⟨t,rfl⟩:=rx
  obtain ⟨t',rfl⟩:=ry
  obtain ⟨j,h1,h2,h3,h4,h5⟩:=qi he
  have hl:z.cps.toList.length=z.length:=by simp [Str.length]
  rw [hl] at h1 h4 h5
  have hn:=lG
  exact tail_any (typeIs_str s z t) slot_str_getitem.lookup (getItem_str (c:=c) (by
    have e1:decide (i < -(2 ^ 63:Int))=false:=Nn (by omega)
    have e2:decide (i≥2 ^ 63)=false:=Nn (by omega)
    rw [e1,e2,Bool.or_false]) (by rw [h1];simpa using h2) ⟨.str ⟨#[c]⟩,H,I.tok _,⟨_,rfl⟩,q⟩) hs
theorem ve (its:List Value) (n j:Nat) (u:Value):Obj.mapSeq (·.setIfInBounds j u) { cls:=.type "list",data:=.seq its.toArray n }={ cls:=.type "list",data:=.seq (its.set j u).toArray n }:=by
  simp [Obj.mapSeq]
theorem Inv.lst {pins:List (Addr×Obj)} {σ : St} {H:Hp} {s:Shared} {p:Addr} {xs:List V} (I:Inv X pins σ H s) (h:H p=some (.lst xs)) :
    ∃ (its:List Value) (n:Nat),Vals xs its∧s.heap.get? p=some { cls:=.type "list",data:=.seq its.toArray n }∧xs.length≤sizeLine:=by
  obtain ⟨z,its,n,r,e⟩:=I.hok p _ h
  exact ⟨its,n,r,e,z⟩
theorem Inv.HF {pins:List (Addr×Obj)} {σ : St} {H:Hp} {s:Shared} {p:Addr} {xs ys:List V} {its its':List Value} {n n':Nat} {f:Obj→Obj} (I:Inv X pins σ H s) (h:H p=some (.lst xs))
    (ho:s.heap.get? p=some { cls:=.type "list",data:=.seq its.toArray n }) (hf:f { cls:=.type "list",data:=.seq its.toArray n }={ cls:=.type "list",data:=.seq its'.toArray n' }) (r:Vals ys its') (hz:ys.length≤sizeLine) (t:Nat) :
    Inv X pins σ (upd H p (.lst ys)) { s with heap:=s.heap.update p f,toks:=t }:=by
  have e:(s.heap.update p f).get? p=some { cls:=.type "list",data:=.seq its'.toArray n' }:=by
    rw [Heap.get?_update_self f ho (by rw [hf] <;> rfl),hf]
  refine I.write (x:=p) (e:=p) (by rw [h];trivial) (.inl rfl) (fun b u hb q=>(Heap.get?_update_other _ _ (Ne.symm hb)).trans q) ⟨_,e⟩ ?_
  exact ⟨hz,its',n',r,e⟩
def Ge:V→V→V→Hp→(Hp→Prop)→Prop:=fun o i v H Q=>∃ p xs k j,o = .ref p∧i = .int k∧H p=some (.lst xs)∧ixN xs.length k=some j∧Q (upd H p (.lst (xs.set j v)))
theorem set_list:Lq X Ge:=by
  intro pins s σ H o i v ov iv u Q I ro ri rv h
  obtain ⟨p,xs,k,j,rfl,rfl,hp,hj,q⟩:=h
  cases ro
  obtain ⟨t,rfl⟩:=ri
  obtain ⟨its,n,r,ho,hz⟩:=I.lst hp
  obtain ⟨h1,h2,h3,h4⟩:=xq hj
  have hl:=r.length
  have hn:=lG
  have I':Inv X pins σ (upd H p (.lst (xs.set j v))) { s with heap:=s.heap.update p (Obj.mapSeq (·.setIfInBounds j u)) }:=
    I.HF hp ho (ve its n j u) (r.set rv j) (by rw [Nl];exact hz) s.toks
  by_cases h0 : 0≤k
  · have hk:k.toNat=j:=by
      rw [seqIndex_of h0 h4] at h1
      exact Nm h1
    exact PySem.W.ki_setAt ho h0 (by omega) (by rw [Na,← hl];exact h4) (by rw [hk];exact ⟨_,I',q⟩)
  · have hk:(k+(its.toArray.size:Int)).toNat=j:=by
      rw [seqIndex_neg (by omega) h3] at h1
      rw [Na,← hl]
      exact Nm h1
    exact PySem.W.ki_setBack ho (by omega) (by rw [Na,← hl];exact h3) (by omega) (by rw [hk];exact ⟨_,I',q⟩)
theorem oY (lo hi:Option Int) (n:Nat):(sliceBounds lo hi none n).1=((HT.sIx n 0 lo:Nat):Int)∧(sliceBounds lo hi none n).2.1=((HT.sIx n n hi:Nat):Int)∧(sliceBounds lo hi none n).2.2=1:=by
  refine ⟨?_,?_,rfl⟩
  · cases lo with
    | none=>simp [sliceBounds,HT.sIx]
    | some i=>
      simp only [sliceBounds,HT.sIx,Option.getD_none,show (1:Int) > 0 by decide,if_true]
      by_cases h:i < 0
      · simp only [h,if_true] <;> omega
      · simp only [h,if_false] <;> omega
  · cases hi with
    | none=>simp [sliceBounds,HT.sIx]
    | some i=>
      simp only [sliceBounds,HT.sIx,Option.getD_none,show (1:Int) > 0 by decide,if_true]
      by_cases h:i < 0
      · simp only [h,if_true] <;> omega
      · simp only [h,if_false] <;> omega
theorem mR (its:List Value) (lo hi:Option Int):slicePick its.toArray lo hi none=((its.drop (HT.sIx its.length 0 lo)).take (HT.sIx its.length its.length hi - HT.sIx its.length 0 lo)).toArray:=by
  obtain ⟨h1,h2,h3⟩:=oY lo hi its.toArray.size
  unfold slicePick
  rw [h1,h2,h3]
  simp only [sliceRange_one,pick_run,Na] <;> rfl
def Kd (K:PySem.W.Frag):V→Option Int→Option Int→Hp→VK→Prop:=fun x lo hi H Q=>∃ a xs,x = .ref a∧SqL K H a xs∧∀ p,H p=none→Q (.ref p) (upd H p (.lst (sU xs lo hi)))
theorem wJ:SlR X (Kd X.K):=by
  intro pins s σ H x v vl vu lo hi sl Q I rx hs pl pu h
  obtain ⟨a,xs,rfl,hx,q⟩:=h
  cases rx
  obtain ⟨its,r,ht,hz⟩:=I.list hx
  have hlen:=r.length
  refine ⟨"list",_,slot_list_getitem.lookup,ht.isList.typeIs,?_⟩
  refine wpAny_getItem_list_slice ht.isList hs pl pu .none (by simp) ?_ (by rw [Na] <;> omega)
  rw [mR,← hlen]
  refine ⟨.ref s.heap.objs.size,_,I.laid (t':=s.toks) (o:=.lst (sU xs lo hi)) (fun b ob q=>Heap.get?_push_of_some _ q) (NB _) ?_,rfl,q _ (I.hok.fresh (NB _))⟩
  exact ⟨Nq (sS xs lo hi) hz,_,0,(r.drop (HT.sIx xs.length 0 lo)).take (HT.sIx xs.length xs.length hi - HT.sIx xs.length 0 lo),Heap.get?_push_size _ rfl⟩
def cP:V→Bool
  | .non=>true
  | .bl _=>true
  | .int _=>true
  | .str _=>true
  | _=>false
def eqV:V→V→Bool
  | .non,.non=>true
  | .bl a,.bl b=>a == b
  | .bl a,.int b=>(if a then 1 else 0) == b
  | .int a,.bl b=>a == (if b then 1 else 0)
  | .int a,.int b=>a == b
  | .str a,.str b=>a == b
  | _,_=>false
theorem vE {A:Around} {s:Shared} {y x:V} {u v:Value} (ry:RelV y u) (rx:RelV x v) (fy:cP y=true) (fx:cP x=true):SeqAt.EqAt A s u v (eqV y x):=by
  cases y with
  | non=>
    cases ry
    cases x with
    | non=>cases rx;exact SeqAt.EqAt.same _
    | bl b=>cases rx;exact SeqAt.EqAt.none_bool b
    | int b=>obtain ⟨t,rfl⟩:=rx;exact SeqAt.EqAt.none_int b t
    | str b=>obtain ⟨t,rfl⟩:=rx;exact SeqAt.EqAt.none_str b t
    | _=>exact absurd (show false=true from fx) M8
  | bl a=>
    cases ry
    cases x with
    | non=>cases rx;exact SeqAt.EqAt.bool_none a
    | bl b=>cases rx;exact SeqAt.EqAt.bool_bool a b
    | int b=>obtain ⟨t,rfl⟩:=rx;exact SeqAt.EqAt.bool_int a b t
    | str b=>obtain ⟨t,rfl⟩:=rx;exact SeqAt.EqAt.bool_str a b t
    | _=>exact absurd (show false=true from fx) M8
  | int a=>
    obtain ⟨t',rfl⟩:=ry
    cases x with
    | non=>cases rx;exact SeqAt.EqAt.int_none a t'
    | bl b=>cases rx;exact SeqAt.EqAt.int_bool a t' b
    | int b=>obtain ⟨t,rfl⟩:=rx;exact SeqAt.EqAt.int_int a t' b t
    | str b=>obtain ⟨t,rfl⟩:=rx;exact SeqAt.EqAt.int_str a t' b t
    | _=>exact absurd (show false=true from fx) M8
  | str a=>
    obtain ⟨t',rfl⟩:=ry
    cases x with
    | non=>cases rx;exact SeqAt.EqAt.str_none a t'
    | bl b=>cases rx;exact SeqAt.EqAt.str_bool a t' b
    | int b=>obtain ⟨t,rfl⟩:=rx;exact SeqAt.EqAt.str_int a t' b t
    | str b=>obtain ⟨t,rfl⟩:=rx;exact SeqAt.EqAt.str_str a t' b t
    | _=>exact absurd (show false=true from fx) M8
  | _=>exact absurd (show false=true from fy) M8
def eqU (x:V) (u:Value):Bool:=match u with
  | .none=>eqV .non x
  | .bool b=>eqV (.bl b) x
  | .int i _=>eqV (.int i) x
  | .str z _=>eqV (.str z) x
  | _=>false
theorem Cj {x y:V} {u:Value} (r:RelV y u) (f:cP y=true):eqU x u=eqV y x:=by
  cases y with
  | non=>cases r;rfl
  | bl b=>cases r;rfl
  | int i=>obtain ⟨t,rfl⟩:=r;rfl
  | str z=>obtain ⟨t,rfl⟩:=r;rfl
  | _=>exact absurd (show false=true from f) M8
theorem qj {x:V}:∀ {xs:List V} {us:List Value},Vals xs us→xs.all cP=true→us.any (eqU x)=xs.any fun y=>eqV y x
  | _,_,.nil,_=>rfl
  | y::xs,u::us,.cons r t,f=>by
    rw [List.all_cons,Bool.and_eq_true] at f
    rw [List.any_cons,List.any_cons,Cj r f.1,qj t f.2]
theorem lE {A:Around} {s:Shared} {x:V} {v:Value} (rx:RelV x v) (fx:cP x=true):∀ {xs:List V} {us:List Value},Vals xs us→xs.all cP=true→∀ u∈us,SeqAt.EqAt A s u v (eqU x u)
  | _,_,.nil,_=>fun u hu=>by cases hu
  | y::xs,u::us,.cons r t,f=>fun u' hu=>by
    rw [List.all_cons,Bool.and_eq_true] at f
    rcases List.mem_cons.mp hu with rfl | hu
    · rw [Cj r f.1];exact vE r rx f.1 fx
    · exact lE rx fx t f.2 u' hu
def inV (x:V) (xs:List V):Bool:=xs.any fun y=>eqV y x
def rIn (K:PySem.W.Frag) (neg:Bool):R2:=fun x y H Q=>∃ p xs,y = .ref p∧(SqL K H p xs∨SqT K H p xs)∧cP x=true∧xs.all cP=true∧Q (.bl (if neg then !inV x xs else inV x xs)) H
theorem jH:OpR X (compareOp .In) (rIn X.K false):=by
  intro pins s σ H x y v u Q I rx ry h
  obtain ⟨p,xs,rfl,hq,fx,fs,q⟩:=h
  cases ry
  rcases hq with hq | hq
  · obtain ⟨its,r,pl,hz⟩:=I.list hq
    refine SeqAt.in_listAt (eqU x) pl.isList (fun w hw=>lE rx fx r fs w (by simpa using hw)) ⟨.bl _,H,I,rfl,?_⟩
    rw [show its.toArray.any (eqU x)=its.any (eqU x) by simp,qj r fs]
    exact q
  · obtain ⟨its,r,pl,hz⟩:=I.tuple hq
    refine SeqAt.in_tupleAt (eqU x) pl (fun w hw=>lE rx fx r fs w (by simpa using hw)) ⟨.bl _,H,I,rfl,?_⟩
    rw [show its.toArray.any (eqU x)=its.any (eqU x) by simp,qj r fs]
    exact q
theorem p8:cH X (.builtin "len") (fun xs H Q=>∃ p ys,xs=[.ref p]∧(SqL X.K H p ys∨SqT X.K H p ys)∧Q (.int ys.length) H):=by
  intro pins s σ H xs us Q I r h
  obtain ⟨p,ys,rfl,hq,q⟩:=h
  obtain ⟨u,rfl,rx⟩:=vals1 r
  cases rx
  have hn:=lG
  rcases hq with hq | hq
  · obtain ⟨its,r',pl,hz⟩:=I.list hq
    have hlen:=r'.length
    exact Calls.call_len_list pl.isList (by simp only [Na] <;> omega) ⟨.int ys.length,H,I.tok _,⟨s.toks+1,by rw [Na,hlen]⟩,q⟩
  · obtain ⟨its,r',pl,hz⟩:=I.tuple hq
    have hlen:=r'.length
    exact len_tuple pl (by simp only [Na] <;> omega) ⟨.int ys.length,H,I.tok _,⟨s.toks+1,by rw [Na,hlen]⟩,q⟩
theorem p7:cH X (.type "list") (fun xs H Q=>∃ p ys,xs=[.ref p]∧(SqL X.K H p ys∨SqT X.K H p ys)∧∀ l,H l=none→Q (.ref l) (upd H l (.lst ys))):=by
  intro pins s σ H xs us Q I r h
  obtain ⟨p,ys,rfl,hq,q⟩:=h
  obtain ⟨u,rfl,rx⟩:=vals1 r
  cases rx
  have fin:∀ (its:List Value),Vals ys its→ys.length≤sizeLine→∀ (h':Heap) (c':Nat),(∀ b o',s.heap.get? b=some o'→h'.get? b=some o') →
      h'.get? s.heap.objs.size=some { cls:=.type "list",dict:=none,data:=.seq its.toArray c',slots:=#[] }→EP X pins σ Q (.ref s.heap.objs.size) { s with heap:=h' }:=fun its r' hz h' c' kp e=>
    ⟨.ref s.heap.objs.size,_,I.laid (t':=s.toks) kp (NB _) (show bP X.prog X.w _ h' _ (.lst ys) from ⟨hz,its,c',r',e⟩),rfl,q _ (I.hok.fresh (NB _))⟩
  rcases hq with hq | hq
  · obtain ⟨its,r',pl,hz⟩:=I.list hq
    have hlen:=r'.length
    obtain ⟨o,ho,hc,n,hd⟩:=pl.isList
    exact call_list_seq p (.inl rfl) ho hc hd (fun h' c' kp e=>fin its r' hz h' c' kp e) (by simp only [Na] <;> omega)
  · obtain ⟨its,r',pl,hz⟩:=I.tuple hq
    have hlen:=r'.length
    obtain ⟨o,ho,hc,n,hd⟩:=pl
    exact call_list_seq p (.inr rfl) ho hc hd (fun h' c' kp e=>fin its r' hz h' c' kp e) (by simp only [Na] <;> omega)
theorem m7:cH X (.type "tuple") (fun xs H Q=>∃ p ys,xs=[.ref p]∧((SqL X.K H p ys∧∀ l,H l=none→Q (.ref l) (upd H l (.tup ys)))∨(SqT X.K H p ys∧Q (.ref p) H))):=by
  intro pins s σ H xs us Q I r h
  obtain ⟨p,ys,rfl,h⟩:=h
  obtain ⟨u,rfl,rx⟩:=vals1 r
  cases rx
  rcases h with ⟨hq,q⟩ | ⟨hq,q⟩
  · obtain ⟨its,r',pl,hz⟩:=I.list hq
    have hlen:=r'.length
    refine call_tuple_list pl.isList (fun h' kp=>?_) (by simp only [Na] <;> omega)
    have I1:Inv X pins σ H { s with heap:=h' }:=I.kept (t':=s.toks) kp
    have I2:Inv X pins σ (upd H h'.objs.size (.tup ys)) { s with heap:=h'.push { cls:=.type "tuple",data:=.seq its.toArray } }:=
      I1.laid (t':=s.toks) (fun b o e=>Heap.get?_push_of_some _ e) (NB _) (show bP X.prog X.w _ _ _ (.tup ys) from ⟨hz,its,r',IsTup.new _ _⟩)
    exact ⟨.ref h'.objs.size,_,I2,rfl,q _ (I1.hok.fresh (NB _))⟩
  · obtain ⟨its,r',pl,hz⟩:=I.tuple hq
    exact call_tuple_same pl ⟨.ref p,H,I,rfl,q⟩
def tyV (K:PySem.W.Frag) (T:String) (x:V) (H:Hp):Prop:=match x with
  | .str _=>T = "str"
  | .int _=>T = "int"
  | .ref p=>(T = "list" ∧ ∃ xs,SqL K H p xs)∨(T = "tuple" ∧ ∃ o,K.lookup p=some o∧o.cls = .type "tuple" ∧ o.dict=none) ∨
      (T = "dict" ∧ ((∃ kvs,H p=some (.dK kvs))∨∃ kvs,H p=some (.dT kvs)))∨(T = "set" ∧ ∃ S n,H p=some (.set S n))
  | _=>False
theorem zO {pins:List (Addr×Obj)} {σ : St} {H:Hp} {s:Shared} {T:String} {x:V} {v:Value} (I:Inv X pins σ H s) (r:RelV x v) (ty:tyV X.K T x H) :
    s.TypeIs v T∧∀ a,v = .ref a→∃ ob,s.heap.get? a=some ob∧ob.dict=none:=by
  cases x with
  | str z=>
    obtain ⟨t,rfl⟩:=r
    cases (show T = "str" from ty)
    exact ⟨typeIs_str s z t,fun _ e=>nomatch e⟩
  | int i=>
    obtain ⟨t,rfl⟩:=r
    cases (show T = "int" from ty)
    exact ⟨typeIs_int s i t,fun _ e=>nomatch e⟩
  | ref p=>
    cases r
    rcases ty with ⟨rfl,xs,hq⟩ | ⟨rfl,o,hk,hc,hd⟩ | ⟨rfl,hk⟩ | ⟨rfl,S,n,hk⟩
    · obtain ⟨its,_,pl,_⟩:=I.list hq
      refine ⟨pl.isList.typeIs,fun a e=>?_⟩
      cases e
      obtain ⟨o,n,e,c,hd,_⟩:=pl
      exact ⟨o,e,hd⟩
    · refine ⟨⟨o,I.kIn p o hk,hc⟩,fun a e=>?_⟩
      cases e
      exact ⟨o,I.kIn _ o hk,hd⟩
    · have z:∃ o,s.heap.get? p=some o∧o.ExactDict:=by
        rcases hk with ⟨kvs,hk⟩ | ⟨kvs,hk⟩
        · obtain ⟨_,_,_,_,o,_,_,e,ex,_⟩:=I.hok p _ hk
          exact ⟨o,e,ex⟩
        · obtain ⟨_,_,_,_,o,_,_,e,ex,_⟩:=I.hok p _ hk
          exact ⟨o,e,ex⟩
      obtain ⟨o,e,ex⟩:=z
      refine ⟨⟨o,e,ex.1⟩,fun a e2=>?_⟩
      cases e2
      exact ⟨o,e,ex.2.1⟩
    · obtain ⟨o,_,_,_,e,ex,_⟩:=I.hok p _ hk
      refine ⟨⟨o,e,ex.1⟩,fun a e2=>?_⟩
      cases e2
      exact ⟨o,e,ex.2.1⟩
  | _=>exact False.elim ty
def JV (K:PySem.W.Frag) (T:String) (r:V→List V→Hp→VK→Prop) (to:TE):TE:=fun σ H Q=>to σ H fun x H1=>tyV K T x H1∧r x [] H1 Q
def tBM (K:PySem.W.Frag) (T:String) (r:V→List V→Hp→VK→Prop) (to:TE) (t:TA):TE:=fun σ H Q=>to σ H fun x H1=>tyV K T x H1∧t σ H1 fun xs H2=>r x xs H2 Q
variable {o e:Expr} {es:List Expr} {to:TE} {t:TA} {name:Str} {apos cpos:Pos} {T id:String} {r:V→List V→Hp→VK→Prop}
theorem G6 (pa:PlainAttrs T) (slot:Slot T name id) (hty:typeOf (.builtin id)=pure (.type "method_descriptor")) (hm:MtR X id r) (ho:PE X o to)
    (hbase:attributeBase o name X.env (eval o X.env)=eval o X.env:=by rfl) (hline:(apos.endLine == cpos.line)=true:=by rfl):PE X (.Call (.Attribute o name apos) [] [] cpos) (JV X.K T r to):=by
  intro pins s σ H Q I h
  refine wpAny_Call_method0_late hbase hline (thn (ho pins s σ H _ I h) fun v s1 ⟨x,H1,I1,r1,ty,q1⟩=>?_)
  obtain ⟨h1,h2⟩:=zO I1 r1 ty
  exact ⟨T,id,pa,slot,hty,h1,h2,Calls.callWith_builtin rfl (PySem.evalArgs_none (hm pins s1 σ H1 x [] v [] Q I1 r1 .nil q1))⟩
theorem ly (pa:PlainAttrs T) (slot:Slot T name id) (hty:typeOf (.builtin id)=pure (.type "method_descriptor")) (hm:MtR X id r) (ho:PE X o to) (ha:PA X (e::es) t)
    (hbase:attributeBase o name X.env (eval o X.env)=eval o X.env:=by rfl)
    (hfew:((backTo cpos (starEach (e::es) X.env)).all (fun x=>!x.1) && (backToKw cpos (keywordEach [] X.env)).all (fun x=>x.1.isSome)
      && decide ((e::es).length+([]:List Keyword).length+(if ([]:List Keyword).isEmpty then 0 else 1) < 30))=true:=by rfl)
    (hline:(apos.endLine == cpos.line)=true:=by rfl) (hs:starEach (e::es) X.env=(false,eval e X.env)::starEach es X.env:=by rfl) (hplain:(backTo cpos (starEach es X.env)).any (·.1)=false:=by rfl) :
    PE X (.Call (.Attribute o name apos) (e::es) [] cpos) (tBM X.K T r to t):=by
  intro pins s σ H Q I h
  refine wpAny_Call_method_late hbase hfew hline rfl (thn (ho pins s σ H _ I h) fun v s1 ⟨x,H1,I1,r1,ty,q1⟩=>?_)
  obtain ⟨h1,h2⟩:=zO I1 r1 ty
  refine ⟨T,id,pa,slot,hty,h1,h2,?_⟩
  have hA:=ha cpos pins s1 σ H1 _ I1 q1
  rw [hs] at hA ⊢
  refine Calls.callWith_builtin (by show (false || (backTo cpos (starEach es X.env)).any (·.1))=false;rw [hplain] <;> rfl) (Calls.evalArgs_plain ?_)
  exact thn hA fun us s2 ⟨vs,H2,I2,r2,q2⟩=>hm pins s2 σ H2 x vs v us Q I2 r1 r2 q2
end
def MtM (X:Cx) (id:String) (r:V→List V→Hp→VK→Prop):Prop:=
  ∀ (pins:List (Addr×Obj)) (s:Shared) (σ : St) (H:Hp) (x:V) (xs:List V) (v:Value) (us:List Value) (Q:VK),Inv X pins σ H s→RelV x v→Vals xs us→r x xs H Q →
    wpAny (model X.prog X.w) X.A (call (.builtin id) (v::us)) (EP X pins σ Q) X.xe s
theorem Vals.one:∀ {x:V} {us:List Value},Vals [x] us→∃ u,us=[u]∧RelV x u
  | _,_,.cons r .nil=>⟨_,rfl,r⟩
theorem Vals.zero:∀ {us:List Value},Vals [] us→us=[]
  | _,.nil=>rfl
theorem Vals.reverse {xs:List V} {us:List Value} (h:Vals xs us):Vals xs.reverse us.reverse:=by
  induction h with
  | nil=>exact .nil
  | cons r t ih=>rw [List.reverse_cons,List.reverse_cons];exact Vals.append ih (.cons r .nil)
theorem Vals.rep {xs:List V} {us:List Value} (h:Vals xs us):∀ k:Nat,Vals (List.replicate k xs).flatten (List.replicate k us).flatten
  | 0=>.nil
  | k+1=>by
    rw [List.replicate_succ,List.replicate_succ,List.flatten_cons,List.flatten_cons]
    exact Vals.append h (Vals.rep h k)
theorem foldl_rep (its:List Value):∀ (k:Nat) (acc:List Value),
    List.foldl (fun x1 x2=>x1++x2) acc.toArray (List.replicate k its.toArray)=(acc++(List.replicate k its).flatten).toArray
  | 0,acc=>by simp
  | k+1,acc=>by
    have e:acc.toArray++its.toArray=(acc++its).toArray:=by simp
    have e2:(acc++its)++(List.replicate k its).flatten=acc++(List.replicate (k+1) its).flatten:=by
      rw [List.replicate_succ,List.flatten_cons,List.append_assoc]
    rw [← e2,← foldl_rep its k (acc++its),← e,List.replicate_succ,List.foldl_cons]
section
variable {X:Cx} {pins:List (Addr×Obj)} {σ : St} {H:Hp} {s:Shared} {l b:Addr} {xs ys zs:List V}
theorem Inv.HJ {its its':List Value} {n:Nat} {f:Array Value→Array Value} {t':Nat} (I:Inv X pins σ H s) (hH:H l=some (.lst xs))
    (e:s.heap.get? l=some { cls:=.type "list",data:=.seq its.toArray n }) (hf:f its.toArray=its'.toArray) (hv:Vals ys its') (hz:ys.length≤sizeLine) :
    Inv X pins σ (upd H l (.lst ys)) { s with heap:=s.heap.update l (Obj.mapSeq f),toks:=t' }:=by
  have q:=PySem.IsL.update e f
  rw [hf] at q
  refine I.write (x:=l) (e:=l) (by rw [hH];exact trivial) (.inl rfl) (fun b' u hb hu=>(Heap.get?_update_other s.heap (Obj.mapSeq f) (Ne.symm hb)).trans hu) ⟨_,q⟩ ?_
  exact ⟨hz,its',_,hv,q⟩
theorem Inv.LM {its:List Value} {t':Nat} (I:Inv X pins σ H s) (hv:Vals ys its) (hz:ys.length≤sizeLine) :
    Inv X pins σ (upd H s.heap.objs.size (.lst ys)) { s with heap:=s.heap.push { cls:=.type "list",data:=.seq its.toArray },toks:=t' }:=
  I.laid (fun _ _ q=>Heap.get?_push_of_some _ q) (NB _) ⟨hz,its,0,hv,Heap.get?_push_size _ rfl⟩
theorem Inv.fresh (I:Inv X pins σ H s):H s.heap.objs.size=none:=I.hok.fresh (NB _)
theorem Inv.yG (I:Inv X pins σ H s) (hH:H l=some (.lst xs)):xs.length≤sizeLine∧∃ (its:List Value) (n:Nat),Vals xs its∧xs.length=its.length∧s.heap.get? l=some { cls:=.type "list",data:=.seq its.toArray n }:=by
  obtain ⟨z,its,n,r,e⟩:=I.hok l _ hH
  exact ⟨z,its,n,r,r.length,e⟩
theorem rV {n:Nat} (h:n≤sizeLine):Builtin.List.listTooLong n=false:=by
  unfold Builtin.List.listTooLong
  exact Nn (by omega)
end
section
variable {X:Cx}
def wN:V→List V→Hp→VK→Prop:=fun x vs H Q=>∃ l xs y,x = .ref l∧vs=[y]∧H l=some (.lst xs)∧xs.length < sizeLine∧Q .non (upd H l (.lst (xs++[y])))
theorem gY:MtM X "list.append" wN:=by
  intro pins s σ H x vs v us Q I rx rv h
  obtain ⟨l,xs,y,rfl,rfl,hH,hz,q⟩:=h
  cases rx
  obtain ⟨u,rfl,ru⟩:=rv.one
  obtain ⟨z,its,n,r,hl,e⟩:=I.yG hH
  refine call_meets F.slot_list_append ⟨_,e,rfl⟩ F.entry_list_append (F.args_list_append_2 _ _) (PySem.list_append l its.toArray n u (by rw [Na];omega)) ⟨e,?_⟩
  refine ⟨.non,_,I.HJ (its':=its++[u]) hH e (by simp) (r.append (.cons ru .nil)) ?_,rfl,q⟩
  rw [M6,MW]
  omega
def DS:V→List V→Hp→VK→Prop:=fun x vs H Q=>∃ l b xs zs,x = .ref l∧vs=[.ref b]∧H l=some (.lst xs)∧H b=some (.lst zs)∧xs.length+zs.length≤sizeLine∧Q .non (upd H l (.lst (xs++zs)))
theorem yD:MtM X "list.extend" DS:=by
  intro pins s σ H x vs v us Q I rx rv h
  obtain ⟨l,b,xs,zs,rfl,rfl,hH,hB,hz,q⟩:=h
  cases rx
  obtain ⟨u,rfl,ru⟩:=rv.one
  cases ru
  obtain ⟨z,its,n,r,hl,e⟩:=I.yG hH
  obtain ⟨z2,its2,n2,r2,hl2,e2⟩:=I.yG hB
  have hsz:its.toArray.size+its2.toArray.size≤sizeLine:=by rw [Na,Na];omega
  have BO:¬ (!its.toArray.isEmpty && Builtin.List.listTooLong (its.toArray.size+its2.toArray.size))=true:=by
    rw [rV hsz,Bool.and_false]
    exact M8
  refine call_meets F.slot_list_extend ⟨_,e,rfl⟩ F.entry_list_extend (F.args_list_extend_2 _ _)
    (AutoSeq1.list_extend_list_list_0 l its.toArray n b its2.toArray n2 BO (by rw [Na];omega) (by omega)) ⟨e,e2,?_⟩
  refine ⟨.non,_,I.HJ (its':=its++its2) hH e (by simp) (r.append r2) ?_,rfl,q⟩
  rw [M6]
  omega
def AW:V→List V→Hp→VK→Prop:=fun x vs H Q=>∃ l xs,x = .ref l∧vs=[]∧H l=some (.lst xs)∧Q .non (upd H l (.lst xs.reverse))
theorem vd:MtM X "list.reverse" AW:=by
  intro pins s σ H x vs v us Q I rx rv h
  obtain ⟨l,xs,rfl,rfl,hH,q⟩:=h
  cases rx
  have hus:=rv.zero
  subst hus
  obtain ⟨z,its,n,r,hl,e⟩:=I.yG hH
  refine call_meets F.slot_list_reverse ⟨_,e,rfl⟩ F.entry_list_reverse (F.args_list_reverse_1 _) (AutoSeq1.list_reverse_list_0 l its.toArray n (by rw [Na];omega)) ⟨e,?_⟩
  refine ⟨.non,_,I.HJ (its':=its.reverse) hH e (by simp) r.reverse ?_,rfl,q⟩
  rw [List.length_reverse]
  omega
def LF:R2:=fun x y H Q=>∃ l k xs,x = .ref l∧y = .int k∧H l=some (.lst xs)∧-(2 ^ 63)≤k∧k < 2 ^ 63∧xs.length * k.toNat≤sizeLine ∧
  ∀ p,H p=none→Q (.ref p) (upd H p (.lst (List.replicate k.toNat xs).flatten))
theorem len_rep {α : Type} (xs:List α) (k:Nat):(List.replicate k xs).flatten.length=k * xs.length:=by
  induction k with
  | zero=>simp
  | succ k ih=>rw [List.replicate_succ,List.flatten_cons,M6,ih,Nat.succ_mul,Nat.add_comm]
theorem G9:OpR X (binaryOp .Mult) LF:=by
  intro pins s σ H x y v u Q I rx ry h
  obtain ⟨l,k,xs,rfl,rfl,hH,h1,h2,hz,q⟩:=h
  cases rx
  obtain ⟨t,rfl⟩:=ry
  obtain ⟨z,its,n,r,hl,e⟩:=I.yG hH
  have hlen:its.toArray.size * k.toNat≤sizeLine:=by rw [Na,← hl];exact hz
  have hcap:¬ its.toArray.size * k.toNat > (2 ^ 63 - 1) / 8:=by
    have:(sizeLine:Nat)≤(2 ^ 63 - 1) / 8:=by decide
    omega
  have hfit:¬ (!Builtin.List.listFitsIndex k)=true:=by
    rw [fitsIndex_both h1 h2]
    exact M8
  have BO:¬ Builtin.List.listTooLong (its.toArray.size * k.toNat)=true:=by
    rw [rV hlen]
    exact M8
  have hnew:List.foldl (fun x1 x2=>x1++x2) #[] (List.replicate (if its.toArray.isEmpty=true then 0 else k.toNat) its.toArray)=(List.replicate k.toNat its).flatten.toArray:=by
    have f0:∀ m:Nat,List.foldl (fun x1 x2=>x1++x2) #[] (List.replicate m its.toArray)=(List.replicate m its).flatten.toArray:=fun m=>by
      have:=foldl_rep its m []
      rw [List.nil_append] at this
      exact this
    rw [f0]
    cases its with
    | nil=>simp
    | cons a r'=>rw [if_neg (by simp)]
  refine wpAny_binaryOp_repeat_ref (T:="list") (U:="int") (by decide) ⟨_,e,rfl⟩ (fun s'=>typeIs_int s' k t) noFill_list_mul F.fills_int_mul F.slot_int_rmul repeat_list F.slot_int_index.lookup
    (call_meets F.slot_int_rmul (typeIs_int s k t) F.entry_int_rmul (F.args_int_rmul_2 _ _) (int___rmul___int_list k t l its.toArray n)
      ⟨e,rfl,⟨_,e,rfl⟩,call_meets F.slot_list_mul ⟨_,e,rfl⟩ F.entry_list_mul (F.args_list_mul_2 _ _) (AutoListH.list___mul___list_int_3 l its.toArray n k t hfit hcap BO) ⟨e,?_⟩⟩)
  rw [hnew]
  exact ⟨.ref _,_,I.LM (t':=s.toks) (r.rep k.toNat) (by rw [len_rep,Nat.mul_comm];exact hz),rfl,q _ I.fresh⟩
end
section
variable {κ : Type} [DecidableEq κ]
def jC (kvs:List (κ×V)) (k : κ):Option V:=(kvs.find? fun kv=>decide (kv.1=k)).map (·.2)
def putK (kvs:List (κ×V)) (k : κ) (v:V):List (κ×V):=
  if (kvs.any fun kv=>decide (kv.1=k))=true then kvs.map (fun kv=>if kv.1=k then (kv.1,v) else kv) else kvs++[(k,v)]
theorem iZ {p : κ×V} {r:List (κ×V)} {k : κ} (e:p.1=k):jC (p::r) k=some p.2:=by simp [jC,List.find?_cons,e]
theorem i0 {p : κ×V} {r:List (κ×V)} {k : κ} (e:¬ p.1=k):jC (p::r) k=jC r k:=by simp [jC,List.find?_cons,e]
theorem qC (k : κ):∀ kvs:List (κ×V),(kvs.any fun kv=>decide (kv.1=k))=(jC kvs k).isSome
  | []=>rfl
  | p::r=>by
    rw [List.any_cons]
    by_cases e:p.1=k
    · simp only [iZ e,Np e,Bool.true_or,Option.isSome_some]
    · rw [i0 e,Nn e,Bool.false_or];exact qC k r
theorem jY (kvs:List (κ×V)) (k : κ) (v:V):(putK kvs k v).length≤kvs.length+1:=by
  unfold putK
  split
  · rw [Nh];omega
  · rw [M6,Nd,Ni];omega
theorem fB.yP {o:Option V} {u:Option Value} (r:fB o u):o.isSome=u.isSome:=by
  cases o with
  | none=>cases u with
    | none=>rfl
    | some _=>exact (show False from r).elim
  | some _=>cases u with
    | none=>exact (show False from r).elim
    | some _=>rfl
theorem fB.getD {o:Option V} {u:Option Value} {d:V} {d':Value} (r:fB o u) (rd:RelV d d'):RelV (o.getD d) (u.getD d'):=by
  cases o with
  | none=>cases u with
    | none=>exact rd
    | some _=>exact (show False from r).elim
  | some _=>cases u with
    | none=>exact (show False from r).elim
    | some _=>exact r
theorem KV.val {kvs:List (κ×V)} {vs:List (κ×Value)} (r:KV kvs vs) (k : κ):fB (jC kvs k) (valueAt vs k):=by
  unfold KV at r
  induction r with
  | nil=>exact True.intro
  | @cons p q ps qs h t ih=>
    obtain ⟨h1,h2⟩:=h
    by_cases e:p.1=k
    · have e':q.1=k:=h1.symm.trans e
      have b:valueAt (q::qs) k=some q.2:=by simp [valueAt,List.find?_cons,e']
      rw [iZ e,b];exact h2
    · have e':¬ q.1=k:=fun z=>e (h1.trans z)
      have b:valueAt (q::qs) k=valueAt qs k:=by simp [valueAt,List.find?_cons,e']
      rw [i0 e,b];exact ih
theorem KV.any {kvs:List (κ×V)} {vs:List (κ×Value)} (r:KV kvs vs) (k : κ):(kvs.any fun kv=>decide (kv.1=k))=vs.any fun kv=>decide (kv.1=k):=by
  unfold KV at r
  induction r with
  | nil=>rfl
  | cons h t ih=>rw [List.any_cons,List.any_cons,ih,h.1]
theorem KV.repl {kvs:List (κ×V)} {vs:List (κ×Value)} (r:KV kvs vs) (k : κ) {y:V} {u:Value} (ry:RelV y u) :
    KV (kvs.map fun kv=>if kv.1=k then (kv.1,y) else kv) (vs.map fun kv=>if kv.1=k then (kv.1,u) else kv):=by
  unfold KV at r ⊢
  induction r with
  | nil=>exact .nil
  | @cons p q ps qs h t ih=>
    rw [List.map_cons,List.map_cons]
    refine .cons ?_ ih
    obtain ⟨h1,h2⟩:=h
    by_cases e:p.1=k
    · rw [if_pos e,if_pos (h1.symm.trans e)];exact ⟨h1,ry⟩
    · rw [if_neg e,if_neg (fun z=>e (h1.trans z))];exact ⟨h1,h2⟩
theorem KV.put {kvs:List (κ×V)} {vs:List (κ×Value)} (r:KV kvs vs) (k : κ) {y:V} {u:Value} (ry:RelV y u):KV (putK kvs k y) (stored vs k u):=by
  unfold putK stored
  rw [r.any k]
  by_cases e:(vs.any fun kv=>decide (kv.1=k))=true
  · rw [if_pos e,if_pos e];exact r.repl k ry
  · rw [if_neg e,if_neg e];exact Paired.snoc r ⟨rfl,ry⟩
theorem KV.length {kvs:List (κ×V)} {vs:List (κ×Value)} (r:KV kvs vs):kvs.length=vs.length:=Paired.length r
end
theorem xj {P:Program} {w:World} {k:Key} {u:Value} (r:RelV (kV k) u):(cy P w).is k u=true:=by
  cases k with
  | inl i=>obtain ⟨t,e⟩:=(show ∃ t,u=Value.int i t from r);subst e;exact sf P w i t
  | inr x=>obtain ⟨t,e⟩:=(show ∃ t,u=Value.str x t from r);subst e;exact se P w x t
theorem nY {P:Program} {w:World}:∀ {ks:List Key} {us:List Value},Vals (ks.map kV) us→ItemsAre (cy P w) ks us
  | [],_,r=>by rw [List.map_nil] at r;cases r;exact .nil
  | k::ks,_,r=>by
    rw [List.map_cons] at r
    cases r with
    | cons h t=>exact .cons (xj h) (nY t)
abbrev KT (H:Hp):List (List Key×V)→List (List Key×Addr×Value)→Prop:=Paired fun p q=>p.1=q.1∧H q.2.1=some (.tup (p.1.map kV))∧RelV p.2 q.2.2
theorem KT.val {H:Hp} {kvs:List (List Key×V)} {xs:List (List Key×Addr×Value)} (r:KT H kvs xs) (k:List Key):fB (jC kvs k) ((atKey xs k).map (·.2)):=by
  induction r with
  | nil=>exact True.intro
  | @cons p q ps qs h t ih=>
    obtain ⟨h1,_,h2⟩:=h
    by_cases e:p.1=k
    · have e':q.1=k:=h1.symm.trans e
      have b:atKey (q::qs) k=some q.2:=by simp [atKey,List.find?_cons,e']
      rw [iZ e,b];exact h2
    · have e':¬ q.1=k:=fun z=>e (h1.trans z)
      have b:atKey (q::qs) k=atKey qs k:=by simp [atKey,List.find?_cons,e']
      rw [i0 e,b];exact ih
theorem KT.repl {H:Hp} {kvs:List (List Key×V)} {xs:List (List Key×Addr×Value)} (r:KT H kvs xs) (k:List Key) {y:V} {u:Value} (ry:RelV y u) :
    KT H (kvs.map fun kv=>if kv.1=k then (kv.1,y) else kv) (xs.map (putAt k u)):=by
  induction r with
  | nil=>exact .nil
  | @cons p q ps qs h t ih=>
    rw [List.map_cons,List.map_cons]
    refine .cons ?_ ih
    obtain ⟨h1,h2,h3⟩:=h
    unfold putAt
    by_cases e:p.1=k
    · rw [if_pos e,if_pos (h1.symm.trans e)];exact ⟨h1,h2,ry⟩
    · rw [if_neg e,if_neg (fun z=>e (h1.trans z))];exact ⟨h1,h2,h3⟩
theorem KT.put {H:Hp} {kvs:List (List Key×V)} {xs:List (List Key×Addr×Value)} (r:KT H kvs xs) (k:List Key) {b:Addr} {y:V} {u:Value} (hb:H b=some (.tup (k.map kV))) (ry:RelV y u) :
    KT H (putK kvs k y) (storedH xs k b u):=by
  have e:(kvs.any fun kv=>decide (kv.1=k))=(atKey xs k).isSome:=by
    rw [qC,(r.val k).yP,Option.isSome_map]
  unfold putK storedH
  rw [e]
  by_cases q:(atKey xs k).isSome=true
  · rw [if_pos q,if_pos q];exact r.repl k ry
  · rw [if_neg q,if_neg q];exact Paired.snoc r ⟨rfl,hb,ry⟩
theorem KT.keeps {H H':Hp} {kvs:List (List Key×V)} {xs:List (List Key×Addr×Value)} (r:KT H kvs xs) (ht:∀ b ys,H b=some (.tup ys)→H' b=some (.tup ys)):KT H' kvs xs:=
  Paired.Hq r fun _ _ z=>⟨z.1,ht _ _ z.2.1,z.2.2⟩
section
variable {P:Program} {w:World} {H:Hp} {h:Heap} {a:Addr}
theorem Gd {u:HO} (ok:HOk P w H h) (e:Rd H a u):bP P w H h a u:=e.ok ok
theorem sQ {kvs:List (Key×V)} (ok:HOk P w H h) (e:Rd H a (.dK kvs)):kvs.length≤sizeLine∧(a == sysModules)=false∧∃ vs,KV kvs vs∧h.DictOf (cy P w) a vs:=
  show bP P w H h a (.dK kvs) from Gd ok e
theorem Ll {kvs:List (Key×V)} (ok:HOk P w H h) (e:H a=some (.dK kvs)):kvs.length≤sizeLine∧(a == sysModules)=false∧∃ vs,KV kvs vs∧h.DictOf (cy P w) a vs:=sQ ok (.inl e)
theorem pQ {ks:List Key} (ok:HOk P w H h) (e:H a=some (.tup (ks.map kV))):(tupleKind (cy P w)).is h ks a:=by
  obtain ⟨_,its,r,o,h1,h2,n,h3⟩:=(show bP P w H h a (.tup (ks.map kV)) from ok a _ e)
  exact ⟨o,its.toArray,n,h1,h2,h3,by simpa using nY r⟩
theorem sO {kvs:List (List Key×V)} (ok:HOk P w H h) (e:Rd H a (.dT kvs)):kvs.length≤sizeLine∧(a == sysModules)=false ∧
    ∃ xs,KT H kvs xs∧h.DictOfH (tupleKind (cy P w)) a xs:=by
  obtain ⟨z,y,xs,r,o,es,ep,h1,h2,h3,h4,h5⟩:=(show bP P w H h a (.dT kvs) from Gd ok e)
  refine ⟨z,y,xs,r,o,es,ep,h1,h2,h3,h4,fun x hx=>?_,h5⟩
  have all:∀ {l:List (List Key×V)} {m:List (List Key×Addr×Value)},KT H l m→∀ x∈m,(tupleKind (cy P w)).is h x.1 x.2.1:=by
    intro l m q
    induction q with
    | nil=>intro x hx;exact nomatch hx
    | @cons p q ps qs hq t ih=>
      intro x hx
      rcases List.mem_cons.mp hx with e | hx
      · subst e
        exact pQ ok (by rw [← hq.1];exact hq.2.1)
      · exact ih x hx
  exact all r x hx
theorem Lk {kvs:List (List Key×V)} (ok:HOk P w H h) (e:H a=some (.dT kvs)):kvs.length≤sizeLine∧(a == sysModules)=false ∧
    ∃ xs,KT H kvs xs∧h.DictOfH (tupleKind (cy P w)) a xs:=sO ok (.inl e)
end
def mP (H:Hp) (a:Addr) (y:V) (r:Option V):Prop:=
  (∃ kvs k,Rd H a (.dK kvs)∧y=kV k∧r=jC kvs k)∨∃ kvs k b,Rd H a (.dT kvs)∧y = .ref b∧H b=some (.tup (k.map kV))∧r=jC kvs k
def wg (H:Hp) (a:Addr) (y v:V) (H':Hp):Prop:=
  (∃ kvs k,H a=some (.dK kvs)∧y=kV k∧kvs.length < sizeLine∧H'=upd H a (.dK (putK kvs k v))) ∨
  ∃ kvs k b,H a=some (.dT kvs)∧y = .ref b∧H b=some (.tup (k.map kV))∧kvs.length < sizeLine∧H'=upd H a (.dT (putK kvs k v))
theorem mP.k {H:Hp} {a:Addr} {kvs:List (Key×V)} {k:Key} (e:H a=some (.dK kvs)):mP H a (kV k) (jC kvs k):=.inl ⟨kvs,k,.inl e,rfl,rfl⟩
theorem wg.k {H:Hp} {a:Addr} {kvs:List (Key×V)} {k:Key} {v:V} (e:H a=some (.dK kvs)) (hl:kvs.length < sizeLine):wg H a (kV k) v (upd H a (.dK (putK kvs k v))):=.inl ⟨kvs,k,e,rfl,hl,rfl⟩
section
variable {X:Cx} {pins:List (Addr×Obj)} {σ : St} {H:Hp} {s:Shared} {a:Addr} {y v:V} {u r:Value} {o:Option V} {A:Around} {E:Value→Shared→Prop}
theorem Inv.big (I:Inv X pins σ H s):sysModules < s.heap.objs.size:=by
  have h:mainGlobals < s.heap.objs.size:=(I.mod.glob.keeps I.bk).lt
  exact Nat.lt_trans (by decide) h
theorem ze {Q:Value→Shared→Prop} (hu:A.units+1 < cLine) (I:Inv X pins σ H s) (g:mP H a y (some v)) (ry:RelV y u) (h:∀ w' s',Inv X pins σ H s'→RelV v w'→Q w' s') :
    wpAny (model X.prog X.w) A (getItem (.ref a) u) Q E s:=by
  rcases g with ⟨kvs,k,e,ey,l⟩ | ⟨kvs,k,b,e,ey,eb,l⟩
  · subst ey
    obtain ⟨z,hd,vs,rel,dd⟩:=sQ I.hok e
    obtain ⟨w',hw,rw'⟩:=fB.some_of (v:=v) (o:=valueAt vs k) (by rw [l];exact rel.val k)
    exact wpAny_getItem_of (xj ry) dd.mapOf hw (h w' _ (I.tok _) rw')
  · subst ey
    cases (show u=Value.ref b from ry)
    obtain ⟨z,hd,xs,rel,dd⟩:=sO I.hok e
    obtain ⟨w',hw,rw'⟩:=fB.some_of (v:=v) (o:=(atKey xs k).map (·.2)) (by rw [l];exact rel.val k)
    obtain ⟨p,hp,hp2⟩:=Option.map_eq_some_iff.mp hw
    refine wpAny_getItem_heap (tupleKind_room_in1 hu) (pQ I.hok eb) dd hp ?_
    rw [hp2]
    exact h w' _ (I.tok _) rw'
theorem xC {h':Heap} {t':Nat} {ob:HO} (I:Inv X pins σ H s) (mu:Mut (H a)) (hs:Heap.SameBut a s.heap h') (he:∃ q,h'.get? a=some q) (new:bP X.prog X.w (upd H a ob) h' a ob) :
    Inv X pins σ (upd H a ob) { s with heap:=h',toks:=t' }:=
  I.write (x:=a) (e:=a) mu (.inl rfl) (fun b q hb z=>(hs.2 b hb).trans z) he new
theorem I8 {P:Program} {w:World} {H':Hp} {h':Heap} {kvs:List (Key×V)} {vs:List (Key×Value)} (z:kvs.length≤sizeLine) (hd:(a == sysModules)=false) (rel:KV kvs vs) (dd:h'.DictOf (cy P w) a vs) :
    bP P w H' h' a (.dK kvs):=⟨z,hd,vs,rel,dd⟩
theorem zd {H':Hp} {Q:Unit→Shared→Prop} (hu:A.units+1 < cLine) (I:Inv X pins σ H s) (g:wg H a y v H') (ry:RelV y u) (rv:RelV v r) (h:∀ s',Inv X pins σ H' s'→Q () s') :
    wpAny (model X.prog X.w) A (setItem (.ref a) u r) Q E s:=by
  rcases g with ⟨kvs,k,e,ey,l,eH⟩ | ⟨kvs,k,b,e,ey,eb,l,eH⟩
  · subst ey eH
    obtain ⟨z,hd,vs,rel,dd⟩:=Ll I.hok e
    have hz:vs.length≤sizeLine:=by rw [← rel.length];exact z
    have hl:(putK kvs k v).length≤sizeLine:=by have:=jY kvs k v;omega
    refine wpAny_setItem_pairs (hsz:=hz) (xj ry) dd fun h' dd' hs=>h _ ?_
    have he:∃ q,h'.get? a=some q:=let ⟨q,_,_,hq,_⟩:=dd';⟨q,hq⟩
    exact xC I (by rw [e];exact True.intro) hs he (I8 hl hd (rel.put k rv) dd')
  · subst ey eH
    cases (show u=Value.ref b from ry)
    obtain ⟨z,hd,xs,rel,dd⟩:=Lk I.hok e
    have hz:xs.length≤sizeLine:=by rw [← Paired.length rel];exact z
    have hl:(putK kvs k v).length≤sizeLine:=by have:=jY kvs k v;omega
    refine wpAny_setItem_heap (hsz:=hz) (tupleKind_room_in1 hu) (pQ I.hok eb) dd fun h' dd' hs=>h _ ?_
    obtain ⟨q,es,ep,hq,h2,h3,h4,_,h5⟩:=dd'
    refine xC I (by rw [e];exact True.intro) hs ⟨q,hq⟩ ⟨hl,hd,_,(rel.put k eb rv).keeps fun c ys ec=>?_,q,es,ep,hq,h2,h3,h4,h5⟩
    rw [aF (KA ec e (fun z=>nomatch z))]
    exact ec
end
def Lr (i:Expr):Prop:=∀ ov iv,subscripted i false ov iv=operate [ov,iv] (getItem ov iv)
theorem Dd {prog:Program} {w:World} {A:Around} {E:Value→Shared→Prop} {s:Shared} {env:Env} {value slice:Expr} {pos:Pos} {T id:String} {Q:Value→Shared→Prop}
    (hl:typeLookup (.type T) "__getitem__" = pure (some (.builtin id))) (hs:Lr slice)
    (h:wpAny (model prog w) A (eval value env) (fun o s₁=>wpAny (model prog w) A (eval slice env) (fun i s₂=>s₂.TypeIs o T∧wpAny (model prog w) A (getItem o i) Q E s₂) E s₁) E s) :
    wpAny (model prog w) A (eval (.Subscript value slice pos) env) Q E s:=by
  refine Subscript_ (wpAny_mono h (fun o s₁ h₁=>wpAny_mono h₁ (fun i s₂ h₂=>?_) fun _ _ x=>x) fun _ _ x=>x)
  obtain ⟨hT,h₂⟩:=h₂
  unfold subscriptTail
  refine wpAny_bind ?_
  rw [getitemInPython_of_ne hT.not_modules]
  refine wpAny_bind (wpAny_specialOf hT hl ?_)
  have fin:wpAny (model prog w) A (subscripted slice false o i) (fun r s₃=>wpAny (model prog w) A (letTemporaryGo value o r >>= fun _=>pure r) Q E s₃) E s₂:=by
    rw [hs o i]
    exact wpAny_operating (wpAny_mono h₂ (fun r s₃ h₃=>wpAny_bind (wpAny_letTemporaryGo (wpAny_pure h₃))) fun _ _ x=>x)
  first
    | exact wpAny_pure (wpAny_bind fin)
    | exact wpAny_bind (wpAny_pure (wpAny_bind fin))
    | exact wpAny_bind fin
theorem sR {X:Cx} {pins:List (Addr×Obj)} {σ : St} {H:Hp} {s:Shared} {a:Addr} {y:V} {o:Option V} (I:Inv X pins σ H s) (g:mP H a y o):s.TypeIs (.ref a) "dict" := by
  rcases g with ⟨kvs,k,e,_,_⟩ | ⟨kvs,k,b,e,_,_,_⟩
  · obtain ⟨_,_,vs,_,dd⟩:=sQ I.hok e
    exact dd.typeIs
  · obtain ⟨_,_,xs,_,dd⟩:=sO I.hok e
    exact dd.typeIs
def F8 (td ty:TE):TE:=fun σ H Q=>td σ H fun x H1=>ty σ H1 fun y H2=>∃ a v,x = .ref a∧mP H2 a y (some v)∧Q v H2
def AM (td ty tv:TE):TS:=fun D σ H=>tv σ H fun v H1=>td σ H1 fun x H2=>ty σ H2 fun y H3=>∃ a H4,x = .ref a∧wg H3 a y v H4∧D.nx σ H4
section
variable {X:Cx} {o i e value:Expr} {pos pos' tpos:Pos} {td ty tv:TE}
theorem D0 (hu:X.A.units+1 < cLine) (ho:PE X o td) (hi:PE X i ty) (hs:Lr i):PE X (.Subscript o i pos) (F8 td ty):=by
  intro pins s σ H Q I h
  refine Dd PySem.F.slot_dict_getitem.lookup hs (thn (ho pins s σ H _ I h) fun u s1 ⟨x,H1,I1,rx,q1⟩=>thn (hi pins s1 σ H1 _ I1 q1) fun iv s2 ⟨y,H2,I2,ry,a,v,ex,g,q2⟩=>?_)
  subst ex
  obtain rfl:u=Value.ref a:=rx
  exact ⟨sR I2 g,ze hu I2 g ry fun w' s3 I3 rw'=>⟨v,H2,I3,rw',q2⟩⟩
theorem DV (hu:X.A.units+1 < cLine) (ho:PE X o td) (hi:PE X i ty) (hv:PE X value tv) (hs:swapsWith value (some (.Subscript o i pos')) pos.line X.env=pure false) :
    PS X (.Assign [.Subscript o i pos'] value pos) (AM td ty tv):=by
  intro pins s σ H D I h
  refine wpAny_Assign_Subscript (thn (hv pins s σ H _ I h) fun r s1 ⟨v,H1,I1,rv,q1⟩=>thn (ho pins s1 σ H1 _ I1 q1) fun u s2 ⟨x,H2,I2,rx,q2⟩=>thn (hi pins s2 σ H2 _ I2 q2) fun iv s3 ⟨y,H3,I3,ry,a,H4,ex,g,q3⟩=>?_) hs
  subst ex
  obtain rfl:u=Value.ref a:=rx
  exact zd hu I3 g ry rv fun s4 I4=>⟨σ,H4,I4,q3⟩
end
theorem Cn {P:Program} {w:World} {H:Hp} (h:Heap) (hb:sysModules < h.objs.size):bP P w H (h.push { cls:=.type "dict",data:=.dict #[] }) h.objs.size (.dK []):=
  ⟨NC _,beq_eq_false_iff_ne.mpr (Ne.symm (Nu hb)),[],.nil,Heap.DictOf.new h⟩
def zR:TE:=fun _ H Q=>∀ p,H p=none→Q (.ref p) (upd H p (.dK []))
section
variable {X:Cx} {pos:Pos}
theorem A3:PE X (.Dict [] [] pos) zR:=fun pins s σ H Q I h=>
  wpAny_Dict_empty ⟨.ref s.heap.objs.size,_,I.laid (a:=s.heap.objs.size) (o:=.dK []) (t':=s.toks) (fun _ _ q=>Heap.get?_push_of_some _ q) (NB _) (Cn s.heap I.big),rfl,h _ (I.hok.fresh (NB _))⟩
end
abbrev VV:List (V×V)→List (Value×Value)→Prop:=Paired fun p q=>RelV p.1 q.1∧RelV p.2 q.2
structure M1 (X:Cx) (o:Expr) (m:Str) (apos:Pos) (e:Expr) (cpos:Pos):Prop where
  base:attributeBase o m X.env (eval o X.env)=eval o X.env
  few:((backTo cpos (starEach [e] X.env)).all (fun x=>!x.1) && (backToKw cpos (keywordEach [] X.env)).all (fun x=>x.1.isSome)
    && decide (([e]:List Expr).length+([]:List Keyword).length+(if ([]:List Keyword).isEmpty then 0 else 1) < 30))=true
  line:(apos.endLine == cpos.line)=true
  trees:backTo cpos (starEach [e] X.env)=[(false,eval e X.env)]
structure M2 (X:Cx) (o:Expr) (m:Str) (apos:Pos) (e f:Expr) (cpos:Pos):Prop where
  base:attributeBase o m X.env (eval o X.env)=eval o X.env
  few:((backTo cpos (starEach [e,f] X.env)).all (fun x=>!x.1) && (backToKw cpos (keywordEach [] X.env)).all (fun x=>x.1.isSome)
    && decide (([e,f]:List Expr).length+([]:List Keyword).length+(if ([]:List Keyword).isEmpty then 0 else 1) < 30))=true
  line:(apos.endLine == cpos.line)=true
  trees:backTo cpos (starEach [e,f] X.env)=[(false,eval e X.env),(false,eval f X.env)]
def IsD (H:Hp) (a:Addr):Prop:=(∃ kvs,Rd H a (.dK kvs))∨∃ kvs,Rd H a (.dT kvs)
theorem HR {X:Cx} {pins:List (Addr×Obj)} {σ : St} {H:Hp} {s:Shared} {a:Addr} (I:Inv X pins σ H s) (d:IsD H a) :
    s.TypeIs (.ref a) "dict" ∧ (∀ b,Value.ref a = .ref b→∃ ob,s.heap.get? b=some ob∧ob.dict=none)∧(a == sysModules)=false:=by
  rcases d with ⟨kvs,e⟩ | ⟨kvs,e⟩
  · obtain ⟨_,hd,vs,_,dd⟩:=sQ I.hok e
    refine ⟨dd.typeIs,fun b q=>?_,hd⟩
    cases q
    obtain ⟨ob,_,_,h1,h2,_⟩:=dd
    exact ⟨ob,h1,h2.2.1⟩
  · obtain ⟨_,hd,xs,_,dd⟩:=sO I.hok e
    refine ⟨dd.typeIs,fun b q=>?_,hd⟩
    cases q
    obtain ⟨ob,_,_,h1,h2,_⟩:=dd
    exact ⟨ob,h1,h2.2.1⟩
section
variable {X:Cx} {pins:List (Addr×Obj)} {σ : St} {H:Hp} {s:Shared} {a:Addr} {y d:V} {u r:Value} {o:Option V} {A:Around} {E:Value→Shared→Prop}
theorem Ja {Q:Value→Shared→Prop} (hu:A.units+1 < cLine) (I:Inv X pins σ H s) (g:mP H a y o) (ry:RelV y u) (h:∀ w' s',Inv X pins σ H s'→RelV (o.getD .non) w'→Q w' s') :
    wpAny (model X.prog X.w) A (call (.builtin "dict.get") [.ref a,u]) Q E s:=by
  rcases g with ⟨kvs,k,e,ey,l⟩ | ⟨kvs,k,b,e,ey,eb,l⟩
  · subst ey
    obtain ⟨z,hd,vs,rel,dd⟩:=sQ I.hok e
    refine call_meetsIn PySem.F.slot_dict_get dd.typeIs PySem.F.entry_dict_get (PySem.F.args_dict_get_2 _ _) (meets_dict_get (cy X.prog X.w) a (xj ry) hd) ⟨_,dd.mapOf,h _ _ (I.tok _) ?_⟩
    rw [l]
    exact (rel.val k).getD rfl
  · subst ey
    cases (show u=Value.ref b from ry)
    obtain ⟨z,hd,xs,rel,dd⟩:=sO I.hok e
    refine call_meetsIn PySem.F.slot_dict_get dd.typeIs PySem.F.entry_dict_get (PySem.F.args_dict_get_2 _ _) (meetsH_dict_get (tupleKind (cy X.prog X.w)) a b hd) ⟨tupleKind_room_in1 hu,k,xs,pQ I.hok eb,dd,h _ _ (I.tok _) ?_⟩
    rw [l]
    exact (rel.val k).getD rfl
end
def zS (td ty:TE):TE:=fun σ H Q=>td σ H fun x H1=>∃ a,x = .ref a∧IsD H1 a∧ty σ H1 fun y H2=>∃ o,mP H2 a y o∧Q (o.getD .non) H2
section
variable {X:Cx} {o e f:Expr} {apos cpos:Pos} {td ty tx:TE}
theorem A4 (hu:X.A.units+1 < cLine) (ho:PE X o td) (he:PE X e ty) (m:M1 X o "get" apos e cpos):PE X (.Call (.Attribute o "get" apos) [e] [] cpos) (zS td ty):=by
  intro pins s σ H Q I h
  refine wpAny_Call_method m.base m.few m.line PySem.F.plainAttrs_dict PySem.F.slot_dict_get PySem.F.type_dict_get (thn (ho pins s σ H _ I h) fun u s1 ⟨x,H1,I1,rx,a,ex,d,q1⟩=>?_)
  subst ex
  obtain rfl:u=Value.ref a:=rx
  obtain ⟨t1,t2,_⟩:=HR I1 d
  refine ⟨t1,t2,?_⟩
  rw [m.trees]
  refine Calls.callWith_builtin rfl (Calls.evalArgs_plain (Calls.spliced_cons (thn (he pins s1 σ H1 _ I1 q1) fun iv s2 ⟨y,H2,I2,ry,ov,g,q2⟩=>Calls.spliced_nil ?_)))
  exact Ja hu I2 g ry fun w' s3 I3 rw'=>⟨_,H2,I3,rw',q2⟩
end
end L2
namespace Att
open PySem PySem.W PySem.Calls PyProof.Rows
theorem ko {P:Params} {h:Heap}:∀ (ns:List Int) (vs:List Value),WellAll P h vs (ns.map WData.int)→IntsAre vs ns:=by
  intro ns
  induction ns with
  | nil=>
    intro vs w
    rw [List.map_nil] at w
    cases w
    exact .nil
  | cons n ns ih=>
    intro vs w
    rw [List.map_cons] at w
    cases w with
    | cons a b=>
      cases a
      exact .cons _ _ (ih _ b)
theorem xW {l:OpenLaw} {n:Nat} (hn:l.most=some n) {P:Params} {h:Heap} {args:List WData} {vals:List Value}
    (hpre:l.row.toRowW.claim.pre args=true) (hwl:WellAll P h vals args) :
    ∃ a vs ns,vals=[Value.ref a]∧args=[WData.list (ns.map WData.int)]∧h.get? a=some { cls:=.type "list",data:=.seq vs.toArray }∧IntsAre vs ns∧ns.length≤n:=by
  have hsh:WShape.hasAll [] args [.list .int]=true:=(pre_splitW hpre).1
  have hc:l.pre.holds [] { args:=args }=true:=(pre_splitW hpre).2
  obtain ⟨d,r,rfl,h1,h2⟩:=hasAllW_cons hsh
  obtain rfl:=hasAllW_nil h2
  obtain ⟨xs,rfl,h3⟩:=hasW_list h1
  obtain ⟨ns,rfl⟩:=items_int h3
  have hlen:ns.length≤n:=by
    unfold OpenLaw.pre at hc
    have h4:(WTm.not (.lt (.lit (.int (n:Int))) (.len (.arg 0)))).holds [] { args:=[.list (ns.map .int)] }=true:=by
      have h4:=(holds_andW hc).1
      rw [hn] at h4
      exact h4
    have h5:=condW_of h4 (w_not (w_lt w_lit (w_len_list (w_arg rfl))))
    rw [Nh] at h5
    refine Nat.le_of_not_lt fun q=>?_
    have q':(n:Int) < ((ns.length:Nat):Int):=by omega
    first
      | (rw [Np q'] at h5;exact absurd h5 (by decide))
      | (simp at h5;omega)
  cases hwl with
  | cons w1 w2=>
    cases w2
    cases w1 with
    | list ho hall=>exact ⟨_,_,ns,rfl,rfl,ho,ko ns _ hall,hlen⟩
theorem yi (l:OpenLaw) (args:List WData):l.row.toRowW.claim.post args (.bool true) args=true:=
  postW_of (r:=l.row.toRowW) (X:=(true == true))
    (show WShape.has [] (.bool true) .bool=true by first | rfl | decide | simp [WShape.has,WShape.arms,WShape.armsAll])
    (show (WTm.eq .res (.lit (.bool true))).value [] { args:=args,res:=some (.bool true),after:=args }=some (.bool (true == true)) from w_eq_bool (w_res rfl) w_lit) rfl
theorem tE {l:OpenLaw} {n:Nat} {q:Program} {loose:List Str} {XP:(Str→Option Value)→Heap→Prop} {YP:World→Heap→Prop} {d:DefRec}
    (hn:l.most=some n) (hdf:d.params.defaults=[])
    (call:∀ (w:World) (s₀ s₁ : Shared) (mg mb:Str→Option Value) (fa:Addr) (o:Obj) (pm cd doc:Value) (a:Addr) (vs:List Value) (ns:List Int),
      Ground q loose [] XP w s₀ mg mb s₁.heap→YP w s₁.heap →
      s₁.heap.get? fa=some o→o.data = .func (docDef d.name d.params d.body d.scope pm cd doc)→s₁.heap.CodeRec cd d.name→mg d.name=some (.ref fa) →
      s₁.heap.get? a=some { cls:=.type "list",data:=.seq vs.toArray }→IntsAre vs ns→ns.length≤n→s₁.gens=#[] →
      codeAny (model l.prog w) callerA (.call (.ref fa) ⟨[.ref a],[]⟩) (fun r s'=>r = .ok (.ret (.bool true))∧OldK s₁.heap s'.heap∧s'.os=s₁.os∧AllBare s'.gens) s₁) :
    WalkO q loose XP YP l.row.toRowW d [] (fun f vs=>PySem.call f vs):=by
  intro w s₀ s₁ mg mb G Y fa o pm cd doc dV kV ho hd hcd hD hmg hg args vals as hpre hlay hrd hwl hlo
  obtain rfl:dV = .none:=Dflts.none hD hdf
  obtain rfl:kV = .none:=Dflts.noKw hD
  obtain ⟨a,vs,ns,rfl,rfl,hobj,hints,hlen⟩:=xW hn hpre hwl
  refine enter_call (codeAny_mono (call w s₀ s₁ mg mb fa o pm cd doc a vs ns G Y ho (fd_plain hd) hcd hmg hobj hints hlen hg) fun r s' hq=>?_)
  obtain ⟨rfl,h2,h3,h4⟩:=hq
  exact ⟨.inl ⟨.bool true,.bool true,[],rfl,fun _=>rfl,.bool true,yi l _,fun _=>⟨List.Pairwise.nil,fun _ hm=>(nomatch hm)⟩⟩,h2,h3,h4⟩
end Att
namespace L2
open PySem PySem.Spec PyProof.Rows
theorem gU:∀ {vs:List Value} {ns:List Int},IntsAre vs ns→Vals (ns.map V.int) vs
  | _,_,.nil=>.nil
  | _,_,.cons n t h=>.cons ⟨t,rfl⟩ (gU h)
def FT (H:Hp):Prop:=∀ b,H b=none∨∃ o xs,H b=some (.frz o (.lst xs))
theorem BK {P:Program} {w:World} {K:PySem.W.Frag} {mg mb:Str→Option Value} {CX:CXT} {k:Nat} {fa a:Addr} {fd:FuncData} {x:Str} {sp:Sp} {s₁ : Shared} {vs:List Value} {ns:List Int}
    (KX:K.In s₁.heap) (hns:s₁.heap.Ns mainGlobals mg) (hb:s₁.heap.Ns builtinsNs mb) (hbb:∀ x:Str,x ≠ "__name__" → mb x=bootBuiltins x) (hlim:s₁.heap.NoLimit) (hg:s₁.gens=#[])
    (ha:s₁.heap.get? a=some { cls:=.type "list",data:=.seq vs.toArray }) (hi:IntsAre vs ns) (hl:ns.length≤sizeLine) (hr:bX k callerA)
    (F:∀ base:Heap,K.In base→base.Ns mainGlobals mg→e7 P w K mg base CX k fa fd [x] sp) (hbind:∀ (s:Shared) (u:Value),BindsTo s fd ⟨[u],[]⟩ [(x,u)])
    (hsp:∀ H:Hp,FT H→SqL K H a (ns.map V.int)→sp [.ref a] H (fun v _=>v = .bl true) fun _ _ _=>False)
    (hCX:∀ H e s',CX [] H s₁ (fun _ _ _=>False) e s'→False) :
    codeAny (model P w) callerA (.call (.ref fa) ⟨[.ref a],[]⟩) (fun r s'=>r = .ok (.ret (.bool true))∧OldK s₁.heap s'.heap∧s'.os=s₁.os∧AllBare s'.gens) s₁:=by
  have rv:=gU hi
  have LN:=hi.length
  -- from an abstract heap in which nothing but the script may be tracked
  have core:∀ H:Hp,FT H→SqL K H a (ns.map V.int)→HOk P w H s₁.heap→(∀ b,H b≠none→b=a)→(H a≠none→K.lookup a=none) →
      codeAny (model P w) callerA (.call (.ref fa) ⟨[.ref a],[]⟩) (fun r s'=>r = .ok (.ret (.bool true))∧OldK s₁.heap s'.heap∧s'.os=s₁.os∧AllBare s'.gens) s₁:=by
    intro H hO hS hok hA hK
    have xH:∀ {b:Addr} {o:Obj},s₁.heap.get? b=some o→H b=none→(pU s₁.heap H).get? b=some o:=fun e n=>BP e n
    have noA:∀ {b:Addr} {o:Obj} {es:Array DictEntry} {ep:Nat},s₁.heap.get? b=some o→o.data = .dict es ep→H b=none:=fun {b o es ep} e d=>by
      cases q:H b with
      | none=>rfl
      | some u=>
        have e':b=a:=hA b (by rw [q];simp)
        subst e'
        rw [ha] at e;cases e
        have d':Data.seq vs.toArray _=Data.dict es ep:=d
        cases d'
    have nsK:∀ {b:Addr} {m:Str→Option Value},s₁.heap.Ns b m→(pU s₁.heap H).Ns b m:=fun {b m} ⟨o,es,ep,e,d,r⟩=>⟨o,es,ep,xH e (noA e d),d,r⟩
    have hKb:K.In (pU s₁.heap H):=fun b o e=>xH (KX b o e) (by
      cases q:H b with
      | none=>rfl
      | some u=>
        have e':b=a:=hA b (by rw [q];simp)
        subst e'
        rw [hK (by rw [q];simp)] at e;cases e)
    have hM:Mod K mg (pU s₁.heap H):=⟨hKb,nsK hns,⟨mb,nsK hb,hbb⟩,let ⟨mc,h1,h2⟩:=hlim;⟨mc,nsK h1,h2⟩⟩
    have e0:tM P w K mg (pU s₁.heap H) callerA [] s₁ H:=⟨rfl,hM,fun b o e=>Ey e,Nat.le_of_eq (yT _ _),trivial,fun b hb=>absurd (show b∈([]:List Addr) from hb) (by simp),hok,.of_eq hg⟩
    refine codeAny_mono ((F _ hKb (nsK hns)).run callerA [] s₁ H ⟨[.ref a],[]⟩ [.ref a] [.ref a] _ _ hr e0 (hbind s₁ (.ref a)) (.cons rfl .nil) (hsp H hO hS)) fun r s' h=>?_
    cases r with
    | error e=>exact (hCX H e s' h).elim
    | ok fl=>
      cases fl with
      | next=>exact False.elim h
      | brk=>exact False.elim h
      | cont=>exact False.elim h
      | ret u=>
        obtain ⟨v,H',os,bare,un,hok',r',q⟩:=h
        have q':v = .bl true:=q
        subst q'
        obtain rfl:u=Value.bool true:=r'
        refine ⟨rfl,OldK.of_keep fun b o e=>?_,os,bare⟩
        cases q:H b with
        | none=>exact un.keep b o e q (by intro z;exact absurd (show b∈([]:List Addr) from z) (by simp)) (by simp)
        | some u=>
          rcases hO b with z | ⟨ob,xs,z⟩
          · rw [q] at z;cases z
          · have z2:=un.iS b ob _ z
            obtain ⟨e1,_⟩:=hok b _ z
            obtain ⟨e2,_⟩:=hok' b _ z2
            rw [e] at e1;cases e1
            exact e2
  cases hk:K.lookup a with
  | some o=>
    -- the script is one of the module's own objects
    have e:=KX a o hk
    rw [ha] at e
    cases e
    refine core (fun _=>none) (fun _=>.inl rfl) (.inr ⟨_,vs.toArray,_,hk,rfl,rfl,rfl,by rw [Na,LN];exact hl,by simpa using rv⟩) (fun b u z=>by have z':(none:Option HO)=some u:=z;cases z') (fun b z=>absurd rfl z) fun z=>absurd rfl z
  | none=>
    refine core (fun b=>if b=a then some (.frz { cls:=.type "list",data:=.seq vs.toArray } (.lst (ns.map V.int))) else none) (fun b=>?_) (.inl (.inr ⟨{ cls:=.type "list",data:=.seq vs.toArray },if_pos rfl⟩)) (fun b u z=>?_) (fun b z=>?_) fun _=>hk
    · by_cases hb:b=a
      · exact .inr ⟨_,_,if_pos hb⟩
      · exact .inl (if_neg hb)
    · by_cases hb:b=a
      · have z':=(if_pos hb).symm.trans z
        cases z'
        subst hb
        exact ⟨ha,by rw [Nh];exact hl,vs,_,rv,ha⟩
      · have z':=(if_neg hb).symm.trans z
        cases z'
    · by_cases hb:b=a
      · exact hb
      · exact absurd (if_neg hb) z
abbrev KOf {K:PySem.W.Frag} {h:Heap} (_:K.In h):PySem.W.Frag:=K
theorem C7 {l:PySem.W.OpenLaw} {n k:Nat} {q:Program} {loose:List Str} {XP:(Str→Option Value)→Heap→Prop} {YP:World→Heap→Prop} {d:DefRec} {K:Params→PySem.W.Frag} {CX:World→CXT} {sp:World→Sp} {x:Str}
    (hn:l.most=some n) (hn2:n≤sizeLine) (hdf:d.params.defaults=[]) (hr:bX k callerA)
    (hY:∀ (w:World) (h:Heap),YP w h→(K w.params).In h)
    (F:∀ (w:World) (mg:Str→Option Value) (fa:Addr) (h:Heap),(K w.params).In h→h.Ns mainGlobals mg→mg d.name=some (.ref fa) →
      ∃ fd:FuncData,(∀ (s:Shared) (u:Value),BindsTo s fd ⟨[u],[]⟩ [(x,u)]) ∧
        ∀ base:Heap,(K w.params).In base→base.Ns mainGlobals mg→e7 l.prog w (K w.params) mg base (CX w) k fa fd [x] (sp w))
    (hsp:∀ (w:World) (H:Hp) (a:Addr) (ns:List Int),ns.length≤n→FT H→SqL (K w.params) H a (ns.map V.int)→sp w [.ref a] H (fun v _=>v = .bl true) fun _ _ _=>False)
    (hCX:∀ (w:World) (H:Hp) (s:Shared) (e:Value) (s':Shared),CX w [] H s (fun _ _ _=>False) e s'→False) :
    PySem.W.WalkO q loose XP YP l.row.toRowW d [] (fun f vs=>PySem.call f vs):=by
  refine Att.tE hn hdf fun w s₀ s₁ mg mb fa o pm cd doc a vs ns G Y ho hd hcd hmg hobj hints hlen hg=>?_
  have KX:=hY w _ Y
  obtain ⟨fd,hb,hF⟩:=F w mg fa _ KX G.T.g hmg
  exact BK KX G.T.g G.T.b G.T.builtins G.T.nolimit hg hobj hints (Nq hlen hn2) hr hF hb (fun H hO hS=>hsp w H a ns hlen hO hS) fun H e s'=>hCX w H s₁ e s'
def inClass (s:Stmt) (j:Nat):Stmt:=match s with
  | .ClassDef _ _ _ body _ _ _ _ _ _ _=>body.getD j (.Pass ⟨0,0,0,0⟩)
  | _=>.Pass ⟨0,0,0,0⟩
def bK (s:Stmt):Arguments:=match s with
  | .FunctionDef _ a _ _ _ _ _ _ _ _=>a
  | _=>{ posonlyargs:=[],args:=[],vararg:=none,kwonlyargs:=[],kw_defaults:=[],kwarg:=none,defaults:=[] }
def bq (s:Stmt):List Stmt:=match s with
  | .FunctionDef _ _ b _ _ _ _ _ _ _=>b
  | _=>[]
def aj (s:Stmt):Scope:=match s with
  | .FunctionDef _ _ _ _ _ _ sc _ _ _=>sc
  | _=>{ kind:=.function,names:=[],isGenerator:=false,isCoroutine:=false }
abbrev E0:XK:=fun _ _ _=>False
structure Fun (K:PySem.W.Frag) (x qual:Str) (st:Stmt) (f:Addr) (fd:FuncData):Prop where
  ex:∃ (oc:Value) (od:Option Addr) (kV doc pm:Value) (an:Option Addr) (cdv ct:Value) (osl:Array (Option Value)),
    fd=PySem.W.fnOf x qual (bK st) (bq st) (aj st) .none kV doc pm an cdv ct∧K.lookup f=some ⟨oc,od,.func fd,osl⟩∧PySem.W.codeIn K cdv qual=true
  kp:PySem.W.keepIn K (.ref f)=true
section
variable {P:Program} {w:World} {K:PySem.W.Frag} {mg:Str→Option Value} {base:Heap}
theorem Fun.binds {x qual:Str} {st:Stmt} {f:Addr} {fd:FuncData} {ps:List Str} (F:Fun K x qual st f fd)
    (h:∀ (kV doc pm:Value) (an:Option Addr) (cdv ct:Value) (us:List Value),us.length=ps.length→bindArgs (PySem.W.fnOf x qual (bK st) (bq st) (aj st) .none kV doc pm an cdv ct) ⟨us,[]⟩=pure (ps.zip us)):Binds K fd ps []:=by
  obtain ⟨oc,od,kV,doc,pm,an,cdv,ct,osl,rfl,lk,hcd⟩:=F.ex
  exact .all (h kV doc pm an cdv ct)
theorem pW {x qual:Str} {st:Stmt} {f:Addr} {oc:Value} {od an:Option Addr} {osl:Array (Option Value)} {kV doc pm cdv ct:Value} (l:K.lookup f=some ⟨oc,od,.func (PySem.W.fnOf x qual (bK st) (bq st) (aj st) .none kV doc pm an cdv ct),osl⟩)
    (c:PySem.W.codeIn K cdv qual=true) (k:PySem.W.keepIn K (.ref f)=true):Fun K x qual st f (PySem.W.fnOf x qual (bK st) (bq st) (aj st) .none kV doc pm an cdv ct):=⟨⟨oc,od,kV,doc,pm,an,cdv,ct,osl,rfl,l,c⟩,k⟩
end
theorem xu {A:Around} {k:Nat} (hr:bX k A):A.units+1 < cLine:=Nat.lt_of_le_of_lt (Nat.add_le_add_left (by decide : 1≤64) _) hr.units
theorem small1000 {n:Nat} (h:n≤1000):n < sizeLine:=Nat.lt_of_le_of_lt h (by decide)
section
variable {X:Cx}
theorem pv (i:Nat) {x:Str} {pos:Pos} (hN:X.N[i]?=some x:=by rfl) (hv:Vis X.env.scope x:=by first | exact Or.inl rfl | exact Or.inr (Or.inl rfl) | exact Or.inr (Or.inr rfl)) (hd:(x == ("__debug__" : Str))=false:=by decide)
    (hcd:(x == ("__classdict__" : Str))=false:=by decide):PE X (.Name x pos) (GO i):=G1 hN hv hd hcd
end
theorem LP {A B:Prop} (h:B):if false=true then A else B:=by
  rw [if_neg M8]
  exact h
theorem yO {c A B:Prop} [Decidable c] (h1:c→A) (h2:¬ c→B):if c then A else B:=by
  by_cases h:c
  · rw [if_pos h]
    exact h1 h
  · rw [if_neg h]
    exact h2 h
def aI (H H':Hp):Prop:=∀ b o,H b=some o→H' b=some o
theorem aI.refl (H:Hp):aI H H:=fun _ _ h=>h
theorem aI.trans {H H1 H2:Hp} (a:aI H H1) (b:aI H1 H2):aI H H2:=fun c o h=>b c o (a c o h)
theorem aI.free {H H':Hp} (e:aI H H') {l:Addr} (h:H' l=Option.none):H l=Option.none:=by
  cases q:H l with
  | none=>rfl
  | some o=>
    rw [e l o q] at h
    cases h
theorem aI.seq {K:PySem.W.Frag} {H H':Hp} {a:Addr} {xs:List V} (e:aI H H') (h:SqL K H a xs):SqL K H' a xs:=by
  rcases h with (h | ⟨o,h⟩) | h
  · exact .inl (.inl (e _ _ h))
  · exact .inl (.inr ⟨o,e _ _ h⟩)
  · exact .inr h
end L2
namespace L3
open PySem PySem.Spec PyProof.Rows L2
abbrev St:=L2.St
def br (CX:CXT):Prop:=∀ outer H s e s',¬ CX outer H s E0 e s'
theorem br.pass {CX:CXT} (n:br CX) {X:Cx}:Passes CX X E0:=fun _ _ H s e s' _ h=>(n _ H s e s' h).elim
structure Cal (P:Program) (w:World) (K:PySem.W.Frag) (mg:Str→Option Value) (base:Heap) (CX:CXT) (x:Str) (k:Nat) (ps:List Str) (sp:Sp):Prop where
  ex:∃ f fd,e7 P w K mg base CX k f fd ps sp∧Binds K fd ps []∧PySem.W.keepIn K (.ref f)=true∧mg x=some (.ref f)
structure Dat (K:PySem.W.Frag) (mg:Str→Option Value) (x qual:Str) (st:Stmt) (ps:List Str):Prop where
  ex:∃ f fd,Fun K x qual st f fd∧Binds K fd ps []∧mg x=some (.ref f)
section
variable {P:Program} {w:World} {K:PySem.W.Frag} {mg:Str→Option Value} {base:Heap} {CX:CXT} {x qual:Str} {st:Stmt} {N ps:List Str} {k j:Nat} {sp sp':Sp}
theorem Cal.imp (c:Cal P w K mg base CX x k ps sp) (h:∀ vs H Q E,sp' vs H Q E→sp vs H Q E):Cal P w K mg base CX x k ps sp':=by
  obtain ⟨f,fd,F,r⟩:=c.ex
  exact ⟨f,fd,F.imp h,r⟩
theorem lO {f:Addr} {fd:FuncData} (F:Fun K x qual st f fd) (S:aq N ps (aj st)) (len:∀ vs H Q E,sp vs H Q E→vs.length=ps.length)
    (hbody:∀ (f:Addr) (cdv:Value) (A:Around) (outer:List Env) (s:Shared) (H:Hp) (vs:List V) (Q:VK) (E:XK),bX k (A.deeper (envOfC qual (aj st) s.heap.objs.size f cdv))→sp vs H Q E →
      ∃ t,PSs (aZ CX P w K mg base N qual (aj st) f cdv A outer s H E).nox (bq st) t∧t { nx:=fun _ H'=>Q .non H',rt:=Q } (start N vs) H):e7 P w K mg base CX (k+1) f fd ps sp:=by
  obtain ⟨oc,od,kV,doc,pm,an,cdv,ct,osl,rfl,lk,hcd⟩:=F.ex
  refine sJ lk hcd S len fun A outer s H vs Q E hr hsp=>?_
  obtain ⟨t,h,q⟩:=hbody f cdv A outer s H vs Q E hr hsp
  exact ⟨t,h.nox,q⟩
theorem Dat.ok (D:Dat K mg x qual st ps) (S:aq N ps (aj st)) (len:∀ vs H Q E,sp vs H Q E→vs.length=ps.length)
    (hbody:∀ (f:Addr) (cdv:Value) (A:Around) (outer:List Env) (s:Shared) (H:Hp) (vs:List V) (Q:VK) (E:XK),bX k (A.deeper (envOfC qual (aj st) s.heap.objs.size f cdv))→sp vs H Q E →
      ∃ t,PSs (aZ CX P w K mg base N qual (aj st) f cdv A outer s H E).nox (bq st) t∧t { nx:=fun _ H'=>Q .non H',rt:=Q } (start N vs) H):Cal P w K mg base CX x (k+1) ps sp:=by
  obtain ⟨f,fd,F,b,m⟩:=D.ex
  exact ⟨f,fd,lO F S len hbody,b,F.kp,m⟩
theorem Dat.okX (D:Dat K mg x qual st ps) (S:aq N ps (aj st)) (len:∀ vs H Q E,sp vs H Q E→vs.length=ps.length)
    (hbody:∀ (f:Addr) (cdv:Value) (A:Around) (outer:List Env) (s:Shared) (H:Hp) (vs:List V) (Q:VK) (E:XK),bX k (A.deeper (envOfC qual (aj st) s.heap.objs.size f cdv))→sp vs H Q E →
      ∃ t,PSs (aZ CX P w K mg base N qual (aj st) f cdv A outer s H E) (bq st) t∧t { nx:=fun _ H'=>Q .non H',rt:=Q } (start N vs) H):Cal P w K mg base CX x (k+1) ps sp:=by
  obtain ⟨f,fd,F,b,m⟩:=D.ex
  have kp:=F.kp
  obtain ⟨oc,od,kV,doc,pm,an,cdv,ct,osl,rfl,lk,hcd⟩:=F.ex
  refine ⟨f,_,sJ lk hcd S len fun A outer s H vs Q E hr hsp=>?_,b,kp,m⟩
  exact hbody f cdv A outer s H vs Q E hr hsp
theorem dat_mk {h:Heap} (X:K.In h) (G:h.Ns mainGlobals mg) {f:Addr} {oc:Value} {od an:Option Addr} {osl:Array (Option Value)} {kV doc pm cdv ct:Value} (a:PySem.W.nsIn K mainGlobals x=some (some (.ref f)))
    (l:K.lookup f=some ⟨oc,od,.func (PySem.W.fnOf x qual (bK st) (bq st) (aj st) .none kV doc pm an cdv ct),osl⟩) (c:PySem.W.codeIn K cdv qual=true) (kp:PySem.W.keepIn K (.ref f)=true)
    (b:∀ (kV doc pm:Value) (an:Option Addr) (cdv ct:Value) (us:List Value),us.length=ps.length→bindArgs (PySem.W.fnOf x qual (bK st) (bq st) (aj st) .none kV doc pm an cdv ct) ⟨us,[]⟩=pure (ps.zip us)):Dat K mg x qual st ps:=by
  have F:=pW (st:=st) l c kp
  exact ⟨f,_,F,F.binds b,PySem.W.mg_of X G a⟩
end
section
variable {X:Cx} {CX:CXT} {k:Nat} {ps:List Str} {sp:Sp} {E:XK} {x:Str} {p pos:Pos} {e:Expr} {es:List Expr} {t:TA}
theorem aH (C:Cal X.prog X.w X.K X.mg X.base CX x k ps sp) (hr:bX k X.A) (hx:Passes CX X E) (ha:PA X (e::es) t) (hg:Gl X x:=by rfl)
    (hdb:(x == ("__debug__" : Str))=false:=by decide) (he:starEach (e::es) X.env=(false,eval e X.env)::starEach es X.env:=by rfl) (hpl:(backTo pos (starEach es X.env)).any (·.1)=false:=by rfl) :
    PE X (.Call (.Name x p) (e::es) [] pos) (zW sp [] E t):=by
  obtain ⟨f,fd,F,b,kp,m⟩:=C.ex
  exact D3 F hr hg m kp b .nil hx ha hdb he hpl
end
def cC (cells:List (Str×Addr)):List (Str×NameKind)→List (Str×Addr)→List (Str×Addr)
  | [],acc=>acc
  | (n,k)::r,acc=>if k == .free then (match cells.lookup n with | some a=>cC cells r ((n,a)::acc) | none=>cC cells r acc) else cC cells r acc
theorem jx {env:Env}:∀ (l:List (Str×NameKind)) (acc:List (Str×Addr)),(∀ y∈l,y.2 = .free→∃ c,env.cells.lookup y.1=some c) →
    (forIn l acc (fun (y:Str×NameKind) cs=>do
      if y.2 == .free then let c ← cellOf env y.1;pure (ForInStep.yield ((y.1,c)::cs)) else pure (ForInStep.yield cs)):Sem (List (Str×Addr)))=pure (cC env.cells l acc)
  | [],acc,_=>rfl
  | (n,k)::r,acc,h=>by
    have ih:=fun acc=>jx (env:=env) r acc fun y hy=>h y (M3 _ hy)
    rw [List.forIn_cons]
    cases hk:k == NameKind.free with
    | true=>
      have ek:k = .free:=by simpa using hk
      obtain ⟨c,hc⟩:=h (n,k) M7 ek
      have e1:cellOf env n=pure c:=by unfold cellOf;rw [hc]
      simp only [hk,if_true,e1,pure_bind]
      rw [ih]
      simp only [cC,hk,if_true,hc]
    | false=>
      simp only [hk,Bool.false_eq_true,if_false,pure_bind]
      rw [ih]
      simp only [cC,hk,Bool.false_eq_true,if_false]
theorem oi {scope:Scope} {env:Env} (h:∀ y∈scope.names,y.2 = .free→∃ c,env.cells.lookup y.1=some c):closureFor scope env=pure (cC env.cells scope.names []):=by
  unfold closureFor
  have e:=jx (env:=env) scope.names [] h
  have:(forIn scope.names ([]:List (Str×Addr)) (fun (y:Str×NameKind) cs=>do
      if y.2 == .free then let c ← cellOf env y.1;pure (ForInStep.yield ((y.1,c)::cs)) else pure (ForInStep.yield cs)):Sem (List (Str×Addr))) >>= (fun cs=>pure cs)=pure (cC env.cells scope.names []):=by rw [e];rfl
  exact this
theorem eX {cells:List (Str×Addr)}:∀ (l:List (Str×NameKind)) (acc:List (Str×Addr)) {x:Str} {c:Addr},(cC cells l acc).lookup x=some c→acc.lookup x=some c∨(cells.lookup x=some c∧(x,NameKind.free)∈l)
  | [],acc,x,c,h=>.inl h
  | (n,k)::r,acc,x,c,h=>by
    unfold cC at h
    cases hk:k == NameKind.free with
    | true=>
      have ek:k = .free:=by simpa using hk
      subst ek
      rw [if_pos hk] at h
      cases hc:cells.lookup n with
      | none=>
        rw [hc] at h
        rcases eX r acc h with z | z
        · exact .inl z
        · exact .inr ⟨z.1,M3 _ z.2⟩
      | some a=>
        rw [hc] at h
        rcases eX r _ h with z | z
        · rw [List.lookup_cons] at z
          cases hx:x == n with
          | true=>
            rw [hx] at z
            have:x=n:=by simpa using hx
            subst this
            cases z
            exact .inr ⟨hc,M7⟩
          | false=>rw [hx] at z;exact .inl z
        · exact .inr ⟨z.1,M3 _ z.2⟩
    | false=>
      rw [if_neg (by rw [hk];exact M8)] at h
      rcases eX r acc h with z | z
      · exact .inl z
      · exact .inr ⟨z.1,M3 _ z.2⟩
theorem gf {cells:List (Str×Addr)}:∀ (l:List (Str×NameKind)) (acc:List (Str×Addr)) {x:Str},(∃ c,acc.lookup x=some c)→∃ c,(cC cells l acc).lookup x=some c
  | [],_,_,h=>h
  | (n,k)::r,acc,x,h=>by
    unfold cC
    split
    · split
      · refine gf r _ ?_
        rw [List.lookup_cons]
        split
        · exact ⟨_,rfl⟩
        · exact h
      · exact gf r acc h
    · exact gf r acc h
theorem dF {cells:List (Str×Addr)}:∀ (l:List (Str×NameKind)) (acc:List (Str×Addr)) {x:Str},(x,NameKind.free)∈l→(∃ c,cells.lookup x=some c)→∃ c,(cC cells l acc).lookup x=some c
  | [],_,_,h,_=>by simp at h
  | (n,k)::r,acc,x,h,hc=>by
    unfold cC
    rcases List.mem_cons.mp h with e | h
    · cases e
      obtain ⟨c,hc⟩:=hc
      rw [if_pos (by decide),hc]
      exact gf r _ ⟨c,by rw [List.lookup_cons];simp⟩
    · split
      · split
        · exact dF r _ h hc
        · exact dF r _ h hc
      · exact dF r _ h hc
def gq (N own:List Str) (cap:List Nat):List Str:=own++cap.map fun j=>N.getD j Str.empty
def vM (own:Nat) (cap:List Nat) (σ : St):St:=List.replicate own none++cap.map fun j=>(σ[j]?).join
structure Blk (X:Cx) (scope:Scope) (own:List Str) (cap:List Nat):Prop where
  kind:scope.kind = .function
  nocell:∀ y∈scope.names,y.2≠.cell
  names:∀ y∈scope.names,y.2 = .local→scope.names.lookup y.1=some .local
  free:∀ y∈scope.names,y.2 = .free→X.env.kindOf y.1=some .cell
  nd:(gq X.N own cap).Nodup
  caps:∀ j∈cap,∃ x,X.N[j]?=some x∧(x,NameKind.free)∈scope.names∧scope.names.lookup x=some .free
def blk (X:Cx) (scope:Scope) (own:List Str) (cap:List Nat) (C:Addr) (s:Shared) (H:Hp) (fp:List Addr):Cx:=
  { prog:=X.prog,w:=X.w,K:=X.K,mg:=X.mg,base:=X.base,A:=X.A,N:=gq X.N own cap,s₀:=s,H₀:=H,env:=compEnvC scope (cC X.env.cells scope.names []) C X.env,outer:=X.stack,stack:=X.stack,
    ex:=fp,fn:=fun _=>false,calm:=true,pn:=[],xe:=fun _ _=>False }
theorem cO {env:Env}:∀ {names:List (Str×NameKind)} {x:Str},env.scope.kind = .function→env.kindOf x=some .cell→names.lookup x=some .free →
    (names.map fun (n,k)=>if (k == NameKind.free && env.scope.kind == .function && env.kindOf n == some .cell) then (n,NameKind.cell) else (n,k)).lookup x=some .cell
  | [],_,_,_,h=>by simp at h
  | (n,k)::r,x,hf,hc,h=>by
    have ih:=@cO env r x hf hc
    show List.lookup x ((if (k == NameKind.free && env.scope.kind == .function && env.kindOf n == some .cell)=true then (n,NameKind.cell) else (n,k))::_)=_
    cases hx:x == n with
    | true=>
      have e:x=n:=by simpa using hx
      subst e
      simp only [List.lookup_cons,hx] at h
      cases h
      rw [if_pos (by simp [hf,hc])]
      simp [List.lookup_cons]
    | false=>
      simp only [List.lookup_cons,hx] at h
      split
      · simp only [List.lookup_cons,hx];exact ih h
      · simp only [List.lookup_cons,hx];exact ih h
theorem jc {env:Env}:∀ {names:List (Str×NameKind)} {x:Str},(∀ y∈names,y.2≠.cell) →
    ((names.map fun (n,k)=>if (k == NameKind.free && env.scope.kind == .function && env.kindOf n == some .cell) then (n,NameKind.cell) else (n,k)).lookup x=some .cell ∨
     (names.map fun (n,k)=>if (k == NameKind.free && env.scope.kind == .function && env.kindOf n == some .cell) then (n,NameKind.cell) else (n,k)).lookup x=some .free)→(x,NameKind.free)∈names
  | [],_,_,h=>by simp at h
  | (n,k)::r,x,hn,h=>by
    have ih:=@jc env r x fun y hy=>hn y (M3 _ hy)
    have hk:k≠.cell:=hn (n,k) M7
    rw [List.map_cons] at h
    cases hx:x == n with
    | true=>
      have e:x=n:=by simpa using hx
      subst e
      by_cases hf:k = .free
      · subst hf;exact M7
      · exfalso
        have hb:(k == NameKind.free)=false:=by simpa using hf
        simp only [hb,Bool.false_and,Bool.false_eq_true,if_false,List.lookup_cons,beq_self_eq_true,Option.some.injEq] at h
        rcases h with h | h
        · exact hk h
        · exact hf h
    | false=>
      refine M3 _ (ih ?_)
      by_cases hc:(k == NameKind.free && env.scope.kind == .function && env.kindOf n == some .cell)=true
      · simp only [hc,if_true,List.lookup_cons,hx] at h;exact h
      · simp only [Bool.not_eq_true] at hc
        simp only [hc,Bool.false_eq_true,if_false,List.lookup_cons,hx] at h;exact h
section
variable {X:Cx} {pins:List (Addr×Obj)} {σ : St} {H:Hp} {s:Shared} {scope:Scope} {own:List Str} {cap:List Nat} {fp:List Addr}
theorem Blk.cells (B:Blk X scope own cap) (ok:X.Ok):∀ y∈scope.names,y.2 = .free→∃ c,X.env.cells.lookup y.1=some c:=fun y hy hf=>ok.has y.1 (.inl (B.free y hy hf))
theorem Inv.enter {C:Addr} {h4:Heap} {m:Str→Option Value} {t':Nat} (I:Inv X pins σ H s) (hc:X.calm=true) (B:Blk X scope own cap) (f2:∀ b∈fp,mF X pins H b) (flt:∀ b∈fp,b < s.heap.objs.size)
    (k:∀ b o,s.heap.get? b=some o→h4.get? b=some o) (hC:s.heap.objs.size≤C) (hn:h4.Ns C m) (pl:List (Addr×Obj)) (hpl:∀ p∈pl,h4.get? p.1=some p.2∧s.heap.objs.size≤p.1∧p.1≠C∧∀ v,p.2.data≠.cell v) :
    Inv (blk X scope own cap C s H fp) pl (vM own.length cap σ) H { s with heap:=h4,toks:=t' }:=by
  have cls:∀ x c,(cC X.env.cells scope.names []).lookup x=some c→X.env.cells.lookup x=some c∧(x,NameKind.free)∈scope.names:=fun x c e=>(eX _ _ e).elim (fun z=>by simp at z) fun z=>z
  refine ⟨⟨I.ok.mod,B.kind,I.ok.glob,I.ok.blt,hC,fun x y c e1 e2=>I.ok.inj x y c (cls x c e1).1 (cls y c e2).1,fun x hx=>?_,fun x c hf _=>(M8 hf).elim,fun _=>I.ok.hd hc,I.ok.frames,.inl rfl,
    fun b hb=>⟨Nu (M9 (flt b hb) hC),fun x c e=>(f2 b hb).2.2.2.2.1 x c (cls x c e).1⟩,I.bs,Nq I.ok.bsz I.sz,fun b o e hb=>?_,fun b hb hfs=>?_,I.stack,I.oO⟩,
    rfl,I.bare,Un.kept k,⟨m,hn,fun i x v e1 e2 e3=>?_⟩,fun x c e=>?_,I.hok.fresh hC,fun x c e=>I.freeC x c (cls x c e).1,fun p hp=>?_,I.hok.kept k,?_⟩
  · have hx':((relabel scope X.env).names.lookup x=some .cell∨(relabel scope X.env).names.lookup x=some .free):=hx
    have hf:=jc B.nocell hx'
    exact dF _ _ hf (B.cells I.ok _ hf rfl)
  · rcases (f2 b hb).2.2.2.1 with z | z
    · exact I.ok.noex b o e z
    · exact absurd (M9 (Heap.lt_size e) (Nq I.ok.bsz z)) (Nat.lt_irrefl _)
  · rcases List.mem_cons.mp (I.oN b hfs) with z | z
    · exact (f2 b hb).2.1 z
    · exact (f2 b hb).2.2.1 z
  · -- the names
    have e2':(List.replicate own.length (none:Option V)++cap.map fun j=>(σ[j]?).join)[i]?=some (some v):=e2
    have e1':(own++cap.map fun j=>X.N.getD j Str.empty)[i]?=some x:=e1
    by_cases hi:i < own.length
    · rw [MP (by simpa using hi),List.getElem?_replicate,if_pos hi] at e2'
      cases e2'
    · rw [MO (by simpa using hi),Nb] at e2'
      rw [MO (by simpa using hi),Nb] at e1'
      rw [MY] at e2'
      cases hj:cap[i - own.length]? with
      | none=>rw [hj] at e2';cases e2'
      | some j=>
        rw [hj] at e1' e2'
        have IZ:X.N.getD j Str.empty=x:=Nm e1'
        have p6:(σ[j]?).join=some v:=Nm e2'
        obtain ⟨y,hy,hm,hl⟩:=B.caps j (M0 hj)
        have exy:x=y:=by rw [← IZ,List.getD_eq_getElem?_getD,hy];rfl
        subst exy
        have hσ : σ[j]?=some (some v):=by
          cases q : σ[j]? with
          | none=>rw [q] at p6;cases p6
          | some z=>rw [q] at p6;rw [show z=some v from p6]
        have kc:=B.free _ hm rfl
        obtain ⟨m0,hn0,hl0⟩:=I.loc
        obtain ⟨u,r,lk⟩:=hl0 j x v hy hσ (.inr (.inl kc))
        refine ⟨u,r,.inr ⟨.inl (cO I.ok.kind kc hl),?_⟩⟩
        rcases lk with ⟨k1,_⟩ | ⟨_,c,hc1,o,ho,hd⟩
        · rw [kc] at k1;cases k1
        · obtain ⟨c',hc'⟩:=dF (cells:=X.env.cells) scope.names [] hm ⟨c,hc1⟩
          have:=(cls x c' hc').1
          rw [hc1] at this;cases this
          exact ⟨c,hc',o,k c o ho,hd⟩
  · obtain ⟨v,o,ho,hd⟩:=I.cell x c (cls x c e).1
    exact ⟨v,o,k c o ho,hd⟩
  · have hp':p∈pl:=hp
    obtain ⟨h1,h2,h3,h5⟩:=hpl p hp'
    refine ⟨h1,I.hok.fresh h2,h3,fun hfs=>?_,h5⟩
    rcases List.mem_cons.mp (I.oN p.1 hfs) with z | z
    · exact absurd (M9 I.lt h2) (by rw [z];exact Nat.lt_irrefl _)
    · exact I.Kx h2 z
  · show (List.replicate own.length (none:Option V)++cap.map fun j=>(σ[j]?).join).length=(own++cap.map fun j=>X.N.getD j Str.empty).length
    simp
theorem Inv.leave {C D:Addr} {s':Shared} {h':Heap} {H':Hp} {σ':St} {ys:List V} {its:List Value} {n:Nat} (I:Inv X pins σ H s) (f2:∀ b∈fp,mF X pins H b) (hC:s.heap.objs.size≤C) (hD:s.heap.objs.size≤D) (hDC:D≠C)
    (J:Inv (blk X scope own cap C s H fp) [(D,{ cls:=.type "list",data:=.seq its.toArray n })] σ' H' s') (hs:Heap.SameBut C s'.heap h') (r:Vals ys its) (hz:ys.length≤sizeLine) :
    Inv X pins σ (upd H' D (.lst ys)) { s' with heap:=h' }:=by
  obtain ⟨eD,nD,_,_,_⟩:=J.pin (D,{ cls:=.type "list",data:=.seq its.toArray n }) (MX _ (List.mem_singleton.mpr rfl))
  have HD:H D=none:=I.hok.fresh hD
  have nC:H' C=none:=J.free
  have neC:∀ b o,s.heap.get? b=some o→b≠C:=fun b o e=>Nu (M9 (Heap.lt_size e) hC)
  have neD:∀ b o,s.heap.get? b=some o→b≠D:=fun b o e=>Nu (M9 (Heap.lt_size e) hD)
  have J0:Un (frs X.stack) fp H H' s.heap s'.heap:=J.base
  have u:Un (frs X.stack) fp H (upd H' D (.lst ys)) s.heap h':=by
    refine ⟨fun b o e n hb hx=>?_,fun b o e n hb hx=>?_,fun b o e n hx=>?_,fun b o e hx=>?_,fun b xs e=>?_,fun b o xs e=>?_,fun b ps e=>?_⟩
    · exact (hs.2 b (neC b o e)).trans (J0.keep b o e n hb hx)
    · obtain ⟨sl,q⟩:=J0.slot b o e n hb hx
      exact ⟨sl,(hs.2 b (neC b o e)).trans q⟩
    · rw [aF (neD b o e)];exact J0.free b o e n hx
    · obtain ⟨o',q⟩:=J0.there b o e hx
      exact ⟨o',(hs.2 b (neC b o e)).trans q⟩
    · rw [aF (aG e HD)];exact J0.tups b xs e
    · rw [aF (aG e HD)];exact J0.iS b o xs e
    · rw [aF (aG e HD)];exact J0.i8 b ps e
  have hok:HOk X.prog X.w (upd H' D (.lst ys)) h':=fun b o e=>by
    by_cases hb:b=D
    · subst hb
      rw [aE] at e;cases e
      exact ⟨hz,its,n,r,(hs.2 b hDC).trans eD⟩
    · rw [aF hb] at e
      refine (J.hok b o e).stay (fun c v hc q=>(hs.2 c ?_).trans q) (fun c q=>?_) fun c xs q=>?_
      · rcases hc with rfl | hc
        · exact aG e nC
        · exact aG hc nC
      · rw [aF (aG q nD)];exact q
      · rw [aF (aG q nD)];exact q
  obtain ⟨hh,g,d,t,os⟩:=s'
  have eos:os=s.os:=J.os
  subst eos
  exact Inv.call (s:=s) (h':=h') (g':=g) (d':=d) (t':=t) (ch:=fp) I u hok J.bare fun b hb=>⟨(f2 b hb).2.2.2.1,(f2 b hb).2.1,fun x c e=>(f2 b hb).2.2.2.2.1 x c e,(f2 b hb).2.2.2.2.2⟩
end
section
variable {X:Cx} {pins:List (Addr×Obj)} {σ : St} {H:Hp} {s:Shared} {scope:Scope} {own:List Str} {cap:List Nat} {fp:List Addr}
theorem Inv.again {C:Addr} {pl:List (Addr×Obj)} {σ2:St} {H3:Hp} {s3:Shared} (I:Inv X pins σ H s) (B:Blk X scope own cap) (f2:∀ b∈fp,mF X pins H b) (J:Inv (blk X scope own cap C s H fp) pl σ2 H3 s3) :
    Inv (blk X scope own cap C s H fp) pl (vM own.length cap σ) H3 s3:=by
  obtain ⟨m,hn,_⟩:=J.loc
  refine ⟨J.ok,J.os,J.bare,J.base,⟨m,hn,fun i x v e1 e2 e3=>?_⟩,J.cell,J.free,J.freeC,J.pin,J.hok,?_⟩
  · have e2':(List.replicate own.length (none:Option V)++cap.map fun j=>(σ[j]?).join)[i]?=some (some v):=e2
    have e1':(own++cap.map fun j=>X.N.getD j Str.empty)[i]?=some x:=e1
    by_cases hi:i < own.length
    · rw [MP (by simpa using hi),List.getElem?_replicate,if_pos hi] at e2'
      cases e2'
    · rw [MO (by simpa using hi),Nb] at e2'
      rw [MO (by simpa using hi),Nb] at e1'
      rw [MY] at e2'
      cases hj:cap[i - own.length]? with
      | none=>rw [hj] at e2';cases e2'
      | some j=>
        rw [hj] at e1' e2'
        have IZ:X.N.getD j Str.empty=x:=Nm e1'
        have p6:(σ[j]?).join=some v:=Nm e2'
        obtain ⟨y,hy,hm,hl⟩:=B.caps j (M0 hj)
        have exy:x=y:=by rw [← IZ,List.getD_eq_getElem?_getD,hy];rfl
        subst exy
        have hσ : σ[j]?=some (some v):=by
          cases q : σ[j]? with
          | none=>rw [q] at p6;cases p6
          | some z=>rw [q] at p6;rw [show z=some v from p6]
        have kc:=B.free _ hm rfl
        obtain ⟨m0,hn0,hl0⟩:=I.loc
        obtain ⟨u,r,lk⟩:=hl0 j x v hy hσ (.inr (.inl kc))
        refine ⟨u,r,.inr ⟨.inl (cO I.ok.kind kc hl),?_⟩⟩
        rcases lk with ⟨k1,_⟩ | ⟨_,c,hc1,o,ho,hd⟩
        · rw [kc] at k1;cases k1
        · obtain ⟨c',hc'⟩:=dF (cells:=X.env.cells) scope.names [] hm ⟨c,hc1⟩
          have:=((eX _ _ hc').elim (fun z=>by simp at z) fun z=>z.1:X.env.cells.lookup x=some c')
          rw [hc1] at this;cases this
          have J0:Un (frs X.stack) fp H H3 s.heap s3.heap:=J.base
          obtain ⟨sl,q⟩:=J0.any ho (I.freeC x c hc1) fun z=>(f2 c z).2.2.2.2.1 x c hc1 rfl
          exact ⟨c,hc',_,q,hd⟩
  · show (List.replicate own.length (none:Option V)++cap.map fun j=>(σ[j]?).join).length=(own++cap.map fun j=>X.N.getD j Str.empty).length
    simp
end
theorem sV {prog:Program} {w:World} {A:Around} {R:Result→Shared→Prop} {s:Shared} {elt target iter:Expr} {ifs:List Expr} {scope:Scope} {pos:Pos} {it acc:Value} {env:Env} (I:Nat→Shared→Prop)
    (turn:∀ n s,I n s→wpAny (model prog w) A (pyNext it) (fun r s₁=>match r with
      | none=>R (.ok .next) s₁
      | some v=>wpAny (model prog w) A (letOwnedTupleGo target it v) (fun _ s₁'=>wpAny (model prog w) A (assign target env v) (fun _ s₂=>
          wpAny (model prog w) A (forIn ifs true fun c r=>if r=true then do let ok ← isTrue c env (eval c env);pure (ForInStep.yield ok) else pure (ForInStep.yield r)) (fun ok s₃=>
            if ok=true then wpAny (model prog w) A (eval elt env) (fun x s₄=>
              wpAny (model prog w) A (call (.builtin "list.append") [acc,x]) (fun _ s₅=>∃ m,m < n∧I m s₅) (fun _ _=>False) s₄) (fun _ _=>False) s₃
            else ∃ m,m < n∧I m s₃) (fun _ _=>False) s₂) (fun _ _=>False) s₁') (fun _ _=>False) s₁) (fun _ _=>False) s)
    (n:Nat) (h:I n s) :
    codeAny (model prog w) A (.compLoop (.ListComp elt [⟨target,iter,ifs,0⟩] scope pos) 0 it acc env) R s:=by
  refine codeAny_loop rfl I (fun n s hI=>?_) n h
  show wpAny _ A ((compTurn (.ListComp elt [⟨target,iter,ifs,0⟩] scope pos) 0 it acc env).onRaise (fun x=>do noteFrame x env;theTreesLotGoes x)) _ _ s
  refine wpAny_noted ?_
  rw [compTurn_list]
  refine wpAny_bind (wpAny_standAt (wpAny_bind (wpAny_mono (turn n s hI) (fun r s₁ h₁=>?_) fun _ _ z=>z.elim)))
  cases r with
  | none=>exact wpAny_pure h₁
  | some v=>
    refine wpAny_bind (wpAny_mono h₁ (fun _ s₁' h₁'=>?_) fun _ _ z=>z.elim)
    refine wpAny_bind (wpAny_mono h₁' (fun _ s₂ h₂=>wpAny_bind (wpAny_mono h₂ (fun ok s₃ h₃=>?_) fun _ _ z=>z.elim)) fun _ _ z=>z.elim)
    cases ok with
    | false=>exact wpAny_pure ⟨rfl,h₃⟩
    | true=>
      exact wpAny_bind (wpAny_bind (wpAny_mono h₃ (fun x s₄ h₄=>wpAny_bind (wpAny_mono h₄ (fun _ s₅ h₅=>wpAny_pure (wpAny_pure ⟨rfl,h₅⟩)) fun _ _ z=>z.elim)) fun _ _ z=>z.elim))
def CG (X:Cx) (ifs:List Expr) (tc:TT):Prop:=
  ∀ (pins:List (Addr×Obj)) (s:Shared) (σ : St) (H:Hp) (Q:Bool→Hp→Prop),Inv X pins σ H s→tc σ H Q →
    wpAny (model X.prog X.w) X.A (forIn ifs true fun c r=>if r=true then do let ok ← isTrue c X.env (eval c X.env);pure (ForInStep.yield ok) else pure (ForInStep.yield r)) (TP X pins σ Q) X.xe s
def JX:TT:=fun _ H Q=>Q true H
theorem eS {X:Cx}:CG X [] JX:=fun _ _ _ H _ I h=>wpAny_tests_nil ⟨H,I,h⟩
theorem je {X:Cx} {c:Expr} {tc:TT} (h:PT X c tc):CG X [c] tc:=fun pins s σ H Q I hw=>wpAny_tests_one (h pins s σ H Q I hw)
def tY (J:It) (W:Nat→Nat→List V→Hp→Prop) (D:List V→Hp→Prop) (σb:St) (g:TG) (tc:TT) (te:TE):Prop:=
  ∀ i m ys H,W i m ys H→ys.length≤sizeLine ∧
    ((J.stop i H∧D ys H)∨(J.go i H∧∃ N:List V→Hp→Prop,(∀ ys' H',N ys' H'→∃ m',m' < m∧W (i+1) m' ys' H')∧∀ x H',J.yld i H x H'→g x σb H' fun σ2 H2=>tc σ2 H2 fun b H3=>
      if b=true then te σ2 H3 fun y H4=>N (ys++[y]) H4 else N ys H3))
def wz (wi:TI) (own:Nat) (cap:List Nat) (g:TG) (tc:TT) (te:TE):TE:=fun σ H Q=>wi σ H fun J H1=>∃ W:Nat→Nat→List V→Hp→Prop,(∃ m,W 0 m [] H1) ∧
  tY J W (fun ys H=>∀ p,H p=none→Q (.ref p) (upd H p (.lst ys))) (vM own cap σ) g tc te
section
variable {X:Cx} {scope:Scope} {own:List Str} {cap:List Nat} {tg elt iter:Expr} {ifs:List Expr} {pos:Pos} {wi:TI} {g:TG} {tc:TT} {te:TE}
theorem lT (B:Blk X scope own cap) (hc:X.calm=true) (hg:∀ C s H fp,PG (blk X scope own cap C s H fp) tg g) (ht:∀ C s H fp,CG (blk X scope own cap C s H fp) ifs tc) (he:∀ C s H fp,PE (blk X scope own cap C s H fp) elt te)
    {pins:List (Addr×Obj)} {s2:Shared} {σ : St} {H2:Hp} {it:Addr} {fp:List Addr} {tn:Nat→Heap→Prop} {J:It} {W:Nat→Nat→List V→Hp→Prop} {D:List V→Hp→Prop} {m0:Nat} {E:Value→Shared→Prop} {RR:Value→Addr→Result→Shared→Prop}
    (I2:Inv X pins σ H2 s2) (T:Turn X.prog X.w X.K tg J fp it tn) (st2:tn 0 s2.heap) (f2:∀ b∈fp,mF X pins H2 b) (w0:W 0 m0 [] H2) (turn:tY J W D (vM own.length cap σ) g tc te)
    (done:∀ (C L:Addr) (s':Shared) (H':Hp) (σ':St) (ys:List V) (its:List Value) (n:Nat),s2.heap.objs.size≤C→s2.heap.objs.size≤L→L≠C→Inv (blk X scope own cap C s2 H2 fp) [(L,{ cls:=.type "list",data:=.seq its.toArray n })] σ' H' s'→Vals ys its→ys.length≤sizeLine→D ys H' →
      RR (.ref L) C (.ok .next) s') :
    wpAny (model X.prog X.w) X.A (newList []) (fun acc s₃=>wpAny (model X.prog X.w) X.A (newFunctionEnv scope X.env.globals (cC X.env.cells scope.names []) [] X.env.qual none .none (some X.env)) (fun cenv s₄=>
      codeAny (model X.prog X.w) X.A (.compStart (.ListComp elt [⟨tg,iter,ifs,0⟩] scope pos) 0 (.ref it) acc { cenv with scope:=relabel scope X.env }) (RR acc cenv.locals) s₄) E s₃) E s2:=by
  refine wpAny_newObj_type (wpAny_newFunctionEnv B.nocell (by intro y hy;simp at hy) (fun h₁ hns₁ hsb₁=>?_) B.kind)
  dsimp only at hns₁ hsb₁ ⊢
  have flt:∀ b∈fp,b < s2.heap.objs.size:=fun b hb=>by
    obtain ⟨o,e,_⟩:=T.obj _ _ st2 b hb
    exact Heap.lt_size e
  generalize hH2:s2.heap.push { cls:=.type "list",dict:=none,data:=.seq ([]:List Value).toArray }=G2 at hns₁ hsb₁ ⊢
  have hCs:G2.objs.size=s2.heap.objs.size+1:=by rw [← hH2,Heap.size_push]
  have hC:s2.heap.objs.size≤G2.objs.size:=by rw [hCs];exact ND _
  have hDC:s2.heap.objs.size≠G2.objs.size:=by rw [hCs];exact Nu (Nat.lt_succ_self _)
  have old:∀ b o,s2.heap.get? b=some o→h₁.get? b=some o:=fun b o e=>
    hsb₁.extBut b o (Nu (M9 (Heap.lt_size e) hC)) (Heap.get?_push_of_some _ (hH2▸Heap.get?_push_of_some _ e))
  have hacc:h₁.get? s2.heap.objs.size=some { cls:=.type "list",data:=.seq ([]:List Value).toArray 0 }:=hsb₁.extBut _ _ hDC (Heap.get?_push_of_some _ (hH2▸Heap.get?_push_size _ rfl))
  have loop:∀ s₃ : Shared,s₃={ s2 with heap:=h₁,toks:=s2.toks+([]:List (Str×Value)).length } →
      codeAny (model X.prog X.w) X.A (.compLoop (.ListComp elt [⟨tg,iter,ifs,0⟩] scope pos) 0 (.ref it) (.ref s2.heap.objs.size) (compEnvC scope (cC X.env.cells scope.names []) G2.objs.size X.env))
        (RR (.ref s2.heap.objs.size) G2.objs.size) s₃:=by
    rintro s₃ rfl
    refine sV (fun n s'=>∃ i ys its nn H',Inv (blk X scope own cap G2.objs.size s2 H2 fp) [(s2.heap.objs.size,{ cls:=.type "list",data:=.seq (its:List Value).toArray nn })] (vM own.length cap σ) H' s'∧tn i s'.heap∧(∀ b∈fp,H' b=none)∧Vals ys its∧W i n ys H')
      ?_ m0 ⟨0,[],[],0,H2,L3.Inv.enter I2 hc B f2 flt old hC hns₁ _ (fun p hp=>?_),T.keep _ _ _ st2 (fun b _ o e=>old b o e),fun b hb=>(f2 b hb).1,.nil,w0⟩
    · rintro n s3 ⟨i,ys,its,nn,H3,J3,st3,fr3,rv,w3⟩
      have fpb:∀ {pl:List (Addr×Obj)} {H':Hp},(∀ b∈fp,H' b=none)→(∀ p∈pl,∀ b∈fp,p.1≠b)→∀ b∈fp,mF (blk X scope own cap G2.objs.size s2 H2 fp) pl H' b:=fun {pl H'} hn hp b hb=>
        ⟨hn b hb,Nu (M9 (flt b hb) hC),fun z=>J3.ok.exfs b hb z,.inl hb,fun x c e=>(J3.ok.exf b hb).2 x c e,fun p hp'=>by
          rcases List.mem_append.mp hp' with z | z
          · exact absurd (show p∈([]:List (Addr×Obj)) from z) (by simp)
          · exact hp p z b hb⟩
      have nD:∀ (o:Obj),∀ p∈[(s2.heap.objs.size,o)],∀ b∈fp,p.1≠b:=fun o p hp b hb=>by
        have e:p=(s2.heap.objs.size,o):=by simpa using hp
        subst e
        exact (Nu (flt b hb)).symm
      obtain ⟨hz,tr⟩:=turn i n ys H3 w3
      rcases tr with ⟨stop,qD⟩ | ⟨go,N,hN,step⟩
      · refine thn (T.done (blk X scope own cap G2.objs.size s2 H2 fp) rfl rfl rfl rfl i _ s3 _ H3 (fun _ _=>False) J3 (fpb fr3 (nD _)) st3 stop) fun r s4 ⟨hr,J4⟩=>?_
        subst hr
        exact done _ _ s4 H3 _ ys its nn hC (NB _) hDC J4 rv hz qD
      · refine thn (T.item (blk X scope own cap G2.objs.size s2 H2 fp) rfl rfl rfl rfl i _ s3 _ H3 (fun _ _=>False) J3 (fpb fr3 (nD _)) st3 go) fun r s4 ⟨u,hr,h4⟩=>?_
        subst hr
        refine thn h4 fun _ s5 ⟨x,H5,J5,r5,y5,st5,fr5⟩=>?_
        have J5':=J5.pinned (fpb fr5 (nD _)) (T.obj _ _ st5)
        refine thn (hg _ _ _ _ _ s5 _ H5 x u _ J5' r5 (step x H5 y5)) fun _ s6 ⟨σ6,H6,J6,q6⟩=>?_
        -- a turn's end,the list at L as it stands
        have again:∀ {pl:List (Addr×Obj)} {its':List Value} {nn':Nat} {ys':List V} {s8:Shared} {H8:Hp} {σ8:St} {m':Nat},Inv (blk X scope own cap G2.objs.size s2 H2 fp) ([(s2.heap.objs.size,{ cls:=.type "list",data:=.seq its'.toArray nn' })]++gA fp s5.heap) σ8 H8 s8→Vals ys' its'→m' < n→W (i+1) m' ys' H8 →
            ∃ m,m < n∧∃ i ys its nn H',Inv (blk X scope own cap G2.objs.size s2 H2 fp) [(s2.heap.objs.size,{ cls:=.type "list",data:=.seq (its:List Value).toArray nn })] (vM own.length cap σ) H' s8∧tn i s8.heap∧(∀ b∈fp,H' b=none)∧Vals ys its∧W i m ys H':=by
          intro pl its' nn' ys' s8 H8 σ8 m' J8 rv' hm w8
          have Ko:∀ b∈fp,∀ o,s5.heap.get? b=some o→s8.heap.get? b=some o∧H8 b=none:=fun b hb o e=>by
            have q:=J8.pin (b,o) (MX _ (MX _ (iL hb e)))
            exact ⟨q.1,q.2.1⟩
          refine ⟨m',hm,i+1,ys',its',nn',H8,Inv.again I2 B f2 J8.i7,T.keep _ _ _ st5 fun b hb o e=>(Ko b hb o e).1,fun b hb=>?_,rv',w8⟩
          obtain ⟨o,e,_⟩:=T.obj _ _ st5 b hb
          exact (Ko b hb o e).2
        refine thn (ht _ _ _ _ _ s6 _ H6 _ J6 q6) fun ok s7 ⟨H7,J7,q7⟩=>?_
        cases ok with
        | false=>
          rw [if_neg M8]
          rw [if_neg M8] at q7
          obtain ⟨m',hm,w7⟩:=hN _ _ q7
          exact again (pl:=[]) J7 rv hm w7
        | true=>
          rw [if_pos rfl]
          rw [if_pos rfl] at q7
          refine thn (he _ _ _ _ _ s7 _ H7 _ J7 q7) fun v s8 ⟨y,H8,J8,ry,q8⟩=>?_
          obtain ⟨m',hm,w8⟩:=hN _ _ q8
          have pL:=J8.pin (s2.heap.objs.size,{ cls:=.type "list",data:=.seq its.toArray nn }) (MX _ (List.mem_append_left _ (List.mem_singleton.mpr rfl)))
          refine wpAny_list_append_plain (l:=s2.heap.objs.size) (items:=its.toArray) ⟨nn,pL.1⟩ (fun h' hp' hsb=>?_) (by rw [Na,← rv.length];exact hz)
          obtain ⟨nn',hL'⟩:=hp'
          have J9:Inv (blk X scope own cap G2.objs.size s2 H2 fp) (gA fp s5.heap) σ6 H8 s8:=J8.kN fun p hp=>J8.pin p (MX _ (MX _ hp))
          have LK:∀ p∈(blk X scope own cap G2.objs.size s2 H2 fp).pn++gA fp s5.heap,p.1≠s2.heap.objs.size:=fun p hp=>by
            rcases List.mem_append.mp hp with z | z
            · exact absurd (show p∈([]:List (Addr×Obj)) from z) (by simp)
            · exact Nu (flt _ (nU z).1)
          have J10:Inv (blk X scope own cap G2.objs.size s2 H2 fp) (gA fp s5.heap) σ6 H8 { s8 with heap:=h' }:=J9.turned (t':=s8.toks) (it:=s2.heap.objs.size) (fun b o hb e=>(hsb.2 b hb).trans e) pL.2.1 pL.2.2.1 (.inr (NB _))
            (fun x c e z=>by
              obtain ⟨v',o',ho',hd'⟩:=J9.cell x c e
              rw [z,pL.1] at ho';cases ho';cases hd') LK
          refine again (pl:=[]) (its':=its++[v]) (nn':=nn') (J10.kN fun p hp=>?_) (rv.append (.cons ry .nil)) hm w8
          rcases List.mem_append.mp hp with z | z
          · have e:p=(s2.heap.objs.size,{ cls:=.type "list",data:=.seq (its++[v]).toArray nn' }):=by simpa using z
            subst e
            refine ⟨?_,pL.2.1,pL.2.2.1,pL.2.2.2.1,fun v'=>by intro q;cases q⟩
            rw [hL']
            simp
          · exact J10.pin p (MX _ z)
    · have e:p=(s2.heap.objs.size,{ cls:=.type "list",data:=.seq ([]:List Value).toArray 0 }):=by simpa using hp
      subst e
      exact ⟨hacc,NB _,hDC,fun v'=>by intro q;cases q⟩
  exact codeAny_compStart_list (loop _ rfl) (T.self _ 0 _ _ _ (T.keep _ _ _ st2 fun b _ o e=>old b o e) (loop _ rfl))
theorem fX (hc:X.calm=true) (hi:PI X tg iter wi) (B:Blk X scope own cap) (hg:∀ C s H fp,PG (blk X scope own cap C s H fp) tg g) (ht:∀ C s H fp,CG (blk X scope own cap C s H fp) ifs tc) (he:∀ C s H fp,PE (blk X scope own cap C s H fp) elt te)
    (hs:∀ x,foldedSetIterable iter X.env x=pure x:=by intro _;rfl):PE X (.ListComp elt [⟨tg,iter,ifs,0⟩] scope pos) (wz wi own.length cap g tc te):=by
  intro pins s σ H Q I h
  rw [eval_ListComp]
  refine wpAny_comprehension_free (use:=none) rfl hs (oi (B.cells I.ok)) B.kind B.names (thn (hi pins s σ H _ I h) fun v s1 h1=>thn h1 fun itv s2 h2=>?_)
  obtain ⟨it,fp,tn,J,H2,e,I2,T,st2,f2,W,⟨m0,w0⟩,turn⟩:=h2
  subst e
  refine lT (RR:=fun acc C=>compPost (model X.prog X.w) X.A X.xe none (EP X pins σ Q) acc C) B hc hg ht he I2 T st2 f2 w0 turn ?_
  intro C L s' H' σ' ys its n hC hL hLC J' rv hz hD
  obtain ⟨m,hn,_⟩:=J'.loc
  have nL:=(J'.pin _ (MX _ (List.mem_singleton.mpr rfl))).2.1
  exact ⟨m,hn,fun h' hs'=>⟨.ref L,_,Inv.leave I2 f2 hC hL hLC J' hs' rv hz,rfl,hD L nL⟩⟩
def zT (i:Nat) (wi:TI) (own:Nat) (cap:List Nat) (g:TG) (tc:TT) (te:TE):TS:=fun D σ H=>wz wi own cap g tc te σ H fun v H1=>D.nx (σ.set i (some v)) H1
theorem jd {i:Nat} {x:Str} {px spos:Pos} (hc:X.calm=true) (hN:X.N.Nodup) (hi':X.N[i]?=some x) (hx:Loc X.env.scope x) (hi:PI X tg iter wi) (B:Blk X scope own cap) (hg:∀ C s H fp,PG (blk X scope own cap C s H fp) tg g)
    (ht:∀ C s H fp,CG (blk X scope own cap C s H fp) ifs tc) (he:∀ C s H fp,PE (blk X scope own cap C s H fp) elt te)
    (hsw:swapsWith (.ListComp elt [⟨tg,iter,ifs,0⟩] scope pos) (some (.Name x px)) spos.line X.env=pure true) (hf:X.fn x=true∨X.env.scope.names.lookup x=some .local:=by first | exact .inl rfl | exact .inr rfl | assumption)
    (hs:∀ x,foldedSetIterable iter X.env x=pure x:=by intro _;rfl):PS X (.Assign [.Name x px] (.ListComp elt [⟨tg,iter,ifs,0⟩] scope pos) spos) (zT i wi own.length cap g tc te):=by
  intro pins s σ H D I h
  rw [exec_Assign_Name_used _ _ _ _ hsw]
  refine wpAny_bind (wpAny_standAt (wpAny_bind ?_))
  show wpAny _ X.A (do let _ ← comprehension (.ListComp elt [⟨tg,iter,ifs,0⟩] scope pos) scope X.env _ (newList []) false (eval iter X.env) (some (assign (.Name x px) X.env))) _ _ s
  refine wpAny_bind (thn (wpAny_comprehension_free (use:=some (assign (.Name x px) X.env)) (Q:=fun _ s'=>SP X pins D .next s') rfl hs (oi (B.cells I.ok)) B.kind B.names
    (thn (hi pins s σ H _ I h) fun v s1 h1=>thn h1 fun itv s2 h2=>?_)) (fun _ s' hq=>wpAny_pure (wpAny_pure hq)))
  obtain ⟨it,fp,tn,J,H2,e,I2,T,st2,f2,W,⟨m0,w0⟩,turn⟩:=h2
  subst e
  refine lT (RR:=fun acc C=>compPost (model X.prog X.w) X.A X.xe (some (assign (.Name x px) X.env)) (fun _ s'=>SP X pins D .next s') acc C) B hc hg ht he I2 T st2 f2 w0 turn ?_
  intro C L s' H' σ' ys its n hC hL hLC J' rv hz hD
  obtain ⟨m,hn,_⟩:=J'.loc
  have nL:=(J'.pin _ (MX _ (List.mem_singleton.mpr rfl))).2.1
  have I3:=Inv.leave I2 f2 hC hL hLC J' (.refl ..) rv hz
  show wpAny _ X.A (assign (.Name x px) X.env (.ref L)) _ _ s'
  have cL:C≠X.env.locals:=Ne.symm (Nu (M9 I2.lt hC))
  have cc:∀ y c,X.env.cells.lookup y=some c→c≠C:=fun y c e=>by
    obtain ⟨v,q⟩:=I2.cell y c e
    exact Nu (M9 q.lt hC)
  refine wpAny_assign_Name (nu I3 hN hi' hx (v:=.ref L) rfl (fun s4 I4 ⟨a,hsb,ha⟩=>?_) hf)
  have aC:C≠a:=by
    rcases ha with rfl | e
    · exact cL
    · exact Ne.symm (cc _ _ e)
  refine ⟨m,hn.sameBut hsb aC,fun h5 hs5=>⟨_,_,I4.turned (t':=s4.toks) (it:=C) (fun b o hb e=>(hs5.2 b hb).trans e) (by rw [aF (Ne.symm hLC)];exact J'.free) cL (.inr (Nq I2.sz hC)) cc (fun p hp=>?_),hD L nL⟩⟩
  exact Nu (M9 (Heap.lt_size (I2.pin p hp).1) hC)
end
theorem zf {K:PySem.W.Frag} {a:Addr} {xs:List V} {g:TG} {tc:TT} {te:TE} {D:List V→Hp→Prop} {σb:St} {H:Hp} (Pv:Nat→List V→Hp→Prop) (h0:Pv 0 [] H) (hl:∀ i ys H,i≤xs.length→Pv i ys H→SqL K H a xs∧ys.length≤sizeLine)
    (hs:∀ i x ys H,xs[i]?=some x→Pv i ys H→g x σb H fun σ2 H2=>tc σ2 H2 fun b H3=>if b=true then te σ2 H3 fun y H4=>Pv (i+1) (ys++[y]) H4 else Pv (i+1) ys H3) (hd:∀ ys H,Pv xs.length ys H→D ys H) :
    ∃ W:Nat→Nat→List V→Hp→Prop,(∃ m,W 0 m [] H)∧tY (Itl K a) W D σb g tc te:=by
  refine ⟨fun i m ys H=>m=xs.length - i∧i≤xs.length∧Pv i ys H,⟨xs.length,by simp,NC _,h0⟩,?_⟩
  rintro i m ys H ⟨rfl,hi,p⟩
  obtain ⟨q,hz⟩:=hl i ys H hi p
  refine ⟨hz,?_⟩
  by_cases hlt:i < xs.length
  · refine .inr ⟨⟨xs,xs[i],q,by simp [hlt]⟩,Pv (i+1),fun ys' H' p'=>⟨xs.length - (i+1),by omega,rfl,hlt,p'⟩,fun x H' y=>?_⟩
    obtain ⟨e,y⟩:=y
    subst e
    exact hs i x ys _ (y xs q) p
  · have e:i=xs.length:=by omega
    subst e
    exact .inl ⟨⟨xs,q,NB _⟩,hd ys H p⟩
theorem vF {lo:Int} {n:Nat} {g:TG} {tc:TT} {te:TE} {D:List V→Hp→Prop} {σb:St} {H:Hp} (Pv:Nat→List V→Hp→Prop) (h0:Pv 0 [] H) (hl:∀ i ys H,i≤n→Pv i ys H→ys.length≤sizeLine)
    (hs:∀ i ys H,i < n→Pv i ys H→g (.int (lo+i)) σb H fun σ2 H2=>tc σ2 H2 fun b H3=>if b=true then te σ2 H3 fun y H4=>Pv (i+1) (ys++[y]) H4 else Pv (i+1) ys H3) (hd:∀ ys H,Pv n ys H→D ys H) :
    ∃ W:Nat→Nat→List V→Hp→Prop,(∃ m,W 0 m [] H)∧tY (Itr lo n) W D σb g tc te:=by
  refine ⟨fun i m ys H=>m=n - i∧i≤n∧Pv i ys H,⟨n,by simp,NC _,h0⟩,?_⟩
  rintro i m ys H ⟨rfl,hi,p⟩
  refine ⟨hl i ys H hi p,?_⟩
  by_cases hlt:i < n
  · refine .inr ⟨hlt,Pv (i+1),fun ys' H' p'=>⟨n - (i+1),by omega,rfl,hlt,p'⟩,fun x H' y=>?_⟩
    obtain ⟨e,y⟩:=y
    subst e y
    exact hs i ys _ hlt p
  · have e:i=n:=by omega
    subst e
    exact .inl ⟨NB _,hd ys H p⟩
structure GlV (mg:Str→Option Value) (x:Str) (v:V):Prop where
  ex:∃ u,mg x=some u∧RelV v u
theorem yl {X:Cx} {x:Str} {v:V} {pos:Pos} (h:GlV X.mg x v) (hg:Gl X x:=by rfl) (hd:(x == ("__debug__" : Str))=false:=by decide):PE X (.Name x pos) (tC v):=by
  obtain ⟨u,m,r⟩:=h.ex
  exact DZ hg m r hd
theorem dg:bootBuiltins "len" = some (.builtin "len"):=by decide +kernel
theorem iB:bootBuiltins "isinstance" = some (.builtin "isinstance"):=by decide +kernel
theorem ef:bootBuiltins "max" = some (.builtin "max"):=by decide +kernel
theorem l7:bootBuiltins "min" = some (.builtin "min"):=by decide +kernel
theorem Jo:bootBuiltins "all" = some (.builtin "all"):=by decide +kernel
theorem Cw:bootBuiltins "any" = some (.builtin "any"):=by decide +kernel
theorem oq:bootBuiltins "sorted" = some (.builtin "sorted"):=by decide +kernel
theorem Jm:bootBuiltins "str" = some (.type "str"):=by decide +kernel
theorem iu:bootBuiltins "list" = some (.type "list"):=by decide +kernel
theorem l6:bootBuiltins "tuple" = some (.type "tuple"):=by decide +kernel
theorem Cu:bootBuiltins "set" = some (.type "set"):=by decide +kernel
theorem Cv:bootBuiltins "int" = some (.type "int"):=by decide +kernel
theorem FE:bootBuiltins "bool" = some (.type "bool"):=by decide +kernel
structure Bt (mg:Str→Option Value):Prop where
  len:mg "len" = none
  range:mg "range" = none
  isinstance:mg "isinstance" = none
  max:mg "max" = none
  min:mg "min" = none
  all:mg "all" = none
  any:mg "any" = none
  sorted:mg "sorted" = none
  sum:mg "sum" = none
  int_:mg "int" = none
  bool_:mg "bool" = none
  str_:mg "str" = none
  list_:mg "list" = none
  tuple_:mg "tuple" = none
  dict_:mg "dict" = none
  set_:mg "set" = none
  zip_:mg "zip" = none
  ValueError_:mg "ValueError" = none
section
variable {X:Cx}
def LB (_ j:Int):Prop:=0 < j∧j < 2 ^ 250
def Lz (i j:Int):Prop:=(-(2 ^ 250) < i∧i < 2 ^ 250)∧(-(2 ^ 250) < j∧j < 2 ^ 250)
theorem log2_lt {n k:Nat} (h:n < 2 ^ k) (hk : 0 < k):n.log2 < k:=by
  by_cases h0:n=0
  · subst h0;simpa using hk
  · exact (Nat.log2_lt h0).mpr h
theorem fH:OpR X (binaryOp .FloorDiv) (rI LB fun i j=>.int (i / j)):=opI fun i j t u A s Q hc q=>by
  have e:i.fdiv j=i / j:=Int.fdiv_eq_ediv_of_nonneg _ (Int.le_of_lt hc.1)
  refine floordiv_int (by have:=hc.1;omega) (by rw [e];exact q) (.inl (PyProof.noPylong_of_log2 ?_))
  refine M9 (log2_lt (k:=250) ?_ (by decide)) (by decide)
  have h1:=hc.1
  have h2:=hc.2
  have e2:((2:Int) ^ 250)=((2 ^ 250:Nat):Int):=by norm_cast
  rw [e2] at h2
  omega
theorem dM:OpR X (binaryOp .Mult) (rI Lz fun i j=>.int (i * j)):=opI fun i j t u A s Q hc q=>by
  have bits:∀ {k:Int},-(2 ^ 250) < k→k < 2 ^ 250→Builtin.Int.intBits k≤2 ^ 20:=fun {k} h1 h2=>by
    have e2:((2:Int) ^ 250)=((2 ^ 250:Nat):Int):=by norm_cast
    rw [e2] at h1 h2
    have h3:k.natAbs < 2 ^ 250:=by omega
    have h4:=log2_lt h3 (by decide)
    unfold Builtin.Int.intBits
    split
    · exact NC _
    · exact Nq (Nat.succ_le_succ (Nr h4)) (by decide)
  exact mul_int q (IntMulOk.of_bits (bits hc.1.1 hc.1.2) (bits hc.2.1 hc.2.2))
theorem ym:OpR X (binaryOp .Mult) (fun x y H Q=>∃ z n,x = .str z∧y = .int n∧z.length≤1000∧-1000≤n∧n≤10000∧Q (.str (Txt.mul z n)) H):=by
  intro pins s σ H x y v u Q I rx ry h
  obtain ⟨z,n,rfl,rfl,h1,h2,h3,q⟩:=h
  obtain ⟨t,rfl⟩:=rx
  obtain ⟨t',rfl⟩:=ry
  exact SB.mul (mulOk_of 1000 10000 h1 (by omega) (by omega) (by decide) (by decide)) fun t' k=>⟨.str _,H,I.tok _,⟨_,rfl⟩,q⟩
theorem oM:∀ {ys:List Str} {us:List Value},Vals (ys.map V.str) us→StrsAre us ys
  | [],_,.nil=>.nil
  | y::ys,_,.cons r t=>by
    obtain ⟨tk,rfl⟩:=r
    exact .cons y tk (oM t)
theorem rZ:MtR X "str.join" (fun x xs H Q=>∃ z p ys,x = .str z∧xs=[.ref p]∧SqL X.K H p (ys.map V.str)∧(ys.map (·.length)).sum+ys.length * z.length≤16777216∧Q (.str (Txt.join z ys)) H):=by
  intro pins s σ H x xs v us Q I rx rs h
  obtain ⟨z,p,ys,rfl,rfl,hq,hz,q⟩:=h
  obtain ⟨t,rfl⟩:=rx
  obtain ⟨u,rfl,ru⟩:=vals1 rs
  cases ru
  obtain ⟨its,r,pl,_⟩:=I.list hq
  exact join_list pl.isList (by simpa using oM r) hz fun t' k=>⟨.str _,H,I.tok _,⟨_,rfl⟩,q⟩
def GZ (K:PySem.W.Frag):List V→Hp→VK→Prop:=fun xs H Q=>∃ x c t b,xs=[x,c]∧iy K H x t∧((∃ T,c = .ty T∧PySem.W.kitOne K t (.type T)=some b)∨∃ C,c = .ref C∧PySem.W.kitOne K t (.ref C)=some b)∧Q (.bl b) H
theorem Cq:cH X (.builtin "isinstance") (GZ X.K):=by
  intro pins s σ H xs us Q I r h
  obtain ⟨x,c,t,b,rfl,ty,e,q⟩:=h
  obtain ⟨u,w',rfl,rx,rc⟩:=vals2 r
  rcases e with ⟨T,rfl,e⟩ | ⟨C,rfl,e⟩
  · cases (show w'=Value.type T from rc)
    exact nZ I rx ty e fun tk=>⟨.bl b,H,I.tok _,rfl,q⟩
  · cases (show w'=Value.ref C from rc)
    exact nZ I rx ty e fun tk=>⟨.bl b,H,I.tok _,rfl,q⟩
theorem pI {e:Expr} {te:TE} {c:Str} {T:String} {p p' pos:Pos} (hm:X.mg "isinstance" = none) (hc:X.mg c=none) (hv:bootBuiltins c=some (.type T)) (he:PE X e te) (hg:Gl X "isinstance" := by rfl) (hg':Gl X c:=by rfl) (hn:c ≠ "__name__" := by decide) (hd:(c == ("__debug__" : Str))=false:=by decide)
    (hs:starEach [e,.Name c p'] X.env=(false,eval e X.env)::starEach [.Name c p'] X.env:=by rfl) (hs2:starEach [.Name c p'] X.env=(false,eval (.Name c p') X.env)::starEach [] X.env:=by rfl) (hpl:(backTo pos (starEach [.Name c p'] X.env)).any (·.1)=false:=by rfl) :
    PE X (.Call (.Name "isinstance" p) [e,.Name c p'] [] pos) (tCB (GZ X.K) (nk te (nk (tC (.ty T)) oK))):=
  aX Cq hg hm iB (aa he (aa (pJ hg' hc hv rfl hn hd) af hs2) hs) (by decide) (by decide) hs hpl
end
def GI (names:List (Str×NameKind)) (N:List Str) (scope:Scope) (own:List Str) (cap:List Nat):Bool:=
  scope.names.all (fun y=>y.2 != .cell && (y.2 != .local || scope.names.lookup y.1 == some .local) && (y.2 != .free || names.lookup y.1 == some .cell)) &&
  decide (gq N own cap).Nodup &&
  cap.all (fun j=>match N[j]? with | some x=>scope.names.any (fun y=>y.1 == x && y.2 == .free) && scope.names.lookup x == some .free | none=>false)
theorem eZ {X:Cx} {scope:Scope} {own:List Str} {cap:List Nat} (names:List (Str×NameKind)) (N:List Str) (hn:X.env.scope.names=names) (hN:X.N=N) (hk:scope.kind = .function) (h:GI names N scope own cap=true):Blk X scope own cap:=by
  unfold GI at h
  simp only [Bool.and_eq_true,List.all_eq_true,decide_eq_true_eq] at h
  obtain ⟨⟨h1,h2⟩,h3⟩:=h
  refine ⟨hk,fun y hy e=>?_,fun y hy e=>?_,fun y hy e=>?_,by rw [hN];exact h2,fun j hj=>?_⟩
  · have:=(h1 y hy).1.1
    rw [e] at this;exact absurd this (by decide)
  · have:=(h1 y hy).1.2
    rw [e] at this;simpa using this
  · have:=(h1 y hy).2
    rw [e] at this
    show X.env.scope.names.lookup y.1=some .cell
    rw [hn]
    simpa using this
  · have:=h3 j hj
    rw [hN]
    split at this
    · rename_i x e
      simp only [Bool.and_eq_true,List.any_eq_true,beq_iff_eq] at this
      obtain ⟨⟨y,hy,e1,e2⟩,e3⟩:=this
      obtain ⟨y1,y2⟩:=y
      dsimp only at e1 e2
      subst e1 e2
      exact ⟨_,e,hy,e3⟩
    · cases this
structure Mak (P:Program) (w:World) (K:PySem.W.Frag) (mg:Str→Option Value) (base:Heap) (CX:CXT) (x:Str) (C:Addr) (k:Nat) (ps:List Str) (sp:Sp):Prop where
  ex:∃ f fd,Mk K C f∧e7 P w K mg base CX k f fd ps sp∧Binds K fd ps []∧mg x=some (.ref C)
structure nh (K:PySem.W.Frag) (mg:Str→Option Value) (x qual:Str) (C:Addr) (st:Stmt) (ps:List Str):Prop where
  ex:∃ f fd,Fun K "__init__" qual st f fd∧Binds K fd ps []∧mg x=some (.ref C)∧Mk K C f∧Cls K C
structure bV (K:PySem.W.Frag) (C:Addr) (x qual:Str) (st:Stmt) (ps:List Str):Prop where
  ex:∃ f fd,Fun K x qual st f fd∧Binds K fd ps []∧Meth K C x f∧Cls K C
section
variable {P:Program} {w:World} {K:PySem.W.Frag} {mg:Str→Option Value} {base:Heap} {CX:CXT} {x qual:Str} {C:Addr} {st:Stmt} {N ps:List Str} {k j:Nat} {sp sp':Sp}
theorem nh.ok (D:nh K mg x qual C st ps) (S:aq N ps (aj st)) (len:∀ vs H Q E,sp vs H Q E→vs.length=ps.length)
    (hbody:∀ (f:Addr) (cdv:Value) (A:Around) (outer:List Env) (s:Shared) (H:Hp) (vs:List V) (Q:VK) (E:XK),bX k (A.deeper (envOfC qual (aj st) s.heap.objs.size f cdv))→sp vs H Q E →
      ∃ t,PSs (aZ CX P w K mg base N qual (aj st) f cdv A outer s H E).nox (bq st) t∧t { nx:=fun _ H'=>Q .non H',rt:=Q } (start N vs) H):Mak P w K mg base CX x C (k+1) ps sp:=by
  obtain ⟨f,fd,F,b,m,M,_⟩:=D.ex
  exact ⟨f,fd,M,lO F S len hbody,b,m⟩
theorem nh.cls (D:nh K mg x qual C st ps):Cls K C:=D.ex.elim fun _ h=>h.elim fun _ h=>h.2.2.2.2
theorem xE {h:Heap} (X:K.In h) (G:h.Ns mainGlobals mg) {f:Addr} {oc:Value} {od an:Option Addr} {osl:Array (Option Value)} {kV doc pm cdv ct:Value} (aC:PySem.W.nsIn K mainGlobals x=some (some (.ref C)))
    (a:PySem.W.findIn K (.ref C) "__init__" = some (some (.ref f))) (i:PySem.W.isFn K (.ref f)=true)
    (l:K.lookup f=some ⟨oc,od,.func (PySem.W.fnOf "__init__" qual (bK st) (bq st) (aj st) .none kV doc pm an cdv ct),osl⟩) (c:PySem.W.codeIn K cdv qual=true) (kp:PySem.W.keepIn K (.ref f)=true)
    (pg:PySem.W.plainGet K C Str.empty=true) (hd:PySem.W.hasDictIn K C=true) (po:PySem.W.plainOver K C=true) (sa:PySem.W.findIn K (.ref C) "__setattr__" = some (some (.builtin "object.__setattr__"))) (mk:PySem.W.makesIn K C=true) (kc:PySem.W.keepIn K (.ref C)=true)
    (b:∀ (kV doc pm:Value) (an:Option Addr) (cdv ct:Value) (us:List Value),us.length=ps.length→bindArgs (PySem.W.fnOf "__init__" qual (bK st) (bq st) (aj st) .none kV doc pm an cdv ct) ⟨us,[]⟩=pure (ps.zip us)):nh K mg x qual C st ps:=by
  have F:=pW (st:=st) l c kp
  exact ⟨f,_,F,F.binds b,PySem.W.mg_of X G aC,⟨mk,a,i,kc⟩,⟨pg,hd,po,sa⟩⟩
end
section
variable {X:Cx} {CX:CXT} {k:Nat} {ps:List Str} {sp:Sp} {E:XK} {x:Str} {C:Addr} {p pos:Pos} {e:Expr} {es:List Expr} {t:TA}
theorem Gm (M:Mak X.prog X.w X.K X.mg X.base CX x C k ps sp) (hr:bX (k+1) X.A) (hx:Passes CX X E) (ha:PA X (e::es) t) (hg:Gl X x:=by rfl)
    (hdb:(x == ("__debug__" : Str))=false:=by decide) (he:starEach (e::es) X.env=(false,eval e X.env)::starEach es X.env:=by rfl) (hpl:(backTo pos (starEach es X.env)).any (·.1)=false:=by rfl) :
    PE X (.Call (.Name x p) (e::es) [] pos) (kQ C sp [] E t):=by
  obtain ⟨f,fd,m,F,b,g⟩:=M.ex
  exact wU m F hr hg g b .nil hx ha hdb he hpl
end
end L3
namespace L4
open PySem PySem.Spec PyProof.Rows L2 L3
def cF (H H':Hp):Prop:=∀ q xs,H q=some (.tup xs)→H' q=some (.tup xs)
theorem cF.trans {H H1 H2:Hp} (a:cF H H1) (b:cF H1 H2):cF H H2:=fun q xs h=>b q xs (a q xs h)
theorem cu {H H':Hp} (s:aI H H'):cF H H':=fun q _ h=>s q _ h
theorem ua {H:Hp} {p:Addr} {o u:HO} (h:H p=some u) (n:∀ xs,u≠.tup xs):cF H (upd H p o):=fun q xs e=>by
  have:q≠p:=fun z=>by subst z;rw [h] at e;exact n xs (Nm e)
  rw [aF this];exact e
structure Ob where
  p:Hp→HO→Prop
  mono:∀ {H H':Hp} {o:HO},cF H H'→p H o→p H' o
def Eo (o:HO):Ob:=⟨fun _ u=>u=o,fun _ h=>h⟩
structure Pr where
  p:Hp→Prop
  mono:∀ {H H':Hp},cF H H'→p H→p H'
def aS (r:Addr) (xs:List V):Pr:=⟨fun H=>H r=some (.tup xs),fun t h=>t _ _ h⟩
structure Led (P:Addr→Prop) (H0 H:Hp) (l:List (Addr×Ob)) (fs:List Pr):Prop where
  at_:∀ x∈l,∃ o,H x.1=some o∧x.2.p H o
  nd:(l.map (·.1)).Nodup
  own:∀ x∈l,P x.1∨H0 x.1=none
  fr:∀ q o,H0 q=some o→¬ P q→H q=some o
  st:∀ f∈fs,f.p H
inductive Put (p:Addr) (a b:Ob):List (Addr×Ob)→List (Addr×Ob)→Prop
  | head {l}:Put p a b ((p,a)::l) ((p,b)::l)
  | tail {x l l'}:Put p a b l l'→Put p a b (x::l) (x::l')
section
variable {P:Addr→Prop} {H0 H H':Hp} {l l':List (Addr×Ob)} {fs:List Pr} {p:Addr} {a b:Ob} {o:HO}
theorem Put.mem (h:Put p a b l l'):(p,a)∈l:=by
  induction h with
  | head=>exact M7
  | tail _ ih=>exact M3 _ ih
theorem Put.keys (h:Put p a b l l'):l'.map (·.1)=l.map (·.1):=by
  induction h with
  | head=>rfl
  | tail _ ih=>rw [List.map_cons,List.map_cons,ih]
theorem Put.or (h:Put p a b l l'):∀ x∈l',x=(p,b)∨x∈l:=by
  induction h with
  | head=>
    intro x hx
    rcases List.mem_cons.mp hx with e | e
    · exact .inl e
    · exact .inr (M3 _ e)
  | tail _ ih=>
    intro x hx
    rcases List.mem_cons.mp hx with e | e
    · exact .inr (by rw [e];exact M7)
    · exact (ih x e).imp_right (M3 _)
theorem BB:∀ {l:List (Addr×Ob)},(l.map (·.1)).Nodup→∀ {x y},x∈l→y∈l→x.1=y.1→x=y
  | [],_,_,_,hx,_,_=>by simp at hx
  | z::l,hn,x,y,hx,hy,e=>by
    rw [List.map_cons,List.nodup_cons] at hn
    rcases List.mem_cons.mp hx with e1 | h1
    · rcases List.mem_cons.mp hy with e2 | h2
      · rw [e1,e2]
      · exact absurd (show z.1∈l.map (·.1) from List.mem_map.mpr ⟨y,h2,by rw [← e1];exact e.symm⟩) hn.1
    · rcases List.mem_cons.mp hy with e2 | h2
      · exact absurd (show z.1∈l.map (·.1) from List.mem_map.mpr ⟨x,h1,by rw [← e2];exact e⟩) hn.1
      · exact BB hn.2 h1 h2 e
theorem Put.or' (h:Put p a b l l') (nd:(l.map (·.1)).Nodup):∀ x∈l',x=(p,b)∨(x∈l∧x.1≠p):=by
  intro x hx
  have nd':(l'.map (·.1)).Nodup:=by rw [h.keys];exact nd
  have hb:(p,b)∈l':=by
    clear nd nd' hx
    induction h with
    | head=>exact M7
    | tail _ ih=>exact M3 _ ih
  by_cases e:x.1=p
  · exact .inl (BB nd' hx hb e)
  · rcases h.or x hx with z | z
    · exact .inl z
    · exact .inr ⟨z,e⟩
theorem Led.get (L:Led P H0 H l fs) (m:Put p a a l l'):∃ o,H p=some o∧a.p H o:=L.at_ _ m.mem
theorem Led.eo (L:Led P H0 H l fs) (m:Put p (Eo o) (Eo o) l l'):H p=some o:=by
  obtain ⟨u,e,h⟩:=L.get m
  have:u=o:=h
  rw [← this];exact e
theorem Led.tup (L:Led P H0 H l fs) {r:Addr} {xs:List V} (m:aS r xs∈fs):H r=some (.tup xs):=L.st _ m
theorem Led.more (L:Led P H0 H l fs) (f:Pr) (h:f.p H):Led P H0 H l (f::fs):=
  ⟨L.at_,L.nd,L.own,L.fr,fun g hg=>(List.mem_cons.mp hg).elim (fun e=>e▸h) (L.st g)⟩
theorem Led.start (H:Hp) (P:Addr→Prop):Led P H H [] []:=⟨fun _ h=>by simp at h,List.nodup_nil,fun _ h=>by simp at h,fun _ _ h _=>h,fun _ h=>by simp at h⟩
theorem Led.same (L:Led (fun _=>False) H0 H l fs):aI H0 H:=fun q o h=>L.fr q o h id
theorem Led.keep (L:Led P H0 H l fs) (s:aI H H'):Led P H0 H' l fs:=
  ⟨fun x hx=>let ⟨o,e,h⟩:=L.at_ x hx;⟨o,s _ _ e,x.2.mono (cu s) h⟩,L.nd,L.own,fun q o h n=>s _ _ (L.fr q o h n),fun f hf=>f.mono (cu s) (L.st f hf)⟩
theorem Led.fresh (L:Led P H0 H l fs) (h:H p=none):(∀ x∈l,x.1≠p)∧(P p∨H0 p=none):=by
  refine ⟨fun x hx e=>?_,?_⟩
  · obtain ⟨o,q,_⟩:=L.at_ x hx
    rw [e,h] at q;cases q
  · by_cases hp:P p
    · exact .inl hp
    · cases q:H0 p with
      | none=>exact .inr rfl
      | some o=>rw [L.fr p o q hp] at h;cases h
theorem cI (h:H p=none):aI H (upd H p o):=fun b u q=>by rw [aF (aG q h)];exact q
theorem Led.Kz (L:Led P H0 H l fs) {xs:List V} (h:H p=none):Led P H0 (upd H p (.tup xs)) l (aS p xs::fs):=(L.keep (cI h)).more _ aE
theorem Led.Ez (L:Led P H0 H l fs) (h:H p=none) (ho:a.p (upd H p o) o):Led P H0 (upd H p o) ((p,a)::l) fs:=by
  have K:=L.keep (cI (o:=o) h)
  obtain ⟨f1,f2⟩:=L.fresh h
  refine ⟨fun x hx=>?_,?_,fun x hx=>?_,K.fr,K.st⟩
  · rcases List.mem_cons.mp hx with rfl | hx
    · exact ⟨o,aE,ho⟩
    · exact K.at_ x hx
  · rw [List.map_cons,List.nodup_cons]
    refine ⟨fun z=>?_,L.nd⟩
    obtain ⟨x,hx,e⟩:=List.mem_map.mp z
    exact f1 x hx e
  · rcases List.mem_cons.mp hx with rfl | hx
    · exact f2
    · exact L.own x hx
structure Chg (p:Addr) (H H':Hp):Prop where
  oth:∀ q o,H q=some o→q≠p→H' q=some o
  ts:cF H H'
theorem Chg.upd {u:HO} (h:H p=some u) (n:∀ xs,u≠.tup xs):Chg p H (upd H p o):=⟨fun q o e z=>by rw [aF z];exact e,ua h n⟩
theorem Chg.trans {H1:Hp} (x:Chg p H H1) (y:Chg p H1 H'):Chg p H H':=⟨fun q o e n=>y.oth q o (x.oth q o e n) n,x.ts.trans y.ts⟩
theorem Chg.same {H1:Hp} (x:Chg p H H1) (y:aI H1 H'):Chg p H H':=⟨fun q o e n=>y _ _ (x.oth q o e n),x.ts.trans (cu y)⟩
theorem Led.set (L:Led P H0 H l fs) (m:Put p a b l l') (c:Chg p H H') (ho:∃ o,H' p=some o∧b.p H' o):Led P H0 H' l' fs:=by
  have own:=L.own _ m.mem
  refine ⟨fun x hx=>?_,by rw [m.keys];exact L.nd,fun x hx=>?_,fun q o h n=>?_,fun f hf=>f.mono c.ts (L.st f hf)⟩
  · rcases m.or' L.nd x hx with rfl | ⟨hx,n⟩
    · exact ho
    · obtain ⟨u,e,h⟩:=L.at_ x hx
      exact ⟨u,c.oth _ _ e n,x.2.mono c.ts h⟩
  · rcases m.or x hx with rfl | hx
    · exact own
    · exact L.own x hx
  · have:q≠p:=fun z=>by
      subst z
      rcases own with h1 | h1
      · exact n h1
      · rw [h] at h1;cases h1
    exact c.oth _ _ (L.fr q o h n) this
theorem Led.add (L:Led P H0 H l fs) (s:aI H H') (n:H p=none) (ho:∃ o,H' p=some o∧a.p H' o):Led P H0 H' ((p,a)::l) fs:=by
  have K:=L.keep s
  obtain ⟨f1,f2⟩:=L.fresh n
  refine ⟨fun x hx=>?_,?_,fun x hx=>?_,K.fr,K.st⟩
  · rcases List.mem_cons.mp hx with rfl | hx
    · exact ho
    · exact K.at_ x hx
  · rw [List.map_cons,List.nodup_cons]
    refine ⟨fun z=>?_,L.nd⟩
    obtain ⟨x,hx,e⟩:=List.mem_map.mp z
    exact f1 x hx e
  · rcases List.mem_cons.mp hx with rfl | hx
    · exact f2
    · exact L.own x hx
theorem Led.chg (L:Led (·=p) H0 H l fs) (n:∀ xs,H0 p≠some (.tup xs)):Chg p H0 H:=⟨L.fr,fun q xs h=>L.fr q _ h fun z=>n xs (z▸h)⟩
end
abbrev St:=L2.St
def Gf:R2:=fun x y H Q=>∃ z n,x = .str z∧y = .int n∧z.length≤1000∧-1000≤n∧n≤10000∧Q (.str (Txt.mul z n)) H
abbrev RL:=List V→Hp→VK→Prop
def Kf:RL:=fun xs H Q=>∃ i j,xs=[.int i,.int j]∧Q (.int (if j > i then j else i)) H
def Ke:RL:=fun xs H Q=>∃ i j,xs=[.int i,.int j]∧Q (.int (if j < i then j else i)) H
def Kg (K:PySem.W.Frag):RL:=fun xs H Q=>∃ p ys,xs=[.ref p]∧(SqL K H p ys∨SqT K H p ys)∧Q (.int ys.length) H
def wM (K:PySem.W.Frag):RL:=fun xs H Q=>∃ p ys,xs=[.ref p]∧(SqL K H p ys∨SqT K H p ys)∧∀ l,H l=none→Q (.ref l) (upd H l (.lst ys))
def AS (K:PySem.W.Frag):RL:=fun xs H Q=>∃ p ys,xs=[.ref p]∧((SqL K H p ys∧∀ l,H l=none→Q (.ref l) (upd H l (.tup ys)))∨(SqT K H p ys∧Q (.ref p) H))
def rJoin (K:PySem.W.Frag):V→List V→Hp→VK→Prop:=fun x xs H Q=>∃ z p ys,x = .str z∧xs=[.ref p]∧SqL K H p (ys.map V.str)∧(ys.map (·.length)).sum+ys.length * z.length≤16777216∧Q (.str (Txt.join z ys)) H
section
variable {X:Cx}
theorem Hj:OpR X (binaryOp .Mult) Gf:=ym
theorem j8 (hc:X.calm=true):cH X (.builtin "max") Kf:=zh hc
theorem xG (hc:X.calm=true):cH X (.builtin "min") Ke:=zg hc
theorem gp:cH X (.builtin "len") (Kg X.K):=p8
theorem gJ:cH X (.type "list") (wM X.K):=p7
theorem Ft:cH X (.type "tuple") (AS X.K):=m7
theorem Ht:MtR X "str.join" (rJoin X.K):=rZ
end
def Ls (xs:List V) (H:Hp) (Q:VK):Prop:=xs.length≤sizeLine∧∀ p,H p=none→Q (.ref p) (upd H p (.tup xs))
def Lu (xs:List V) (H:Hp) (Q:VK):Prop:=xs.length≤sizeLine∧∀ p,H p=none→Q (.ref p) (upd H p (.lst xs))
def IsB (x:V) (H:Hp) (Q:Bool→Hp→Prop):Prop:=∃ k,x = .bl k∧Q k H
def Fld (K:PySem.W.Frag) (f:Str) (x:V) (H:Hp) (Q:VK):Prop:=∃ a C dx fs v,x = .ref a∧H a=some (.ins C dx fs)∧Cls K C∧aY K C f∧fs.lookup f=some v∧Q v H
section
variable {K:PySem.W.Frag} {σ : St} {H:Hp} {Q:VK} {D:Ends} {t u:TS} {ta tb te:TE} {tt tt':TT} {tl:TA} {v x y:V} {i:Nat} {B:Bool→Hp→Prop}
-- statements
theorem g_seq (h:t { D with nx:=u D } σ H):GQ t u D σ H:=h
theorem Ir (h:D.nx σ H):F4 D σ H:=h
theorem Lg {g:TG} (h:te σ H fun x H1=>g x σ H1 D.nx):GS te g D σ H:=h
theorem IQ (h:te σ H fun _ H1=>D.nx σ H1):F7 te D σ H:=h
theorem KU (h:te σ H D.rt):JO te D σ H:=h
theorem Mm (h:tt σ H fun b H1=>if b=true then t D σ H1 else u D σ H1):JS tt t u D σ H:=h
-- expressions
theorem KP (e : σ[i]?=some (some v)) (h:Q v H):GO i σ H Q:=⟨v,e,h⟩
theorem g_c (h:Q v H):tC v σ H Q:=h
theorem Ml {r:R2} (h:ta σ H fun x H1=>tb σ H1 fun y H2=>r x y H2 Q):tOp r ta tb σ H Q:=h
theorem Mg {r:V→Hp→VK→Prop} (h:ta σ H fun x H1=>r x H1 Q):tUn r ta σ H Q:=h
theorem K7 (h:tt σ H fun c H1=>if c=true then ta σ H1 Q else tb σ H1 Q):tIf tt ta tb σ H Q:=h
theorem IV (h:ta σ H fun x H1=>IsB x H1 fun c H1=>if c=true then tb σ H1 Q else Q (.bl false) H1):F9 ta tb σ H Q:=h
theorem Ip (h:ta σ H fun x H1=>IsB x H1 fun c H1=>Q (.bl (!c)) H1):F2 ta σ H Q:=h
theorem K5 (h:ta σ H fun x H1=>Q (.bl (decide (x = .non))) H1):JR ta σ H Q:=h
theorem Iq (h:ta σ H fun x H1=>Q (.bl (!decide (x = .non))) H1):F3 ta σ H Q:=h
theorem KR (h:tl σ H fun xs H1=>Ls xs H1 Q):Dc tl σ H Q:=h
theorem K3 (h:tl σ H fun xs H1=>Lu xs H1 Q):JQ tl σ H Q:=h
theorem KZ {W:List V→Hp→Prop} (h:W [] H):oK σ H W:=h
theorem IS {W:List V→Hp→Prop} (h:te σ H fun x H1=>tl σ H1 fun xs H2=>W (x::xs) H2):nk te tl σ H W:=h
theorem Mn {r:List V→Hp→VK→Prop} (h:tl σ H fun vs H1=>r vs H1 Q):tCB r tl σ H Q:=h
theorem IU {sp:Sp} {E:XK} (h:tl σ H fun vs H1=>sp vs H1 Q E):zW sp [] E tl σ H Q:=by
  have e:(fun (vs:List V) H1=>sp (vs++[]) H1 Q E)=fun vs H1=>sp vs H1 Q E:=by funext vs H1;rw [Nk]
  show tl σ H (fun vs H1=>sp (vs++[]) H1 Q E)
  rw [e];exact h
def Made (C:Addr) (sp:Sp) (E:XK) (vs:List V) (H:Hp) (Q:VK):Prop:=∀ x dx,H x=none→H dx=none→dx≠x→sp (.ref x::vs) (upd (upd H dx (.own x)) x (.ins C dx [])) (fun v H2=>v = .non∧Q (.ref x) H2) E
theorem IF {C:Addr} {sp:Sp} {E:XK} (h:tl σ H fun vs H1=>Made C sp E vs H1 Q):kQ C sp [] E tl σ H Q:=by
  have e:(fun (vs:List V) H1=>∀ x dx,H1 x=none→H1 dx=none→dx≠x→sp (.ref x::(vs++[])) (upd (upd H1 dx (.own x)) x (.ins C dx [])) (fun v H2=>v = .non∧Q (.ref x) H2) E)=fun vs H1=>Made C sp E vs H1 Q:=by
    funext vs H1;rw [Nk];rfl
  show tl σ H (fun vs H1=>∀ x dx,H1 x=none→H1 dx=none→dx≠x→sp (.ref x::(vs++[])) (upd (upd H1 dx (.own x)) x (.ins C dx [])) (fun v H2=>v = .non∧Q (.ref x) H2) E)
  rw [e];exact h
def Mw (K:PySem.W.Frag) (f:Str) (y x:V) (H:Hp) (R:Hp→Prop):Prop:=∃ a C dx fs,x = .ref a∧H a=some (.ins C dx fs)∧Cls K C∧aY K C f∧fs.length < 1000∧R (upd H a (.ins C dx (bO f y fs)))
theorem Ij {f:Str} (h:tb σ H fun y H1=>ta σ H1 fun x H2=>Mw K f y x H2 fun H3=>D.nx σ H3):Ka K ta tb f D σ H:=h
theorem Lb {f:Str} (h:ta σ H fun x H1=>Fld K f x H1 Q):JU K ta f σ H Q:=h
theorem Mp {T:String} {r:V→List V→Hp→VK→Prop} (h:ta σ H fun x H1=>tyV K T x H1∧tl σ H1 fun xs H2=>r x xs H2 Q):tBM K T r ta tl σ H Q:=h
theorem Lf {T:String} {r:V→List V→Hp→VK→Prop} (h:ta σ H fun x H1=>tyV K T x H1∧r x [] H1 Q):JV K T r ta σ H Q:=h
theorem Mh {r:V→Option Int→Option Int→Hp→VK→Prop} {a b:TO} (h:te σ H fun x H1=>a σ H1 fun l H2=>b σ H2 fun u H3=>r x l u H3 Q):tSl r te a b σ H Q:=h
theorem BX {W:Option Int→Hp→Prop} (h:W none H):wm σ H W:=h
def Prt (x:V) (H:Hp) (W:Option Int→Hp→Prop):Prop:=∃ i,x = .int i∧W (some i) H
theorem Io {W:Option Int→Hp→Prop} (h:te σ H fun x H1=>Prt x H1 W):F1 te σ H W:=h
-- tests
theorem g_b (h:te σ H fun x H1=>IsB x H1 B):tB te σ H B:=h
theorem Ih (h:te σ H fun x H1=>IsB x H1 B):F0 te σ H B:=h
theorem Lh (h:tt σ H fun c H1=>if c=true then tt' σ H1 B else B false H1):JW tt tt' σ H B:=h
theorem Mj (h:tt σ H fun c H1=>if c=true then B true H1 else tt' σ H1 B):tOr tt tt' σ H B:=h
theorem KY (h:tt σ H fun c H1=>B (!c) H1):JP tt σ H B:=h
theorem K6 {k:Bool} (h:B k H):IsB (.bl k) H B:=⟨k,rfl,h⟩
-- values
theorem KW {g:Int→Int→V} {i j:Int} (h:Q (g i j) H):rI0 g (.int i) (.int j) H Q:=⟨i,j,rfl,rfl,h⟩
theorem Im {C:Int→Int→Prop} {g:Int→Int→V} {i j:Int} (c:C i j) (h:Q (g i j) H):rI C g (.int i) (.int j) H Q:=⟨i,j,rfl,rfl,c,h⟩
theorem Mi {g:Int→V} {i:Int} (h:Q (g i) H):rU g (.int i) H Q:=⟨i,rfl,h⟩
theorem Le {i j:Int} (h:Q (.bl (decide (i=j))) H):rEq (.int i) (.int j) H Q:=⟨rfl,by
  have e:decide (V.int i=V.int j)=decide (i=j):=by
    by_cases z:i=j
    · subst z;simp
    · rw [Nn z,Nn fun w=>z (V.int.inj w)]
  rw [e];exact h⟩
theorem Lc {i j:Str} (h:Q (.bl (decide (i=j))) H):rEq (.str i) (.str j) H Q:=⟨rfl,by
  have e:decide (V.str i=V.str j)=decide (i=j):=by
    by_cases z:i=j
    · subst z;simp
    · rw [Nn z,Nn fun w=>z (V.str.inj w)]
  rw [e];exact h⟩
theorem K0 {i j:Int} (h:Q (.bl (!decide (i=j))) H):rNe (.int i) (.int j) H Q:=⟨rfl,by
  have e:decide (V.int i=V.int j)=decide (i=j):=by
    by_cases z:i=j
    · subst z;simp
    · rw [Nn z,Nn fun w=>z (V.int.inj w)]
  rw [e];exact h⟩
-- branches
theorem B3 {A B:Prop} (h:A):if true=true then A else B:=by rw [if_pos rfl];exact h
theorem B7 {A B:Prop} (h:B):if false=true then A else B:=by rw [if_neg M8];exact h
theorem bF {p A B:Prop} [Decidable p] (h1:p→A) (h2:¬ p→B):if decide p=true then A else B:=by
  by_cases h:p
  · rw [if_pos (Np h)];exact h1 h
  · rw [if_neg (by rw [Nn h];exact M8)];exact h2 h
theorem lM {p A B:Prop} [Decidable p] (h:p) (a:A):if decide p=true then A else B:=by rw [if_pos (Np h)];exact a
theorem dD {p A B:Prop} [Decidable p] (h:¬ p) (b:B):if decide p=true then A else B:=by rw [if_neg (by rw [Nn h];exact M8)];exact b
theorem GC {p A B:Prop} [Decidable p] (h1:p→B) (h2:¬ p→A):if (!decide p)=true then A else B:=by
  by_cases h:p
  · rw [if_neg (by rw [Np h];exact M8)];exact h1 h
  · rw [if_pos (by rw [Nn h];rfl)];exact h2 h
theorem B4 {p A B:Prop} [Decidable p] (h:¬ p) (a:A):if (!decide p)=true then A else B:=by rw [if_pos (by rw [Nn h];rfl)];exact a
theorem B5 {p A B:Prop} [Decidable p] (h:p) (b:B):if (!decide p)=true then A else B:=by rw [if_neg (by rw [Np h];exact M8)];exact b
theorem K8 {b:Bool} {A B:Prop} (h1:b=true→A) (h2:b=false→B):if b=true then A else B:=by
  cases b with
  | true=>rw [if_pos rfl];exact h1 rfl
  | false=>rw [if_neg M8];exact h2 rfl
theorem B6 {b:Bool} {A B:Prop} (h1:b=true→B) (h2:b=false→A):if (!b)=true then A else B:=by
  cases b with
  | true=>exact B7 (h1 rfl)
  | false=>exact B3 (h2 rfl)
theorem E7 {A B:Prop} (h:B):if (!true)=true then A else B:=B7 h
theorem E8 {A B:Prop} (h:A):if (!false)=true then A else B:=B3 h
-- sizes of things,text
theorem E4 {W:Option Int→Hp→Prop} {j:Int} (h:W (some j) H):Prt (.int j) H W:=⟨j,rfl,h⟩
end
theorem lk_hit {f:Str} {v:V} {r:List (Str×V)}:List.lookup f ((f,v)::r)=some v:=by simp
theorem lk_miss {f g:Str} {v:V} {r:List (Str×V)} (h:(f == g)=false):List.lookup f ((g,v)::r)=List.lookup f r:=by simp only [List.lookup_cons,h]
section
variable {K:PySem.W.Frag} {P:Addr→Prop} {H0 H H':Hp} {l l':List (Addr×Ob)} {fs:List Pr} {p:Addr} {a b:Ob} {o:HO} {Q:VK} {xs:List V} {v:V} {i:Int}
-- what the ledger knows
theorem Iu (L:Led P H0 H l fs) (hz:xs.length≤sizeLine) (h:∀ p H',H p=none→Led P H0 H' l (aS p xs::fs)→aI H H'→Q (.ref p) H'):Ls xs H Q:=
  ⟨hz,fun p hp=>h p _ hp (L.Kz hp) (cI hp)⟩
theorem Iv (L:Led P H0 H l fs) (hz:xs.length≤sizeLine) (h:∀ p H',H p=none→Led P H0 H' ((p,Eo (.lst xs))::l) fs→aI H H'→Q (.ref p) H'):Lu xs H Q:=
  ⟨hz,fun p hp=>h p _ hp (L.Ez hp rfl) (cI hp)⟩
theorem n9 (L:Led P H0 H l fs) (m:Put p (Eo (.lst xs)) (Eo (.lst xs)) l l') (e:atI xs i=some v) (h:Q v H):DQ K (.ref p) (.int i) H Q:=⟨p,xs,i,v,rfl,rfl,SqL.of (L.eo m),e,h⟩
theorem K4 (L:Led P H0 H l fs) (m:aS p xs∈fs) (e:atI xs i=some v) (h:Q v H):DP K (.ref p) (.int i) H Q:=⟨p,xs,i,v,rfl,rfl,SqT.of (L.tup m),e,h⟩
theorem fq (hs:SqL K H p xs) (e:atI xs i=some v) (h:Q v H):DQ K (.ref p) (.int i) H Q:=⟨p,xs,i,v,rfl,rfl,hs,e,h⟩
theorem Gz {R:Hp→Prop} {j:Nat} (L:Led P H0 H l fs) (m:Put p (Eo (.lst xs)) (Eo (.lst (xs.set j v))) l l') (e:ixN xs.length i=some j) (h:∀ H',Led P H0 H' l' fs→Chg p H H'→R H'):Ge (.ref p) (.int i) v H R:=by
  obtain ⟨o,ho,hp⟩:=L.at_ _ m.mem
  have hp':o = .lst xs:=hp
  subst hp'
  have c:Chg p H (upd H p (.lst (xs.set j v))):=Chg.upd ho fun _ z=>by cases z
  exact ⟨p,xs,i,j,rfl,rfl,ho,e,h _ (L.set m c ⟨_,aE,rfl⟩) c⟩
theorem sI (L:Led P H0 H l fs) (m:Put p (Eo (.lst xs)) (Eo (.lst (xs++[v]))) l l') (hz:xs.length < sizeLine) (h:∀ H',Led P H0 H' l' fs→Chg p H H'→Q .non H'):wN (.ref p) [v] H Q:=by
  obtain ⟨o,ho,hp⟩:=L.at_ _ m.mem
  have hp':o = .lst xs:=hp
  subst hp'
  have c:Chg p H (upd H p (.lst (xs++[v]))):=Chg.upd ho fun _ z=>by cases z
  exact ⟨p,xs,v,rfl,rfl,ho,hz,h _ (L.set m c ⟨_,aE,rfl⟩) c⟩
theorem Gx {R:Prop} (hs:SqL K H p xs) (h:R):tyV K "list" (.ref p) H∧R:=⟨.inl ⟨rfl,_,hs⟩,h⟩
theorem KQ {R:Prop} {z:Str} (h:R):tyV K "str" (.str z) H∧R:=⟨rfl,h⟩
theorem IL {n:Nat} {t:TGs} {σ : St} {R:St→Hp→Prop} (L:Led P H0 H l fs) (m:aS p xs∈fs) (e:xs.length=n) (h:t xs σ H R):Cb K n t (.ref p) σ H R:=⟨p,xs,rfl,SqT.of (L.tup m),e,h⟩
theorem E9 {t:TG} {u:TGs} {σ : St} {R:St→Hp→Prop} (h:t v σ H fun σ' H'=>u xs σ' H' R):jr t u (v::xs) σ H R:=⟨v,xs,rfl,h⟩
theorem IP {σ : St} {R:St→Hp→Prop} (h:R σ H):Cc [] σ H R:=⟨rfl,h⟩
theorem IM {to ti:TE} {t:FO} {σ : St} {R:St→Hp→Prop} (h:to σ H fun o H1=>ti σ H1 fun i H2=>t o i v H2 fun H3=>R σ H3):Li to ti t v σ H R:=h
end
def JI (J:It) (g:TG) (tb:TS) (D:Ends) (σ : St) (H:Hp):Prop:=∃ W:Nat→Nat→St→Hp→Prop,(∃ m,W 0 m σ H)∧∀ i m σ H,W i m σ H →
  (J.stop i H∧D.nx σ H)∨(J.go i H∧∃ N:St→Hp→Prop,(∀ σ' H',N σ' H'→∃ m',m' < m∧W (i+1) m' σ' H')∧∀ x H',J.yld i H x H'→g x σ H' fun σ2 H2=>tb { D with nx:=N,ct:=N,bk:=D.nx } σ2 H2)
def Lp (vs:List V) (H:Hp) (R:It→Hp→Prop):Prop:=∃ j:Int,vs=[.int j]∧-(2 ^ 62)≤j∧j < 2 ^ 62∧R (Itr 0 j.toNat) H
def Lo (vs:List V) (H:Hp) (R:It→Hp→Prop):Prop:=∃ i j:Int,vs=[.int i,.int j]∧(-(2 ^ 62)≤i∧i < 2 ^ 62∧-(2 ^ 62)≤j∧j < 2 ^ 62)∧R (Itr i (j - i).toNat) H
def WkL (K:PySem.W.Frag) (x:V) (H:Hp) (R:It→Hp→Prop):Prop:=∃ a,x = .ref a∧(∃ xs,SqL K H a xs)∧R (Itl K a) H
def C2 (J:It) (Q:VK) (σb:St) (g:TG) (tc:TT) (te:TE) (H:Hp):Prop:=∃ W:Nat→Nat→List V→Hp→Prop,(∃ m,W 0 m [] H)∧tY J W (fun ys H=>∀ p,H p=none→Q (.ref p) (upd H p (.lst ys))) σb g tc te
section
variable {K:PySem.W.Frag} {σ : St} {H:Hp} {Q:VK} {D:Ends} {wi:TI} {g:TG} {tb:TS} {ta:TE} {tl:TA} {R:It→Hp→Prop} {tc:TT} {te:TE}
theorem K9 (h:wi σ H fun J H1=>JI J g tb D σ H1):JT wi g tb D σ H:=h
theorem Il (h:tl σ H fun vs H1=>Lp vs H1 R):Gs tl σ H R:=h
theorem Ik (h:tl σ H fun vs H1=>Lo vs H1 R):Gq tl σ H R:=h
theorem KO (h:ta σ H fun x H1=>WkL K x H1 R):Gu K ta σ H R:=h
theorem E2 {j:Int} (b : -(2 ^ 62)≤j∧j < 2 ^ 62) (h:R (Itr 0 j.toNat) H):Lp [.int j] H R:=⟨j,rfl,b.1,b.2,h⟩
theorem E1 {i j:Int} (b:(-(2 ^ 62)≤i∧i < 2 ^ 62)∧-(2 ^ 62)≤j∧j < 2 ^ 62) (h:R (Itr i (j - i).toNat) H):Lo [.int i,.int j] H R:=⟨i,j,rfl,⟨b.1.1,b.1.2,b.2.1,b.2.2⟩,h⟩
theorem cB {a:Addr} {xs:List V} (s:SqL K H a xs) (h:R (Itl K a) H):WkL K (.ref a) H R:=⟨a,rfl,⟨xs,s⟩,h⟩
theorem B8 {lo:Int} {n:Nat} (Pv:Nat→St→Hp→Prop) (h0:Pv 0 σ H) (hs:∀ i σ H,i < n→Pv i σ H→g (.int (lo+i)) σ H fun σ2 H2=>tb { D with nx:=Pv (i+1),ct:=Pv (i+1),bk:=D.nx } σ2 H2)
    (hd:∀ σ H,Pv n σ H→D.nx σ H):JI (Itr lo n) g tb D σ H:=y9 Pv h0 hs hd
theorem iP {a:Addr} (xs:List V) (Pv:Nat→St→Hp→Prop) (h0:Pv 0 σ H) (hl:∀ i σ H,i≤xs.length→Pv i σ H→SqL K H a xs) (hs:∀ i x σ H,xs[i]?=some x→Pv i σ H→g x σ H fun σ2 H2=>tb { D with nx:=Pv (i+1),ct:=Pv (i+1),bk:=D.nx } σ2 H2)
    (hd:∀ σ H,Pv xs.length σ H→D.nx σ H):JI (Itl K a) g tb D σ H:=Cd (xs:=xs) Pv h0 hl hs hd
theorem IT {own:Nat} {cap:List Nat} (h:wi σ H fun J H1=>C2 J Q (vM own cap σ) g tc te H1):wz wi own cap g tc te σ H Q:=h
theorem Fe {i own:Nat} {cap:List Nat} (h:wz wi own cap g tc te σ H fun v H1=>D.nx (σ.set i (some v)) H1):zT i wi own cap g tc te D σ H:=h
theorem dR {a:Addr} (xs:List V) {σb:St} (Pv:Nat→List V→Hp→Prop) (h0:Pv 0 [] H) (hl:∀ i ys H,i≤xs.length→Pv i ys H→SqL K H a xs∧ys.length≤sizeLine)
    (hs:∀ i x ys H,xs[i]?=some x→Pv i ys H→g x σb H fun σ2 H2=>tc σ2 H2 fun b H3=>if b=true then te σ2 H3 fun y H4=>Pv (i+1) (ys++[y]) H4 else Pv (i+1) ys H3) (hd:∀ ys H,Pv xs.length ys H→∀ p,H p=none→Q (.ref p) (upd H p (.lst ys))) :
    C2 (Itl K a) Q σb g tc te H:=zf (xs:=xs) Pv h0 hl hs hd
theorem Ff {lo:Int} {n:Nat} {σb:St} (Pv:Nat→List V→Hp→Prop) (h0:Pv 0 [] H) (hl:∀ i ys H,i≤n→Pv i ys H→ys.length≤sizeLine)
    (hs:∀ i ys H,i < n→Pv i ys H→g (.int (lo+i)) σb H fun σ2 H2=>tc σ2 H2 fun b H3=>if b=true then te σ2 H3 fun y H4=>Pv (i+1) (ys++[y]) H4 else Pv (i+1) ys H3) (hd:∀ ys H,Pv n ys H→∀ p,H p=none→Q (.ref p) (upd H p (.lst ys))) :
    C2 (Itr lo n) Q σb g tc te H:=vF Pv h0 hl hs hd
theorem Ii {B:Bool→Hp→Prop} (h:B true H):JX σ H B:=h
-- builtins
theorem K2 {a b:Int} (h:Q (.int (max a b)) H):Kf [V.int a,V.int b] H Q:=⟨a,b,rfl,by
  have e:(if b > a then b else a)=max a b:=by omega
  rw [e];exact h⟩
theorem K1 {a b:Int} (h:Q (.int (min a b)) H):Ke [V.int a,V.int b] H Q:=⟨a,b,rfl,by
  have e:(if b < a then b else a)=min a b:=by omega
  rw [e];exact h⟩
theorem dQ {a:Addr} {ys:List V} (s:SqL K H a ys) (h:Q (.int ys.length) H):Kg K [V.ref a] H Q:=⟨a,ys,rfl,.inl s,h⟩
theorem Led.seq {P:Addr→Prop} {H0:Hp} {l:List (Addr×Ob)} {fs:List Pr} {a:Addr} {xs:List V} (L:Led P H0 H l fs) (s:SqL K H0 a xs) (n:¬ P a):SqL K H a xs:=by
  rcases s with (s | ⟨o,s⟩) | s
  · exact .inl (.inl (L.fr _ _ s n))
  · exact .inl (.inr ⟨o,L.fr _ _ s n⟩)
  · exact .inr s
theorem Iz {z:Str} {n:Int} (b:z.length≤1000∧-1000≤n∧n≤10000) (h:Q (.str (Txt.mul z n)) H):Gf (V.str z) (V.int n) H Q:=⟨z,n,rfl,rfl,b.1,b.2.1,b.2.2,h⟩
theorem IG {z:Str} {p:Addr} {ys:List Str} (s:SqL K H p (ys.map V.str)) (b:(ys.map (·.length)).sum+ys.length * z.length≤16777216) (h:Q (.str (Txt.join z ys)) H):rJoin K (.str z) [.ref p] H Q:=⟨z,p,ys,rfl,rfl,s,b,h⟩
theorem GB {z:Str} {i:Int} {c:Nat} (hz:z.length≤sizeLine) (e:atI z.cps.toList i=some c) (h:Q (.str ⟨#[c]⟩) H):Kh (.str z) (.int i) H Q:=⟨z,i,c,rfl,rfl,hz,e,h⟩
end
inductive Dt where
  | non | bl (b:Bool) | int (i:Int) | str (x:Str) | tup (ds:List Dt) | lst (ds:List Dt)
mutual
def eqD:Dt→Dt→Bool
  | .non,.non=>true
  | .bl a,.bl b=>a == b
  | .bl a,.int b=>(if a then 1 else 0) == b
  | .int a,.bl b=>a == (if b then 1 else 0)
  | .int a,.int b=>a == b
  | .str a,.str b=>a == b
  | .tup a,.tup b=>ku a b
  | .lst a,.lst b=>ku a b
  | _,_=>false
def ku:List Dt→List Dt→Bool
  | [],[]=>true
  | x::xs,y::ys=>eqD x y && ku xs ys
  | _,_=>false
end
mutual
def dep:Dt→Nat
  | .tup ds=>deps ds+1
  | .lst ds=>deps ds+1
  | _=>0
def deps:List Dt→Nat
  | []=>0
  | d::ds=>max (dep d) (deps ds)
end
theorem jw:∀ {ds:List Dt} {d:Dt},d∈ds→dep d≤deps ds
  | [],_,h=>by simp at h
  | x::ds,d,h=>by
    rw [deps]
    rcases List.mem_cons.mp h with rfl | h
    · exact Nat.le_max_left _ _
    · exact Nq (jw h) (Nat.le_max_right _ _)
mutual
theorem jv:∀ d:Dt,eqD d d=true
  | .non=>by rw [eqD]
  | .bl b=>by rw [eqD];exact beq_self_eq_true b
  | .int i=>by rw [eqD];exact beq_self_eq_true i
  | .str x=>by rw [eqD];exact beq_self_eq_true x
  | .tup ds=>by rw [eqD];exact jK ds
  | .lst ds=>by rw [eqD];exact jK ds
theorem jK:∀ ds:List Dt,ku ds ds=true
  | []=>by rw [ku]
  | d::ds=>by rw [ku,jv d,jK ds];rfl
end
theorem fM:∀ (ds es:List Dt),((List.range (min ds.length es.length)).all (fun j=>eqD (ds.getD j .non) (es.getD j .non)) && ds.length == es.length)=ku ds es
  | [],[]=>by rw [ku];rfl
  | [],_::_=>by simp [ku]
  | _::_,[]=>by simp [ku]
  | d::ds,e::es=>by
    have ih:=fM ds es
    rw [ku,← ih]
    have h1:min (d::ds).length (e::es).length=min ds.length es.length+1:=by simp only [Nd];omega
    rw [h1,List.range_succ_eq_map,List.all_cons,List.all_map]
    have h2:((d::ds).length == (e::es).length)=(ds.length == es.length):=by
      rw [Bool.eq_iff_iff];simp
    rw [h2,Bool.and_assoc]
    rfl
theorem oh:∀ {ds es:List Dt},ds.length≠es.length→ku ds es=false:=fun {ds es} h=>by
  rw [← fM,show (ds.length == es.length)=false from by simpa using h,Bool.and_false]
mutual
inductive At (K:PySem.W.Frag) (H:Hp):V→Dt→Prop
  | non:At K H .non .non
  | bl (b:Bool):At K H (.bl b) (.bl b)
  | int (i:Int):At K H (.int i) (.int i)
  | str (x:Str):At K H (.str x) (.str x)
  | tup {a:Addr} {xs:List V} {ds:List Dt} (h:SqT K H a xs) (r:Ats K H xs ds):At K H (.ref a) (.tup ds)
  | lst {a:Addr} {xs:List V} {ds:List Dt} (h:SqL K H a xs) (r:Ats K H xs ds):At K H (.ref a) (.lst ds)
inductive Ats (K:PySem.W.Frag) (H:Hp):List V→List Dt→Prop
  | nil:Ats K H [] []
  | cons {x:V} {d:Dt} {xs:List V} {ds:List Dt} (h:At K H x d) (r:Ats K H xs ds):Ats K H (x::xs) (d::ds)
end
theorem Ats.len {K:PySem.W.Frag} {H:Hp}:∀ {xs:List V} {ds:List Dt},Ats K H xs ds→xs.length=ds.length
  | _,_,.nil=>rfl
  | _,_,.cons _ r=>by rw [Nd,Nd,r.len]
theorem Ats.get {K:PySem.W.Frag} {H:Hp}:∀ {xs:List V} {ds:List Dt} {j:Nat} {x:V},Ats K H xs ds→xs[j]?=some x→∃ d,ds[j]?=some d∧At K H x d
  | _,_,_,_,.nil,e=>by simp at e
  | _,_,0,_,.cons h _,e=>by simp at e;subst e;exact ⟨_,rfl,h⟩
  | _,_,j+1,x,.cons _ r,e=>by
    obtain ⟨d,h1,h2⟩:=Ats.get (j:=j) (x:=x) r (by simpa using e)
    exact ⟨d,by simpa using h1,h2⟩
section
variable {X:Cx} {pins:List (Addr×Obj)} {σ : St} {H:Hp} {s:Shared}
mutual
theorem At.inj (I:Inv X pins σ H s) {x:V}:∀ {d e:Dt},At X.K H x d→At X.K H x e→d=e
  | _,_,.non,h=>by cases h;rfl
  | _,_,.bl _,h=>by cases h;rfl
  | _,_,.int _,h=>by cases h;rfl
  | _,_,.str _,h=>by cases h;rfl
  | _,_,.tup h r,g=>by
    cases g with
    | tup h' r'=>
      have e:=I.nj h h'
      subst e
      rw [Ats.inj I r r']
    | lst h' r'=>
      obtain ⟨_,_,⟨o,e,c,_⟩,_⟩:=I.tuple h
      obtain ⟨_,_,⟨o',n',e',c',_⟩,_⟩:=I.list h'
      rw [e] at e';cases e'
      rw [c] at c';injection c' with z;exact absurd z (by decide)
  | _,_,.lst h r,g=>by
    cases g with
    | lst h' r'=>
      have e:=I.lF h h'
      subst e
      rw [Ats.inj I r r']
    | tup h' r'=>
      obtain ⟨_,_,⟨o,e,c,_⟩,_⟩:=I.tuple h'
      obtain ⟨_,_,⟨o',n',e',c',_⟩,_⟩:=I.list h
      rw [e] at e';cases e'
      rw [c] at c';injection c' with z;exact absurd z (by decide)
theorem Ats.inj (I:Inv X pins σ H s) {xs:List V}:∀ {ds es:List Dt},Ats X.K H xs ds→Ats X.K H xs es→ds=es
  | _,_,.nil,h=>by cases h;rfl
  | _,_,.cons h r,g=>by
    cases g with
    | cons h' r'=>rw [At.inj I h h',Ats.inj I r r']
end
end
theorem GX {A:Around} {s:Shared} {y x:V} {u v:Value} (ry:RelV y u) (rx:RelV x v) (fy:cP y=true) (fx:cP x=true):SeqAt.RcNeAt A s u v (!eqV y x):=by
  cases y with
  | non=>
    cases ry
    cases x with
    | non=>cases rx;exact SeqAt.RcNeAt.none_none
    | bl b=>cases rx;exact SeqAt.RcNeAt.none_bool b
    | int b=>obtain ⟨t,rfl⟩:=rx;exact SeqAt.RcNeAt.none_int b t
    | str b=>obtain ⟨t,rfl⟩:=rx;exact SeqAt.RcNeAt.none_str b t
    | _=>exact absurd (show false=true from fx) M8
  | bl a=>
    cases ry
    cases x with
    | non=>cases rx;exact SeqAt.RcNeAt.bool_none a
    | bl b=>cases rx;exact SeqAt.RcNeAt.bool_bool a b
    | int b=>obtain ⟨t,rfl⟩:=rx;exact SeqAt.RcNeAt.bool_int a b t
    | str b=>obtain ⟨t,rfl⟩:=rx;exact SeqAt.RcNeAt.bool_str a b t
    | _=>exact absurd (show false=true from fx) M8
  | int a=>
    obtain ⟨t',rfl⟩:=ry
    cases x with
    | non=>cases rx;exact SeqAt.RcNeAt.int_none a t'
    | bl b=>cases rx;exact SeqAt.RcNeAt.int_bool a t' b
    | int b=>obtain ⟨t,rfl⟩:=rx;exact SeqAt.RcNeAt.int_int a t' b t
    | str b=>obtain ⟨t,rfl⟩:=rx;exact SeqAt.RcNeAt.int_str a t' b t
    | _=>exact absurd (show false=true from fx) M8
  | str a=>
    obtain ⟨t',rfl⟩:=ry
    cases x with
    | non=>cases rx;exact SeqAt.RcNeAt.str_none a t'
    | bl b=>cases rx;exact SeqAt.RcNeAt.str_bool a t' b
    | int b=>obtain ⟨t,rfl⟩:=rx;exact SeqAt.RcNeAt.str_int a t' b t
    | str b=>obtain ⟨t,rfl⟩:=rx;exact SeqAt.RcNeAt.str_str a t' b t
    | _=>exact absurd (show false=true from fx) M8
  | _=>exact absurd (show false=true from fy) M8
theorem iA {A:Around} {s:Shared} {x:V} {u:Value} {a:Addr} {its:Array Value} (rx:RelV x u) (fx:cP x=true) (h:s.heap.IsTuple a its) (hu:A.units < cLine):SeqAt.EqAt A s u (.ref a) false:=by
  cases x with
  | non=>cases rx;exact SeqAt.EqAt.none_tuple h hu
  | bl b=>cases rx;exact SeqAt.EqAt.bool_tuple b h hu
  | int b=>obtain ⟨t,rfl⟩:=rx;exact SeqAt.EqAt.int_tuple b t h hu
  | str b=>obtain ⟨t,rfl⟩:=rx;exact SeqAt.EqAt.str_tuple b t h hu
  | _=>exact absurd (show false=true from fx) M8
theorem mZ {A:Around} {s:Shared} {x:V} {u:Value} {a:Addr} {its:Array Value} (rx:RelV x u) (fx:cP x=true) (h:s.heap.IsTuple a its) (hu:A.units < cLine):SeqAt.EqAt A s (.ref a) u false:=by
  cases x with
  | non=>cases rx;exact SeqAt.EqAt.tuple_none h hu
  | bl b=>cases rx;exact SeqAt.EqAt.tuple_bool b h hu
  | int b=>obtain ⟨t,rfl⟩:=rx;exact SeqAt.EqAt.tuple_int b t h hu
  | str b=>obtain ⟨t,rfl⟩:=rx;exact SeqAt.EqAt.tuple_str b t h hu
  | _=>exact absurd (show false=true from fx) M8
theorem ju {A:Around} {s:Shared} {x:V} {u:Value} {a:Addr} {its:Array Value} (rx:RelV x u) (fx:cP x=true) (h:s.heap.IsList a its) (hu:A.units < cLine):SeqAt.EqAt A s u (.ref a) false:=by
  cases x with
  | non=>cases rx;exact SeqAt.EqAt.none_list h hu
  | bl b=>cases rx;exact SeqAt.EqAt.bool_list b h hu
  | int b=>obtain ⟨t,rfl⟩:=rx;exact SeqAt.EqAt.int_list b t h hu
  | str b=>obtain ⟨t,rfl⟩:=rx;exact SeqAt.EqAt.str_list b t h hu
  | _=>exact absurd (show false=true from fx) M8
theorem p5 {A:Around} {s:Shared} {x:V} {u:Value} {a:Addr} {its:Array Value} (rx:RelV x u) (fx:cP x=true) (h:s.heap.IsList a its) (hu:A.units < cLine):SeqAt.EqAt A s (.ref a) u false:=by
  cases x with
  | non=>cases rx;exact SeqAt.EqAt.list_none h hu
  | bl b=>cases rx;exact SeqAt.EqAt.list_bool b h hu
  | int b=>obtain ⟨t,rfl⟩:=rx;exact SeqAt.EqAt.list_int b t h hu
  | str b=>obtain ⟨t,rfl⟩:=rx;exact SeqAt.EqAt.list_str b t h hu
  | _=>exact absurd (show false=true from fx) M8
theorem mU {A:Around} {s:Shared} {x:V} {u:Value} {a:Addr} {its:Array Value} (rx:RelV x u) (fx:cP x=true) (h:s.heap.IsTuple a its) (hu:A.units < cLine):SeqAt.RcNeAt A s u (.ref a) true:=by
  cases x with
  | non=>cases rx;exact SeqAt.RcNeAt.none_tuple h hu
  | bl b=>cases rx;exact SeqAt.RcNeAt.bool_tuple b h hu
  | int b=>obtain ⟨t,rfl⟩:=rx;exact SeqAt.RcNeAt.int_tuple b t h hu
  | str b=>obtain ⟨t,rfl⟩:=rx;exact SeqAt.RcNeAt.str_tuple b t h hu
  | _=>exact absurd (show false=true from fx) M8
theorem mT {A:Around} {s:Shared} {x:V} {u:Value} {a:Addr} {its:Array Value} (rx:RelV x u) (fx:cP x=true) (h:s.heap.IsTuple a its) (hu:A.units < cLine):SeqAt.RcNeAt A s (.ref a) u true:=by
  cases x with
  | non=>cases rx;exact SeqAt.RcNeAt.tuple_none h hu
  | bl b=>cases rx;exact SeqAt.RcNeAt.tuple_bool b h hu
  | int b=>obtain ⟨t,rfl⟩:=rx;exact SeqAt.RcNeAt.tuple_int b t h hu
  | str b=>obtain ⟨t,rfl⟩:=rx;exact SeqAt.RcNeAt.tuple_str b t h hu
  | _=>exact absurd (show false=true from fx) M8
theorem pA {A:Around} {s:Shared} {x:V} {u:Value} {a:Addr} {its:Array Value} (rx:RelV x u) (fx:cP x=true) (h:s.heap.IsList a its) (hu:A.units < cLine):SeqAt.RcNeAt A s u (.ref a) true:=by
  cases x with
  | non=>cases rx;exact SeqAt.RcNeAt.none_list h hu
  | bl b=>cases rx;exact SeqAt.RcNeAt.bool_list b h hu
  | int b=>obtain ⟨t,rfl⟩:=rx;exact SeqAt.RcNeAt.int_list b t h hu
  | str b=>obtain ⟨t,rfl⟩:=rx;exact SeqAt.RcNeAt.str_list b t h hu
  | _=>exact absurd (show false=true from fx) M8
theorem pq {A:Around} {s:Shared} {x:V} {u:Value} {a:Addr} {its:Array Value} (rx:RelV x u) (fx:cP x=true) (h:s.heap.IsList a its) (hu:A.units < cLine):SeqAt.RcNeAt A s (.ref a) u true:=by
  cases x with
  | non=>cases rx;exact SeqAt.RcNeAt.list_none h hu
  | bl b=>cases rx;exact SeqAt.RcNeAt.list_bool b h hu
  | int b=>obtain ⟨t,rfl⟩:=rx;exact SeqAt.RcNeAt.list_int b t h hu
  | str b=>obtain ⟨t,rfl⟩:=rx;exact SeqAt.RcNeAt.list_str b t h hu
  | _=>exact absurd (show false=true from fx) M8
inductive Top (K:PySem.W.Frag) (H:Hp) (x:V) (d:Dt):Prop
  | flat (f:cP x=true) (h:∀ y e,At K H y e→cP y=true→eqV x y=eqD d e) (h1:∀ es,eqD d (.tup es)=false∧eqD (.tup es) d=false∧eqD d (.lst es)=false∧eqD (.lst es) d=false)
  | tup (a:Addr) (xs:List V) (ds:List Dt) (e1:x = .ref a) (e2:d = .tup ds) (h:SqT K H a xs) (r:Ats K H xs ds)
  | lst (a:Addr) (xs:List V) (ds:List Dt) (e1:x = .ref a) (e2:d = .lst ds) (h:SqL K H a xs) (r:Ats K H xs ds)
theorem At.top {K:PySem.W.Frag} {H:Hp} {x:V} {d:Dt} (h:At K H x d):Top K H x d:=by
  cases h with
  | tup h r=>exact .tup _ _ _ rfl rfl h r
  | lst h r=>exact .lst _ _ _ rfl rfl h r
  | _=>exact .flat rfl (fun y e g f=>by cases g <;> first | (exact absurd f M8) | (simp only [eqV,eqD])) (fun es=>by simp [eqD])
theorem jk {X:Cx} {H:Hp} {xs ys:List V} {ds es:List Dt} {us vs:List Value} {C:Value→Value→Bool→Prop} (h:∀ x y d e u v,d∈ds→At X.K H x d→At X.K H y e→RelV x u→RelV y v→C u v (eqD d e))
    (r:Ats X.K H xs ds) (r':Ats X.K H ys es) (rv:Vals xs us) (rv':Vals ys vs):∀ j (h1:j < us.toArray.size) (h2:j < vs.toArray.size),C us.toArray[j] vs.toArray[j] (eqD (ds.getD j .non) (es.getD j .non)):=fun j h1 h2=>by
  have l1:j < xs.length:=by rw [rv.length];simpa using h1
  have l2:j < ys.length:=by rw [rv'.length];simpa using h2
  obtain ⟨u,e1,q1⟩:=rv.get (MT l1)
  obtain ⟨v,e2,q2⟩:=rv'.get (MT l2)
  obtain ⟨d,e3,q3⟩:=r.get (MT l1)
  obtain ⟨e,e4,q4⟩:=r'.get (MT l2)
  have a1:us.toArray[j]=u:=by
    have:=List.getElem?_eq_some_iff.mp e1
    obtain ⟨_,z⟩:=this
    simpa using z
  have a2:vs.toArray[j]=v:=by
    obtain ⟨_,z⟩:=List.getElem?_eq_some_iff.mp e2
    simpa using z
  rw [a1,a2,List.getD_eq_getElem?_getD,List.getD_eq_getElem?_getD,e3,e4]
  exact h _ _ _ _ _ _ (M0 e3) q3 q4 q1 q2
theorem GF {X:Cx} {pins:List (Addr×Obj)} {σ : St} {H:Hp} {s:Shared} (I:Inv X pins σ H s):∀ (n:Nat) {x y:V} {d e:Dt} {u v:Value},dep d≤n→At X.K H x d→At X.K H y e→RelV x u→RelV y v→∀ A:Around,A.units+n < cLine→SeqAt.EqAt A s u v (eqD d e):=by
  intro n
  induction n with
  | zero=>
    intro x y d e u v hd hx hy rx ry A hA
    rcases hx.top with ⟨f,h,h1⟩ | ⟨a,xs,ds,rfl,rfl,h,r⟩ | ⟨a,xs,ds,rfl,rfl,h,r⟩
    · rcases hy.top with ⟨f',h',h1'⟩ | ⟨b,ys,es,rfl,rfl,h',r'⟩ | ⟨b,ys,es,rfl,rfl,h',r'⟩
      · rw [← h y e hy f'];exact vE rx ry f f'
      · obtain ⟨its,rv,ht,_⟩:=I.tuple h'
        cases ry;rw [(h1 es).1];exact iA rx f ht (by omega)
      · obtain ⟨its,rv,ht,_⟩:=I.list h'
        cases ry;rw [(h1 es).2.2.1];exact ju rx f ht.isList (by omega)
    · simp [dep] at hd
    · simp [dep] at hd
  | succ n ih=>
    intro x y d e u v hd hx hy rx ry A hA
    have hu:A.units < cLine:=by omega
    rcases hx.top with ⟨f,h,h1⟩ | ⟨a,xs,ds,rfl,rfl,h,r⟩ | ⟨a,xs,ds,rfl,rfl,h,r⟩
    · rcases hy.top with ⟨f',h',h1'⟩ | ⟨b,ys,es,rfl,rfl,h',r'⟩ | ⟨b,ys,es,rfl,rfl,h',r'⟩
      · rw [← h y e hy f'];exact vE rx ry f f'
      · obtain ⟨its,rv,ht,_⟩:=I.tuple h'
        cases ry;rw [(h1 es).1];exact iA rx f ht hu
      · obtain ⟨its,rv,ht,_⟩:=I.list h'
        cases ry;rw [(h1 es).2.2.1];exact ju rx f ht.isList hu
    · obtain ⟨its,rv,ht,_⟩:=I.tuple h
      cases rx
      rw [dep] at hd
      rcases hy.top with ⟨f',h',h1'⟩ | ⟨b,ys,es,rfl,rfl,h',r'⟩ | ⟨b,ys,es,rfl,rfl,h',r'⟩
      · rw [(h1' ds).2.1];exact mZ ry f' ht hu
      · cases ry
        obtain ⟨its',rv',ht',_⟩:=I.tuple h'
        by_cases hab:a=b
        · subst hab
          have e:=I.nj h h'
          subst e
          rw [Ats.inj I r r',jv]
          exact SeqAt.EqAt.same _
        · have q:=SeqAt.RcAt.tuples (A:=A) (e:=fun j=>eqD (ds.getD j .non) (es.getD j .non)) ht ht' hu (jk (C:=fun u v k=>SeqAt.EqAt A.in1 s u v k) (fun x y d e u v hm hx hy rx ry=>ih (Nq (jw hm) (by omega)) hx hy rx ry A.in1 (by show A.units+1+n < _;omega)) r r' rv rv')
          have l1:its.toArray.size=ds.length:=by rw [Na,← rv.length,r.len]
          have l2:its'.toArray.size=es.length:=by rw [Na,← rv'.length,r'.len]
          rw [l1,l2,fM] at q
          rw [eqD]
          exact SeqAt.EqAt.of_refs hab q
      · cases ry
        obtain ⟨its',rv',ht',_⟩:=I.list h'
        rw [show eqD (.tup ds) (.lst es)=false by simp [eqD]]
        exact SeqAt.EqAt.tuple_list ht ht'.isList hu
    · obtain ⟨its,rv,ht,_⟩:=I.list h
      cases rx
      rw [dep] at hd
      rcases hy.top with ⟨f',h',h1'⟩ | ⟨b,ys,es,rfl,rfl,h',r'⟩ | ⟨b,ys,es,rfl,rfl,h',r'⟩
      · rw [(h1' ds).2.2.2];exact p5 ry f' ht.isList hu
      · cases ry
        obtain ⟨its',rv',ht',_⟩:=I.tuple h'
        rw [show eqD (.lst ds) (.tup es)=false by simp [eqD]]
        exact SeqAt.EqAt.list_tuple ht.isList ht' hu
      · cases ry
        obtain ⟨its',rv',ht',_⟩:=I.list h'
        by_cases hab:a=b
        · subst hab
          have e:=I.lF h h'
          subst e
          rw [Ats.inj I r r',jv]
          exact SeqAt.EqAt.same _
        · refine SeqAt.EqAt.of_refs hab ?_
          have l1:its.toArray.size=ds.length:=by rw [Na,← rv.length,r.len]
          have l2:its'.toArray.size=es.length:=by rw [Na,← rv'.length,r'.len]
          rw [eqD]
          by_cases hl:ds.length=es.length
          · have q:=SeqAt.RcAt.lists (A:=A) (e:=fun j=>eqD (ds.getD j .non) (es.getD j .non)) ht.isList ht'.isList (by rw [l1,l2,hl]) hu (jk (C:=fun u v k=>SeqAt.EqAt A.in1 s u v k) (fun x y d e u v hm hx hy rx ry=>ih (Nq (jw hm) (by omega)) hx hy rx ry A.in1 (by show A.units+1+n < _;omega)) r r' rv rv')
            have z:=fM ds es
            rw [hl,Nat.min_self,beq_self_eq_true,Bool.and_true] at z
            rw [l1,hl,z] at q
            exact q
          · rw [oh hl]
            exact SeqAt.RcAt.lists_lengths ht.isList ht'.isList (by rw [l1,l2];simpa using hl) hu
theorem DO {X:Cx} {pins:List (Addr×Obj)} {σ : St} {H:Hp} {s:Shared} (I:Inv X pins σ H s) {n:Nat} {x y:V} {d e:Dt} {u v:Value} (hd:dep d≤n) (hx:At X.K H x d) (hy:At X.K H y e) (rx:RelV x u) (ry:RelV y v) (A:Around) (hA:A.units+1+n < cLine):SeqAt.RcNeAt A s u v (!eqD d e):=by
  have hu:A.units < cLine:=by omega
  rcases hx.top with ⟨f,h,h1⟩ | ⟨a,xs,ds,rfl,rfl,h,r⟩ | ⟨a,xs,ds,rfl,rfl,h,r⟩
  · rcases hy.top with ⟨f',h',h1'⟩ | ⟨b,ys,es,rfl,rfl,h',r'⟩ | ⟨b,ys,es,rfl,rfl,h',r'⟩
    · rw [← h y e hy f'];exact GX rx ry f f'
    · obtain ⟨its,rv,ht,_⟩:=I.tuple h'
      cases ry;rw [(h1 es).1];exact mU rx f ht hu
    · obtain ⟨its,rv,ht,_⟩:=I.list h'
      cases ry;rw [(h1 es).2.2.1];exact pA rx f ht.isList hu
  · obtain ⟨its,rv,ht,_⟩:=I.tuple h
    cases rx
    rw [dep] at hd
    rcases hy.top with ⟨f',h',h1'⟩ | ⟨b,ys,es,rfl,rfl,h',r'⟩ | ⟨b,ys,es,rfl,rfl,h',r'⟩
    · rw [(h1' ds).2.1];exact mT ry f' ht hu
    · cases ry
      obtain ⟨its',rv',ht',_⟩:=I.tuple h'
      have q:=SeqAt.RcNeAt.tuples (A:=A) (e:=fun j=>eqD (ds.getD j .non) (es.getD j .non)) ht ht' hu (jk (C:=fun u v k=>SeqAt.EqAt A.in1 s u v k) (fun x y d e u v hm hx hy rx ry=>GF I n (Nq (jw hm) (by omega)) hx hy rx ry A.in1 (by show A.units+1+n < _;omega)) r r' rv rv')
      have l1:its.toArray.size=ds.length:=by rw [Na,← rv.length,r.len]
      have l2:its'.toArray.size=es.length:=by rw [Na,← rv'.length,r'.len]
      rw [l1,l2,fM] at q
      rw [eqD]
      exact q
    · cases ry
      obtain ⟨its',rv',ht',_⟩:=I.list h'
      rw [show eqD (.tup ds) (.lst es)=false by simp [eqD]]
      exact SeqAt.RcNeAt.tuple_list ht ht'.isList hu
  · obtain ⟨its,rv,ht,_⟩:=I.list h
    cases rx
    rw [dep] at hd
    rcases hy.top with ⟨f',h',h1'⟩ | ⟨b,ys,es,rfl,rfl,h',r'⟩ | ⟨b,ys,es,rfl,rfl,h',r'⟩
    · rw [(h1' ds).2.2.2];exact pq ry f' ht.isList hu
    · cases ry
      obtain ⟨its',rv',ht',_⟩:=I.tuple h'
      rw [show eqD (.lst ds) (.tup es)=false by simp [eqD]]
      exact SeqAt.RcNeAt.list_tuple ht.isList ht' hu
    · cases ry
      obtain ⟨its',rv',ht',_⟩:=I.list h'
      have l1:its.toArray.size=ds.length:=by rw [Na,← rv.length,r.len]
      have l2:its'.toArray.size=es.length:=by rw [Na,← rv'.length,r'.len]
      rw [eqD]
      by_cases hl:ds.length=es.length
      · have q:=SeqAt.RcNeAt.lists (A:=A) (e:=fun j=>eqD (ds.getD j .non) (es.getD j .non)) ht.isList ht'.isList (by rw [l1,l2,hl]) hu (jk (C:=fun u v k=>SeqAt.EqAt A.in1 s u v k) (fun x y d e u v hm hx hy rx ry=>GF I n (Nq (jw hm) (by omega)) hx hy rx ry A.in1 (by show A.units+1+n < _;omega)) r r' rv rv')
        have z:=fM ds es
        rw [hl,Nat.min_self,beq_self_eq_true,Bool.and_true] at z
        rw [l1,hl,z] at q
        exact q
      · rw [oh hl]
        exact SeqAt.RcNeAt.lists_lengths ht.isList ht'.isList (by rw [l1,l2];simpa using hl) hu
def GY (K:PySem.W.Frag):R2:=fun x y H Q=>∃ d e,At K H x d∧At K H y e∧dep d≤100∧Q (.bl (!eqD d e)) H
theorem uN {X:Cx} (hr:bX 0 X.A):OpR X (compareOp .NotEq) (GY X.K):=by
  intro pins s σ H x y v u Q I rx ry h
  obtain ⟨d,e,hx,hy,hd,q⟩:=h
  exact DO I hd hx hy rx ry X.A (by have:=hr.un;omega) _ _ _ _ ⟨.bl _,H,I,rfl,q⟩
theorem Iw {K:PySem.W.Frag} {x y:V} {H:Hp} {Q:VK} {d:Dt} (hx:At K H x d) (hy:At K H y d) (hd:dep d≤100) (h:Q (.bl false) H):GY K x y H Q:=⟨d,d,hx,hy,hd,by rw [jv];exact h⟩
theorem GA {K:PySem.W.Frag} {x y:V} {H:Hp} {Q:VK} {d e:Dt} (hx:At K H x d) (hy:At K H y e) (hd:dep d≤100) (h:Q (.bl (!eqD d e)) H):GY K x y H Q:=⟨d,e,hx,hy,hd,h⟩
theorem ints_of:∀ {ns:List Int} {us:List Value},Vals (ns.map V.int) us→IntsAre us ns
  | [],_,.nil=>.nil
  | n::ns,_,.cons r t=>by
    obtain ⟨tk,rfl⟩:=r
    exact .cons n tk (ints_of t)
theorem gU:∀ {ns:List Int} {us:List Value},IntsAre us ns→Vals (ns.map V.int) us
  | _,_,.nil=>.nil
  | _,_,.cons n t r=>.cons ⟨t,rfl⟩ (gU r)
theorem ni:∀ {ns:List Str} {us:List Value},StrsAre us ns→Vals (ns.map V.str) us
  | _,_,.nil=>.nil
  | _,_,.cons n t r=>.cons ⟨t,rfl⟩ (ni r)
def AU (K:PySem.W.Frag):RL:=fun xs H Q=>∃ (p:Addr) (ns:List Str),xs=[.ref p]∧SqL K H p (ns.map V.str)∧ns.length < 64∧∀ (l:Addr) (ms:List Str),H l=none→ms.Perm ns→sortedS ms=true→Q (.ref l) (upd H l (.lst (ms.map V.str)))
section
variable {X:Cx}
theorem Fv:cH X (.builtin "sorted") (AU X.K):=by
  intro pins s σ H xs us Q I r h
  obtain ⟨p,ns,rfl,hq,h64,q⟩:=h
  obtain ⟨u,rfl,rx⟩:=vals1 r
  cases rx
  obtain ⟨its,rv,pl,hz⟩:=I.list hq
  have hl:its.length=ns.length:=by rw [← rv.length,Nh]
  refine sorted_strs pl.isList (oM rv) (by omega) fun out ms a1 a2 a3=>?_
  obtain ⟨e,he⟩:=sortedAll_at s.heap its out
  have ro:=ni a1
  have hz2:(ms.map V.str).length≤sizeLine:=by rw [Nh,a2.length_eq];exact Nr (small1000 (by omega))
  refine ⟨.ref (s.heap.objs.size+1),_,I.laid (a:=s.heap.objs.size+1) (o:=.lst (ms.map V.str)) (t':=s.toks) (fun b o hb=>sortedAll_old hb) (ND _) ⟨hz2,out.toList,e,ro,?_⟩,rfl,q _ ms (I.hok.fresh (ND _)) a2 a3⟩
  rw [he]
end
def ZIt (k:Bool) (h:Heap) (i a:Addr) (n:Nat):Prop:=match k with | true=>h.IsListIter i a n | false=>h.IsTupleIter i a n
section
variable {prog:Program} {w:World} {A:Around} {E:Value→Shared→Prop} {s:Shared}
structure ZAp (z T O i j:Addr):Prop where
  nd:[z,T,O,i,j].Nodup
structure ZAt (k1 k2:Bool) (h:Heap) (z T O i j a b:Addr) (f:Value) (n:Nat):Prop where
  z:IsZip h z T O f
  t:IsPair h T (.ref i) (.ref j)
  o:∃ x y,IsPair h O x y
  i:ZIt k1 h i a n
  j:ZIt k2 h j b n
end
end L4
namespace HT2
open PySem PyProof.Rows HT
theorem AQ (A:Around) (s:Shared) (a:Int) (t:Tok) (c:Int) (u:Tok) (prog:Program) (w:World) (E:Value→Shared→Prop) (Q:Value→Shared→Prop) (h:Q (.bool (decide (c < a))) s) :
    wpAny (model prog w) A (richCompare .Gt (.int a t) (.int c u)) Q E s:=
  (PyProof.Rows.gt_int h:wpAny (model prog w) A (compareOp .Gt (.int a t) (.int c u)) Q E s)
section
open PySem.SeqAt
open PySem.AutoSeq1 (wpAny_loadPart')
open PySem.MeetsSeq PySem.MeetsSeq2 PySem.MeetsSeq3
theorem mQ (l b:Addr) (xs ys:Array Value) (n m:Nat) (dd ee:Option Addr) (sl tl:Array (Option Value)) (ns ms:List Int) (hi:IntsAre xs.toList ns) (hj:IntsAre ys.toList ms) :
    Meets (Builtin.«tuple.__gt__» ⟨[.ref l,.ref b],[]⟩)
      (fun _ R s=>s.heap.get? l=some { cls:=.type "tuple",dict:=dd,data:=.seq xs n,slots:=sl }∧s.heap.get? b=some { cls:=.type "tuple",dict:=ee,data:=.seq ys m,slots:=tl } ∧
        R (.ok (.ret (.bool (lexLt ms ns)))) s):=
  .of_wp fun prog w A R s h=>by
    obtain ⟨hp,g,d,tk,os⟩:=s;obtain ⟨hl,hb,h⟩:=h
    have f2:=AutoSeq1.sub_tuple_tuple
    have z1:xs.size=ns.length:=by rw [← hi.length];simp
    have z2:ys.size=ms.length:=by rw [← hj.length];simp
    wp_walk using wpAny_loadPart' hl,wpAny_loadPart' hb,wpAny_forIn_list _ (fun rest b s'=>b.1=none∧s'=⟨hp,g,d,tk,os⟩∧∃ (vs ws:List Value) (as bs:List Int),rest=vs.zip ws ∧
      IntsAre vs as∧IntsAre ws bs∧as.length+ys.size=bs.length+xs.size∧R (.ok (.ret (.bool (lexLt bs as)))) ⟨hp,g,d,tk,os⟩) _
    case turn=>
      rintro ⟨y,x⟩ rest b s' ⟨hb',rfl,vs,ws,as,bs,hz,hvi,hwi,hlen,hR⟩
      cases hvi with
      | nil=>rw [List.zip_nil_left] at hz;cases hz
      | cons a t hvi'=>
        cases hwi with
        | nil=>rw [List.zip_nil_right] at hz;cases hz
        | cons c u hwi'=>
          rw [List.zip_cons_cons] at hz
          injection hz with hyx hrest
          injection hyx with hy hx
          subst hy hx
          rw [iM] at hR
          simp only [Nd] at hlen
          obtain ⟨e,he,hiff⟩:=Ck A.in1 ⟨hp,g,d,tk,os⟩ a t c u
          refine wpAny_bind (he prog w _ _ ?_)
          cases e with
          | true=>
            rw [if_pos (hiff.mp rfl).symm] at hR
            wp_walk
            exact ⟨rfl,rfl,_,_,_,_,hrest,hvi',hwi',by omega,hR⟩
          | false=>
            rw [if_neg (fun q=>absurd (hiff.mpr q.symm) M8)] at hR
            have hri:=AQ A.in1 ⟨hp,g,d,tk,os⟩ a t c u prog w
            wp_walk using hri
            exact ⟨_,rfl,by simpa using hR⟩
    case fin=>
      rintro ⟨b1,b2⟩ s' ⟨hb',rfl,vs,ws,as,bs,hz,hvi,hwi,hlen,hR⟩
      simp only at hb'
      subst hb'
      have hv:lexLt bs as=decide (ys.size < xs.size):=by
        cases hvi with
        | nil=>
          cases hwi with
          | nil=>
            simp only [Ni] at hlen
            rw [mW]
            exact (Nn (by omega)).symm
          | cons c u hw=>
            simp only [Ni,Nd] at hlen
            rw [lI]
            exact (Nn (by omega)).symm
        | cons a t hv=>
          cases hwi with
          | nil=>
            simp only [Ni,Nd] at hlen
            rw [lH]
            exact (Np (by omega)).symm
          | cons c u hw=>
            rw [List.zip_cons_cons] at hz
            cases hz
      rw [hv] at hR
      wp_walk
      exact ⟨_,rfl,by simpa [Builtin.Tuple.tupleCompareSizes] using hR⟩
    case h=>
      exact ⟨rfl,rfl,xs.toList,ys.toList,ns,ms,rfl,hi,hj,by omega,h⟩
end
section
variable {prog:Program} {w:World} {A:Around} {E:Value→Shared→Prop} {s:Shared}
theorem gb {l b:Addr} {xs ys:Array Value} {ns ms:List Int} {Q:Value→Shared→Prop} (hl:IsTup s.heap l xs) (hb:IsTup s.heap b ys) (hi:IntsAre xs.toList ns) (hj:IntsAre ys.toList ms)
    (hu:A.units < cLine) (h:Q (.bool (lexLt ms ns)) s):wpAny (model prog w) A (richCompare .Gt (.ref l) (.ref b)) Q E s:=by
  obtain ⟨⟨cls,dd,data,sl⟩,ho,hc,n,hd⟩:=id hl
  obtain ⟨⟨cls2,ee,data2,tl⟩,ho2,hc2,m,hd2⟩:=id hb
  simp only at hc hd hc2 hd2
  subst hc hd hc2 hd2
  exact richCompare_meets_room (op:=.Gt) ⟨_,ho,rfl⟩ ⟨_,ho2,rfl⟩ PySem.F.slot_tuple_gt PySem.F.entry_tuple_gt (PySem.F.args_tuple_gt_2 _ _) (mQ l b xs ys n m dd ee sl tl ns ms hi hj)
    ⟨ho,ho2,show Value.bool (lexLt ms ns)≠Value.notImplemented∧Q (.bool (lexLt ms ns)) s from ⟨(fun x=>nomatch x),h⟩⟩ hu
end
end HT2
namespace L4
open PySem PySem.Spec PyProof.Rows L2 L3
def Kp (h0 h:Heap):Prop:=∀ b o,h0.get? b=some o→h.get? b=some o
def CO (prog:Program) (w:World) (A:Around) (op:CmpOp) (P:Nat→Value→Prop) (bt:Nat→Nat→Bool) (h0:Heap):Prop:=
  ∀ i j vi vj (s:Shared) (Q E:Value→Shared→Prop),P i vi→P j vj→Kp h0 s.heap→Q (.bool (bt i j)) s→wpAny (model prog w) A (richCompare op vi vj) Q E s
section
variable {prog:Program} {w:World} {A:Around} {R:Result→Shared→Prop} {I S:Addr} {fp wr:List Addr} {n:Nat} {P:Nat→Value→Prop} {St:Nat→Heap→Prop} {bt:Nat→Nat→Bool} {h0:Heap} {kw:List (Str×Value)}
theorem Ho (W:Walks prog w A.in1 I fp wr n P St) (hc:CO prog w A.in1 .Gt P bt h0) (nS:S∉fp) (nw:∀ b∈wr,h0.get? b=none) (n0:h0.get? S=none) :
    ∀ (k j:Nat) (s:Shared) (vb:Value) (c:Nat),n - (j+1)=k→j+1≤n→St (j+1) s.heap→P (argBest bt j) vb→Kp h0 s.heap →
    s.heap.get? S=some { cls:=.type "list",dict:=none,data:=.seq #[vb,vb] c,slots:=#[] } →
    (∀ v h' tk,P (argBest bt (n - 1)) v→Kp h0 h'→R (.ok (.ret v)) { s with heap:=h',toks:=tk })→codeAny (model prog w) A (.builtin "max.loop" ⟨[.ref I,.none,.ref S],kw⟩) R s:=by
  have nSw:S∉wr:=fun h=>nS (W.sub _ h)
  have nm:(toString "max" ++ toString ".loop" : String) = "max.loop" := by decide
  intro k
  induction k with
  | zero=>
    intro j s vb c hk hj st hP kp hS hR
    have en:j+1=n:=by omega
    refine codeAny_builtin PySem.F.entry_max_loop ?_
    rw [Around.under_plainId PySem.F.plain_max_loop _]
    show wpAny _ A.in1 (seqItems? (.ref S) >>= _) _ _ s;refine wpAny_bind (wpAny_seqItems hS rfl ?_)
    show wpAny _ A.in1 (tryCatch (pyNext (.ref I)) _ >>= _) _ _ s;refine wpAny_bind (wpAny_tryCatch (W.done s _ _ (en▸st) fun h1 tk k1=>?_))
    have hS1:=k1 S _ nSw hS
    show wpAny _ A.in1 (updateSeq S (fun _=>#[]) >>= _) _ _ _;refine wpAny_bind ?_
    refine wpAny_updateSeq hS1 rfl (wpAny_bind (wpAny_letGo (wpAny_pure ?_)))
    refine hR vb _ tk (by rw [← en];exact hP) fun b o e=>(Heap.get?_update_other _ _ (fun z:S=b=>by rw [← z,n0] at e;cases e)).trans (k1 b o (fun z=>by rw [nw b z] at e;cases e) (kp b o e))
  | succ k ih=>
    intro j s vb c hk hj st hP kp hS hR
    have lt:j+1 < n:=by omega
    refine codeAny_builtin PySem.F.entry_max_loop ?_
    rw [Around.under_plainId PySem.F.plain_max_loop _]
    show wpAny _ A.in1 (seqItems? (.ref S) >>= _) _ _ s;refine wpAny_bind (wpAny_seqItems hS rfl ?_)
    show wpAny _ A.in1 (tryCatch (pyNext (.ref I)) _ >>= _) _ _ s;refine wpAny_bind (wpAny_tryCatch (W.item (j+1) s _ _ lt st fun v h1 tk p1 st1 k1=>?_))
    have hS1:=k1 S _ nSw hS
    have kp1:Kp h0 h1:=fun b o e=>k1 b o (fun z=>by rw [nw b z] at e;cases e) (kp b o e)
    show wpAny _ A.in1 (tryCatch (holding [v,v] (richCompare .Gt v vb >>= _)) _ >>= _) _ _ _
    refine wpAny_bind (wpAny_tryCatch (wpAny_holding (wpAny_bind (hc (j+1) (argBest bt j) v vb _ _ _ p1 hP kp1 ?_))))
    refine wpAny_bind (wpAny_holding (wpAny_truthy_bool ?_));refine wpAny_bind (wpAny_letGo (wpAny_pure ?_))
    cases hb:bt (j+1) (argBest bt j) with
    | true=>
      simp only [if_true];refine wpAny_bind ?_
      refine wpAny_updateSeq hS1 rfl (wpAny_bind (wpAny_letGo ?_));rw [nm]
      refine wpAny_pure ⟨plainId_quiet PySem.F.plain_max_loop _,ih (j+1) _ v _ (by omega) lt (W.frame _ _ _ st1 fun b hf o e=>?_) (by simp only [argBest,hb,if_true];exact p1) (fun b o e=>?_) (Heap.get?_update_self _ hS1 rfl) fun v2 h2 tk2 p2 k2=>hR v2 h2 tk2 p2 k2⟩
      · exact (Heap.get?_update_other _ _ (fun h:S=b=>nS (by rw [h];exact hf))).trans e
      · exact (Heap.get?_update_other _ _ (fun z:S=b=>by rw [← z,n0] at e;cases e)).trans (kp1 b o e)
    | false=>
      simp only [Bool.false_eq_true,if_false];refine wpAny_bind (wpAny_letGo ?_);rw [nm]
      exact wpAny_pure ⟨plainId_quiet PySem.F.plain_max_loop _,ih (j+1) _ vb c (by omega) lt st1 (by simp only [argBest,hb,Bool.false_eq_true,if_false];exact hP) kp1 hS1 fun v2 h2 tk2 p2 k2=>hR v2 h2 tk2 p2 k2⟩
theorem pO (W:Walks prog w A.in1 I fp wr n P St) (hc:CO prog w A.in1 .Gt P bt h0) (nS:S∉fp) (nw:∀ b∈wr,h0.get? b=none) (n0:h0.get? S=none) (hn : 0 < n) {s:Shared} {c:Nat} (st:St 0 s.heap) (kp:Kp h0 s.heap)
    (hS:s.heap.get? S=some { cls:=.type "list",dict:=none,data:=.seq #[] c,slots:=#[] })
    (hR:∀ v h' tk,P (argBest bt (n - 1)) v→Kp h0 h'→R (.ok (.ret v)) { s with heap:=h',toks:=tk }):codeAny (model prog w) A (.builtin "max.loop" ⟨[.ref I,.none,.ref S],kw⟩) R s:=by
  have nSw:S∉wr:=fun h=>nS (W.sub _ h)
  have nm:(toString "max" ++ toString ".loop" : String) = "max.loop" := by decide
  refine codeAny_builtin PySem.F.entry_max_loop ?_
  rw [Around.under_plainId PySem.F.plain_max_loop _]
  show wpAny _ A.in1 (seqItems? (.ref S) >>= _) _ _ s;refine wpAny_bind (wpAny_seqItems hS rfl ?_)
  show wpAny _ A.in1 (tryCatch (pyNext (.ref I)) _ >>= _) _ _ s;refine wpAny_bind (wpAny_tryCatch (W.item 0 s _ _ hn st fun v h1 tk p1 st1 k1=>?_))
  have hS1:=k1 S _ nSw hS
  have kp1:Kp h0 h1:=fun b o e=>k1 b o (fun z=>by rw [nw b z] at e;cases e) (kp b o e)
  show wpAny _ A.in1 (updateSeq S (fun _=>#[v,v]) >>= _) _ _ _;refine wpAny_bind ?_
  refine wpAny_updateSeq hS1 rfl ?_;rw [nm]
  refine wpAny_pure ⟨plainId_quiet PySem.F.plain_max_loop _,Ho W hc nS nw n0 _ 0 _ v _ rfl hn (W.frame _ _ _ st1 fun b hf o e=>?_) p1 (fun b o e=>?_) (Heap.get?_update_self _ hS1 rfl) fun v2 h2 tk2 p2 k2=>hR v2 h2 tk2 p2 k2⟩
  · exact (Heap.get?_update_other _ _ (fun h:S=b=>nS (by rw [h];exact hf))).trans e
  · exact (Heap.get?_update_other _ _ (fun z:S=b=>by rw [← z,n0] at e;cases e)).trans (kp1 b o e)
end
section
variable {prog:Program} {w:World} {A:Around} {E:Value→Shared→Prop} {s:Shared}
theorem args_max3 (a b c:Value):argsOk "max" ⟨[a,b,c],[]⟩:=by unfold argsOk;kernel_rfl
theorem lD {vs:List Value} {bt:Nat→Nat→Bool} {Q:Value→Shared→Prop} (hh:A.handled=none) (hv : 0 < vs.length) (hc:CO prog w A.in1 .Gt (fun i v=>vs.toArray[i]?=some v) bt s.heap)
    (hQ:∀ v h' tk,vs.toArray[argBest bt (vs.length - 1)]?=some v→Kp s.heap h'→Q v { s with heap:=h',toks:=tk }) :
    wpAny (model prog w) A.in1 (do let it ← pyIter (.ref s.heap.objs.size);again (.builtin "max.loop" ⟨[it,.none,← newList []],[]⟩)) (fun fin s'=>match fin with
      | .done f=>(match (Except.ok f:Result) with | .ok (.ret v)=>Q v s' | .ok _=>False | .error e=>E e s')
      | .again c'=>c'.quiet=true∧codeAny (model prog w) A c' (fun r s'=>match r with | .ok (.ret v)=>Q v s' | .ok _=>False | .error e=>E e s') s') E { s with heap:=s.heap.push { cls:=.type "tuple",data:=.seq vs.toArray } }:=by
  have ht:(s.heap.push { cls:=.type "tuple",data:=.seq vs.toArray }).IsTuple s.heap.objs.size vs.toArray:=⟨_,Heap.get?_push_size _ rfl,rfl,0,rfl⟩
  have z1:(s.heap.push { cls:=.type "tuple",data:=.seq vs.toArray }).objs.size=s.heap.objs.size+1:=Heap.size_push ..
  refine wpAny_bind (wpAny_pyIter_tuple ht ?_)
  refine wpAny_bind (wpAny_newObj_type ?_)
  have gone:∀ b,s.heap.objs.size≤b→s.heap.get? b=none:=fun b hb=>by
    cases q:s.heap.get? b with
    | none=>rfl
    | some o=>exact absurd (Heap.lt_size q) (Nat.not_lt.mpr hb)
  have W:=Walks.tuple (prog:=prog) (w:=w) (A:=A.in1) hh (s.heap.push { cls:=.type "tuple",data:=.seq vs.toArray }).objs.size s.heap.objs.size (by rw [z1];exact Nu (Nat.lt_succ_self _)) vs.toArray
  have z2:((s.heap.push { cls:=.type "tuple",data:=.seq vs.toArray }).push { cls:=.type "tuple_iterator",data:=.fields #[.ref s.heap.objs.size,.int 0 0] }).objs.size=s.heap.objs.size+2:=by rw [Heap.size_push,z1]
  refine wpAny_pure ⟨plainId_quiet PySem.F.plain_max_loop _,pO W hc (h0:=s.heap) ?_ ?_ (gone _ (by rw [z2];omega)) (by simpa using hv) (W.frame 0 _ _ ⟨⟨_,Heap.get?_push_size _ rfl,rfl,rfl⟩,ht.push _⟩ fun b _ o e=>Heap.get?_push_of_some _ e)
    (fun b o e=>Heap.get?_push_of_some _ (Heap.get?_push_of_some _ (Heap.get?_push_of_some _ e))) (Heap.get?_push_size _ rfl) fun v h' tk p k=>?_⟩
  · intro hm
    rw [z2,z1] at hm
    simp at hm
  · intro b hb
    simp at hb
    rw [hb]
    exact gone _ (by first | omega | (rw [z1];omega))
  · exact hQ v h' tk (by simpa using p) k
theorem vH {a b:Value} {bt:Nat→Nat→Bool} {Q:Value→Shared→Prop} (hh:A.handled=none) (hc:CO prog w A.in1 .Gt (fun i v=>#[a,b][i]?=some v) bt s.heap)
    (hQ:∀ v h' tk,#[a,b][argBest bt 1]?=some v→Kp s.heap h'→Q v { s with heap:=h',toks:=tk }):wpAny (model prog w) A (call (.builtin "max") [a,b]) Q E s:=by
  have nm:(toString "max" ++ toString ".loop" : String) = "max.loop" := by decide
  refine call_function_tree PySem.F.kind_max PySem.F.plain_max PySem.F.entry_max (PySem.F.args_max2 _ _) ?_
  show wpAny _ A.in1 (Builtin.Builtins.bindParams "max" ["key", "default"] 0 ⟨[],[]⟩ >>= _) _ _ s
  refine wpAny_bind (wpAny_of_eq (show Builtin.Builtins.bindParams "max" ["key", "default"] 0 ⟨[],[]⟩=pure [none,none] from rfl) ?_)
  show wpAny _ A.in1 (newTuple [a,b] >>= _) _ _ s
  refine wpAny_bind (wpAny_newObj_type ?_)
  have go:=lD (prog:=prog) (w:=w) (E:=E) (Q:=Q) (s:=s) (vs:=[a,b]) hh (Nat.zero_lt_succ _) hc hQ
  rw [← nm] at go
  exact go
theorem vG {a b c:Value} {bt:Nat→Nat→Bool} {Q:Value→Shared→Prop} (hh:A.handled=none) (hc:CO prog w A.in1 .Gt (fun i v=>#[a,b,c][i]?=some v) bt s.heap)
    (hQ:∀ v h' tk,#[a,b,c][argBest bt 2]?=some v→Kp s.heap h'→Q v { s with heap:=h',toks:=tk }):wpAny (model prog w) A (call (.builtin "max") [a,b,c]) Q E s:=by
  have nm:(toString "max" ++ toString ".loop" : String) = "max.loop" := by decide
  refine call_function_tree PySem.F.kind_max PySem.F.plain_max PySem.F.entry_max (args_max3 _ _ _) ?_
  show wpAny _ A.in1 (Builtin.Builtins.bindParams "max" ["key", "default"] 0 ⟨[],[]⟩ >>= _) _ _ s
  refine wpAny_bind (wpAny_of_eq (show Builtin.Builtins.bindParams "max" ["key", "default"] 0 ⟨[],[]⟩=pure [none,none] from rfl) ?_)
  show wpAny _ A.in1 (newTuple [a,b,c] >>= _) _ _ s
  refine wpAny_bind (wpAny_newObj_type ?_)
  have go:=lD (prog:=prog) (w:=w) (E:=E) (Q:=Q) (s:=s) (vs:=[a,b,c]) hh (Nat.zero_lt_succ _) hc hQ
  rw [← nm] at go
  exact go
end
def Gh (K:PySem.W.Frag):RL:=fun xs H Q=>∃ a b ns ms,xs=[.ref a,.ref b]∧SqT K H a (ns.map V.int)∧SqT K H b (ms.map V.int)∧Q (.ref (if HT.lexLt ns ms=true then b else a)) H
def Gi:RL:=fun xs H Q=>∃ i j k,xs=[.int i,.int j,.int k]∧Q (.int (max (max i j) k)) H
def Gj:RL:=fun xs H Q=>∃ k:Bool,xs=[.bl k]∧Q (.int (if k then 1 else 0)) H
section
variable {X:Cx}
theorem Ji:cH X (.type "int") Gj:=by
  intro pins s σ H xs us Q I r h
  obtain ⟨k,rfl,q⟩:=h
  exact zk pins s σ H _ us Q I r (.inr ⟨k,rfl,q⟩)
theorem Cs (hc:X.calm=true):cH X (.builtin "max") Gi:=by
  intro pins s σ H xs us Q I r h
  obtain ⟨i,j,k,rfl,q⟩:=h
  obtain ⟨a,b,c,rfl,ra,rb,rc⟩:∃ a b c,us=[a,b,c]∧RelV (.int i) a∧RelV (.int j) b∧RelV (.int k) c:=by
    cases r with
    | cons ra r=>cases r with
      | cons rb r=>cases r with
        | cons rc r=>cases r with
          | nil=>exact ⟨_,_,_,rfl,ra,rb,rc⟩
  obtain ⟨t1,rfl⟩:=ra
  obtain ⟨t2,rfl⟩:=rb
  obtain ⟨t3,rfl⟩:=rc
  refine vG (bt:=fun x y=>decide ([i,j,k].getD x 0 > [i,j,k].getD y 0)) (I.ok.hd hc) (fun x y vx vy s' Q' E' px py _ q'=>?_) (fun v h' tk pv kp=>?_)
  · exact CmpOf.ints_gt (P:=fun i' v=>#[Value.int i t1,.int j t2,.int k t3][i']?=some v) (fun x=>[i,j,k].getD x 0) (fun x v e=>by
      match x,e with
      | 0,e=>simp at e;exact ⟨t1,e.symm⟩
      | 1,e=>simp at e;exact ⟨t2,e.symm⟩
      | 2,e=>simp at e;exact ⟨t3,e.symm⟩
      | x+3,e=>simp at e) x y vx vy s' Q' E' px py q'
  · have e:∃ t,v=Value.int (max (max i j) k) t:=by
      have b1:argBest (fun x y=>decide ([i,j,k].getD x 0 > [i,j,k].getD y 0)) 1=if j > i then 1 else 0:=by
        show (if decide (j > i)=true then 1 else 0)=_
        simp
      have b2:argBest (fun x y=>decide ([i,j,k].getD x 0 > [i,j,k].getD y 0)) 2=if decide (k > [i,j,k].getD (if j > i then 1 else 0) 0)=true then 2 else (if j > i then 1 else 0):=by
        rw [argBest,b1];rfl
      rw [b2] at pv
      by_cases h1:j > i
      · simp only [if_pos h1] at pv
        by_cases h2:k > j
        · rw [if_pos (show decide (k > [i,j,k].getD 1 0)=true from Np h2)] at pv
          cases pv;exact ⟨t3,by rw [show max (max i j) k=k by omega] <;> rfl⟩
        · rw [if_neg (show ¬ decide (k > [i,j,k].getD 1 0)=true from by simpa using h2)] at pv
          cases pv;exact ⟨t2,by rw [show max (max i j) k=j by omega] <;> rfl⟩
      · simp only [if_neg h1] at pv
        by_cases h2:k > i
        · rw [if_pos (show decide (k > [i,j,k].getD 0 0)=true from Np h2)] at pv
          cases pv;exact ⟨t3,by rw [show max (max i j) k=k by omega] <;> rfl⟩
        · rw [if_neg (show ¬ decide (k > [i,j,k].getD 0 0)=true from by simpa using h2)] at pv
          cases pv;exact ⟨t1,by rw [show max (max i j) k=i by omega] <;> rfl⟩
    obtain ⟨t,rfl⟩:=e
    exact ⟨.int _,H,I.kept (t':=tk) kp,⟨t,rfl⟩,q⟩
theorem Jg (hc:X.calm=true) (hu:X.A.units+1 < cLine):cH X (.builtin "max") (Gh X.K):=by
  intro pins s σ H xs us Q I r h
  obtain ⟨a,b,ns,ms,rfl,ha,hb,q⟩:=h
  obtain ⟨u,v,rfl,ru,rv⟩:∃ u v,us=[u,v]∧RelV (.ref a) u∧RelV (.ref b) v:=by
    cases r with
    | cons ra r=>cases r with
      | cons rb r=>cases r with
        | nil=>exact ⟨_,_,rfl,ra,rb⟩
  cases ru;cases rv
  obtain ⟨its,r1,p1,_⟩:=I.tuple ha
  obtain ⟨its2,r2,p2,_⟩:=I.tuple hb
  have i1:IntsAre its.toArray.toList ns:=intsAre_of r1
  have i2:IntsAre its2.toArray.toList ms:=intsAre_of r2
  refine vH (bt:=fun x y=>if x=0 then (if y=0 then HT.lexLt ns ns else HT.lexLt ms ns) else (if y=0 then HT.lexLt ns ms else HT.lexLt ms ms)) (I.ok.hd hc) (fun x y vx vy s' Q' E' px py kp q'=>?_) (fun v h' tk pv kp=>?_)
  · have t1:IsTup s'.heap a its.toArray:=by obtain ⟨ob,e,c⟩:=p1;exact ⟨ob,kp _ _ e,c⟩
    have t2:IsTup s'.heap b its2.toArray:=by obtain ⟨ob,e,c⟩:=p2;exact ⟨ob,kp _ _ e,c⟩
    match x,y,px,py with
    | 0,0,px,py=>simp at px py;subst px py;exact HT2.gb t1 t1 i1 i1 hu (by simpa using q')
    | 0,1,px,py=>simp at px py;subst px py;exact HT2.gb t1 t2 i1 i2 hu (by simpa using q')
    | 1,0,px,py=>simp at px py;subst px py;exact HT2.gb t2 t1 i2 i1 hu (by simpa using q')
    | 1,1,px,py=>simp at px py;subst px py;exact HT2.gb t2 t2 i2 i2 hu (by simpa using q')
    | x+2,_,px,_=>simp at px
    | _,y+2,_,py=>simp at py
  · have e:v=Value.ref (if HT.lexLt ns ms=true then b else a):=by
      simp only [argBest] at pv
      cases hl:HT.lexLt ns ms with
      | true=>rw [hl] at pv;simp at pv;rw [if_pos rfl];exact pv.symm
      | false=>rw [hl] at pv;simp at pv;rw [if_neg M8];exact pv.symm
    subst e
    exact ⟨.ref _,H,I.kept (t':=tk) kp,rfl,q⟩
end
section
variable {H:Hp} {Q:VK}
theorem IE {a b c:Int} (h:Q (.int (max (max a b) c)) H):Gi [V.int a,V.int b,V.int c] H Q:=⟨a,b,c,rfl,h⟩
theorem IJ {k:Bool} (h:Q (.int (if k then 1 else 0)) H):Gj [.bl k] H Q:=⟨k,rfl,h⟩
theorem E6 {K:PySem.W.Frag} {a b:Addr} {m c m' c':Int} (ha:H a=some (.tup [.int m,.int c])) (hb:H b=some (.tup [.int m',.int c'])) (h:Q (.ref (if HT.lexLt [m,c] [m',c']=true then b else a)) H):Gh K [.ref a,.ref b] H Q:=
  ⟨a,b,[m,c],[m',c'],rfl,SqT.of ha,SqT.of hb,h⟩
end
section
variable {K:PySem.W.Frag} {P:Addr→Prop} {H0 H H':Hp} {l l' l2:List (Addr×Ob)} {fs:List Pr} {p r:Addr} {Q:VK} {xs ys:List V} {lo hi:Option Int}
theorem gF (L:Led P H0 H l fs) (s:SqL K H p xs∨SqT K H p xs) (h:∀ b H',H b=none→Led P H0 H' ((b,Eo (.lst xs))::l) fs→aI H H'→Q (.ref b) H'):wM K [.ref p] H Q:=
  ⟨p,xs,rfl,s,fun b nb=>h b _ nb (L.Ez nb rfl) (cI nb)⟩
end
end L4
namespace L4
open PySem PySem.Spec PyProof.Rows
def ExcAt (h:Heap) (x:Addr) (C:Value) (dx T:Option Addr) (fl:Value):Prop:=
  ∃ oe vs,h.get? x=some oe∧oe.cls=C∧oe.dict=dx∧oe.data = .fields vs∧vs[1]?=some (T.elim .none .ref)∧∀ t,T=some t→t≠x∧∃ oT ts,h.get? t=some oT∧oT.data = .fields ts∧ts[3]?=some fl
def IX (l:List Env):List Addr:=l.filterMap (·.frame)
structure But (x:Addr) (T:Option Addr) (fs:List Addr) (h h':Heap):Prop where
  keep:∀ b o,h.get? b=some o→b≠x→some b≠T→b∉fs→h'.get? b=some o
  slot:∀ b o,h.get? b=some o→b≠x→some b≠T→∃ sl,h'.get? b=some { o with slots:=sl }
  there:∀ b o,h.get? b=some o→∃ o',h'.get? b=some o'
theorem But.refl {x:Addr} {T:Option Addr} {fs:List Addr} {h:Heap}:But x T fs h h:=⟨fun _ _ e _ _ _=>e,fun _ o e _ _=>⟨o.slots,e⟩,fun _ o e=>⟨o,e⟩⟩
section
variable {M:Model} {A:Around} {E:Value→Shared→Prop} {s:Shared} {base:Heap} {env:Env} {outer:List Env} {L x t:Addr} {C fl:Value} {dx T:Option Addr} {Q:Unit→Shared→Prop}
theorem fT {fr:Option Addr} (he:ExcAt s.heap x C dx (some t) fl) (h:∀ h',ExcAt h' x C dx (some t) (fr.elim .none fun f=>rawInt f)→But x (some t) [] s.heap h'→Q () { s with heap:=h' }):wpAny M A (setFlight (.ref x) fr) Q E s:=by
  obtain ⟨oe,vs,e1,e2,e3,e4,e5,e6⟩:=he
  obtain ⟨ne,oT,ts,f1,f2,f3⟩:=e6 t rfl
  have hz : 3 < ts.size:=(Array.getElem?_eq_some_iff.mp f3).1
  have oth:∀ b,b≠t→(s.heap.update t (Obj.mapFields (·.setIfInBounds 3 (fr.elim .none fun f=>rawInt f)))).get? b=s.heap.get? b:=fun b hb=>Heap.get?_update_other _ _ (Ne.symm hb)
  have d3:=Obj.data_mapFields f2 (·.setIfInBounds 3 (fr.elim .none fun f=>rawInt f))
  have self:=Heap.get?_update_self (Obj.mapFields (·.setIfInBounds 3 (fr.elim .none fun f=>rawInt f))) f1 (Obj.isFreed_of_fields d3)
  unfold setFlight
  refine wpAny_bind (wpAny_field e1 e4 e5 ?_)
  rw [if_pos (show (((some t).elim Value.none Value.ref) != Value.none)=true from by simp)]
  refine wpAny_setField f1 f2 hz (h _ ⟨oe,vs,(oth x (Ne.symm ne)).trans e1,e2,e3,e4,e5,fun t' ht=>?_⟩ ⟨fun b o q _ n _=>?_,fun b o q _ n=>?_,fun b o q=>?_⟩)
  · cases ht
    exact ⟨ne,_,_,self,d3,by simp [hz]⟩
  · exact (oth b fun z=>n (by rw [z])).trans q
  · exact ⟨o.slots,(oth b fun z=>n (by rw [z])).trans q⟩
  · by_cases z:b=t
    · exact ⟨_,by rw [z];exact self⟩
    · exact ⟨o,(oth b z).trans q⟩
theorem nV {head:Value} {hadNext:Bool} {oe:Obj} {vs:Array Value} (hfr:A.frames=some (env::outer)) (hl:s.heap.FunFrames base (env::outer)) (hf:env.frame=some L)
    (e1:s.heap.get? x=some oe) (e4:oe.data = .fields vs) (hz : 1 < vs.size)
    (h:∀ h' t',ExcAt h' x oe.cls oe.dict (some t') (rawInt L)→But x none (IX (env::outer)) s.heap h'→s.heap.objs.size≤t'→Q () { s with heap:=h' }) :
    wpAny M A (do let a ← frameOf env;let pl ← entryPlaceOf L hadNext;let b ← EntryCells.newEntry head a .none (rawInt L) .none pl;setField (.ref x) 1 b) Q E s:=by
  have nfr:x∉(env::outer).filterMap (·.frame):=fun hm=>by
    obtain ⟨_,o,ho,hn⟩:=hl.mem hm
    rw [e1] at ho;cases ho;exact hn vs e4
  refine wpAny_bind (wpAny_frameOf_fun hfr hl hf fun h1 s1=>?_)
  refine wpAny_bind (wpAny_entryPlaceOf fun pl hpl=>?_)
  unfold EntryCells.newEntry newFields
  refine wpAny_bind (wpAny_newObj_type ?_ (hpl.sizeOk5 _ _ _ _ _))
  have x1:h1.get? x=some oe:=(s1.2.1 x nfr).trans e1
  generalize hnew:({ cls:=.type "traceback",dict:=none,data:=.fields ([head,.ref L,.none,rawInt L,.none]++(if pl.isEmpty then List.replicate 6 Value.none else pl)).toArray }:Obj)=new
  have x2:=Heap.get?_push_of_some (h:=h1) new x1
  have x3:h1.objs.size≠x:=Nat.ne_of_gt (Heap.lt_size x1)
  have d3:=Obj.data_mapFields e4 (·.setIfInBounds 1 (Value.ref h1.objs.size))
  have x4:=Heap.get?_update_self (Obj.mapFields (·.setIfInBounds 1 (Value.ref h1.objs.size))) x2 (Obj.isFreed_of_fields d3)
  have x5:=(Heap.get?_update_other (h1.push new) (Obj.mapFields (·.setIfInBounds 1 (Value.ref h1.objs.size))) (Ne.symm x3)).trans (Heap.get?_push_size h1 (by subst hnew;rfl))
  have up:∀ b o,b≠x→h1.get? b=some o→((h1.push new).update x (Obj.mapFields (·.setIfInBounds 1 (Value.ref h1.objs.size)))).get? b=some o:=fun b o n q=>by
    rw [Heap.get?_update_other _ _ (Ne.symm n)];exact Heap.get?_push_of_some _ q
  refine wpAny_setField x2 e4 hz (h _ h1.objs.size ⟨_,_,x4,Obj.cls_mapFields _ _,?_,d3,by simp [hz],fun t' ht=>?_⟩ ⟨fun b o q n _ nf=>?_,fun b o q n _=>?_,fun b o q=>?_⟩ ?_)
  · cases oe with | mk c d da sl=>cases da <;> rfl
  · cases ht
    refine ⟨x3,new,_,x5,by subst hnew;rfl,?_⟩
    first | (simp;done) | (rcases hpl with rfl | ⟨_,_,_,_,_,_,_,rfl⟩ <;> simp)
  · exact up b o n ((s1.2.1 b nf).trans q)
  · obtain ⟨sl,e⟩:=s1.2.2 b o q
    exact ⟨sl,up b _ n e⟩
  · by_cases z:b=x
    · exact ⟨_,by rw [z];exact x4⟩
    · obtain ⟨sl,e⟩:=s1.2.2 b o q
      exact ⟨_,up b _ z e⟩
  · exact s1.1▸NB _
theorem lC (hfr:A.frames=some (env::outer)) (hl:s.heap.FunFrames base (env::outer)) (hf:env.frame=some L) (he:ExcAt s.heap x C dx T fl) (hfl:fl = .none∨fl=rawInt L)
    (h:∀ h' t',ExcAt h' x C dx (some t') (rawInt L)→But x T (IX (env::outer)) s.heap h'→(some t'=T∨s.heap.objs.size≤t')→Q () { s with heap:=h' }):wpAny M A (noteFrame (.ref x) env) Q E s:=by
  obtain ⟨oe,vs,e1,rfl,rfl,e4,e5,e6⟩:=he
  have hz : 1 < vs.size:=(Array.getElem?_eq_some_iff.mp e5).1
  unfold noteFrame
  simp only [hf]
  refine wpAny_bind (wpAny_field e1 e4 e5 ?_)
  cases T with
  | none=>
    rw [if_neg (by decide)]
    exact nV hfr hl hf e1 e4 hz fun h' t' a b c=>h h' t' a b (.inr c)
  | some t=>
    obtain ⟨ne,oT,ts,f1,f2,f3⟩:=e6 t rfl
    rw [if_pos (show (((some t).elim Value.none Value.ref) != Value.none)=true from by simp)]
    refine wpAny_bind (wpAny_field f1 f2 f3 ?_)
    by_cases z:fl=rawInt L
    · subst z
      rw [if_pos (by simp)]
      exact wpAny_pure (h _ t ⟨oe,vs,e1,rfl,rfl,e4,e5,fun t' ht=>by cases ht;exact ⟨ne,oT,ts,f1,f2,f3⟩⟩ But.refl (.inl rfl))
    · obtain rfl:fl = .none:=hfl.resolve_right z
      rw [if_neg (show ¬ ((Value.none == rawInt L)=true) from by simp [rawInt])]
      refine wpAny_bind (wpAny_setField f1 f2 (Array.getElem?_eq_some_iff.mp f3).1 ?_)
      have oth:∀ b,b≠t→(s.heap.update t (Obj.mapFields (·.setIfInBounds 3 Value.none))).get? b=s.heap.get? b:=fun b hb=>Heap.get?_update_other _ _ (Ne.symm hb)
      have self:=Heap.get?_update_self (Obj.mapFields (·.setIfInBounds 3 Value.none)) f1 (Obj.isFreed_of_fields (Obj.data_mapFields f2 _))
      refine nV (base:=base) (outer:=outer) hfr (hl.of_keeps fun b o q hn=>⟨o,(oth b fun z=>?_).trans q,rfl⟩) hf ((oth x (Ne.symm ne)).trans e1) e4 hz fun h' t' a b c=>h h' t' a ⟨fun b' o q n m nf=>?_,fun b' o q n m=>?_,fun b' o q=>?_⟩ (.inr ?_)
      · subst z;rw [f1] at q;cases q;exact hn ts f2
      · exact b.keep b' o ((oth b' fun z=>m (by rw [z])).trans q) n (by simp) nf
      · exact b.slot b' o ((oth b' fun z=>m (by rw [z])).trans q) n (by simp)
      · by_cases z:b'=t
        · exact b.there b' _ (by rw [z];exact self)
        · exact b.there b' o ((oth b' z).trans q)
      · simpa using c
theorem yK (hfr:A.frames=some (env::outer)) (hl:s.heap.FunFrames base (env::outer)) (hf:env.frame=some L) (he:ExcAt s.heap x C dx T fl) (hfl:fl = .none∨fl=rawInt L)
    (h:∀ h' t',ExcAt h' x C dx (some t') .none→But x T (IX (env::outer)) s.heap h'→(some t'=T∨s.heap.objs.size≤t')→Q () { s with heap:=h' }):wpAny M A (leaving env (.ref x)) Q E s:=by
  unfold leaving
  refine wpAny_bind (lC hfr hl hf he hfl fun h1 t1 a b c=>?_)
  refine fT (fr:=none) a fun h2 a2 b2=>h h2 t1 a2 ⟨fun b' o q n m nf=>?_,fun b' o q n m=>?_,fun b' o q=>?_⟩ c
  · refine b2.keep b' o (b.keep b' o q n m nf) n (fun z=>?_) (by simp)
    rcases c with c | c
    · exact m (z.trans c)
    · have lt:=Heap.lt_size q;cases z;exact absurd lt (Nat.not_lt.mpr c)
  · obtain ⟨sl,e⟩:=b.slot b' o q n m
    refine ⟨sl,b2.keep b' _ e n (fun z=>?_) (by simp)⟩
    rcases c with c | c
    · exact m (z.trans c)
    · have lt:=Heap.lt_size q;cases z;exact absurd lt (Nat.not_lt.mpr c)
  · obtain ⟨o1,e⟩:=b.there b' o q
    exact b2.there b' o1 e
end
end L4
namespace L4
open PySem PySem.Spec PyProof.Rows L2 L3
structure gi (X:Cx) (pins:List (Addr×Obj)) (H:Hp) (b:Addr):Prop where
  no:H b=none
  ab:X.s₀.heap.objs.size≤b
  lo:b≠X.env.locals
  ce:∀ x c,X.env.cells.lookup x=some c→c≠b
  pi:∀ p∈X.pn++pins,p.1≠b
def CX1 (P:Program) (w:World):CXT:=fun outer H s E e s'=>∃ x C dx t H',e=Value.ref x∧s'.os=s.os∧AllBare s'.gens∧Un (frs outer) [] H H' s.heap s'.heap∧HOk P w H' s'.heap ∧
  ExcAt s'.heap x C dx (some t) .none∧s.heap.objs.size≤x∧s.heap.objs.size≤t∧H' x=none∧H' t=none∧E C dx H'
theorem u0 {P:Program} {w:World}:br (CX1 P w):=fun _ _ _ _ _ ⟨_,_,_,_,_,_,_,_,_,_,_,_,_,_,_,h⟩=>h
def XS (X:Cx) (Ex:St→XK) (e:Value) (s':Shared):Prop:=∃ pins σ H x C dx T fl,e=Value.ref x∧Inv X pins σ H s'∧ExcAt s'.heap x C dx T fl∧(fl = .none∨fl=rawInt X.env.locals)∧gi X pins H x∧(∀ t,T=some t→gi X pins H t)∧Ex σ C dx H
def PaX (X:Cx) (Ex:St→XK):Prop:=∀ e s',XS X Ex e s'→X.xe e s'
section
variable {X:Cx} {pins:List (Addr×Obj)} {σ : St} {H H':Hp} {s s':Shared} {Ex:St→XK} {e:Value}
theorem fY (I:Inv X pins σ H s) {b:Addr} (hb:s.heap.objs.size≤b) (n:H' b=none):gi X pins H' b:=
  ⟨n,Nq I.sz hb,Nat.ne_of_gt (M9 I.lt hb),fun x c e z=>by
    obtain ⟨v,o,ho,_⟩:=I.cell x c e
    exact absurd (Heap.lt_size ho) (by rw [z];exact Nat.not_lt.mpr hb),fun p hp z=>by
    have:=(I.pin p hp).1
    exact absurd (Heap.lt_size this) (by rw [z];exact Nat.not_lt.mpr hb)⟩
theorem jl {x:Addr} {T:Option Addr} {h':Heap} (I:Inv X pins σ H s) (hx:gi X pins H x) (hT:∀ t,T=some t→gi X pins H t) (b:But x T (frs X.stack) s.heap h'):Inv X pins σ H { s with heap:=h' }:=by
  have nx:∀ c,c∉x::T.toList→c≠x∧some c≠T:=fun c hc=>⟨fun z=>hc (by rw [z];exact M7),fun z=>hc (M3 _ (by rw [← z];simp))⟩
  refine I.GG (s':={ s with heap:=h' }) (ch:=x::T.toList) rfl ⟨fun c o q _ nf nc=>b.keep c o q (nx c nc).1 (nx c nc).2 nf,fun c o q _ _ nc=>b.slot c o q (nx c nc).1 (nx c nc).2,fun _ _ _ n _=>n,fun c o q _=>b.there c o q,fun _ _ q=>q,fun _ _ _ q=>q,fun _ ps q=>⟨#[],by rw [q];simp⟩⟩ (fun a o q=>?_) I.bare (fun c hc=>?_)
  · refine (I.hok a o q).stay (fun c u hc r=>?_) (fun _ r=>r) fun _ _ r=>r
    obtain ⟨v,hv⟩:∃ v,H c=some v:=by
      rcases hc with rfl | hc
      · exact ⟨_,q⟩
      · exact ⟨_,hc⟩
    refine b.keep c u r (fun z=>?_) (fun z=>?_) (fun z=>?_)
    · rw [z,hx.no] at hv;cases hv
    · rw [(hT c z.symm).no] at hv;cases hv
    · rw [I.oO c z] at hv;cases hv
  · have w:gi X pins H c:=by
      rcases List.mem_cons.mp hc with rfl | hc
      · exact hx
      · exact hT c (by simpa using hc)
    exact ⟨.inr w.ab,w.lo,w.ce,w.pi⟩
theorem C6 (I:Inv X pins σ H s) (h:CX1 X.prog X.w X.stack H s (Ex σ) e s'):XS X Ex e s':=by
  obtain ⟨x,C,dx,t,H',rfl,os,bare,un,hok,ex,x1,t1,nx,nt,q⟩:=h
  exact ⟨pins,σ,H',x,C,dx,some t,.none,rfl,I.GG (ch:=[]) os un hok bare (fun b z=>absurd z (by simp)),ex,.inl rfl,fY I x1 nx,fun t' z=>by cases z;exact fY I t1 nt,q⟩
theorem qA {P:Program} {w:World} {K:PySem.W.Frag} {mg:Str→Option Value} {base:Heap} {N:List Str} {qual:Str} {scope:Scope} {f:Addr} {cd:Value} {A:Around} {outer:List Env} {s0:Shared} {H0:Hp} {E:XK} :
    PaX (aZ (CX1 P w) P w K mg base N qual scope f cd A outer s0 H0 E) (fun _=>E):=fun e s' h=>by
  obtain ⟨pins,σ,H,x,C,dx,T,fl,rfl,I,ex,hfl,ox,oT,q⟩:=h
  refine yK (base:=base) (outer:=outer) I.ok.frames I.stack rfl ex hfl fun h' t' a b c=>?_
  have J:=jl I ox oT b
  have ot:s0.heap.objs.size≤t'∧H t'=none:=by
    rcases c with c | c
    · exact ⟨(oT t' c.symm).ab,(oT t' c.symm).no⟩
    · exact ⟨Nq I.sz c,I.hok.fresh c⟩
  exact ⟨x,C,dx,t',H,rfl,J.os,J.bare,J.base,J.hok,a,ox.ab,ot.1,ox.no,ot.2,q⟩
end
def zV (sp:Sp) (Ex:St→XK) (t:TA):TE:=fun σ H Q=>t σ H fun vs H1=>sp vs H1 Q (Ex σ)
section
variable {X:Cx} {k:Nat} {f C:Addr} {fd:FuncData} {ps:List Str} {sp:Sp} {Ex:St→XK} {x m:Str} {p pos apos:Pos} {e o:Expr} {es:List Expr} {ta:TE} {t:TA}
theorem pe {pins:List (Addr×Obj)} {σ : St} {H:Hp} {s:Shared} {Q:VK} {us:List Value} {vs:List V} (F:e7 X.prog X.w X.K X.mg X.base (CX1 X.prog X.w) k f fd ps sp) (hr:bX k X.A) (hb:Binds X.K fd ps []) (hx:PaX X Ex)
    (I:Inv X pins σ H s) (r:Vals vs us) (h:sp vs H Q (Ex σ)):wpAny (model X.prog X.w) X.A (call (.ref f) us) (EP X pins σ Q) X.xe s:=by
  have hl:us.length=ps.length:=by rw [← r.length];exact F.len _ _ _ _ h
  have hb':=hb s us I.kIn (by rw [Nk];exact hl)
  rw [Nk] at hb'
  refine wpAny_call (codeAny_mono (F.run X.A X.stack s H ⟨us,[]⟩ us vs Q (Ex σ) hr I.Fo hb' r h) fun r s' hq=>?_)
  cases r with
  | error e=>exact hx e s' (C6 I hq)
  | ok fl=>
    cases fl with
    | ret u=>exact I.after hq
    | _=>exact False.elim hq
theorem b6 (C:Cal X.prog X.w X.K X.mg X.base (CX1 X.prog X.w) x k ps sp) (hr:bX k X.A) (hx:PaX X Ex) (ha:PA X (e::es) t) (hg:Gl X x:=by rfl)
    (hdb:(x == ("__debug__" : Str))=false:=by decide) (he:starEach (e::es) X.env=(false,eval e X.env)::starEach es X.env:=by rfl) (hpl:(backTo pos (starEach es X.env)).any (·.1)=false:=by rfl) :
    PE X (.Call (.Name x p) (e::es) [] pos) (zV sp Ex t):=by
  obtain ⟨f,fd,F,b,kp,m⟩:=C.ex
  intro pins s σ H Q I h
  refine wpAny_Call_Name_kw (eG I hg m ?_ hdb)
  refine PySem.W.callWith_K (h₀:=X.base) I.ok.mod.kin kp (thn (ha pos pins s σ H _ I h) fun us s1 ⟨vs,H1,I1,r,q⟩=>⟨I1.kIn,?_⟩) he hpl
  exact pe F hr b hx I1 r q
end
end L4
namespace L4
open PySem PySem.Spec PyProof.Rows L2 L3 PySem.W
section
variable {prog:Program} {w:World} {A:Around} {E:Value→Shared→Prop} {h:Heap} {g:Array GenState} {d:Drawn} {t:Nat} {os:OsState}
variable {nm q:Str} {C N:Addr} {bs bm bmB:List Value} {hdct:Bool} {sn:List Str} {sub:List Value} {ab:Bool} {col:Option Bool} {dd:Option Addr} {k0 k1 k2 k3 k5:Option Value} {B newId initId:String}
abbrev vD (h:Heap) (C:Addr) (rest:List Value):Heap:=(h.push { cls:=.type "tuple",data:=.seq rest.toArray }).push { cls:=.ref C,data:=.fields #[.ref h.objs.size,.none,.none,.none,.bool false,.none] }
theorem cW {rest:List Value}:∀ b o,h.get? b=some o→(vD h C rest).get? b=some o:=fun _ _ e=>Heap.get?_push_of_some _ (Heap.get?_push_of_some _ e)
theorem gH {rest:List Value}:(vD h C rest).get? (h.objs.size+1)=some { cls:=.ref C,data:=.fields #[.ref h.objs.size,.none,.none,.none,.bool false,.none] }:=by heap_get
theorem mY (F:ExcBaseFacts B newId initId bmB) (T:OwnTail h bmB bm) {rest:List Value} {init:Value} {Q:Fin→Shared→Prop}
    (hC:h.get? C=some (excClassObj nm q C N bs bm hdct sn sub ab col dd k0 k1 k2 k3 k5 newId)) (hi:Looks (model prog w) h (typeLookup (.ref C) "__init__") (some init)) (hb:∀ self,Looks (model prog w) h (bindSpecial init self) (init,[self]))
    (hq:wpAny (model prog w) A (call init (.ref (h.objs.size+1)::rest)) (fun r s'=>r = .none∧Q (.done (.ret (.ref (h.objs.size+1)))) s') E ⟨vD h C rest,g,d,t,os⟩) (hrest:rest.length≤sizeLine) :
    wpAny (model prog w) A (Builtin.«type.__call__» ⟨.ref C::rest,[]⟩) Q E ⟨h,g,d,t,os⟩:=by
  repeat (first | with_reducible refine wpAny_loadPart_at hC ?_ | with_reducible refine wpAny_madeBy_exc hC ?_ | wp_step)
  refine codeAny_call_builtin_code (Code.quiet_builtin _ F.quiet) (wpAny_check_new_subT F T hC ?_)
  refine codeAny_exc_new_subT F T hC ?_ hrest
  show wpAny _ _ _ _ _ _
  have hC1:=cW (C:=C) (rest:=rest) _ _ hC
  have hg:=gH (h:=h) (C:=C) (rest:=rest)
  have hcC:(Value.ref C::bm).contains (.ref C)=true:=by simp
  unfold isInstance
  repeat (first | with_reducible refine wpAny_loadPart_at hg ?_ | (with_reducible refine wpAny_isSubtype_exc hC1 ?_;rw [hcC]) | wp_step)
  show wpAny _ _ (typeLookup (.ref C) _) _ _ _
  refine hi _ _ _ _ cW ?_
  refine wpAny_holding (wpAny_bind (hb _ _ _ _ _ cW ?_))
  refine wpAny_bind (wpAny_mono hq (fun r s' hr=>?_) fun _ _ x=>x)
  obtain ⟨rfl,hQ⟩:=hr
  wp_walk
  exact hQ
theorem sN (F:ExcBaseFacts B newId initId bmB) (T:OwnTail h bmB bm) {rest:List Value} {init:Value} {Q:Value→Shared→Prop}
    (hC:h.get? C=some (excClassObj nm q C N bs bm hdct sn sub ab col dd k0 k1 k2 k3 k5 newId)) (hi:Looks (model prog w) h (typeLookup (.ref C) "__init__") (some init)) (hb:∀ self,Looks (model prog w) h (bindSpecial init self) (init,[self]))
    (hq:wpAny (model prog w) (A.under (.builtin "type.__call__" ⟨.ref C::rest,[]⟩)) (call init (.ref (h.objs.size+1)::rest)) (fun r s'=>r = .none∧Q (.ref (h.objs.size+1)) s') E ⟨vD h C rest,g,d,t,os⟩) (hrest:rest.length≤sizeLine) :
    wpAny (model prog w) A (call (.ref C) rest) Q E ⟨h,g,d,t,os⟩:=by
  have f1:=tc_lookup
  have f2:=tc_bind (.ref C)
  have hT:(⟨h,g,d,t,os⟩:Shared).TypeIs (.ref C) "type" := ⟨_,hC,rfl⟩
  refine wpAny_call (codeAny_of_tree ?_)
  show wpAny _ _ (callAny (.ref C) _) _ _ _
  repeat (any_goals (first | assumption | with_reducible refine wpAny_loadPart_at hC ?_ | wp_step))
  refine ⟨rfl,?_⟩
  exact codeAny_call_builtin_at (Code.quiet_builtin _ (by decide +kernel)) entry_typeCall (wpAny_check_type_call_sub hC (mY F T hC hi hb hq hrest))
theorem sL (F:ExcBaseFacts B newId initId bmB) (T:OwnTail h bmB bm) {e a0:Addr} {oe:Obj} {vs:Array Value} {rest:List Value} {Q:Value→Shared→Prop}
    (hC:h.get? C=some (excClassObj nm q C N bs bm hdct sn sub ab col dd k0 k1 k2 k3 k5 newId)) (he:h.get? e=some oe) (hcls:oe.cls = .ref C) (hd:oe.data = .fields vs) (hz : 0 < vs.size) (h0:vs[0]?=some (.ref a0))
    (hq:∀ h',h'=(h.push { cls:=.type "tuple",data:=.seq rest.toArray }).update e (Obj.mapFields (·.setIfInBounds 0 (.ref h.objs.size)))→Q .none ⟨h',g,d,t,os⟩) (hrest:rest.length≤sizeLine) :
    wpAny (model prog w) A (call (.builtin initId) (.ref e::rest)) Q E ⟨h,g,d,t,os⟩:=by
  refine wpAny_call (codeAny_call_builtin F.init.plain F.initEntry (wpAny_check_init_subT F T hC he hcls ?_))
  obtain ⟨oc,od,da,sl⟩:=oe
  dsimp only at hcls hd
  subst hcls hd
  unfold Builtin.«BaseException.__init__»
  repeat (first | with_reducible refine wpAny_loadPart_at he ?_ | wp_step)
  rw [h0]
  refine wpAny_pure ?_
  refine wpAny_bind (wpAny_setField (Heap.get?_push_of_some _ he) rfl hz (wpAny_letGo ?_))
  exact wpAny_pure (hq _ rfl)
end
section
variable {M:Model} {A:Around} {E:Value→Shared→Prop} {env:Env}
variable {nm q:Str} {C N:Addr} {bs bm:List Value} {hdct:Bool} {sn:List Str} {sub:List Value} {ab:Bool} {col:Option Bool} {dd:Option Addr} {k0 k1 k2 k3 k5:Option Value} {newId:String}
theorem lq {s:Shared} {x:Sem Value} {Q:Flow→Shared→Prop} (hbase:bm.contains (.type "BaseException")=true) (hh:A.handled=none)
    (h:wpAny M A x (fun v s₁=>∃ e oe vs,v = .ref e∧s₁.heap.get? C=some (excClassObj nm q C N bs bm hdct sn sub ab col dd k0 k1 k2 k3 k5 newId) ∧
      s₁.heap.get? e=some oe∧oe.cls = .ref C∧oe.data = .fields vs∧vs[1]?=some .none∧E (.ref e) s₁) E s) :
    wpAny M A (raiseStmt env (some x) none) Q E s:=by
  have hcB:(Value.ref C::bm).contains (.type "BaseException")=true:=by rw [List.contains_cons,hbase,Bool.or_true]
  unfold raiseStmt
  refine wpAny_bind (wpAny_mono h (fun v s₁ h₁=>?_) fun _ _ x=>x)
  obtain ⟨e,oe,vs,rfl,hC,he,hcls,hd,h1,hE⟩:=h₁
  obtain ⟨hp,g,d,tk,os⟩:=s₁
  have hnd:∀ cd,oe.data≠.cls cd:=fun cd z=>by rw [hd] at z;cases z
  obtain ⟨oc,od,da,sl⟩:=oe
  dsimp only at hcls hd
  subst hcls hd
  repeat (first | with_reducible refine wpAny_loadPart_at he ?_ | with_reducible refine wpAny_loadPart_at hC ?_ | (with_reducible refine wpAny_isSubtype_exc hC ?_;rw [hcB]) | wp_step)
  rw [h1]
  refine wpAny_pure ?_
  rw [if_neg (by decide)]
  exact wpAny_pure (wpAny_raiseNew_none hh hE)
end
abbrev xcx (X:Cx) (Ex:St→XK):Cx:=X.iC (XS X Ex)
section
variable {X:Cx} {Ex:St→XK} {st:List Stmt} {t:TS}
theorem gi.c6 {E:Value→Shared→Prop} {pins:List (Addr×Obj)} {H:Hp} {b:Addr} (o:gi (X.iC E) pins H b):gi X pins H b:=⟨o.no,o.ab,o.lo,o.ce,o.pi⟩
theorem aL:PaX (xcx X Ex) Ex:=fun _ _ ⟨pins,σ,H,x,C,dx,T,fl,a,I,b,c,o,oT,q⟩=>
  ⟨pins,σ,H,x,C,dx,T,fl,a,I.c6,b,c,o.c6,fun t ht=>(oT t ht).c6,q⟩
theorem PSs.x (h:PSs (xcx X Ex) st t) (hx:PaX X Ex):PSs X st t:=fun pins s σ H D I hw=>wpAny_mono (h pins s σ H D (I.iC _) hw) (fun _ _ q=>q.c6) hx
theorem But.mono {x:Addr} {T:Option Addr} {fs fs':List Addr} {h h':Heap} (b:But x T fs h h') (m:∀ a∈fs,a∈fs'):But x T fs' h h':=⟨fun c o q n k f=>b.keep c o q n k fun z=>f (m c z),b.slot,b.there⟩
end
section
variable {P:Program} {w:World} {K:Frag} {mg:Str→Option Value} {base:Heap} {x qual:Str} {st:Stmt} {N ps:List Str} {k:Nat} {sp:Sp} {C:Addr}
theorem _root_.L3.Dat.okR (D:Dat K mg x qual st ps) (S:aq N ps (aj st)) (len:∀ vs H Q E,sp vs H Q E→vs.length=ps.length)
    (hbody:∀ (f:Addr) (cdv:Value) (A:Around) (outer:List Env) (s:Shared) (H:Hp) (vs:List V) (Q:VK) (E:XK),bX k (A.deeper (envOfC qual (aj st) s.heap.objs.size f cdv))→sp vs H Q E →
      ∃ t,PSs (xcx (aZ (CX1 P w) P w K mg base N qual (aj st) f cdv A outer s H E) (fun _=>E)) (bq st) t∧t { nx:=fun _ H'=>Q .non H',rt:=Q } (start N vs) H):Cal P w K mg base (CX1 P w) x (k+1) ps sp:=
  D.okX S len fun f cdv A outer s H vs Q E hr h=>by
    obtain ⟨t,ht,q⟩:=hbody f cdv A outer s H vs Q E hr h
    exact ⟨t,L4.PSs.x ht qA,q⟩
end
def eF:List Value:=[.type "ValueError",.type "Exception",.type "BaseException",.type "object"]
def d8 (K:Frag) (C:Addr) (bmB:List Value) (newId:String):Bool:=match K.lookup C with
  | some ⟨.type "type",_,.cls cd,sl⟩=>(match cd.mro,sl.toList with
    | .ref c::bm,[_,_,_,_,some (.builtin n),_]=>c == C && n == newId && !cd.hasDel && tailIn K bmB bm
    | _,_=>false)
  | _=>false
theorem pZ {K:Frag} {h:Heap} {C:Addr} {bmB:List Value} {newId:String} (X:K.In h) (z:d8 K C bmB newId=true):∃ nm q N bs bm hdct sn sub ab col dd k0 k1 k2 k3 k5,
    h.get? C=some (excClassObj nm q C N bs bm hdct sn sub ab col dd k0 k1 k2 k3 k5 newId)∧OwnTail h bmB bm:=by
  unfold d8 at z
  split at z
  · rename_i dd cd sl ho
    split at z
    · rename_i c bm k0 k1 k2 k3 n k5 hm hs
      simp only [Bool.and_eq_true,beq_iff_eq,Bool.not_eq_true'] at z
      obtain ⟨⟨⟨rfl,rfl⟩,EN⟩,ht⟩:=z
      obtain ⟨nm,bs,mro,ns,qn,hd,sn,sub,ab,col,del⟩:=cd
      dsimp only at hm EN
      subst hm EN
      obtain ⟨l⟩:=sl
      simp only at hs
      subst hs
      exact ⟨nm,qn,ns,bs,bm,hd,sn,sub,ab,col,dd,k0,k1,k2,k3,k5,X _ _ ho,tail_of_in X ht⟩
    · cases z
  · cases z
structure mG (K:Frag) (mg:Str→Option Value) (x:Str) (C:Addr):Prop where
  ok:d8 K C eF "ValueError.__new__" = true
  init:findIn K (.ref C) "__init__" = some (some (.builtin "ValueError.__init__"))
  kp:keepIn K (.ref C)=true
  mg:mg x=some (.ref C)
def zQ (C:Addr) (Ex:St→XK) (tl:TA):TS:=fun _ σ H=>tl σ H fun vs H1=>vs.length≤1000∧Ex σ (.ref C) none H1
theorem fF {X:Cx} {Ex:St→XK} {x:Str} {C:Addr} {e:Expr} {es:List Expr} {t:TA} {np cpos pos:Pos} (O:mG X.K X.mg x C) (hc:X.calm=true) (hx:PaX X Ex) (ha:PA X (e::es) t) (hg:Gl X x:=by rfl)
    (hdb:(x == ("__debug__" : Str))=false:=by decide) (he:starEach (e::es) X.env=(false,eval e X.env)::starEach es X.env:=by rfl) (hpl:(backTo cpos (starEach es X.env)).any (·.1)=false:=by rfl) :
    PS X (.Raise (some (.Call (.Name x np) (e::es) [] cpos)) none pos) (zQ C Ex t):=by
  intro pins s σ H D I h
  obtain ⟨nm,q,N,bs,bm,hdct,sn,sub,ab,col,dd,k0,k1,k2,k3,k5,hC,T⟩:=pZ I.ok.mod.kin O.ok
  rw [arm_exec_Raise]
  refine wpAny_bind (wpAny_standAt (lq (C:=C) (nm:=nm) (q:=q) (N:=N) (bs:=bs) (bm:=bm) (hdct:=hdct) (sn:=sn) (sub:=sub) (ab:=ab) (col:=col) (dd:=dd) (k0:=k0) (k1:=k1) (k2:=k2) (k3:=k3) (k5:=k5) (newId:="ValueError.__new__") (T.hasType (by decide +kernel)) (I.ok.hd hc) (wpAny_bind ?_)))
  refine wpAny_Call_Name_kw (eG I hg O.mg ?_ hdb)
  refine callWith_K (h₀:=X.base) I.ok.mod.kin O.kp (thn (ha cpos pins s σ H _ I h) fun us s1 ⟨vs,H1,I1,r,hz,qx⟩=>⟨I1.kIn,?_⟩) he hpl
  have hl:us.length≤sizeLine:=by rw [← r.length];exact Nr (small1000 hz)
  have T1:=T.keeps I1.bk
  have hC1:=I1.bk _ _ hC
  obtain ⟨hp,g,d,tk,os⟩:=s1
  show wpAny (model X.prog X.w) X.A (call (.ref C) us) _ _ _
  refine sN PySem.F.excBase_ValueError T1 hC1 (looks_findIn I1.kIn O.init) (fun self=>Looks.of_pure (PySem.F.excBase_ValueError.init.bind self)) ?_ hl
  refine sL PySem.F.excBase_ValueError (T1.keeps cW) (cW _ _ hC1) gH rfl rfl (Nat.zero_lt_succ _) rfl (fun h3 e3=>⟨rfl,?_⟩) hl
  have kp:∀ b o,hp.get? b=some o→h3.get? b=some o:=fun b o z=>by
    rw [e3,Heap.get?_update_other _ _ (Nat.ne_of_gt (Nat.lt_succ_of_lt (Heap.lt_size z)))]
    exact Heap.get?_push_of_some _ (cW _ _ z)
  have hz3:(vD hp C us).objs.size=hp.objs.size+2:=by rw [Heap.size_push,Heap.size_push]
  have g3:=Heap.get?_update_self (Obj.mapFields (·.setIfInBounds 0 (.ref (vD hp C us).objs.size))) (Heap.get?_push_of_some { cls:=.type "tuple",data:=.seq us.toArray } (gH (h:=hp) (C:=C) (rest:=us))) rfl
  rw [← e3] at g3
  have I3:Inv X pins σ H1 ⟨h3,g,d,tk,os⟩:=I1.kept (t':=tk) kp
  refine wpAny_bind (wpAny_standAt (wpAny_pure ⟨_,_,_,rfl,kp _ _ hC1,g3,rfl,rfl,rfl,hx _ _ ⟨pins,σ,H1,hp.objs.size+1,.ref C,none,none,.none,rfl,I3,⟨_,_,g3,rfl,rfl,rfl,rfl,fun t ht=>by cases ht⟩,.inl rfl,fY I1 (ND _) (I1.hok.fresh (ND _)),(fun t ht=>by cases ht),qx⟩⟩))
def MA (x:Addr) (C:Value) (dx:Option Addr):Heap→Prop:=fun h=>∃ oe vs,h.get? x=some oe∧oe.cls=C∧oe.dict=dx∧oe.data = .fields vs
abbrev MB (x:Addr) (C:Value) (dx:Option Addr):HO:=.ext (MA x C dx)
section
variable {X:Cx} {pins:List (Addr×Obj)} {σ : St} {H:Hp} {s:Shared}
theorem yQ {x:Addr} {φ : Heap→Prop} (I:Inv X pins σ H s) (o:gi X pins H x) (p : φ s.heap) (th:∃ ob,s.heap.get? x=some ob) (st:∀ h1 h2:Heap,φ h1→(∀ ob,h1.get? x=some ob→h2.get? x=some ob)→φ h2):Inv X pins σ (upd H x (.ext φ)) s:=by
  have ne:∀ b u,H b=some u→b≠x:=fun b u e z=>by rw [z,o.no] at e;cases e
  refine ⟨I.ok,I.os,I.bare,⟨I.base.keep,I.base.slot,fun b ob e n hx=>?_,I.base.there,fun b xs e=>?_,fun b ob u e=>?_,fun b ps e=>?_⟩,I.loc,I.cell,?_,fun y c e=>?_,fun q hq=>?_,fun b u e=>?_,I.len⟩
  · rw [aF (Nu (M9 (Heap.lt_size e) o.ab))];exact I.base.free b ob e n hx
  · have:=I.base.tups b xs e;rw [aF (ne _ _ this)];exact this
  · have:=I.base.iS b ob u e;rw [aF (ne _ _ this)];exact this
  · obtain ⟨m,h⟩:=I.base.i8 b ps e
    exact ⟨m,by rw [aF (ne _ _ h)];exact h⟩
  · rw [aF (Ne.symm o.lo)];exact I.free
  · rw [aF (o.ce y c e)];exact I.freeC y c e
  · obtain ⟨a,b,r⟩:=I.pin q hq
    exact ⟨a,by rw [aF (o.pi q hq)];exact b,r⟩
  · by_cases z:b=x
    · subst z;rw [aE] at e;cases e;exact ⟨p,th,st⟩
    · rw [aF z] at e
      exact (I.hok b u e).stay (fun _ _ _ q=>q) (fun c q=>by rw [aF (ne _ _ q)];exact q) fun c xs q=>by rw [aF (ne _ _ q)];exact q
end
abbrev Cx.pinned (X:Cx) (pins:List (Addr×Obj)):Cx:={ X with pn:=X.pn++pins }
abbrev Cx.hand (X:Cx) (x:Addr):Cx:={ X with A:=X.A.mark (some (.ref x)),calm:=false,xe:=fun _ _=>False }
section
variable {X:Cx} {pins lu:List (Addr×Obj)} {σ : St} {H:Hp} {s:Shared}
theorem Hg (ok:X.Ok):(Cx.pinned X pins).Ok:=⟨ok.mod,ok.kind,ok.glob,ok.blt,ok.above,ok.inj,ok.has,ok.cab,ok.hd,ok.frames,ok.stk,ok.exf,ok.bs,ok.bsz,ok.noex,ok.exfs,ok.iQ,ok.frf⟩
theorem Bb (ok:(Cx.pinned X pins).Ok):X.Ok:=⟨ok.mod,ok.kind,ok.glob,ok.blt,ok.above,ok.inj,ok.has,ok.cab,ok.hd,ok.frames,ok.stk,ok.exf,ok.bs,ok.bsz,ok.noex,ok.exfs,ok.iQ,ok.frf⟩
theorem EJ (I:Inv X pins σ H s):Inv (Cx.pinned X pins) [] σ H s:=⟨Hg I.ok,I.os,I.bare,I.base,I.loc,I.cell,I.free,I.freeC,fun p hp=>I.pin p (by simpa using hp),I.hok,I.len⟩
theorem fK (I:Inv (Cx.pinned X pins) lu σ H s):Inv X pins σ H s:=⟨Bb I.ok,I.os,I.bare,I.base,I.loc,I.cell,I.free,I.freeC,fun p hp=>I.pin p (List.mem_append_left _ hp),I.hok,I.len⟩
theorem jG {b:Addr} (o:gi (Cx.pinned X pins) lu H b):gi X pins H b:=⟨o.no,o.ab,o.lo,o.ce,fun p hp=>o.pi p (List.mem_append_left _ hp)⟩
theorem su {x:Addr} (I:Inv X pins σ H s):Inv (Cx.hand X x) pins σ H s:=
  ⟨⟨I.ok.mod,I.ok.kind,I.ok.glob,I.ok.blt,I.ok.above,I.ok.inj,I.ok.has,I.ok.cab,(fun z=>absurd z M8),I.ok.frames,I.ok.stk,I.ok.exf,I.ok.bs,I.ok.bsz,I.ok.noex,I.ok.exfs,I.ok.iQ,I.ok.frf⟩,I.os,I.bare,I.base,I.loc,I.cell,I.free,I.freeC,I.pin,I.hok,I.len⟩
theorem f7 {x:Addr} (ok:X.Ok) (I:Inv (Cx.hand X x) pins σ H s):Inv X pins σ H s:=⟨ok,I.os,I.bare,I.base,I.loc,I.cell,I.free,I.freeC,I.pin,I.hok,I.len⟩
theorem z5 {E:Value→Shared→Prop} {D:Ends} {f:Flow} {s':Shared} (h:SP ((Cx.pinned X pins).iC E) lu D f s'):SP X pins D f s':=by
  have h:=h.c6
  cases f with
  | next=>obtain ⟨σ',H',I,q⟩:=h;exact ⟨σ',H',fK I,q⟩
  | brk=>obtain ⟨σ',H',I,q⟩:=h;exact ⟨σ',H',fK I,q⟩
  | cont=>obtain ⟨σ',H',I,q⟩:=h;exact ⟨σ',H',fK I,q⟩
  | ret u=>obtain ⟨v,σ',H',I,r,q⟩:=h;exact ⟨v,σ',H',fK I,r,q⟩
theorem vN {M:Model} {E:Value→Shared→Prop} {Q:Shared→Prop} {x:Addr} {C fl:Value} {dx T:Option Addr} (hs:X.stack=X.env::X.outer) (hf:X.env.frame=some X.env.locals) (I:Inv X pins σ H s) (ex:ExcAt s.heap x C dx T fl) (hfl:fl = .none∨fl=rawInt X.env.locals) (ox:gi X pins H x) (oT:∀ t,T=some t→gi X pins H t)
    (h:∀ s' t,Inv X pins σ H s'→ExcAt s'.heap x C dx (some t) .none→gi X pins H t→Q s') :
    wpAny M X.A (noteFrame (.ref x) X.env) (fun _ s2=>wpAny M X.A (setFlight (.ref x) none) (fun _ s3=>Q s3) E s2) E s:=by
  have hfr:=I.ok.frames
  have hst:=I.stack
  rw [hs] at hfr hst
  refine lC (base:=X.base) hfr hst hf ex hfl fun h1 t1 a b c=>?_
  have ot:gi X pins H t1:=by
    rcases c with c | c
    · exact oT t1 c.symm
    · exact fY I c (I.hok.fresh c)
  have J:=jl I ox oT (by rw [hs];exact b)
  exact fT (fr:=none) a fun h2 a2 b2=>h _ t1 (jl J ox (fun t ht=>by cases ht;exact ot) (b2.mono fun _ z=>absurd z (by simp))) a2 ot
end
def GP (K:Frag) (CH:Value) (tb:(St→XK)→TS) (th:TS) (Ex:St→XK):TS:=fun D σ H=>
  tb (fun σ' C dx H'=>∃ b,exmOne K C CH=some b∧if b=true then th D σ' H' else Ex σ' C dx H') D σ H
section
variable {X:Cx} {Ex:St→XK} {body suite:List Stmt} {b₀ : Stmt} {cx n:Str} {np hpos pos:Pos} {CH:Addr} {i:Nat} {tb:(St→XK)→TS} {th:TS}
theorem yH {M:Model} {h:Heap} {x:Addr} {C:Value} {dx T:Option Addr} {fl:Value} (ex:ExcAt h x C dx T fl):Looks M h (typeOf (.ref x)) C:=by
  obtain ⟨oe,vs,e1,e2,_⟩:=ex
  rw [← e2]
  exact (Looks.ld e1).andThen .now
theorem D4 {pins:List (Addr×Obj)} {σ : St} {H:Hp} {s:Shared} {x t:Addr} {C fl:Value} {dx:Option Addr} {Q:Flow→Shared→Prop} (hf:X.env.frame=some X.env.locals) (hx:PaX X Ex) (I:Inv X pins σ H s) (ex:ExcAt s.heap x C dx (some t) fl) (ox:gi X pins H x) (ot:gi X pins H t) (q:Ex σ C dx H) :
    wpAny (model X.prog X.w) X.A (handleBy (.ref x) X.env []) Q X.xe s:=by
  refine wpAny_handleBy_nil ?_
  unfold PySem.passOn
  obtain ⟨oe,vs,e1,e2,e3,e4,e5,e6⟩:=id ex
  refine wpAny_bind (wpAny_field e1 e4 e5 ?_)
  rw [if_neg (by simp)]
  refine wpAny_bind (fT (fr:=X.env.frame) ex fun h2 a2 b2=>wpAny_throw (hx _ _ ?_))
  exact ⟨pins,σ,H,x,C,dx,some t,_,rfl,jl I ox (fun t ht=>by cases ht;exact ot) (b2.mono fun _ z=>absurd z (by simp)),a2,.inr (by rw [hf];rfl),ox,fun t ht=>by cases ht;exact ot,q⟩
theorem G0 (hs:X.stack=X.env::X.outer) (hf:X.env.frame=some X.env.locals) (hm:X.mg cx=some (.ref CH)) (hx:PaX X Ex)
    (hb:∀ pins Exb,PSs (xcx (Cx.pinned X pins) Exb) body (tb Exb)) (hh:∀ x,PSs (Cx.hand X x) (b₀ :: suite) th) (hg:Gl X cx:=by rfl) (hdb:(cx == ("__debug__" : Str))=false:=by decide) :
    PS X (.Try body [.ExceptHandler (some (.Name cx np)) none (b₀ :: suite) hpos] [] [] pos) (GP X.K (.ref CH) tb th Ex):=by
  intro pins s σ H D I h
  refine wpAny_Try_except (wpAny_mono (hb pins _ [] s σ H D ((EJ I).iC _) h) (fun f s1 q=>?_) (fun e s1 q=>?_))
  · have q:=z5 q
    cases f with
    | next=>obtain ⟨σ',H',I',q⟩:=q;exact aJ pins s1 σ' H' D I' q
    | _=>exact q
  · obtain ⟨lu,σ',H',x,C,dx,T,fl,rfl,I',ex,hfl,ox,oT,b,hm2,q⟩:=q
    refine vN hs hf (fK I') ex hfl (jG ox) (fun t ht=>jG (oT t ht)) fun s2 t I2 ex2 ot=>?_
    have ox:=jG ox
    refine wpAny_handleBy_cons (codeAny_handlers_test ?_) (by intro z;cases z)
    refine eG (X:=Cx.hand X x) (su I2) hg hm ?_ hdb
    refine (exm_one I2.kIn (yH ex2) hm2).here ?_
    cases b with
    | false=>exact D4 hf hx I2 ex2 ox ot q
    | true=>
      refine codeAny_handlers_suite ?_
      refine fT (fr:=none) ex2 fun h3 a3 b3=>?_
      have I3:=jl I2 ox (fun t ht=>by cases ht;exact ot) (b3.mono fun _ z=>absurd z (by simp))
      refine wpAny_mono (hh x pins _ _ _ D (su I3) q) (fun f s6 r=>?_) fun _ _ z=>False.elim z
      cases f with
      | next=>obtain ⟨σ6,H6,I6,q6⟩:=r;exact ⟨_,H6,f7 I.ok I6,q6⟩
      | brk=>obtain ⟨σ6,H6,I6,q6⟩:=r;exact ⟨_,H6,f7 I.ok I6,q6⟩
      | cont=>obtain ⟨σ6,H6,I6,q6⟩:=r;exact ⟨_,H6,f7 I.ok I6,q6⟩
      | ret u=>obtain ⟨v,σ6,H6,I6,r6,q6⟩:=r;exact ⟨v,_,H6,f7 I.ok I6,r6,q6⟩
end
structure vU (K:Frag) (C:Addr):Prop where
  ga:findIn K (.ref C) "__getattribute__" = some (some (.builtin "BaseException.__getattribute__"))
  gh:findIn K (.ref C) "__getattr__" = some none
  bs:mroIn K C (.type "BaseException")=some true
  ob:mroIn K C (.type "object")=some true
  ca:findIn K (.ref C) "__class__" = some (some (.builtin "object.__class__"))
  cg:specialIn K (.builtin "object.__class__") "__get__" = some (some (.builtin "getset_descriptor.__get__"))
  ct:takesIn K (.builtin "object.__class__")=some true
  cd:(clsIn K C).isSome=true
def ExD (H:Hp):Option Addr→Prop
  | none=>True
  | some d=>∃ fs,H d=some (.xd fs)
structure ExA (K:Frag) (H:Hp) (x C:Addr) (dx:Option Addr):Prop where
  at_:H x=some (MB x (.ref C) dx)
  g:vU K C
  d:ExD H dx
theorem G7 {X:Cx}:PaX X.nox (fun _ _ _ _=>False):=fun _ _ ⟨_,_,_,_,_,_,_,_,_,_,_,_,_,_,q⟩=>q
section
variable {X:Cx} {K:Frag} {Ex:St→XK} {body suite:List Stmt} {b₀ : Stmt} {cx n:Str} {np hpos pos:Pos} {CH:Addr} {i:Nat} {tb:(St→XK)→TS} {th:TS}
theorem DU (hK:X.K=K) (hs:X.stack=X.env::X.outer) (hf:X.env.frame=some X.env.locals) (hm:X.mg cx=some (.ref CH)) (hx:PaX X Ex)
    (hb:∀ pins Exb,PSs (xcx (Cx.pinned X pins) Exb) body (tb Exb)) (hh:∀ x,PSs (Cx.hand X x) (b₀ :: suite) th) (hg:Gl X cx:=by rfl) (hdb:(cx == ("__debug__" : Str))=false:=by decide) :
    PS X (.Try body [.ExceptHandler (some (.Name cx np)) none (b₀ :: suite) hpos] [] [] pos) (GP K (.ref CH) tb th Ex):=by
  subst hK
  exact G0 hs hf hm hx hb hh hg hdb
end
section
variable {K:Frag} {σ : St} {H:Hp} {Q:VK} {D:Ends} {tl:TA} {ta:TE} {sp:Sp} {Ex:St→XK} {C:Addr}
theorem Fi (h:tl σ H fun vs H1=>sp vs H1 Q (Ex σ)):zV sp Ex tl σ H Q:=h
def Raises (C:Addr) (Ex:XK) (vs:List V) (H:Hp):Prop:=vs.length≤1000∧Ex (.ref C) none H
theorem E3 (h:tl σ H fun vs H1=>Raises C (Ex σ) vs H1):zQ C Ex tl D σ H:=h
theorem BW {E:XK} {v:V} (h:E (.ref C) none H):Raises C E [v] H:=⟨(by show 1≤1000;decide),h⟩
def F6 (K:Frag) (CH:Value) (th:TS) (Ex:St→XK) (D:Ends):St→XK:=fun σ' C dx H'=>∃ b,exmOne K C CH=some b∧if b=true then th D σ' H' else Ex σ' C dx H'
theorem KS {CH:Value} {tb:(St→XK)→TS} {th:TS} (h:tb (F6 K CH th Ex D) D σ H):GP K CH tb th Ex D σ H:=h
theorem IK {CH C:Value} {th:TS} {dx:Option Addr} (e:exmOne K C CH=some true) (h:th D σ H):F6 K CH th Ex D σ C dx H:=⟨true,e,by rw [if_pos rfl];exact h⟩
end
open Builtin Builtin.ObjectAttr
inductive cT:List Value→Prop
  | base:cT eF
  | own {c:Addr} {r:List Value}:cT r→cT (.ref c::r)
theorem rC (self:Value) {l:List Value} (h:cT l):refuseLoop self "__setattr__" l=pure ():=by
  induction h with
  | base=>exact PySem.F.store_ValueError.passes self
  | own _ ih=>rw [refuseLoop_ref];exact ih
section
variable {prog:Program} {w:World} {A:Around} {E:Value→Shared→Prop} {s:Shared} {K:Frag} {x C:Addr} {ox:Obj} {od:Option Obj} {name:Str} {v:Value} {cd:ClassData}
theorem jt {R:Result→Shared→Prop} {tk:Tok} {r:Option Value} (X:K.In s.heap) (I:InstAt s.heap x ox C od) (G:vU K C) (hc:clsIn K C=some cd) (ho:cT cd.mro) (ht:takerIn K C name=some r)
    (h:∀ b,wpAny (model prog w) A.in1 (match r with | some a=>setByDescriptor a (.ref x) v | none=>storeInOwnDict (.ref x) (.ref C) (.str name tk) name v b)
      (fun fin s'=>match fin with | .done f=>R (.ok f) s' | .again c'=>c'.quiet=true∧codeAny (model prog w) A c' R s') (fun e s'=>R (.error e) s') s) :
    codeAny (model prog w) A (.call (.builtin "object.__setattr__") ⟨[.ref x,.str name tk,v],[]⟩) R s:=by
  have SF:=PySem.F.store_object
  have sub:Looks (model prog w) s.heap (isInstance (.ref x) (.type "object")) true:=I.type.andThen (looks_mroIn X G.ob)
  refine codeAny_call_builtin SF.slot.plain SF.entry (@check_slot (model prog w) _ _ s "object.__setattr__" "object" "__setattr__" (.ref x) [.str name tk,v] [] _ SF.kind SF.split sub (SF.args (.ref x) (.str name tk) v) ?_)
  obtain ⟨attr,ha,hr⟩:=Option.bind_eq_some_iff.mp ht
  have hm:Looks (model prog w) s.heap (mroOf (.ref C)) cd.mro:=(looks_clsIn X hc).andThen .now
  have L3:Looks (model prog w) s.heap (storeTaker? attr) r:=by
    cases attr with
    | none=>cases hr;exact .now
    | some a=>
      obtain ⟨b,hb,rfl⟩:=Option.map_eq_some_iff.mp hr
      refine (looks_takesIn X hb).andThen ?_
      cases b <;> exact .now
  rw [osa_eq,refuse_eq]
  refine wpAny_bind (wpAny_bind (I.type.here (wpAny_bind (hm.here ?_))))
  rw [rC _ ho]
  refine wpAny_pure (wpAny_bind (I.type.here (wpAny_bind ((looks_findIn X ha).here (wpAny_bind (L3.here ?_))))))
  exact h _
theorem Cg {Q:Unit→Shared→Prop} {vs:Array Value} (X:K.In s.heap) (I:InstAt s.heap x ox C none) (G:vU K C) (hs:findIn K (.ref C) "__setattr__" = some (some (.builtin "object.__setattr__")))
    (hc:clsIn K C=some cd) (ho:cT cd.mro) (hh:cd.hasDict=true) (ht:takerIn K C name=some none) (hdn:ox.dict=none) (hda:ox.data = .fields vs)
    (h:∀ h' t,h'.get? x=some { ox with dict:=some s.heap.objs.size }→h'.Ns1 s.heap.objs.size (fun y=>if y=name then some v else none)→(∀ b o,b≠x→s.heap.get? b=some o→h'.get? b=some o)→Q () { s with heap:=h',toks:=t }) :
    wpAny (model prog w) A (setAttr (.ref x) name v) Q E s:=by
  refine set_plain X I hs (jt (s:={ s with toks:=s.toks+1 }) (r:=none) X I G hc ho ht fun b=>?_)
  have hx:=I.at_
  have hcl:=I.cls
  obtain ⟨oc,odi,oda,osl⟩:=ox
  dsimp only at hcl hdn hda hx
  subst hcl hdn hda
  refine wpAny_bind (wpAny_pure (wpAny_bind (wpAny_bind (wpAny_loadPart hx (wpAny_bind (PySem.W.Looks.here (s:={ s with toks:=s.toks+1 }) (PySem.W.looks_clsIn X hc) ?_))))))
  rw [hh,if_neg (by decide)]
  have hxs:x≠s.heap.objs.size:=Nu (Heap.lt_size hx)
  have hx1:(s.heap.push { cls:=.type "dict",data:=.dict #[] }).get? x=some ⟨.ref C,none,.fields vs,osl⟩:=Heap.get?_push_of_some _ hx
  show wpAny (model prog w) A.in1 (alloc { cls:=Value.type "dict",data:=Data.dict #[] } >>= fun d=>update x (fun o=>{ cls:=o.cls,dict:=some d,data:=o.data,slots:=o.slots }) >>= fun _=>dictMade (.ref C) x d) _ _ _
  refine wpAny_bind (wpAny_alloc' ?_)
  refine wpAny_bind (wpAny_update' hx1 ?_)
  refine wpAny_pure ?_
  have hgd:((s.heap.push { cls:=.type "dict",data:=.dict #[] }).update x fun o=>{ cls:=o.cls,dict:=some s.heap.objs.size,data:=o.data,slots:=o.slots }).get? s.heap.objs.size
      = some { cls:=.type "dict",data:=.dict #[] }:=(Heap.get?_update_ne _ _ _ _ hxs.symm).trans (Heap.get?_push_at rfl rfl)
  have hnd:((s.heap.push { cls:=.type "dict",data:=.dict #[] }).update x fun o=>{ cls:=o.cls,dict:=some s.heap.objs.size,data:=o.data,slots:=o.slots }).Ns s.heap.objs.size (fun _=>none):=
    ⟨_,#[],_,hgd,rfl,fun e he=>absurd he (by simp),fun _=>rfl⟩
  show wpAny _ _ (storeInDict s.heap.objs.size (.str name _) name v) _ _ _
  unfold storeInDict newKeyGuard
  refine wpAny_bind (wpAny_pure (wpAny_bind (wpAny_nsSet1 (Heap.Ns1.of_empty hnd) fun h' hn' sb=>?_)))
  obtain ⟨oD,esD,epD,hoD,hdD,hcD⟩:=hn'.count (PySem.Within.cons name v PySem.Within.nil)
  refine wpAny_bind (wpAny_lookBehind hoD (by rw [hdD];exact pastItsLine_dict (Nq hcD (by rw [Nd,Ni,sizeLine_eq];omega))) ?_)
  refine wpAny_pure (h h' _ ?_ hn' fun b o nb hb=>?_)
  · exact (sb.2 x hxs).trans (Heap.get?_update_self _ hx1 rfl)
  · exact (sb.2 b (Nu (Heap.lt_size hb))).trans ((Heap.get?_update_ne _ _ _ _ nb).trans (Heap.get?_push_of_some _ hb))
theorem Cf {Q:Unit→Shared→Prop} {dx:Addr} {mA:Str→Option Value} {ns:List Str} {oD:Obj} (X:K.In s.heap) (I:InstAt s.heap x ox C (some oD)) (G:vU K C) (hs:findIn K (.ref C) "__setattr__" = some (some (.builtin "object.__setattr__")))
    (hc:clsIn K C=some cd) (ho:cT cd.mro) (hh:cd.hasDict=true) (ht:takerIn K C name=some none) (hdn:ox.dict=some dx) (hN:s.heap.Ns1 dx mA) (hw:PySem.Within mA ns) (hsz:ns.length≤sizeLine)
    (h:∀ h' t,h'.Ns1 dx (fun y=>if y=name then some v else mA y)→Heap.SameBut dx s.heap h'→Q () { s with heap:=h',toks:=t }) :
    wpAny (model prog w) A (setAttr (.ref x) name v) Q E s:=by
  refine set_plain X I hs (jt (s:={ s with toks:=s.toks+1 }) (r:=none) X I G hc ho ht fun b=>?_)
  have hx:=I.at_
  have hcl:=I.cls
  obtain ⟨oc,odi,oda,osl⟩:=ox
  dsimp only at hcl hdn hx
  subst hcl hdn
  refine wpAny_bind (wpAny_pure (wpAny_bind (wpAny_bind (wpAny_loadPart hx (wpAny_bind (PySem.W.Looks.here (s:={ s with toks:=s.toks+1 }) (PySem.W.looks_clsIn X hc) ?_))))))
  rw [hh]
  refine wpAny_pure (a:=some dx) (wpAny_bind (wpAny_pure (wpAny_bind ?_)))
  refine wpAny_nsSet1 (s:={ s with toks:=s.toks+1 }) hN fun h' hn2 hs2=>?_
  obtain ⟨oD,esD,epD,hoD,hdD,hcD⟩:=hn2.count (PySem.Within.cons name v hw)
  refine wpAny_bind (wpAny_lookBehind hoD (by rw [hdD];exact pastItsLine_dict (Nq hcD (by rw [Nd];omega))) ?_)
  exact wpAny_pure (h _ _ hn2 hs2)
end
def ExN (x:Addr) (C:Value) (dx:Option Addr):Heap→Prop:=fun h=>∃ oe a0,h.get? x=some oe∧oe.cls=C∧oe.dict=dx∧oe.data = .fields #[.ref a0,.none,.none,.none,.bool false,.none]
abbrev gu (x:Addr) (C:Value) (dx:Option Addr):HO:=.ext (ExN x C dx)
def XdP (d:Addr) (fs:List (Str×V)):Heap→Prop:=fun h=>∃ mA,h.Ns1 d mA∧(∀ f,fB (fs.lookup f) (mA f))∧PySem.Within mA (fs.map (·.1))
abbrev XdO (d:Addr) (fs:List (Str×V)):HO:=.ext (XdP d fs)
def ers (H:Hp) (x:Addr):Hp:=fun b=>if b=x then none else H b
theorem lR {H:Hp} {x:Addr}:ers H x x=none:=if_pos rfl
theorem gI {H:Hp} {x b:Addr} (h:b≠x):ers H x b=H b:=if_neg h
theorem ExN.stay {x:Addr} {C:Value} {dx:Option Addr}:∀ h1 h2:Heap,ExN x C dx h1→(∀ ob,h1.get? x=some ob→h2.get? x=some ob)→ExN x C dx h2:=fun _ _ ⟨oe,a,e,b⟩ k=>⟨oe,a,k _ e,b⟩
theorem XdP.stay {d:Addr} {fs:List (Str×V)}:∀ h1 h2:Heap,XdP d fs h1→(∀ ob,h1.get? d=some ob→h2.get? d=some ob)→XdP d fs h2:=fun _ _ ⟨mA,N,r⟩ k=>⟨mA,N.at k,r⟩
section
variable {X:Cx} {pins:List (Addr×Obj)} {σ : St} {H:Hp} {s:Shared} {x C:Addr} {dx:Option Addr}
theorem yS {φ : Heap→Prop} (I:Inv X pins σ H s) (e:H x=some (.ext φ)):Inv X pins σ (ers H x) s:=by
  have nn:∀ b,H b=none→ers H x b=none:=fun b n=>by unfold ers;split <;> first | rfl | exact n
  have ne:∀ b u,H b=some u→(∀ ψ,u≠.ext ψ)→b≠x:=fun b u q n z=>by rw [z,e] at q;cases q;exact n _ rfl
  refine ⟨I.ok,I.os,I.bare,⟨I.base.keep,I.base.slot,fun b ob q n hx=>nn _ (I.base.free b ob q n hx),I.base.there,fun b xs q=>?_,fun b ob u q=>?_,fun b ps q=>?_⟩,I.loc,I.cell,nn _ I.free,fun y c q=>nn _ (I.freeC y c q),fun q hq=>?_,fun b u q=>?_,I.len⟩
  · have:=I.base.tups b xs q;rw [gI (ne _ _ this fun _ z=>by cases z)];exact this
  · have:=I.base.iS b ob u q;rw [gI (ne _ _ this fun _ z=>by cases z)];exact this
  · obtain ⟨m,h⟩:=I.base.i8 b ps q
    exact ⟨m,by rw [gI (ne _ _ h fun _ z=>by cases z)];exact h⟩
  · obtain ⟨a,b,r⟩:=I.pin q hq
    exact ⟨a,nn _ b,r⟩
  · by_cases z:b=x
    · rw [z,lR] at q;cases q
    · rw [gI z] at q
      exact (I.hok b u q).stay (fun _ _ _ r=>r) (fun c r=>by rw [gI (ne _ _ r fun _ z=>by cases z)];exact r) fun c xs r=>by rw [gI (ne _ _ r fun _ z=>by cases z)];exact r
end
structure tO (K:Frag) (mg:Str→Option Value) (R:Str) (CR:Addr):Prop where
  gm:mg R=some (.ref CR)
  sg:specialIn K (.ref CR) "__getattribute__" = some (some (.builtin "type.__getattribute__"))
  rd:readsIn K CR (.type "type")=true
  fc:findCls K (.ref CR) (.type "type") "__init__" = some (.val (.builtin "ValueError.__init__"))
def uL (K:Frag):RL:=fun vs H Q=>∃ (x C:Addr) (dx:Option Addr) (rest:List V),vs = .ref x::rest∧H x=some (gu x (.ref C) dx)∧d8 K C eF "ValueError.__new__" = true∧rest.length≤1000∧Q .non H
def zX (K:Frag) (t:TA):TE:=fun σ H Q=>t σ H fun vs H1=>uL K vs H1 Q
theorem C9 {H:Hp} {x:Addr} {o:HO} (h:H x=some o):upd H x o=H:=by
  funext b
  by_cases z:b=x
  · subst z;rw [aE,h]
  · rw [aF z]
section
variable {X:Cx}
theorem lA {R:Str} {CR:Addr} {np apos pos:Pos} {e:Expr} {es:List Expr} {t:TA} {pl:Sem Bool} (B:tO X.K X.mg R CR) (ha:PA X (e::es) t) (hg:Gl X R:=by rfl) (hdb:(R == ("__debug__" : Str))=false:=by decide)
    (hst:starEach (e::es) X.env=(false,eval e X.env)::starEach es X.env:=by rfl) (hpl:(backTo pos (starEach es X.env)).any (·.1)=false:=by rfl)
    (ht:eval (.Call (.Attribute (.Name R np) "__init__" apos) (e::es) [] pos) X.env=(do
      let ov ← eval (.Name R np) X.env
      standAt apos.atName
      let (f,first) ← holding [ov] (getMethod ov "__init__" pl)
      callWith pos f first (backTo pos (starEach (e::es) X.env)) (backToKw pos (keywordEach [] X.env))):=by rfl) :
    PE X (.Call (.Attribute (.Name R np) "__init__" apos) (e::es) [] pos) (zX X.K t):=by
  intro pins s σ H Q I h
  refine PySem.W.methodCall_KW (pl:=pl) (eG I hg B.gm ?_ hdb) ht
  refine method_cls I.kIn B.sg (cls_value I.kIn B.rd B.fc rfl ?_)
  have I0:=I.tok (s.toks+1)
  refine PyProof.Rows.callWith_method1 (first:=[]) (thn (ha pos pins _ σ H _ I0 h) fun us s1 ⟨vs,H1,I1,r,x,C,dx,rest,ev,hx,hC,hz,q⟩=>?_) hst hpl
  subst ev
  cases r with
  | @cons _ u _ us' r0 r1=>
    obtain rfl:u=Value.ref x:=r0
    obtain ⟨⟨oe,a0,e1,e2,e3,e4⟩,_⟩:=(show bP X.prog X.w H1 s1.heap x (gu x (.ref C) dx) from I1.hok x _ hx)
    obtain ⟨nm,q',N,bs,bm,hdct,sn,sub,ab,col,dd,k0,k1,k2,k3,k5,hCC,T⟩:=pZ I1.kIn hC
    have hl:us'.length≤sizeLine:=by rw [← r1.length];exact Nr (small1000 hz)
    obtain ⟨hp,g,d,tk,os⟩:=s1
    show wpAny (model X.prog X.w) X.A (call (.builtin "ValueError.__init__") (.ref x::us')) _ _ _
    refine sL PySem.F.excBase_ValueError T hCC e1 e2 e4 (Nat.zero_lt_succ _) rfl (fun h3 eh=>?_) hl
    obtain ⟨oc,odd,da,sl⟩:=oe
    dsimp only at e2 e3 e4
    subst e2 e3 e4
    have g3:=Heap.get?_update_self (Obj.mapFields (·.setIfInBounds 0 (.ref hp.objs.size))) (Heap.get?_push_of_some { cls:=.type "tuple",data:=.seq us'.toArray } e1) rfl
    rw [← eh] at g3
    have J:=I1.write (x:=x) (e:=x) (o:=gu x (.ref C) odd) (h':=h3) (t':=tk) (by rw [hx];exact True.intro) (.inl rfl) (fun b u nb hb=>by rw [eh,Heap.get?_update_other _ _ (Ne.symm nb)];exact Heap.get?_push_of_some _ hb) ⟨_,g3⟩ ⟨⟨_,_,g3,rfl,rfl,rfl⟩,⟨_,g3⟩,ExN.stay⟩
    rw [C9 hx] at J
    exact ⟨.non,H1,J,rfl,q⟩
end
structure ng (K:Frag) (C:Addr) (f:Str):Prop where
  g:vU K C
  sa:findIn K (.ref C) "__setattr__" = some (some (.builtin "object.__setattr__"))
  cd:∃ cd,clsIn K C=some cd∧cT cd.mro∧cd.hasDict=true
  tk:takerIn K C f=some none
def FP (K:Frag) (f:Str) (x y:V) (H:Hp) (R:Hp→Prop):Prop:=∃ a C dx,x = .ref a∧H a=some (gu a (.ref C) dx)∧ng K C f ∧
  (dx=none→∀ d,H d=none→R (upd (upd H a (gu a (.ref C) (some d))) d (XdO d [(f,y)])))∧∀ d,dx=some d→∃ fs,H d=some (XdO d fs)∧fs.length < 1000∧R (upd H d (XdO d (bO f y fs)))
def Gb (K:Frag) (ta tv:TE) (f:Str):TS:=fun D σ H=>tv σ H fun y H1=>ta σ H1 fun x H2=>FP K f x y H2 fun H3=>D.nx σ H3
section
variable {X:Cx} {pins:List (Addr×Obj)} {σ : St} {H:Hp} {s:Shared}
theorem Dl {A:Around} {E:Value→Shared→Prop} {f:Str} {a:Addr} {x y:V} {u:Value} {R:Hp→Prop} {Q:Unit→Shared→Prop} (I:Inv X pins σ H s) (ex:x = .ref a) (ry:RelV y u) (h:FP X.K f x y H R)
    (hq:∀ H' s',Inv X pins σ H' s'→R H'→Q () s'):wpAny (model X.prog X.w) A (setAttr (.ref a) f u) Q E s:=by
  obtain ⟨a',C,dx,ex',ha,P,h0,h1⟩:=h
  rw [ex] at ex'
  cases ex'
  obtain ⟨⟨oe,a0,e1,e2,e3,e4⟩,_⟩:=(show bP X.prog X.w H s.heap a (gu a (.ref C) dx) from I.hok a _ ha)
  obtain ⟨cd,c1,c2,c3⟩:=P.cd
  have nc:notCls oe=true:=by unfold notCls;rw [e4]
  cases dx with
  | none=>
    have J:InstAt s.heap a oe C none:=⟨e1,e2,nc,by rw [e3];trivial⟩
    refine Cg I.kIn J P.g P.sa c1 c2 c3 P.tk e3 e4 fun h' t b1 b2 b3=>?_
    have hd:=I.hok.fresh (NB s.heap.objs.size)
    have na:a≠s.heap.objs.size:=Nu (Heap.lt_size e1)
    have I1:=I.write (x:=a) (e:=a) (o:=gu a (.ref C) (some s.heap.objs.size)) (h':=h') (t':=t) (by rw [ha];exact True.intro) (.inl rfl) (fun b u nb hb=>b3 b u nb hb) ⟨_,b1⟩ ⟨⟨_,a0,b1,e2,rfl,e4⟩,⟨_,b1⟩,ExN.stay⟩
    have o1:gi X pins (upd H a (gu a (.ref C) (some s.heap.objs.size))) s.heap.objs.size:=fY I (NB _) (by rw [aF na.symm];exact hd)
    have pd:XdP s.heap.objs.size [(f,y)] h':=⟨_,b2,fun g=>by
      show fB (List.lookup g [(f,y)]) (if g=f then some u else none)
      by_cases z:g=f
      · subst z;rw [if_pos rfl,lk_hit];exact ry
      · rw [if_neg z,lk_miss (beq_eq_false_iff_ne.mpr z)];trivial,fun g hg=>by
      by_cases z:g=f
      · rw [z];exact M7
      · exact absurd (show (if g=f then some u else none)=none by rw [if_neg z]) hg⟩
    have I2:=yQ I1 o1 pd (let ⟨o,_,_,e,_⟩:=b2;⟨o,e⟩) XdP.stay
    exact hq _ _ I2 (h0 rfl _ hd)
  | some d=>
    obtain ⟨fs,hd,hz,r⟩:=h1 d rfl
    obtain ⟨⟨mA,N,rel,wi⟩,_⟩:=(show bP X.prog X.w H s.heap d (XdO d fs) from I.hok d _ hd)
    obtain ⟨oD,hoD⟩:∃ o,s.heap.get? d=some o:=let ⟨o,_,_,e,_⟩:=N;⟨o,e⟩
    have J:InstAt s.heap a oe C (some oD):=⟨e1,e2,nc,by rw [e3];exact hoD⟩
    have hz':(fs.map (·.1)).length≤sizeLine:=by rw [Nh,sizeLine_eq];omega
    refine Cf I.kIn J P.g P.sa c1 c2 c3 P.tk e3 N wi hz' fun h' t b2 sb=>?_
    refine hq _ _ (I.write (x:=d) (e:=d) (o:=XdO d (bO f y fs)) (h':=h') (t':=t) (by rw [hd];exact True.intro) (.inl rfl) (fun b u nb hb=>(sb.2 b nb).trans hb) (let ⟨o,_,_,e,_⟩:=b2;⟨o,e⟩) ⟨⟨_,b2,fun g=>?_,fun g hg=>?_⟩,(let ⟨o,_,_,e,_⟩:=b2;⟨o,e⟩),XdP.stay⟩) r
    · show fB ((bO f y fs).lookup g) (if g=f then some u else mA g)
      rw [gE]
      by_cases z:g=f
      · rw [if_pos z,if_pos z];exact ry
      · rw [if_neg z,if_neg z];exact rel g
    · by_cases z:g=f
      · rw [z];exact (fJ f y fs).1
      · refine (fJ f y fs).2 g (wi g fun n=>hg ?_)
        show (if g=f then some u else mA g)=none
        rw [if_neg z];exact n
theorem pG {o value:Expr} {f:Str} {pos pos':Pos} {ta tv:TE} (ha:PE X o ta) (hv:PE X value tv) (hs:swapsWith value (some (.Attribute o f pos')) pos.line X.env=pure false):PS X (.Assign [.Attribute o f pos'] value pos) (Gb X.K ta tv f):=by
  intro pins s σ H D I h
  refine plainObj_wpAny_Assign_Attribute (thn (hv pins s σ H _ I h) fun u s1 ⟨y,H1,I1,ry,q⟩=>thn (ha pins s1 σ H1 _ I1 q) fun ov s2 ⟨x,H2,I2,rx,q2⟩=>?_) hs
  obtain ⟨a,C,dx,ex,r⟩:=id q2
  subst ex
  obtain rfl:ov=Value.ref a:=rx
  exact Dl I2 rfl ry q2 fun H3 s3 I3 q3=>⟨σ,H3,I3,q3⟩
end
structure tN (P:Program) (w:World) (K:Frag) (mg:Str→Option Value) (base:Heap) (x:Str) (C:Addr) (k:Nat) (ps:List Str) (sp:Sp):Prop where
  ok:d8 K C eF "ValueError.__new__" = true
  kp:keepIn K (.ref C)=true
  gm:mg x=some (.ref C)
  fn:∃ f fd,findIn K (.ref C) "__init__" = some (some (.ref f))∧typeIn K (.ref f)=some (.type "function")∧e7 P w K mg base (CX1 P w) k f fd ps sp∧Binds K fd ps []
def Rz (C x:Addr) (Ex:XK) (r:V) (H:Hp):Prop:=r = .non∧∃ dx,H x=some (gu x (.ref C) dx)∧(dx=none→Ex (.ref C) none (ers H x))∧∀ d,dx=some d→∃ fs,H d=some (XdO d fs)∧d≠x∧Ex (.ref C) (some d) (upd (ers H x) d (.xd fs))
def wk (C:Addr) (sp:Sp) (Ex:St→XK) (tl:TA):TS:=fun _ σ H=>tl σ H fun vs H1=>vs.length≤1000∧∀ x,H1 x=none→sp (.ref x::vs) (upd H1 x (gu x (.ref C) none)) (Rz C x (Ex σ)) fun _ _ _=>False
theorem jF {X:Cx} {Ex:St→XK} {x:Str} {C:Addr} {k:Nat} {ps:List Str} {sp:Sp} {e:Expr} {es:List Expr} {t:TA} {np cpos pos:Pos} (O:tN X.prog X.w X.K X.mg X.base x C k ps sp) (hr:bX (k+1) X.A) (hc:X.calm=true) (hx:PaX X Ex) (ha:PA X (e::es) t) (hg:Gl X x:=by rfl)
    (hdb:(x == ("__debug__" : Str))=false:=by decide) (he:starEach (e::es) X.env=(false,eval e X.env)::starEach es X.env:=by rfl) (hpl:(backTo cpos (starEach es X.env)).any (·.1)=false:=by rfl) :
    PS X (.Raise (some (.Call (.Name x np) (e::es) [] cpos)) none pos) (wk C sp Ex t):=by
  intro pins s σ H D I h
  obtain ⟨f,fd,fi,ft,F,fb⟩:=O.fn
  obtain ⟨nm,q,N,bs,bm,hdct,sn,sub,ab,col,dd,k0,k1,k2,k3,k5,hC,T⟩:=pZ I.ok.mod.kin O.ok
  rw [arm_exec_Raise]
  refine wpAny_bind (wpAny_standAt (lq (C:=C) (nm:=nm) (q:=q) (N:=N) (bs:=bs) (bm:=bm) (hdct:=hdct) (sn:=sn) (sub:=sub) (ab:=ab) (col:=col) (dd:=dd) (k0:=k0) (k1:=k1) (k2:=k2) (k3:=k3) (k5:=k5) (newId:="ValueError.__new__") (T.hasType (by decide +kernel)) (I.ok.hd hc) (wpAny_bind ?_)))
  refine wpAny_Call_Name_kw (eG I hg O.gm ?_ hdb)
  refine callWith_K (h₀:=X.base) I.ok.mod.kin O.kp (thn (ha cpos pins s σ H _ I h) fun us s1 ⟨vs,H1,I1,r,hz,qx⟩=>⟨I1.kIn,?_⟩) he hpl
  have hl:us.length≤sizeLine:=by rw [← r.length];exact Nr (small1000 hz)
  have T1:=T.keeps I1.bk
  have hC1:=I1.bk _ _ hC
  have nx:=I1.hok.fresh (ND s1.heap.objs.size)
  have hq:=qx _ nx
  have I2:=I1.laid (a:=s1.heap.objs.size+1) (o:=gu (s1.heap.objs.size+1) (.ref C) none) (h':=vD s1.heap C us) (t':=s1.toks) cW (ND _) ⟨⟨_,_,gH,rfl,rfl,rfl⟩,⟨_,gH⟩,ExN.stay⟩
  have r2:Vals (V.ref (s1.heap.objs.size+1)::vs) (Value.ref (s1.heap.objs.size+1)::us):=.cons rfl r
  have hl2:(Value.ref (s1.heap.objs.size+1)::us).length=ps.length:=by rw [← r2.length];exact F.len _ _ _ _ hq
  have hb':=fb _ (Value.ref (s1.heap.objs.size+1)::us) I2.kIn (by rw [Nk];exact hl2)
  rw [Nk] at hb'
  obtain ⟨hp,g,d,tk,os⟩:=s1
  show wpAny (model X.prog X.w) X.A (call (.ref C) us) _ _ _
  refine sN PySem.F.excBase_ValueError T1 hC1 (looks_findIn I1.kIn fi) (fun self=>bind_fn I1.kIn self ft) ?_ hl
  refine wpAny_call (codeAny_mono (F.run _ X.stack _ _ ⟨Value.ref (hp.objs.size+1)::us,[]⟩ (Value.ref (hp.objs.size+1)::us) _ _ (fun _ _ _=>False) (hr.make C us []) (I2.Fo.make C us []) hb' r2 hq) fun r s' hq'=>?_)
  cases r with
  | error e=>exact (u0 _ _ _ _ _ hq').elim
  | ok fl=>
    cases fl with
    | ret u=>
      obtain ⟨v,H3,I3,rv,ev,dx,hx3,q0,q1⟩:=I2.after hq'
      subst ev
      refine ⟨rv,?_⟩
      obtain ⟨⟨oe,a0,e1,e2,e3,e4⟩,_⟩:=(show bP X.prog X.w H3 s'.heap (hp.objs.size+1) (gu (hp.objs.size+1) (.ref C) dx) from I3.hok _ _ hx3)
      have ea:ExcAt s'.heap (hp.objs.size+1) (.ref C) dx none .none:=⟨oe,_,e1,e2,e3,e4,rfl,fun t ht=>by cases ht⟩
      have I4:=yS I3 hx3
      have hCs:=I3.bk _ _ hC
      refine wpAny_bind (wpAny_standAt (wpAny_pure ⟨_,oe,_,rfl,hCs,e1,e2,e4,rfl,hx _ _ ?_⟩))
      cases dx with
      | none=>exact ⟨pins,σ,_,hp.objs.size+1,.ref C,none,none,.none,rfl,I4,ea,.inl rfl,fY I1 (ND _) lR,(fun t ht=>by cases ht),q0 rfl⟩
      | some d=>
        obtain ⟨fs,hd,nd,qd⟩:=q1 d rfl
        obtain ⟨⟨mA,N',rel,_⟩,od,_⟩:=(show bP X.prog X.w H3 s'.heap d (XdO d fs) from I3.hok _ _ hd)
        have hd4:ers H3 (hp.objs.size+1) d=some (XdO d fs):=by rw [gI nd];exact hd
        have I5:=I4.write (x:=d) (e:=d) (o:=.xd fs) (h':=s'.heap) (t':=s'.toks) (by rw [hd4];exact True.intro) (.inl rfl) (fun b u _ hb=>hb) od ⟨mA,N',rel⟩
        exact ⟨pins,σ,_,hp.objs.size+1,.ref C,some d,none,.none,rfl,I5,ea,.inl rfl,fY I1 (ND _) (by rw [aF (Ne.symm nd)];exact lR),(fun t ht=>by cases ht),qd⟩
    | _=>exact False.elim hq'
structure xK (k:Nat) (A:Around):Prop where
  dp:A.depth+3 * k+5 < recursionLimit
  un:A.units+16 * k+200 < cLine
theorem xK.mark {k:Nat} {A:Around} (r:xK k A) (h:Option Value):xK k (A.mark h):=⟨r.dp,r.un⟩
structure Lx (P:Program) (w:World) (K:Frag) (mg:Str→Option Value) (base:Heap) (CX:CXT) (k:Nat) (f:Addr) (fd:FuncData) (ps:List Str) (sp:Sp):Prop where
  len:∀ vs H Q E,sp vs H Q E→vs.length=ps.length
  run:∀ (A:Around) (outer:List Env) (s:Shared) (H:Hp) (args:Args) (us:List Value) (vs:List V) (Q:VK) (E:XK),xK k A→tM P w K mg base A outer s H→BindsTo s fd args (ps.zip us)→Vals vs us→sp vs H Q E →
    codeAny (model P w) A (.call (.ref f) args) (CR CX outer P w H s Q E) s
structure MN (P:Program) (w:World) (K:Frag) (mg:Str→Option Value) (base:Heap) (CX:CXT) (x:Str) (k:Nat) (ps:List Str) (sp:Sp):Prop where
  ex:∃ f fd,Lx P w K mg base CX k f fd ps sp∧Binds K fd ps []∧PySem.W.keepIn K (.ref f)=true∧mg x=some (.ref f)
theorem Di {α : Type} {o:Option α} {x : α} (e:o=some x):o.isSome=true:=by rw [e];rfl
theorem g8 {K:Frag} {C:Addr} {bmB:List Value} {newId:String} (q:excIn K C bmB newId=true):d8 K C bmB newId=true:=by
  unfold excIn at q
  unfold d8
  split at q
  · rename_i dd cd sl ho
    split at q
    · rename_i C' bm k0 k1 k2 k3 n k5 hm hs
      simp only [Bool.and_eq_true] at q
      simp only [ho,hm,hs,Bool.and_eq_true]
      exact q.1.1
    · cases q
  · cases q
theorem Ci {K:Frag} {C CR:Addr} {newId:String} {dd:Option Addr} {cd:ClassData} {k0 k1 k2 k3 k5:Option Value} (l:K.lookup C=some ⟨.type "type",dd,.cls cd,#[k0,k1,k2,k3,some (.builtin newId),k5]⟩) (hm:cd.mro = .ref C::.ref CR::eF) (EN:cd.hasDel=false) (q:excIn K CR eF newId=true):d8 K C eF newId=true:=by
  have hv:tailIn K eF eF=true:=by
    show tailIn K eF (.type "ValueError" :: [.type "Exception",.type "BaseException",.type "object"])=true
    unfold tailIn
    rw [show ((Value.type "ValueError" :: [Value.type "Exception",.type "BaseException",.type "object"]) == eF)=true from beq_self_eq_true eF,Bool.true_or]
  have ht:tailIn K eF (.ref CR::eF)=true:=by
    unfold excIn at q
    unfold tailIn
    refine Bool.or_eq_true_iff.mpr (.inr ?_)
    split at q
    · rename_i ho
      split at q
      · simp only [Bool.and_eq_true] at q
        simp only [ho,Bool.and_eq_true]
        exact ⟨⟨q.1.2,q.2⟩,hv⟩
      · cases q
    · cases q
  unfold d8
  simp only [l,hm]
  simp [EN,ht]
theorem cT.two {C CR:Addr}:cT (.ref C::.ref CR::eF):=.own (.own .base)
structure qu (K:Frag) (mg:Str→Option Value) (x qual:Str) (C:Addr) (st:Stmt) (ps:List Str):Prop where
  ok:d8 K C eF "ValueError.__new__" = true
  kp:keepIn K (.ref C)=true
  gm:mg x=some (.ref C)
  ex:∃ f fd,Fun K "__init__" qual st f fd∧Binds K fd ps []∧findIn K (.ref C) "__init__" = some (some (.ref f))∧typeIn K (.ref f)=some (.type "function")
section
variable {P:Program} {w:World} {K:Frag} {mg:Str→Option Value} {base:Heap} {x qual:Str} {C:Addr} {st:Stmt} {N ps:List Str} {k:Nat} {sp:Sp}
theorem Fp {h:Heap} (X:K.In h) (G:h.Ns mainGlobals mg) {f:Addr} {oc:Value} {od an:Option Addr} {osl:Array (Option Value)} {kV doc pm cdv ct:Value} (aC:nsIn K mainGlobals x=some (some (.ref C))) (o:d8 K C eF "ValueError.__new__" = true)
    (a:findIn K (.ref C) "__init__" = some (some (.ref f))) (i:typeIn K (.ref f)=some (.type "function"))
    (l:K.lookup f=some ⟨oc,od,.func (fnOf "__init__" qual (bK st) (bq st) (aj st) .none kV doc pm an cdv ct),osl⟩) (c:codeIn K cdv qual=true) (kp:keepIn K (.ref f)=true) (kc:keepIn K (.ref C)=true)
    (b:∀ (kV doc pm:Value) (an:Option Addr) (cdv ct:Value) (us:List Value),us.length=ps.length→bindArgs (fnOf "__init__" qual (bK st) (bq st) (aj st) .none kV doc pm an cdv ct) ⟨us,[]⟩=pure (ps.zip us)):qu K mg x qual C st ps:=by
  have F:=pW (st:=st) l c kp
  exact ⟨o,kc,mg_of X G aC,f,_,F,F.binds b,a,i⟩
theorem qu.ok' (D:qu K mg x qual C st ps) (S:aq N ps (aj st)) (len:∀ vs H Q E,sp vs H Q E→vs.length=ps.length)
    (hbody:∀ (f:Addr) (cdv:Value) (A:Around) (outer:List Env) (s:Shared) (H:Hp) (vs:List V) (Q:VK) (E:XK),bX k (A.deeper (envOfC qual (aj st) s.heap.objs.size f cdv))→sp vs H Q E →
      ∃ t,PSs (aZ (CX1 P w) P w K mg base N qual (aj st) f cdv A outer s H E).nox (bq st) t∧t { nx:=fun _ H'=>Q .non H',rt:=Q } (start N vs) H):tN P w K mg base x C (k+1) ps sp:=by
  obtain ⟨f,fd,F,b,a,i⟩:=D.ex
  exact ⟨D.ok,D.kp,D.gm,f,fd,a,i,lO F S len hbody,b⟩
end
section
variable {K:Frag} {σ : St} {H:Hp} {Q:VK} {D:Ends} {tl:TA} {ta tv:TE} {sp:Sp} {Ex:St→XK} {C:Addr}
theorem Fj (h:tl σ H fun vs H1=>uL K vs H1 Q):zX K tl σ H Q:=h
theorem lN {x:Addr} {dx:Option Addr} {v:V} (e:H x=some (gu x (.ref C) dx)) (k:d8 K C eF "ValueError.__new__" = true) (h:Q .non H):uL K [.ref x,v] H Q:=⟨x,C,dx,[v],rfl,e,k,(by show 1≤1000;decide),h⟩
theorem EZ {f:Str} (h:tv σ H fun y H1=>ta σ H1 fun x H2=>FP K f x y H2 fun H3=>D.nx σ H3):Gb K ta tv f D σ H:=h
theorem vp {f:Str} {a:Addr} {y:V} {R:Hp→Prop} (e:H a=some (gu a (.ref C) none)) (P:ng K C f) (h:∀ d,H d=none→R (upd (upd H a (gu a (.ref C) (some d))) d (XdO d [(f,y)]))):FP K f (.ref a) y H R:=⟨a,C,none,rfl,e,P,fun _=>h,fun d z=>by cases z⟩
def xM (C:Addr) (sp:Sp) (Ex:XK) (vs:List V) (H:Hp):Prop:=vs.length≤1000∧∀ x,H x=none→sp (.ref x::vs) (upd H x (gu x (.ref C) none)) (Rz C x Ex) fun _ _ _=>False
theorem BV (h:tl σ H fun vs H1=>xM C sp (Ex σ) vs H1):wk C sp Ex tl D σ H:=h
def fS (C:Addr) (f:Str):Sp:=fun vs H Q _=>∃ x v,vs=[.ref x,v]∧H x=some (gu x (.ref C) none)∧∀ d,H d=none→Q .non (upd (upd H x (gu x (.ref C) (some d))) d (XdO d [(f,v)]))
theorem g5 {E:XK} {v:V} {f:Str} (h:∀ d H',aI H H'→H' d=some (.xd [(f,v)])→E (.ref C) (some d) H'):xM C (fS C f) E [v] H:=by
  refine ⟨(by show 1≤1000;decide),fun x nx=>⟨x,v,rfl,aE,fun d nd=>⟨rfl,some d,?_,(fun z=>by cases z),fun d' z=>?_⟩⟩⟩
  · have ne:x≠d:=fun z=>by rw [z,aE] at nd;cases nd
    rw [aF ne,aE]
  · cases z
    have ne:d≠x:=fun z=>by rw [z,aE] at nd;cases nd
    have nd':H d=none:=by rw [aF ne] at nd;exact nd
    refine ⟨_,aE,ne,h d _ (fun b o e=>?_) aE⟩
    rw [aF (aG e nd'),gI (aG e nx),aF (aG e nd'),aF (aG e nx),aF (aG e nx)]
    exact e
end
section
theorem zL {l:PySem.W.OpenLaw} {n k:Nat} {q:Program} {loose:List Str} {XP:(Str→Option Value)→Heap→Prop} {YP:World→Heap→Prop} {d:DefRec} {K:Params→PySem.W.Frag} {CX:Program→World→CXT} {sp:PySem.W.Frag→Sp} {x:Str}
    (hn:l.most=some n) (hn2:n≤sizeLine) (hdf:d.params.defaults=[]) (hr:bX k callerA)
    (hY:∀ (w:World) (h:Heap),YP w h→(K w.params).In h)
    (F:∀ (w:World) (mg:Str→Option Value) (fa:Addr) (h:Heap),(K w.params).In h→h.Ns mainGlobals mg→mg d.name=some (.ref fa) →
      ∃ fd:FuncData,(∀ (s:Shared) (u:Value),BindsTo s fd ⟨[u],[]⟩ [(x,u)]) ∧
        ∀ base:Heap,(K w.params).In base→base.Ns mainGlobals mg→e7 l.prog w (K w.params) mg base (CX l.prog w) k fa fd [x] (sp (K w.params)))
    (hsp:∀ (K:PySem.W.Frag) (H:Hp) (a:Addr) (ns:List Int),ns.length≤n→FT H→SqL K H a (ns.map V.int)→sp K [.ref a] H (fun v _=>v = .bl true) fun _ _ _=>False)
    (hCX:∀ (P:Program) (w:World) (H:Hp) (s:Shared) (e:Value) (s':Shared),CX P w [] H s (fun _ _ _=>False) e s'→False) :
    PySem.W.WalkO q loose XP YP l.row.toRowW d [] (fun f vs=>PySem.call f vs):=
  C7 (K:=K) (CX:=fun w=>CX l.prog w) (sp:=fun w=>sp (K w.params)) hn hn2 hdf hr hY F (fun w H a ns h1 h2 h3=>hsp (K w.params) H a ns h1 h2 h3) fun w H s e s'=>hCX l.prog w H s e s'
end
end L4
namespace L4
open PySem PySem.Spec PyProof.Rows L2 L3
theorem GJ {bs:List Bool} {us:List Value} (rv:Vals (bs.map V.bl) us) {i:Nat} {v:Value} (e:us[i]?=some v):∃ b,bs[i]?=some b∧v = .bool b:=by
  have hi:i < bs.length:=by
    have h1:=(List.getElem?_eq_some_iff.mp e).1
    have h2:=rv.length
    rw [Nh] at h2
    omega
  obtain ⟨u,hu,ru⟩:=rv.get (i:=i) (x:=V.bl bs[i]) (by rw [Nb,MT hi];rfl)
  rw [e] at hu
  cases hu
  cases ru
  exact ⟨_,MT hi,rfl⟩
theorem uK (bs:List Bool):((List.range bs.length).all fun i=>(bs[i]?).getD true)=bs.all id:=by
  rw [Bool.eq_iff_iff,List.all_eq_true,List.all_eq_true]
  constructor
  · intro h b hb
    obtain ⟨i,hi,e⟩:=M5 hb
    have:=h i (List.mem_range.mpr hi)
    rw [MT hi,Option.getD_some,e] at this
    exact this
  · intro h i hi
    have hi':=List.mem_range.mp hi
    rw [MT hi',Option.getD_some]
    exact h _ (List.getElem_mem hi')
theorem uJ (bs:List Bool):((List.range bs.length).any fun i=>(bs[i]?).getD false)=bs.any id:=by
  rw [Bool.eq_iff_iff,List.any_eq_true,List.any_eq_true]
  constructor
  · rintro ⟨i,hi,e⟩
    have hi':=List.mem_range.mp hi
    rw [MT hi',Option.getD_some] at e
    exact ⟨_,List.getElem_mem hi',e⟩
  · rintro ⟨b,hb,e⟩
    obtain ⟨i,hi,rfl⟩:=M5 hb
    exact ⟨i,List.mem_range.mpr hi,by rw [MT hi,Option.getD_some];exact e⟩
theorem xh {s:Shared} {h':Heap} {o:Obj} (hk:∀ b x,b∉[s.heap.objs.size]→(s.heap.push o).get? b=some x→h'.get? b=some x):∀ b x,s.heap.get? b=some x→h'.get? b=some x:=
  fun b x e=>hk b x (fun hm=>by rw [List.mem_singleton.mp hm] at e;exact Nat.lt_irrefl _ (Heap.lt_size e)) (Heap.get?_push_of_some _ e)
def Km (K:PySem.W.Frag):RL:=fun xs H Q=>∃ (p:Addr) (bs:List Bool),xs=[.ref p]∧SqL K H p (bs.map V.bl)∧Q (.bl (bs.all id)) H
def Kl (K:PySem.W.Frag):RL:=fun xs H Q=>∃ (p:Addr) (bs:List Bool),xs=[.ref p]∧SqL K H p (bs.map V.bl)∧Q (.bl (bs.any id)) H
section
variable {X:Cx}
theorem Cr (hc:X.calm=true):cH X (.builtin "all") (Km X.K):=by
  intro pins s σ H xs us Q I r h
  obtain ⟨p,bs,rfl,hq,q⟩:=h
  obtain ⟨u,rfl,rx⟩:=vals1 r
  cases rx
  obtain ⟨its,rv,pl,hz⟩:=I.list hq
  have hl:=pl.isList
  have hlt:p < s.heap.objs.size:=by obtain ⟨_,e,_⟩:=hl;exact Heap.lt_size e
  have hlen:its.length=bs.length:=by rw [← rv.length,Nh]
  refine call_all_walk (wpAny_pyIter_list hl ?_)
  refine ⟨s.heap.objs.size,[s.heap.objs.size,p],[s.heap.objs.size],its.toArray.size,_,_,fun i=>(bs[i]?).getD true,rfl,Walks.list (A:=X.A.in1) (I.ok.hd hc) _ p (Nu hlt) its.toArray,
    ⟨⟨_,Heap.get?_push_size _ rfl,rfl,rfl⟩,hl.push _⟩,fun i v s' Q' E' hP hQ=>?_,fun h' tk hk=>?_⟩
  · obtain ⟨b,e,rfl⟩:=GJ rv (i:=i) (v:=v) (by simpa using hP)
    simp only [e,Option.getD_some] at hQ
    exact wpAny_truthy_bool hQ
  · have e:((List.range its.toArray.size).all fun i=>(bs[i]?).getD true)=bs.all id:=by
      rw [Na,hlen];exact uK bs
    rw [e]
    exact ⟨.bl _,H,I.kept (xh hk),rfl,q⟩
theorem sZ (hc:X.calm=true):cH X (.builtin "any") (Kl X.K):=by
  intro pins s σ H xs us Q I r h
  obtain ⟨p,bs,rfl,hq,q⟩:=h
  obtain ⟨u,rfl,rx⟩:=vals1 r
  cases rx
  obtain ⟨its,rv,pl,hz⟩:=I.list hq
  have hl:=pl.isList
  have hlt:p < s.heap.objs.size:=by obtain ⟨_,e,_⟩:=hl;exact Heap.lt_size e
  have hlen:its.length=bs.length:=by rw [← rv.length,Nh]
  refine call_any_walk (wpAny_pyIter_list hl ?_)
  refine ⟨s.heap.objs.size,[s.heap.objs.size,p],[s.heap.objs.size],its.toArray.size,_,_,fun i=>(bs[i]?).getD false,rfl,Walks.list (A:=X.A.in1) (I.ok.hd hc) _ p (Nu hlt) its.toArray,
    ⟨⟨_,Heap.get?_push_size _ rfl,rfl,rfl⟩,hl.push _⟩,fun i v s' Q' E' hP hQ=>?_,fun h' tk hk=>?_⟩
  · obtain ⟨b,e,rfl⟩:=GJ rv (i:=i) (v:=v) (by simpa using hP)
    simp only [e,Option.getD_some] at hQ
    exact wpAny_truthy_bool hQ
  · have e:((List.range its.toArray.size).any fun i=>(bs[i]?).getD false)=bs.any id:=by
      rw [Na,hlen];exact uJ bs
    rw [e]
    exact ⟨.bl _,H,I.kept (xh hk),rfl,q⟩
theorem g4 {K:PySem.W.Frag} (h:X.K=K):IxR X (DP K):=h▸au
end
section
variable {K:PySem.W.Frag} {H:Hp} {Q:VK} {p:Addr} {P:Addr→Prop} {H0:Hp} {l:List (Addr×Ob)} {fs:List Pr} {a b:Addr} {xs ys:List V}
theorem IW {bs:List Bool} (s:SqL K H p (bs.map V.bl)) (h:Q (.bl (bs.all id)) H):Km K [.ref p] H Q:=⟨p,bs,rfl,s,h⟩
theorem Ca {bs:List Bool} (s:SqL K H p (bs.map V.bl)) (h:Q (.bl (bs.any id)) H):Kl K [.ref p] H Q:=⟨p,bs,rfl,s,h⟩
end
end L4
namespace L4
open PySem PySem.Spec PyProof.Rows L2 L3 PySem.W
structure bw (P:Program) (w:World) (K:Frag) (mg:Str→Option Value) (base:Heap) (CX:CXT) (C:Addr) (m:Str) (k:Nat) (ps:List Str) (sp:Sp):Prop where
  cl:Cls K C
  ex:∃ f fd,Meth K C m f∧e7 P w K mg base CX k f fd ps sp∧Binds K fd ps []
section
variable {P:Program} {w:World} {K:Frag} {mg:Str→Option Value} {base:Heap} {CX:CXT} {x qual:Str} {C:Addr} {st:Stmt} {N ps:List Str} {k j:Nat} {sp sp':Sp}
theorem cE (D:bV K C x qual st ps) (S:aq N ps (aj st)) (len:∀ vs H Q E,sp vs H Q E→vs.length=ps.length)
    (hbody:∀ (f:Addr) (cdv:Value) (A:Around) (outer:List Env) (s:Shared) (H:Hp) (vs:List V) (Q:VK) (E:XK),bX k (A.deeper (envOfC qual (aj st) s.heap.objs.size f cdv))→sp vs H Q E →
      ∃ t,PSs (aZ CX P w K mg base N qual (aj st) f cdv A outer s H E).nox (bq st) t∧t { nx:=fun _ H'=>Q .non H',rt:=Q } (start N vs) H):bw P w K mg base CX C x (k+1) ps sp:=by
  obtain ⟨f,fd,F,b,m,c⟩:=D.ex
  exact ⟨c,f,fd,m,lO F S len hbody,b⟩
theorem cG (D:bV K C x qual st ps) (S:aq N ps (aj st)) (len:∀ vs H Q E,sp vs H Q E→vs.length=ps.length)
    (hbody:∀ (f:Addr) (cdv:Value) (A:Around) (outer:List Env) (s:Shared) (H:Hp) (vs:List V) (Q:VK) (E:XK),bX k (A.deeper (envOfC qual (aj st) s.heap.objs.size f cdv))→sp vs H Q E →
      ∃ t,PSs (xcx (aZ (CX1 P w) P w K mg base N qual (aj st) f cdv A outer s H E) (fun _=>E)) (bq st) t∧t { nx:=fun _ H'=>Q .non H',rt:=Q } (start N vs) H):bw P w K mg base (CX1 P w) C x (k+1) ps sp:=by
  obtain ⟨f,fd,F,b,m,c⟩:=D.ex
  obtain ⟨oc,od,kV,doc,pm,an,cdv,ct,osl,rfl,lk,hcd⟩:=F.ex
  refine ⟨c,f,_,m,sJ lk hcd S len fun A outer s H vs Q E hr hsp=>?_,b⟩
  obtain ⟨t,ht,q⟩:=hbody f cdv A outer s H vs Q E hr hsp
  exact ⟨t,L4.PSs.x ht qA,q⟩
theorem bJ {f:Addr} {oc:Value} {od an:Option Addr} {osl:Array (Option Value)} {kV doc pm cdv ct:Value} (c:Cls K C) (a:findIn K (.ref C) x=some (some (.ref f))) (i:isFn K (.ref f)=true)
    (l:K.lookup f=some ⟨oc,od,.func (fnOf x qual (bK st) (bq st) (aj st) .none kV doc pm an cdv ct),osl⟩) (cd:codeIn K cdv qual=true) (kp:keepIn K (.ref f)=true)
    (b:∀ (kV doc pm:Value) (an:Option Addr) (cdv ct:Value) (us:List Value),us.length=ps.length→bindArgs (fnOf x qual (bK st) (bq st) (aj st) .none kV doc pm an cdv ct) ⟨us,[]⟩=pure (ps.zip us)):bV K C x qual st ps:=by
  have F:=pW (st:=st) l cd kp
  exact ⟨f,_,F,F.binds b,⟨a,i,kp⟩,c⟩
end
section
variable {X:Cx} {CX:CXT} {k:Nat} {C:Addr} {ps:List Str} {sp:Sp} {E:XK} {Ex:St→XK} {m:Str} {pos apos:Pos} {e o:Expr} {es:List Expr} {ta:TE} {t:TA}
theorem eT {pl:Sem Bool} (M:bw X.prog X.w X.K X.mg X.base CX C m k ps sp) (hr:bX k X.A) (hx:Passes CX X E) (he:PE X o ta) (ha:PA X (e::es) t)
    (hst:starEach (e::es) X.env=(false,eval e X.env)::starEach es X.env:=by rfl) (hpl:(backTo pos (starEach es X.env)).any (·.1)=false:=by rfl)
    (ht:eval (.Call (.Attribute o m apos) (e::es) [] pos) X.env=(do
      let ov ← eval o X.env
      standAt apos.atName
      let (f,first) ← holding [ov] (getMethod ov m pl)
      callWith pos f first (backTo pos (starEach (e::es) X.env)) (backToKw pos (keywordEach [] X.env))):=by rfl) :
    PE X (.Call (.Attribute o m apos) (e::es) [] pos) (qF C m sp [] E ta t):=by
  obtain ⟨f,fd,hm,F,b⟩:=M.ex
  exact DW he M.cl hm F hr b .nil hx ha hst hpl ht
theorem cV {pl:Sem Bool} (M:bw X.prog X.w X.K X.mg X.base CX C m k ps sp) (hr:bX k X.A) (hx:Passes CX X E) (he:PE X o ta)
    (ht:eval (.Call (.Attribute o m apos) [] [] pos) X.env=(do
      let ov ← eval o X.env
      standAt apos.atName
      let (f,first) ← holding [ov] (getMethod ov m pl)
      callWith pos f first (backTo pos (starEach [] X.env)) (backToKw pos (keywordEach [] X.env))):=by rfl) :
    PE X (.Call (.Attribute o m apos) [] [] pos) (qF C m sp [] E ta oK):=by
  obtain ⟨f,fd,hm,F,b⟩:=M.ex
  exact A1 he M.cl hm F hr b .nil hx ht
def uc (C:Addr) (m:Str) (sp:Sp) (Ex:St→XK) (ta:TE) (t:TA):TE:=fun σ H Q=>ta σ H fun x H1=>∃ a dx fs,x = .ref a∧H1 a=some (.ins C dx fs)∧fs.lookup m=none∧t σ H1 fun vs H2=>sp (x::vs) H2 Q (Ex σ)
theorem gC {pl:Sem Bool} (M:bw X.prog X.w X.K X.mg X.base (CX1 X.prog X.w) C m k ps sp) (hr:bX k X.A) (hx:PaX X Ex) (he:PE X o ta) (ha:PA X (e::es) t)
    (hst:starEach (e::es) X.env=(false,eval e X.env)::starEach es X.env:=by rfl) (hpl:(backTo pos (starEach es X.env)).any (·.1)=false:=by rfl)
    (ht:eval (.Call (.Attribute o m apos) (e::es) [] pos) X.env=(do
      let ov ← eval o X.env
      standAt apos.atName
      let (f,first) ← holding [ov] (getMethod ov m pl)
      callWith pos f first (backTo pos (starEach (e::es) X.env)) (backToKw pos (keywordEach [] X.env))):=by rfl) :
    PE X (.Call (.Attribute o m apos) (e::es) [] pos) (uc C m sp Ex ta t):=by
  obtain ⟨f,fd,hm,F,b⟩:=M.ex
  intro pins s σ H Q I h
  refine methodCall_KW (pl:=pl) (thn (he pins s σ H _ I h) fun u s1 ⟨x,H1,I1,rx,a,dx,fs,ex,ea,l,q⟩=>?_) ht
  subst ex
  obtain rfl:u=Value.ref a:=rx
  refine gc I1 ea M.cl hm l ?_
  refine callWith_K (first:=[.ref a]) (h₀:=X.base) I.ok.mod.kin hm.kp (thn (ha pos pins s1 σ H1 _ I1 q) fun us s2 ⟨vs,H2,I2,r,q2⟩=>⟨I2.kIn,?_⟩) hst hpl
  exact pe (us:=.ref a::us) (vs:=.ref a::vs) F hr b hx I2 (.cons rfl r) q2
theorem jf {pl:Sem Bool} (M:bw X.prog X.w X.K X.mg X.base (CX1 X.prog X.w) C m k ps sp) (hr:bX k X.A) (hx:PaX X Ex) (he:PE X o ta)
    (ht:eval (.Call (.Attribute o m apos) [] [] pos) X.env=(do
      let ov ← eval o X.env
      standAt apos.atName
      let (f,first) ← holding [ov] (getMethod ov m pl)
      callWith pos f first (backTo pos (starEach [] X.env)) (backToKw pos (keywordEach [] X.env))):=by rfl) :
    PE X (.Call (.Attribute o m apos) [] [] pos) (uc C m sp Ex ta oK):=by
  obtain ⟨f,fd,hm,F,b⟩:=M.ex
  intro pins s σ H Q I h
  refine methodCall_KW (pl:=pl) (thn (he pins s σ H _ I h) fun u s1 ⟨x,H1,I1,rx,a,dx,fs,ex,ea,l,q⟩=>?_) ht
  subst ex
  obtain rfl:u=Value.ref a:=rx
  refine gc I1 ea M.cl hm l ?_
  exact callWith_K0 (first:=[.ref a]) I1.kIn hm.kp (pe (us:=[.ref a]) (vs:=[.ref a]) F hr b hx I1 (.cons rfl .nil) q)
theorem G4 {x:Str} {p:Pos} (M:Mak X.prog X.w X.K X.mg X.base CX x C k ps sp) (hr:bX (k+1) X.A) (hx:Passes CX X E) (hg:Gl X x:=by rfl)
    (hdb:(x == ("__debug__" : Str))=false:=by decide):PE X (.Call (.Name x p) [] [] pos) (kQ C sp [] E oK):=by
  obtain ⟨f,fd,m,F,b,g⟩:=M.ex
  exact A2 m F hr hg g b .nil hx hdb
def Mth (C:Addr) (m:Str) (sp:Sp) (E:XK) (t:TA) (σ : St) (x:V) (H:Hp) (Q:VK):Prop:=∃ a dx fs,x = .ref a∧H a=some (.ins C dx fs)∧fs.lookup m=none∧t σ H fun vs H2=>sp (x::vs) H2 Q E
theorem IB {σ : St} {H:Hp} {Q:VK} (h:ta σ H fun x H1=>Mth C m sp E t σ x H1 Q):qF C m sp [] E ta t σ H Q:=by
  have e:(fun x H1=>Mth C m sp E t σ x H1 Q)=fun x H1=>∃ a dx fs,x = .ref a∧H1 a=some (.ins C dx fs)∧fs.lookup m=none∧t σ H1 fun vs H2=>sp (x::(vs++[])) H2 Q E:=by
    funext x H1
    unfold Mth
    simp only [Nk]
  rw [e] at h
  exact h
theorem E5 {σ : St} {H:Hp} {Q:VK} (h:ta σ H fun x H1=>Mth C m sp (Ex σ) t σ x H1 Q):uc C m sp Ex ta t σ H Q:=h
theorem aV {σ : St} {H:Hp} {Q:VK} {a dx:Addr} {fs:List (Str×V)} (hx:H a=some (.ins C dx fs)) (hl:fs.lookup m=none) (h:t σ H fun vs H2=>sp (.ref a::vs) H2 Q E):Mth C m sp E t σ (.ref a) H Q:=⟨a,dx,fs,rfl,hx,hl,h⟩
end
end L4
namespace L4
open PySem PySem.Spec PyProof.Rows L2 L3
section
variable {K:PySem.W.Frag} {P:Addr→Prop} {H0 H:Hp} {l l':List (Addr×Ob)} {fs:List Pr} {Q:VK} {σ : St} {r r':R2} {ta tb tc te:TE} {ts:TO} {tl:TA}
theorem Fg (h:ta σ H fun x H1=>tb σ H1 fun y H2=>r x y H2 fun z H3=>IsB z H3 fun k H3=>if k=true then tc σ H3 fun w' H4=>r' y w' H4 Q else Q (.bl false) H3):zU r r' ta tb tc σ H Q:=h
end
def Gg (K:PySem.W.Frag):RL:=fun xs H Q=>∃ (p:Addr) (ns:List Int),xs=[.ref p]∧SqL K H p (ns.map V.int)∧0 < ns.length∧∀ M,M∈ns→(∀ a∈ns,M≤a)→Q (.int M) H
section
variable {X:Cx}
theorem Jf (hc:X.calm=true):cH X (.builtin "min") (Gg X.K):=by
  intro pins s σ H xs us Q I r h
  obtain ⟨p,ns,rfl,hq,hne,q⟩:=h
  obtain ⟨u,rfl,rx⟩:=vals1 r
  cases rx
  obtain ⟨its,rv,pl,hz⟩:=I.list hq
  have hi:=ints_of rv
  obtain ⟨xs,e⟩:=hi.allInts.items
  have hl:s.heap.IsList p (intItems xs):=e▸pl.isList
  have hns:ns=xs.toList.map (·.1):=by
    rw [← nums_intItems,← e]
    exact (show numsOf its.toArray.toList=ns from hi.numsOf).symm
  have hsz : 0 < xs.size:=by
    have h3:=hne;rw [hns,Nh,Array.length_toList] at h3;exact h3
  refine min_intList (I.ok.hd hc) hl hsz fun v h' tk hv hk=>?_
  obtain ⟨t,rfl⟩:=intItems_at hv
  obtain ⟨h1,h2⟩:=argBest_lt (numAt xs) (xs.size - 1)
  refine ⟨.int _,H,I.kept hk,⟨_,rfl⟩,q _ ?_ fun a ha=>?_⟩
  · rw [hns,numAt_eq];exact getD_mem (by rw [Nh,Array.length_toList];omega)
  · rw [hns] at ha
    obtain ⟨j,hj,rfl⟩:=mem_getD ha
    rw [Nh,Array.length_toList] at hj
    rw [← numAt_eq];exact h2 j (by omega)
end
section
variable {K:PySem.W.Frag} {H:Hp} {Q:VK} {p:Addr} {ns:List Int} {P:Addr→Prop} {H0:Hp} {l:List (Addr×Ob)} {fs:List Pr}
theorem IA (s:SqL K H p (ns.map V.int)) (hne : 0 < ns.length) (h:∀ M,M∈ns→(∀ a∈ns,M≤a)→Q (.int M) H):Gg K [.ref p] H Q:=⟨p,ns,rfl,s,hne,h⟩
end
section
variable {prog:Program} {w:World} {A:Around} {E:Value→Shared→Prop} {s:Shared} {R:Result→Shared→Prop} {I S:Addr} {fp wr:List Addr} {n:Nat} {P:Nat→Value→Prop} {St:Nat→Heap→Prop}
def JL (val:Nat→Int) (i:Nat) (old:Array Value):Prop:=(old=#[]∧i=0)∨∃ (m:Int) (t:Tok),old=#[.int m t,.int m t]∧1≤i∧(∃ j,j < i∧val j=m)∧∀ j,j < i→val j≤m
theorem EB (W:Walks prog w A.in1 I fp wr n P St) (val:Nat→Int) (hval:∀ i v,P i v→∃ t,v = .int (val i) t) (hSf:S∉fp) (d:Value) :
    ∀ (r i:Nat) (s:Shared) (old:Array Value) (c:Nat),n - i=r→i≤n→St i s.heap→JL val i old→s.heap.get? S=some { cls:=.type "list",dict:=none,data:=.seq old c,slots:=#[] } →
    (∀ v h' tk,((n=0∧v=d)∨∃ m t,v = .int m t∧(∃ j,j < n∧val j=m)∧∀ j,j < n→val j≤m)→(∀ b o,b∉wr→b≠S→s.heap.get? b=some o→h'.get? b=some o)→R (.ok (.ret v)) { s with heap:=h',toks:=tk }) →
    codeAny (model prog w) A (.builtin "max.loop" ⟨[.ref I,.none,.ref S],[("default",d)]⟩) R s:=by
  have hSw:S∉wr:=fun h=>hSf (W.sub _ h)
  have hnm:(toString "max" ++ toString ".loop" : String) = "max.loop" := by decide
  have hcmp:=CmpOf.ints_gt (prog:=prog) (w:=w) (A:=A.in1) val hval
  intro r
  induction r with
  | zero=>
    intro i s old c hr hi hst hb hS hR
    have hin:i=n:=by omega
    subst hin
    refine codeAny_builtin F.entry_max_loop ?_
    rw [Around.under_plainId F.plain_max_loop _]
    show wpAny _ A.in1 (seqItems? (.ref S) >>= _) _ _ s
    refine wpAny_bind (wpAny_seqItems hS rfl ?_)
    show wpAny _ A.in1 (tryCatch (pyNext (.ref I)) _ >>= _) _ _ s
    refine wpAny_bind (wpAny_tryCatch (W.done s _ _ hst fun h' tk hk'=>?_))
    have hS':=hk' S _ hSw hS
    rcases hb with ⟨rfl,rfl⟩ | ⟨m,t,rfl,_,hm1,hm2⟩
    · show wpAny _ A.in1 (rule _ >>= _) _ _ _
      refine wpAny_bind (wpAny_rule (wpAny_pure ?_))
      exact hR d _ tk (.inl ⟨rfl,rfl⟩) fun b o hbw _ e=>hk' b o hbw e
    · show wpAny _ A.in1 (updateSeq S (fun _=>#[]) >>= _) _ _ _
      refine wpAny_bind (wpAny_updateSeq hS' rfl (wpAny_bind (wpAny_letGo (wpAny_pure ?_))))
      exact hR _ _ tk (.inr ⟨m,t,rfl,hm1,hm2⟩) fun b o hbw hbS e=>(Heap.get?_update_other _ _ (Ne.symm hbS)).trans (hk' b o hbw e)
  | succ r ih=>
    intro i s old c hr hi hst hb hS hR
    have hlt:i < n:=by omega
    refine codeAny_builtin F.entry_max_loop ?_
    rw [Around.under_plainId F.plain_max_loop _]
    show wpAny _ A.in1 (seqItems? (.ref S) >>= _) _ _ s
    refine wpAny_bind (wpAny_seqItems hS rfl ?_)
    show wpAny _ A.in1 (tryCatch (pyNext (.ref I)) _ >>= _) _ _ s
    refine wpAny_bind (wpAny_tryCatch (W.item i s _ _ hlt hst fun v h' tk hP hst' hk'=>?_))
    have hS':=hk' S _ hSw hS
    obtain ⟨tv,ev⟩:=hval i v hP
    rcases hb with ⟨rfl,rfl⟩ | ⟨m,t,rfl,h1,hm1,hm2⟩
    · show wpAny _ A.in1 (updateSeq S (fun _=>#[v,v]) >>= _) _ _ _
      refine wpAny_bind (wpAny_updateSeq hS' rfl ?_)
      rw [hnm]
      refine wpAny_pure ⟨plainId_quiet F.plain_max_loop _,ih 1 _ _ _ (by omega) hlt (W.frame _ _ _ hst' fun b hbf o e=>(Heap.get?_update_other _ _ (fun h:S=b=>hSf (by rw [h];exact hbf))).trans e) (.inr ⟨val 0,tv,by rw [ev],NB 1,⟨0,Nat.zero_lt_one,rfl⟩,fun j hj=>by rw [show j=0 by omega];exact NF _⟩) (Heap.get?_update_self _ hS' rfl) fun v' h2 tk2 hv hk2=>?_⟩
      exact hR v' h2 tk2 hv fun b o hbw hbS e=>hk2 b o hbw hbS ((Heap.get?_update_other _ _ (Ne.symm hbS)).trans (hk' b o hbw e))
    · obtain ⟨jb,hjb,ejb⟩:=hm1
      show wpAny _ A.in1 (tryCatch (holding [v,v] (richCompare .Gt v (.int m t) >>= _)) _ >>= _) _ _ _
      subst ev
      refine wpAny_bind (wpAny_tryCatch (wpAny_holding (wpAny_bind (richCompare_gives (op:=.Gt) (typeIs_int _ _ tv) (typeIs_int _ _ t) F.slot_int_gt F.entry_int_gt (F.args_int_gt_2 _ _) (gives_int_gt _ _ tv t) (fun x=>nomatch x) ?_))))
      refine wpAny_bind (wpAny_holding (wpAny_truthy_bool ?_))
      refine wpAny_bind (wpAny_letGo (wpAny_pure ?_))
      by_cases hgt:val i > m
      · simp only [hgt,decide_true,if_true]
        refine wpAny_bind (wpAny_updateSeq hS' rfl (wpAny_bind (wpAny_letGo ?_)))
        rw [hnm]
        refine wpAny_pure ⟨plainId_quiet F.plain_max_loop _,ih (i+1) _ _ _ (by omega) hlt (W.frame _ _ _ hst' fun b hbf o e=>(Heap.get?_update_other _ _ (fun h:S=b=>hSf (by rw [h];exact hbf))).trans e) (.inr ⟨val i,tv,rfl,by omega,⟨i,Nat.lt_succ_self i,rfl⟩,fun j hj=>?_⟩) (Heap.get?_update_self _ hS' rfl) fun v' h2 tk2 hv hk2=>?_⟩
        · rcases Nat.lt_succ_iff_lt_or_eq.mp hj with z | z
          · have:=hm2 j z;omega
          · rw [z];exact NF _
        · exact hR v' h2 tk2 hv fun b o hbw hbS e=>hk2 b o hbw hbS ((Heap.get?_update_other _ _ (Ne.symm hbS)).trans (hk' b o hbw e))
      · simp only [hgt,decide_false,Bool.false_eq_true,if_false]
        refine wpAny_bind (wpAny_letGo ?_)
        rw [hnm]
        refine wpAny_pure ⟨plainId_quiet F.plain_max_loop _,ih (i+1) _ _ c (by omega) hlt hst' (.inr ⟨m,t,rfl,by omega,⟨jb,by omega,ejb⟩,fun j hj=>?_⟩) hS' fun v' h2 tk2 hv hk2=>?_⟩
        · rcases Nat.lt_succ_iff_lt_or_eq.mp hj with z | z
          · exact hm2 j z
          · rw [z];omega
        · exact hR v' h2 tk2 hv fun b o hbw hbS e=>hk2 b o hbw hbS (hk' b o hbw e)
theorem p9 {id:String} {b:Builtin} {args:List Value} {kw:List (Str×Value)} {Q:Value→Shared→Prop} (hk:builtinKind id=none) (hp:plainId id=true) (hb:entryFor table id=some b) (ha:argsOk id ⟨args,kw⟩)
    (hc:wpAny (model prog w) A.in1 (b ⟨args,kw⟩) (fun fin s'=>match fin with
      | .done f=>(match (Except.ok f:Result) with | .ok (.ret v)=>Q v s' | .ok _=>False | .error e=>E e s')
      | .again c'=>c'.quiet=true∧codeAny (model prog w) A c' (fun r s'=>match r with | .ok (.ret v)=>Q v s' | .ok _=>False | .error e=>E e s') s') E s) :
    wpAny (model prog w) A (call (.builtin id) args kw) Q E s:=by
  refine wpAny_call (codeAny_call_builtin hp hb ?_)
  simp only [checkBuiltinCall,hk]
  cases hsig:Manifest.signature? id with
  | none=>exact wpAny_pure hc
  | some sig=>
    have ha':Bind.checkArgs id sig ⟨args,kw⟩=pure ():=by simpa only [argsOk,hsig] using ha
    simp only [ha']
    exact wpAny_pure hc
theorem zu (a d:Value):argsOk "max" ⟨[a],[("default",d)]⟩:=by unfold argsOk;kernel_rfl
theorem sj {l:Addr} {xs:Array (Int×Tok)} {d:Value} {Q:Value→Shared→Prop} (hh:A.handled=none) (hl:s.heap.IsList l (intItems xs))
    (h:∀ v h' tk,((xs.size=0∧v=d)∨∃ m t,v = .int m t∧(∃ j,j < xs.size∧numAt xs j=m)∧∀ j,j < xs.size→numAt xs j≤m)→(∀ b o,s.heap.get? b=some o→h'.get? b=some o)→Q v { s with heap:=h',toks:=tk }) :
    wpAny (model prog w) A (call (.builtin "max") [.ref l] [("default",d)]) Q E s:=by
  have hnm:(toString "max" ++ toString ".loop" : String) = "max.loop" := by decide
  refine p9 F.kind_max F.plain_max F.entry_max (zu _ _) ?_
  show wpAny _ A.in1 (Builtin.Builtins.bindParams "max" ["key", "default"] 0 ⟨[],[("default",d)]⟩ >>= _) _ _ s
  refine wpAny_bind (wpAny_of_eq (show Builtin.Builtins.bindParams "max" ["key", "default"] 0 ⟨[],[("default",d)]⟩=pure [none,some d] from rfl) ?_)
  refine wpAny_bind (wpAny_pure ?_)
  refine wpAny_bind (iter_intList hl fun s₂ e st hfp hlI=>?_)
  subst e
  have hsz:(intItems xs).size=xs.size:=by simp [intItems]
  have W:=Walks.list (prog:=prog) (w:=w) (A:=A.in1) hh s.heap.objs.size l hlI (intItems xs)
  refine wpAny_bind (wpAny_newObj_type ?_)
  rw [hnm]
  refine wpAny_pure ⟨plainId_quiet F.plain_max_loop _,EB W (numAt xs) (fun _ _=>intItems_at) (fun hm=>Nat.lt_irrefl _ (hfp _ hm)) d _ 0 _ #[] _ rfl (NC _) (W.frame _ _ _ st fun b _ o e=>Heap.get?_push_of_some _ e) (.inl ⟨rfl,rfl⟩) (Heap.get?_push_size _ rfl) fun v h' tk hv hk=>?_⟩
  rw [hsz] at hv
  exact h v h' tk hv (old_kept fun b o hbw e=>hk b o hbw (Nu (Heap.lt_size e)) (Heap.get?_push_of_some _ e))
end
def AX (K:PySem.W.Frag) (x y:V) (H:Hp) (Q:VK):Prop:=∃ (p:Addr) (ns:List Int) (d:Int),x = .ref p∧y = .int d∧SqL K H p (ns.map V.int)∧(ns=[]→Q (.int d) H)∧∀ M,M∈ns→(∀ a∈ns,a≤M)→Q (.int M) H
def F5 (K:PySem.W.Frag) (te td:TE):TE:=fun σ H Q=>te σ H fun x H1=>td σ H1 fun y H2=>AX K x y H2 Q
section
variable {X:Cx} {p pos kp:Pos} {e d:Expr} {te td:TE}
theorem DX (hc:X.calm=true) (hg:Gl X "max") (hm:X.mg "max" = none) (he:PE X e te) (hd:PE X d td) (hst:starEach [e] X.env=[(false,eval e X.env)]:=by rfl) :
    PE X (.Call (.Name "max" p) [e] [⟨some "default",d,kp⟩] pos) (F5 X.K te td):=by
  intro pins s σ H Q I h
  refine wpAny_Call_Name_kw (fm I hg hm L3.ef ?_)
  refine callWith_kw ?_ (by rw [hst];rfl) (by rw [hst];rfl)
  rw [hst]
  show wpAny (model X.prog X.w) X.A (spliced ((false,eval e X.env)::[])) _ X.xe s
  refine Calls.spliced_cons (thn (he pins s σ H _ I h) fun u s1 ⟨x,H1,I1,r1,q1⟩=>Calls.spliced_nil ?_)
  refine kws_cons (thn (hd pins s1 σ H1 _ I1 q1) fun v s2 ⟨y,H2,I2,r2,q2⟩=>kws_nil ?_)
  show wpAny (model X.prog X.w) X.A (call (.builtin "max") [u] [("default",v)]) (EP X pins σ Q) X.xe s2
  obtain ⟨p,ns,d,rfl,rfl,hq,q0,q⟩:=q2
  cases r1
  obtain ⟨t,rfl⟩:=r2
  obtain ⟨its,rv,pl,hz⟩:=I2.list hq
  have hi:=ints_of rv
  obtain ⟨xs,e⟩:=hi.allInts.items
  have hl:s2.heap.IsList p (intItems xs):=e▸pl.isList
  have hns:ns=xs.toList.map (·.1):=by
    rw [← nums_intItems,← e]
    exact (show numsOf its.toArray.toList=ns from hi.numsOf).symm
  refine sj (I.ok.hd hc) hl fun v h' tk hv hk=>?_
  rcases hv with ⟨h0,rfl⟩ | ⟨m,t,rfl,⟨j,hj,ej⟩,hm⟩
  · exact ⟨.int d,H2,I2.kept hk,⟨_,rfl⟩,q0 (by rw [hns,List.map_eq_nil_iff];exact List.eq_nil_of_length_eq_zero (by rw [Array.length_toList];exact h0))⟩
  · refine ⟨.int m,H2,I2.kept hk,⟨_,rfl⟩,q m ?_ fun a ha=>?_⟩
    · rw [hns,← ej,numAt_eq];exact getD_mem (by rw [Nh,Array.length_toList];exact hj)
    · rw [hns] at ha
      obtain ⟨j,hj,rfl⟩:=mem_getD ha
      rw [Nh,Array.length_toList] at hj
      rw [← numAt_eq];exact hm j hj
end
section
variable {K:PySem.W.Frag} {H:Hp} {Q:VK} {p:Addr} {ns:List Int} {d:Int} {te td:TE} {σ : St}
theorem IC (h:te σ H fun x H1=>td σ H1 fun y H2=>AX K x y H2 Q):F5 K te td σ H Q:=h
theorem ID (s:SqL K H p (ns.map V.int)) (h0:ns=[]→Q (.int d) H) (h:∀ M,M∈ns→(∀ a∈ns,a≤M)→Q (.int M) H):AX K (.ref p) (.int d) H Q:=⟨p,ns,d,rfl,rfl,s,h0,h⟩
theorem BZ {xs:List V} {i:Int} {v:V} (hs:SqT K H p xs) (e:atI xs i=some v) (h:Q v H):DP K (.ref p) (.int i) H Q:=⟨p,xs,i,v,rfl,rfl,hs,e,h⟩
end
def bT:List Str→List Str→List Str
  | acc,[]=>acc
  | acc,x::xs=>bT (if x∈acc then acc else acc++[x]) xs
theorem mh:∀ (xs ys acc:List Str),bT acc (xs++ys)=bT (bT acc xs) ys
  | [],_,_=>rfl
  | x::xs,ys,acc=>mh xs ys _
theorem kg {xs:List Str} {i:Nat} {x:Str} (h:xs[i]?=some x):bT [] (xs.take (i+1))=if x∈bT [] (xs.take i) then bT [] (xs.take i) else bT [] (xs.take i)++[x]:=by
  rw [List.take_add_one,h,mh];rfl
theorem l9:∀ (xs acc:List Str),(bT acc xs).length≤acc.length+xs.length
  | [],_=>NB _
  | x::xs,acc=>by
    have:=l9 xs (if x∈acc then acc else acc++[x])
    show (bT (if x∈acc then acc else acc++[x]) xs).length≤_
    rw [Nd]
    by_cases c:x∈acc
    · rw [if_pos c] at this ⊢;omega
    · rw [if_neg c] at this ⊢;rw [M6,MW] at this;omega
theorem mj:∀ (xs acc:List Str),xs.Nodup→(∀ x∈xs,¬ x∈acc)→(bT acc xs).length=acc.length+xs.length
  | [],_,_,_=>rfl
  | x::xs,acc,h,hn=>by
    rw [List.nodup_cons] at h
    show (bT (if x∈acc then acc else acc++[x]) xs).length=_
    rw [if_neg (hn x M7),mj xs (acc++[x]) h.2 fun y hy z=>?_]
    · rw [M6,MW,Nd];omega
    · rcases List.mem_append.mp z with z | z
      · exact hn y (M3 _ hy) z
      · rw [List.mem_singleton.mp z] at hy;exact h.1 hy
section
variable {prog:Program} {w:World} {A:Around} {E:Value→Shared→Prop} {s:Shared} {R:Result→Shared→Prop} {I S:Addr} {fp wr:List Addr} {G:Array GenState→Array GenState→Prop} {P:Nat→Value→Prop} {St:Nat→Shared→Prop} {xs:List Str}
theorem nO {h h':Heap} {f:Str→Bool} {c:Nat} (hS:h.SetOf (strKind prog w) S f c) (k:∀ o,h.get? S=some o→h'.get? S=some o):h'.SetOf (strKind prog w) S f c:=by
  obtain ⟨o,es,ep,t,ho,rest⟩:=hS
  exact ⟨o,es,ep,t,k o ho,rest⟩
theorem Dk (W:WalksS prog w A.in1 I fp wr G xs.length P St) (hSf:S∉fp) (hval:∀ i v,P i v→∃ x t,xs[i]?=some x∧v = .str x t) (hb:xs.length+1 < scanBound) :
    ∀ (r i:Nat) (s:Shared),xs.length - i=r→i≤xs.length→St i s→s.heap.SetOf (strKind prog w) S (fun k=>decide (k∈bT [] (xs.take i))) (bT [] (xs.take i)).length →
      (∀ s',Moved (S::wr) G s s'→s'.heap.SetOf (strKind prog w) S (fun k=>decide (k∈bT [] xs)) (bT [] xs).length→R (.ok (.ret .none)) s') →
      codeAny (model prog w) A (.builtin "set.update.loop" ⟨[.ref S,.ref I],[]⟩) R s:=by
  have hSw:S∉wr:=fun h=>hSf (W.sub _ h)
  have up:∀ b∈wr,b∈S::wr:=fun b hb=>M3 _ hb
  intro r
  induction r with
  | zero=>
    intro i s hr hi st hS k
    obtain rfl:i=xs.length:=by omega
    rw [Ng] at hS
    refine codeAny_builtin F.entry_set_update_loop ?_
    rw [Around.under_plainId F.plain_set_update_loop _]
    show wpAny _ A.in1 (pyNext (.ref I) >>= _) _ _ s
    refine wpAny_bind (W.done s _ _ st fun s' hm=>?_)
    exact wpAny_pure (k s' (hm.mono up) (nO hS fun o e=>hm.heap S o hSw e))
  | succ r ih=>
    intro i s hr hi st hS k
    have hlt:i < xs.length:=by omega
    refine codeAny_builtin F.entry_set_update_loop ?_
    rw [Around.under_plainId F.plain_set_update_loop _]
    show wpAny _ A.in1 (pyNext (.ref I) >>= _) _ _ s
    refine wpAny_bind (W.item i s _ _ hlt st fun v s1 hP st1 hm=>?_)
    obtain ⟨x,t,hx,rfl⟩:=hval i v hP
    have hS1:=nO hS fun o e=>hm.heap S o hSw e
    have hl:=l9 (xs.take i) []
    rw [Nf] at hl
    show wpAny _ A.in1 (holding [Value.str x t] (setAdd S (.str x t)) >>= _) _ _ s1
    refine wpAny_bind (wpAny_holding ?_)
    unfold setAdd
    refine wpAny_holding (wpAny_bind ((strKind prog w).pyHash (k:=x) (strKind_is _ _ _ _) ?_))
    refine wpAny_setAddHashed_of (knd:=strKind prog w) (s:={ s1 with toks:=s1.toks+1 }) (strKind_is _ _ _ _) rfl hS1 (by simp at hl;omega) fun h2 same hS2=>?_
    have hS3:h2.SetOf (strKind prog w) S (fun k=>decide (k∈bT [] (xs.take (i+1)))) (bT [] (xs.take (i+1))).length:=by
      refine SetOf_congr hS2 (fun k'=>?_) ?_
      · rw [kg hx]
        by_cases c:x∈bT [] (xs.take i)
        · rw [if_pos c]
          by_cases e:k'=x
          · subst e;simp [c]
          · simp [e]
        · rw [if_neg c];simp [List.mem_append]
      · rw [kg hx]
        by_cases c:x∈bT [] (xs.take i)
        · rw [if_pos c,if_pos (Np c)]
        · rw [if_neg c,if_neg (by rw [Nn c];exact M8),M6,MW]
    refine wpAny_pure ⟨plainId_quiet F.plain_set_update_loop _,ih (i+1) _ (by omega) hlt (W.frame _ s1 _ _ st1 (ND _) fun b hb o e=>?_) hS3 fun s' hm' hS'=>?_⟩
    · rw [same.2 b (fun h:b=S=>hSf (by rw [← h];exact hb))];exact e
    · refine k s' (Moved.trans W.gtrans ((hm.mono up).then_heap (ND _) fun b o hb e=>?_) hm') hS'
      rw [same.2 b (fun h:b=S=>hb (by rw [h];exact M7))];exact e
set_option maxRecDepth 100000 in
set_option maxHeartbeats 3200000 in
theorem xV {l:Addr} {items:Array Value} {Q:Value→Shared→Prop} (hh:A.handled=none) (hl:s.heap.IsList l items) (hn:items.size=xs.length) (hi:∀ (i:Nat) (v:Value),items[i]?=some v→∃ x t,xs[i]?=some x∧v=Value.str x t) (hb:xs.length+1 < scanBound)
    (h:∀ (h':Heap) (tk:Nat),h'.SetOf (strKind prog w) s.heap.objs.size (fun k=>decide (k∈bT [] xs)) (bT [] xs).length→(∀ b o,s.heap.get? b=some o→h'.get? b=some o)→Q (.ref s.heap.objs.size) { s with heap:=h',toks:=tk }) :
    wpAny (model prog w) A (call (.type "set") [.ref l]) Q E s:=by
  obtain ⟨c,tl,hmro⟩:=F.called_set.mro
  have hmade:=F.called_set.made
  have hsub:=F.called_set.sub
  have h1:=F.called_set.notType
  have h2:=F.called_set.canCreate
  have hct:=F.typeCall_set_1 (.ref l)
  refine wpAny_call (codeAny_of_tree ?_)
  show wpAny _ _ (callAny (.type "set") _) _ _ _
  refine wpAny_pure ⟨Code.quiet_builtin _ (by decide +kernel),codeAny_builtin F.entry_type_call ?_⟩
  rw [Around.under_plain (weight_type_call_type "set" [.ref l] []) rfl]
  repeat (any_goals (first | assumption | wp_step))
  refine codeAny_mono (code_set_new_1 (.ref l) (E:=E) (Q₁:=fun obj s₁=>∃ led:Bool,obj = .ref s.heap.objs.size∧s₁={ s with heap:=s.heap.push { cls:=.type "set",dict:=none,data:=.set #[] 0 (.fresh 0 0 led) } }) fun led=>⟨led,rfl,rfl⟩) fun r s₁ hr=>?_
  rcases r with e | fl
  · exact hr
  cases fl with
  | ret obj=>
    obtain ⟨led,rfl,rfl⟩:=hr
    generalize ho:({ cls:=.type "set",dict:=none,data:=.set #[] 0 (.fresh 0 0 led) }:Obj)=so at *
    have hS:(s.heap.push so).get? s.heap.objs.size=some so:=Heap.get?_push_size _ (by rw [← ho];rfl)
    have hT:Shared.TypeIs { s with heap:=s.heap.push so } (.ref s.heap.objs.size) "set" := ⟨_,hS,by rw [← ho]⟩
    have hli:=F.called_set.init.lookup
    have hbi:=F.called_set.init.bind (.ref s.heap.objs.size)
    repeat (any_goals (first | assumption | wp_step))
    refine codeAny_mono (codeAny_call_builtin (R:=wants (fun r s₂=>r = .none∧∃ h' tk,s₂={ s with heap:=h',toks:=tk }∧h'.SetOf (strKind prog w) s.heap.objs.size (fun k=>decide (k∈bT [] xs)) (bT [] xs).length∧∀ b o,s.heap.get? b=some o→h'.get? b=some o) E) F.called_set.init.plain F.entry_set_init (check_set_init_1 hT ?_)) fun r₂ s₂ hr₂=>?_
    · have hlS:l < s.heap.objs.size:=by obtain ⟨_,e,_⟩:=hl;exact Heap.lt_size e
      subst ho
      have hl1:=hl.push { cls:=.type "set",dict:=none,data:=.set #[] 0 (.fresh 0 0 led) }
      obtain ⟨⟨lc,ld,ldat,lsl⟩,e1,e2,nl,e3⟩:=id hl1
      simp only at e2 e3
      subst e2 e3
      have LU:=F.sub_list_set
      have LV:=F.sub_list_frozenset
      have hne:(Value.type "list" == Value.type "dict")=false:=by decide
      unfold Builtin.«set.__init__» noKeywords Builtin.Frozenset.updateFrom
      generalize hPI:pyIter=PI
      wp_walk
      subst hPI
      refine wpAny_pyIter_list hl1 ?_
      refine wpAny_bind (wpAny_runValue ?_)
      have hsz:(s.heap.push { cls:=.type "set",dict:=none,data:=.set #[] 0 (.fresh 0 0 led) }).objs.size=s.heap.objs.size+1:=Heap.size_push ..
      have W:=(Walks.list (prog:=prog) (w:=w) (A:=A.in1.in1.in1) (by simp [hh]) (s.heap.push { cls:=.type "set",dict:=none,data:=.set #[] 0 (.fresh 0 0 led) }).objs.size l (by rw [hsz];exact Nu (Nat.lt_succ_of_lt hlS)) items).toS
      rw [hn] at W
      refine Dk (xs:=xs) W (by rw [hsz];simp only [List.mem_cons,List.not_mem_nil,or_false,not_or];exact ⟨Nu (Nat.lt_succ_self _),Nat.ne_of_gt hlS⟩) (fun i v hv=>hi i v hv) hb _ 0 _ rfl (NC _) ⟨⟨_,Heap.get?_push_size _ rfl,rfl,rfl⟩,hl1.push _⟩ ?_ fun s' hm hS'=>?_
      · exact SetOf_congr ((setObjOf_fresh (knd:=strKind prog w) led).setOf (Heap.get?_push_of_some _ hS) (by unfold scanBound;decide)) (fun _=>rfl) rfl
      · obtain ⟨h',g',d',tk',os'⟩:=s'
        obtain rfl:g'=s.gens:=hm.gens
        obtain rfl:d'=s.drawn:=hm.drawn
        obtain rfl:os'=s.os:=hm.os
        refine wpAny_pure (wpAny_pure ⟨rfl,h',tk',rfl,hS',fun b o e=>?_⟩)
        have hb1:=Heap.lt_size e
        exact hm.heap b o (by rw [hsz];simp only [List.mem_cons,List.not_mem_nil,or_false,not_or];exact ⟨Nu hb1,Nu (Nat.lt_succ_of_lt hb1)⟩) (Heap.get?_push_of_some _ (Heap.get?_push_of_some _ e))
    · rcases r₂ with e | fl₂
      · exact hr₂
      cases fl₂ with
      | ret r=>
        obtain ⟨rfl,h',tk,rfl,hS',hk'⟩:=hr₂
        repeat (any_goals (first | assumption | wp_step))
        exact h _ _ hS' hk'
      | _=>exact hr₂.elim
  | _=>exact hr.elim
end
def pD (K:PySem.W.Frag) (x:V) (H:Hp) (Q:VK):Prop:=∃ (a:Addr) (xs:List Str),x = .ref a∧SqL K H a (xs.map V.str)∧xs.length≤1000∧Q (.int (((bT [] xs).length:Nat):Int)) H
def wu (K:PySem.W.Frag) (te:TE):TE:=fun σ H Q=>te σ H fun x H1=>pD K x H1 Q
section
variable {X:Cx} {e:Expr} {te:TE} {p p2 pos pos2:Pos}
theorem yk (hc:X.calm=true) (hg:Gl X "len") (hg2:Gl X "set") (hm:X.mg "len" = none) (hm2:X.mg "set" = none) (he:PE X e te) (hs1:starEach [.Call (.Name "set" p2) [e] [] pos2] X.env=[(false,eval (.Call (.Name "set" p2) [e] [] pos2) X.env)]:=by rfl) (hs2:starEach [e] X.env=[(false,eval e X.env)]:=by rfl) :
    PE X (.Call (.Name "len" p) [.Call (.Name "set" p2) [e] [] pos2] [] pos) (wu X.K te):=by
  intro pins s σ H Q I h
  refine wpAny_Call_Name_kw (fm I hg hm L3.dg ?_)
  refine PyProof.Rows.callWith_builtin1 ?_ (by rw [hs1];rfl) (by rfl)
  rw [hs1]
  show wpAny (model X.prog X.w) X.A (spliced ((false,eval (.Call (.Name "set" p2) [e] [] pos2) X.env)::[])) _ X.xe s
  refine Calls.spliced_cons (wpAny_Call_Name_kw (fm I hg2 hm2 L3.Cu ?_))
  refine PyProof.Rows.callWith_type1 ?_ (by rw [hs2];rfl) (by rfl)
  rw [hs2]
  show wpAny (model X.prog X.w) X.A (spliced ((false,eval e X.env)::[])) _ X.xe s
  refine Calls.spliced_cons (thn (he pins s σ H _ I h) fun u s1 ⟨x,H1,I1,r1,q1⟩=>Calls.spliced_nil ?_)
  obtain ⟨a,xs,rfl,hq,h1000,q⟩:=q1
  cases r1
  obtain ⟨its,rv,pl,hz⟩:=I1.list hq
  have hlen:its.length=xs.length:=by rw [← rv.length,Nh]
  have hsb:xs.length+1 < scanBound:=by unfold scanBound;omega
  refine xV (I.ok.hd hc) pl.isList (by rw [Na];exact hlen) (fun i v hv=>?_) hsb fun h' tk hS hk=>?_
  · have hv':its[i]?=some v:=by simpa using hv
    have hi:i < xs.length:=by
      have:=(List.getElem?_eq_some_iff.mp hv').1
      omega
    obtain ⟨u,hu,ru⟩:=rv.get (i:=i) (x:=V.str xs[i]) (by rw [Nb,MT hi];rfl)
    rw [hv'] at hu
    cases hu
    obtain ⟨t,rfl⟩:=ru
    exact ⟨_,t,MT hi,rfl⟩
  · have I2:=I1.kept (t':=tk) hk
    refine Calls.spliced_nil ?_
    obtain ⟨o,es,ep,t,ho,hex,hd,_,_,hb,hf,hn⟩:=hS
    have h63:(es.size:Int) < 2 ^ 63:=by unfold scanBound at hb;omega
    exact call_len_set ho hex hd hf h63 ⟨.int es.size,H1,I2.tok _,⟨_,rfl⟩,by rw [hn];exact q⟩
theorem BY {K:PySem.W.Frag} {σ : St} {H:Hp} {Q:VK} (h:te σ H fun x H1=>pD K x H1 Q):wu K te σ H Q:=h
theorem yX {K:PySem.W.Frag} {H:Hp} {Q:VK} {a:Addr} {xs:List Str} (s:SqL K H a (xs.map V.str)) (hl:xs.length≤1000) (h:Q (.int (((bT [] xs).length:Nat):Int)) H):pD K (.ref a) H Q:=⟨a,xs,rfl,s,hl,h⟩
end
structure oG (K:PySem.W.Frag) (mg:Str→Option Value) (x qual:Str) (C:Addr) (st:Stmt) (ps:List Str):Prop where
  ex:∃ (f:Addr) (oc dV kV doc pm cdv ct:Value) (od an:Option Addr) (osl:Array (Option Value)),K.lookup f=some ⟨oc,od,.func (PySem.W.fnOf "__init__" qual (bK st) (bq st) (aj st) dV kV doc pm an cdv ct),osl⟩∧PySem.W.codeIn K cdv qual=true ∧
    Binds K (PySem.W.fnOf "__init__" qual (bK st) (bq st) (aj st) dV kV doc pm an cdv ct) ps []∧mg x=some (.ref C)∧Mk K C f
  cl:Cls K C
section
variable {P:Program} {w:World} {K:PySem.W.Frag} {mg:Str→Option Value} {base:Heap} {CX:CXT} {x qual:Str} {C:Addr} {st:Stmt} {N ps:List Str} {k:Nat} {sp:Sp}
theorem oG.ok (D:oG K mg x qual C st ps) (S:aq N ps (aj st)) (len:∀ vs H Q E,sp vs H Q E→vs.length=ps.length)
    (hbody:∀ (f:Addr) (cdv:Value) (A:Around) (outer:List Env) (s:Shared) (H:Hp) (vs:List V) (Q:VK) (E:XK),bX k (A.deeper (envOfC qual (aj st) s.heap.objs.size f cdv))→sp vs H Q E →
      ∃ t,PSs (aZ CX P w K mg base N qual (aj st) f cdv A outer s H E).nox (bq st) t∧t { nx:=fun _ H'=>Q .non H',rt:=Q } (start N vs) H):Mak P w K mg base CX x C (k+1) ps sp:=by
  obtain ⟨f,oc,dV,kV,doc,pm,cdv,ct,od,an,osl,lk,hcd,b,m,mk⟩:=D.ex
  refine ⟨f,_,mk,sJ lk hcd S len fun A outer s H vs Q E hr hsp=>?_,b,m⟩
  obtain ⟨t,h,q⟩:=hbody f cdv A outer s H vs Q E hr hsp
  exact ⟨t,h.nox,q⟩
theorem Cp {h:Heap} (X:K.In h) (G:h.Ns mainGlobals mg) {f T:Addr} {oc tc:Value} {od td an:Option Addr} {osl tsl:Array (Option Value)} {its:Array Value} {tn:Nat} {kV doc pm cdv ct:Value} (aC:PySem.W.nsIn K mainGlobals x=some (some (.ref C)))
    (a:PySem.W.findIn K (.ref C) "__init__" = some (some (.ref f))) (i:PySem.W.isFn K (.ref f)=true)
    (l:K.lookup f=some ⟨oc,od,.func (PySem.W.fnOf "__init__" qual (bK st) (bq st) (aj st) (.ref T) kV doc pm an cdv ct),osl⟩) (tl:K.lookup T=some ⟨tc,td,.seq its tn,tsl⟩) (c:PySem.W.codeIn K cdv qual=true)
    (pg:PySem.W.plainGet K C Str.empty=true) (hd:PySem.W.hasDictIn K C=true) (po:PySem.W.plainOver K C=true) (sa:PySem.W.findIn K (.ref C) "__setattr__" = some (some (.builtin "object.__setattr__"))) (mk:PySem.W.makesIn K C=true) (kc:PySem.W.keepIn K (.ref C)=true)
    (b:∀ (T:Addr) (kV doc pm:Value) (an:Option Addr) (cdv ct:Value) (us:List Value),us.length=ps.length→∃ k:Option (Array Value)→Sem (List (Str×Value)),bindArgs (PySem.W.fnOf "__init__" qual (bK st) (bq st) (aj st) (.ref T) kV doc pm an cdv ct) ⟨us,[]⟩=(seqItems? (.ref T) >>= k)∧k (some its)=pure (ps.zip us)):oG K mg x qual C st ps:=
  ⟨⟨f,oc,.ref T,kV,doc,pm,cdv,ct,od,an,osl,l,c,fun s us hK hl=>by
    rw [Nk] at hl ⊢
    obtain ⟨k,h1,h2⟩:=b T kV doc pm an cdv ct us hl
    exact BindsTo.of_defaults (T:=T) rfl (hK _ _ tl) rfl h1 h2,PySem.W.mg_of X G aC,⟨mk,a,i,kc⟩⟩,⟨pg,hd,po,sa⟩⟩
end
def AY (K:PySem.W.Frag):RL:=fun vs H Q=>∃ (x:V) (t:Value) (tp:Addr) (Ts:List String) (b:Bool),vs=[x,.ref tp]∧iy K H x t∧H tp=some (.tup (Ts.map V.ty))∧PySem.W.kitAny K t (Ts.map Value.type)=some b∧Q (.bl b) H
theorem qB:∀ {Ts:List String} {us:List Value},Vals (Ts.map V.ty) us→us=Ts.map Value.type
  | [],_,.nil=>rfl
  | T::Ts,_,.cons r t=>by rw [List.map_cons,qB t];cases (show _=Value.type T from r);rfl
section
variable {X:Cx}
theorem zj:cH X (.builtin "isinstance") (AY X.K):=by
  intro pins s σ H xs us Q I r h
  obtain ⟨x,t,tp,Ts,b,rfl,ty,ht,e,q⟩:=h
  obtain ⟨u,w',rfl,rx,rc⟩:=vals2 r
  cases (show w'=Value.ref tp from rc)
  obtain ⟨_,its,rv,⟨⟨oc,od',da,sl⟩,h1,h2,n,h3⟩⟩:=(show bP X.prog X.w H s.heap tp (.tup (Ts.map V.ty)) from I.hok tp _ ht)
  have ei:=qB rv
  subst ei
  dsimp only at h2 h3
  subst h2 h3
  have fin:∀ tk,EP X pins σ Q (.bool b) { s with toks:=tk }:=fun tk=>⟨.bl b,H,I.tok _,rfl,q⟩
  cases ty with
  | non=>cases (show u=Value.none from rx);exact PySem.W.kia_tup PySem.W.kitx_none I.kIn True.intro h1 e (fun z=>nomatch z) fin
  | bl y=>cases (show u=Value.bool y from rx);exact PySem.W.kia_tup PySem.W.kitx_bool I.kIn True.intro h1 e (fun z=>nomatch z) fin
  | int i=>obtain ⟨t,q⟩:=(show ∃ t,u=Value.int i t from rx);cases q;exact PySem.W.kia_tup PySem.W.kitx_int I.kIn True.intro h1 e (fun z=>nomatch z) fin
  | str y=>obtain ⟨t,q⟩:=(show ∃ t,u=Value.str y t from rx);cases q;exact PySem.W.kia_tup PySem.W.kitx_str I.kIn True.intro h1 e (fun z=>nomatch z) fin
  | flt y=>obtain ⟨t,q⟩:=(show ∃ t,u=Value.float y t from rx);cases q;exact PySem.W.kia_tup PySem.W.kitx_float I.kIn True.intro h1 e (fun z=>nomatch z) fin
  | @lst a xs ea=>
    cases (show u=Value.ref a from rx)
    obtain ⟨_,_,n,_,h4⟩:=(show bP X.prog X.w H s.heap a (.lst xs) from I.hok a _ ea)
    exact PySem.W.kia_tup PySem.W.kitx_list I.kIn ⟨_,h4,rfl⟩ h1 e (fun z=>nomatch z) fin
  | @frz a ob xs ea=>
    cases (show u=Value.ref a from rx)
    obtain ⟨_,_,_,n,_,h4⟩:=(show bP X.prog X.w H s.heap a (.frz ob (.lst xs)) from I.hok a _ ea)
    exact PySem.W.kia_tup PySem.W.kitx_list I.kIn ⟨_,h4,rfl⟩ h1 e (fun z=>nomatch z) fin
  | @tup a xs ea=>
    cases (show u=Value.ref a from rx)
    obtain ⟨_,_,_,p⟩:=(show bP X.prog X.w H s.heap a (.tup xs) from I.hok a _ ea)
    obtain ⟨o,h4,h5,_⟩:=p
    exact PySem.W.kia_tup PySem.W.kitx_tuple I.kIn ⟨o,h4,h5⟩ h1 e (fun z=>nomatch z) fin
  | @dK a kvs ea=>
    cases (show u=Value.ref a from rx)
    obtain ⟨_,_,vs,_,p⟩:=(show bP X.prog X.w H s.heap a (.dK kvs) from I.hok a _ ea)
    obtain ⟨o,es,ep,h4,h5,_⟩:=p
    exact PySem.W.kia_tup PySem.W.kitx_dict I.kIn ⟨o,h4,h5.1⟩ h1 e (fun z=>nomatch z) fin
  | @dT a kvs ea=>
    cases (show u=Value.ref a from rx)
    obtain ⟨_,_,xs,_,o,es,ep,h4,h5,_⟩:=(show bP X.prog X.w H s.heap a (.dT kvs) from I.hok a _ ea)
    exact PySem.W.kia_tup PySem.W.kitx_dict I.kIn ⟨o,h4,h5.1⟩ h1 e (fun z=>nomatch z) fin
  | @ins a C dx fs ea cl ha hn htk hm=>
    cases (show u=Value.ref a from rx)
    obtain ⟨mA,O,_⟩:=jm I.hok ea
    obtain ⟨od,J,_⟩:=O.look
    exact PySem.W.kia_tup (PySem.W.kitx_own (cl.get _) cl.hd ha hn htk hm) I.kIn J h1 e (fun z=>nomatch z) fin
theorem DY {e:Expr} {te:TE} {p pos:Pos} {es:List Expr} {ec:Nat} {tpos:Pos} {tl:TA} (hm:X.mg "isinstance" = none) (he:PE X e te) (ht:PE X (.Tuple es ec tpos) (Dc tl)) (hg:Gl X "isinstance" := by rfl)
    (hs:starEach [e,.Tuple es ec tpos] X.env=(false,eval e X.env)::starEach [.Tuple es ec tpos] X.env:=by rfl) (hs2:starEach [.Tuple es ec tpos] X.env=(false,eval (.Tuple es ec tpos) X.env)::starEach [] X.env:=by rfl) (hpl:(backTo pos (starEach [.Tuple es ec tpos] X.env)).any (·.1)=false:=by rfl) :
    PE X (.Call (.Name "isinstance" p) [e,.Tuple es ec tpos] [] pos) (tCB (AY X.K) (nk te (nk (Dc tl) oK))):=
  aX zj hg hm iB (aa he (aa ht af hs2) hs) (by decide) (by decide) hs hpl
end
theorem EK (z:Str) (ws:List Str):inV (.str z) (ws.map V.str)=decide (z∈ws):=by
  unfold inV
  rw [List.any_map,Bool.eq_iff_iff,List.any_eq_true,decide_eq_true_iff]
  constructor
  · rintro ⟨x,hx,e⟩
    have e:(x == z)=true:=e
    exact (eq_of_beq e)▸hx
  · intro h
    exact ⟨z,h,by show (z == z)=true;exact beq_self_eq_true z⟩
theorem Ce (ws:List Str):(ws.map V.str).all cP=true:=by
  rw [List.all_map,List.all_eq_true]
  intro _ _;rfl
section
variable {K:PySem.W.Frag} {H:Hp} {Q:VK} {p a:Addr} {z:Str} {ws:List Str} {P:Addr→Prop} {H0:Hp} {l:List (Addr×Ob)} {fs:List Pr}
theorem II {x:V} {t:Value} {tp:Addr} {b:Bool} (Ts:List String) (ty:iy K H x t) (ht:H tp=some (.tup (Ts.map V.ty))) (e:PySem.W.kitAny K t (Ts.map Value.type)=some b) (h:Q (.bl b) H):AY K [x,.ref tp] H Q:=⟨x,t,tp,Ts,b,rfl,ty,ht,e,h⟩
theorem B0 (s:SqT K H p (ws.map V.str)) (h:Q (.bl (decide (z∈ws))) H):rIn K false (.str z) (.ref p) H Q:=
  ⟨p,_,rfl,.inr s,rfl,Ce ws,by rw [if_neg M8,EK];exact h⟩
theorem EX (L:Led P H0 H l fs) (s:SqL K H p (ws.map V.str)) (hl:ws.length < 64) (h:∀ (b:Addr) (ms:List Str) (H':Hp),H b=none→ms.Perm ws→sortedS ms=true→Led P H0 H' ((b,Eo (.lst (ms.map V.str)))::l) fs→aI H H'→Q (.ref b) H'):AU K [.ref p] H Q:=
  ⟨p,ws,rfl,s,hl,fun b ms nb pm pw=>h b ms _ nb pm pw (L.Ez nb rfl) (cI nb)⟩
theorem BU {ys:List V} (L:Led P H0 H l fs) (s:SqL K H p ys) (h:∀ (t:Addr) (H':Hp),H t=none→Led P H0 H' l (aS t ys::fs)→aI H H'→Q (.ref t) H'):AS K [.ref p] H Q:=
  ⟨p,ys,rfl,.inl ⟨s,fun t nt=>h t _ nt (L.Kz nt) (cI nt)⟩⟩
end
end L4
namespace LS
open PySem PySem.W PyProof.Rows
def C4 (n:Nat) (f:Nat→Int) (cmp:Nat→Nat→(Bool→Shared→Prop)→Shared→Prop) (s:Shared):Prop:=
  ∀ i j C,i < n→j < n→C (decide (f i < f j)) s→cmp i j C s
def Ky (f:Nat→Int) (p:Array Nat) (i:Nat):Int:=f (p.getD i 0)
structure Pm (n:Nat) (p:Array Nat):Prop where
  size:p.size=n
  perm:p.toList.Perm (List.range n)
theorem getD_eq (p:Array Nat) (i:Nat):p.getD i 0=(p[i]?).getD 0:=by
  rw [Array.getD_eq_getD_getElem?]
theorem Pm.lt {n:Nat} {p:Array Nat} (h:Pm n p) (h0 : 0 < n) (i:Nat):p.getD i 0 < n:=by
  rw [getD_eq]
  by_cases hi:i < p.size
  · rw [getElem?_pos p i hi]
    have hm:p[i]∈p.toList:=by simp
    exact List.mem_range.mp (h.perm.mem_iff.mp hm)
  · rw [getElem?_neg p i hi];exact h0
def Up (f:Nat→Int) (p:Array Nat) (b:Nat):Prop:=∀ i j,i≤j→j < b→Ky f p i≤Ky f p j
section
variable {n:Nat} {f:Nat→Int} {cmp:Nat→Nat→(Bool→Shared→Prop)→Shared→Prop} {s:Shared}
theorem CB {p:Array Nat} (P:Pm n p) (A:C4 n f cmp s) (h0 : 0 < n) {Q:Nat→Shared→Prop}:∀ (fu m:Nat),1≤m→Up f p m →
    (∀ m',m≤m'→m'≤m+fu→Up f p m'→(m'=m+fu∨Ky f p m' < Ky f p (m' - 1))→Q m' s)→(kas_asc p fu m).kasWp cmp Q s
  | 0,m,_,u,h=>h m (NB _) (NB _) u (.inl rfl)
  | fu+1,m,h1,u,h=>by
    refine A _ _ _ (P.lt h0 _) (P.lt h0 _) ?_
    show (if decide (Ky f p m < Ky f p (m - 1))=true then KasT.ret m else kas_asc p fu (m+1)).kasWp cmp Q s
    by_cases c:Ky f p m < Ky f p (m - 1)
    · rw [if_pos (by simpa using c)]
      exact h m (NB _) (by omega) u (.inr c)
    · rw [if_neg (by simpa using c)]
      refine CB P A h0 fu (m+1) (by omega) (fun i j hij hj=>?_) fun m' a1 a2 a3 a4=>h m' (by omega) (by omega) a3 (a4.imp (fun e=>by omega) id)
      by_cases e:j=m
      · subst e
        by_cases e2:i=j
        · subst e2;exact NF _
        · have:=u i (j - 1) (by omega) (by omega)
          omega
      · exact u i j hij (by omega)
end
end LS
set_option hygiene false
local macro_rules | `(tactic| walk_at "put")=>`(tactic| first | exact L4.Put.head | (apply L4.Put.tail;walk_at "put"))
local macro_rules | `(tactic| walk_at "mem")=>`(tactic| first | exact M7 | (refine M3 _ ?_;walk_at "mem"))
local macro_rules | `(tactic| walk_at "lk")=>`(tactic| first | exact L4.lk_hit | (refine (L4.lk_miss (by decide +kernel)).trans ?_;walk_at "lk"))
local macro_rules | `(tactic| walk_at "sz")=>`(tactic| first | (show (_:Nat)≤sizeLine;exact Nr (L2.small1000 (by first | decide | omega | (simp only [Nd,Ni,M6,Nh];omega)))) | exact L2.small1000 (by first | decide | omega | (simp only [Nd,Ni,M6,Nh];omega)))
local macro_rules | `(tactic| walk_at "side")=>`(tactic| first
  | omega
  | (show (0:Int) < _;first | omega | decide)
  | (refine ⟨⟨?_,?_⟩,?_,?_⟩ <;> first | omega | decide)
  | (refine ⟨?_,?_⟩ <;> first | omega | decide)
  | (refine ⟨?_,?_,?_⟩ <;> first | omega | decide))
local macro_rules | `(tactic| walk_at "g0")=>`(tactic| first
  | (with_reducible refine L4.Lg ?_)
  | (with_reducible refine L4.KP (by with_unfolding_all exact rfl) ?_)
  | (with_reducible refine L4.g_c ?_)
  | (with_reducible refine L4.IS ?_)
  | (with_reducible refine L4.KZ ?_)
  | (with_reducible refine L4.Ml ?_)
  | (with_reducible refine L4.KW ?_)
  | (with_reducible refine L4.Mm ?_)
  | (with_reducible refine L4.Ih ?_)
  | (with_reducible refine L4.K6 ?_)
  | (with_reducible refine L4.Le ?_)
  | (with_reducible refine L4.Lc ?_)
  | (with_reducible refine L4.g_eqB ?_)
  | (with_reducible refine L4.K0 ?_)
  | (with_reducible refine L4.g_neS ?_)
  | (with_reducible refine L4.IU ?_)
  | (with_reducible refine L4.Mn ?_)
  | (with_reducible refine L4.KU ?_)
  | (with_reducible refine L4.Ir ?_)
  | (with_reducible refine L4.IQ ?_)
  | (with_reducible refine L4.g_b ?_)
  | (with_reducible refine L4.Lh ?_)
  | (with_reducible refine L4.Mj ?_)
  | (with_reducible refine L4.KY ?_)
  | (with_reducible refine L4.IV ?_)
  | (with_reducible refine L4.g_orV ?_)
  | (with_reducible refine L4.Ip ?_)
  | (with_reducible refine L4.K5 ?_)
  | (with_reducible refine L4.Iq ?_)
  | (with_reducible refine L4.Mg ?_)
  | (with_reducible refine L4.Mi ?_)
  | (with_reducible refine L4.KR ?_)
  | (with_reducible refine L4.K3 ?_)
  | (with_reducible refine L4.Lb ?_)
  | (with_reducible refine L4.IF ?_)
  | (with_reducible refine L4.Ij ?_)
  | (with_reducible refine L4.K7 ?_)
  | (with_reducible refine L4.Mh ?_)
  | (with_reducible refine L4.BX ?_)
  | (with_reducible refine L4.Io ?_)
  | (with_reducible refine L4.E4 ?_)
  | (with_reducible refine L4.E9 ?_)
  | (with_reducible refine L4.IP ?_)
  | (with_reducible refine L4.IM ?_)
  | (with_reducible refine L4.g_retN ?_)
  | (with_reducible refine L4.g_break ?_)
  | (with_reducible refine L4.g_cont ?_)
  | (with_reducible refine L4.B3 ?_)
  | (with_reducible refine L4.B7 ?_)
  | (with_reducible refine L4.E7 ?_)
  | (with_reducible refine L4.E8 ?_)
  | (with_reducible refine L4.Mp ?_)
  | (with_reducible refine L4.Lf ?_)
  | (with_reducible refine L4.K9 ?_)
  | (with_reducible refine L4.Il ?_)
  | (with_reducible refine L4.Ik ?_)
  | (with_reducible refine L4.KO ?_)
  | (with_reducible refine L4.g_wkT ?_)
  | (with_reducible refine L4.g_zip ?_)
  | (with_reducible refine L4.g_enum ?_)
  | (with_reducible refine L4.IB ?_)
  | (with_reducible refine L4.E5 ?_)
  | (with_reducible refine L4.IT ?_)
  | (with_reducible refine L4.Fe ?_)
  | (with_reducible refine L4.Ii ?_)
  | (with_reducible refine L4.g_rev ?_)
  | (with_reducible refine L4.IC ?_)
  | (with_reducible refine L4.BY ?_)
  | (with_reducible refine L4.Fg ?_)
  | (with_reducible refine L4.g_revSq (by assumption) (L2.SqL.of (L4.Led.eo (by assumption) (by walk_at "put"))) fun l' H' n' L' _=>?_)
  | (with_reducible refine L4.g_divm (by assumption) (by constructor <;> omega) fun t' H' n' L' _=>?_)
  | (with_reducible refine L4.g_tTru ?_)
  | (with_reducible refine L4.g_addS (by walk_at "sz") ?_)
  | (with_reducible refine L4.g_lenStr (by first | assumption | walk_at "sz") ?_)
  | (with_reducible refine L4.Iz (by refine ⟨?_,?_,?_⟩ <;> first | omega | decide) ?_)
  | (with_reducible refine L4.g_cat (by assumption) (by walk_at "put") (by walk_at "put") (by first | assumption | walk_at "sz") fun l' H' n' L' _=>?_)
  | (with_reducible refine L4.g_slI (by assumption) (by assumption) (by first | exact not_false | assumption) fun l' H' n' L' _=>?_)
  | (with_reducible refine L4.Fi ?_)
  | (with_reducible refine L4.g_makeX ?_)
  | (with_reducible refine L4.E3 ?_)
  | (with_reducible refine L4.BW ?_)
  | (with_reducible refine L4.Fj ?_)
  | (with_reducible refine L4.EZ ?_)
  | (with_reducible refine L4.BV ?_)
  | (with_reducible refine L4.g_undo ?_)
  | (with_reducible refine L4.g_undoR ?_)
  | (with_reducible refine L4.g_tryAs ?_)
  | (with_reducible refine L4.KS ?_)
  | (with_reducible refine L4.g_fldX ?_)
  | (with_reducible refine L4.K2 ?_)
  | (with_reducible refine L4.IE ?_)
  | (with_reducible refine L4.g_isBlB ?_)
  | (with_reducible refine L4.g_isNotBlB ?_)
  | (with_reducible refine L4.IJ ?_)
  | (with_reducible refine L4.g_neB ?_)
  | (with_reducible refine L4.K1 ?_)
  | ((with_reducible refine L4.E2 ?_ ?_);(focus (walk_at "side";done)))
  | ((with_reducible refine L4.E1 ?_ ?_);(focus (walk_at "side";done)))
  | (with_reducible refine L4.Gx (L2.SqL.of (L4.Led.eo (by assumption) (by walk_at "put"))) ?_)
  | (with_reducible refine L4.KQ ?_)
  | (with_reducible refine L4.cB (L2.SqL.of (L4.Led.eo (by assumption) (by walk_at "put"))) ?_)
  | (with_reducible refine L4.g_wkTv (L2.SqT.of (L4.Led.tup (by assumption) (by walk_at "mem"))) ?_)
  | (with_reducible refine L4.g_lenI (by assumption) (by assumption) (by first | exact not_false | assumption) ?_)
  | (with_reducible refine L4.dQ (L2.SqL.of (L4.Led.eo (by assumption) (by walk_at "put"))) ?_)
  | (with_reducible refine L4.g_lenTu (L2.SqT.of (L4.Led.tup (by assumption) (by walk_at "mem"))) ?_)
  | (with_reducible refine L4.sI (by assumption) (by walk_at "put") (by walk_at "sz") fun H' L' _=>?_)
  | (with_reducible refine L4.Iu (by assumption) (by walk_at "sz") fun t' H' n' L' _=>?_)
  | (with_reducible refine L4.Iv (by assumption) (by walk_at "sz") fun l' H' n' L' _=>?_)
  | ((with_reducible refine L4.Im ?_ ?_);(focus (walk_at "side";done)))
  | (with_reducible refine L4.IL (by assumption) (by walk_at "mem") (by with_unfolding_all exact rfl) ?_)
  | (with_reducible refine L4.g_geT2 (L4.Led.tup (by assumption) (by walk_at "mem")) (L4.Led.tup (by assumption) (by walk_at "mem")) ?_)
  | (with_reducible refine L4.g_leT2 (L4.Led.tup (by assumption) (by walk_at "mem")) (L4.Led.tup (by assumption) (by walk_at "mem")) ?_)
  | (with_reducible refine L4.n9 (by assumption) (by walk_at "put") (by with_unfolding_all exact rfl) ?_)
  | (with_reducible refine L4.K4 (by assumption) (by walk_at "mem") (by with_unfolding_all exact rfl) ?_)
  | (with_reducible refine L4.BZ (by assumption) (by with_unfolding_all exact rfl) ?_)
  | (with_reducible refine L4.g_fldL (by assumption) (by walk_at "put") (by assumption) (by assumption) (by walk_at "lk") ?_)
  | (with_reducible refine L4.lM (by first | omega | assumption | exact rfl | (simp only [Nd,Ni,M6,Nh];omega)) ?_)
  | (with_reducible refine L4.dD (by first | omega | assumption | exact rfl | (simp only [Nd,Ni,M6,Nh];omega)) ?_)
  | (with_reducible refine L4.B4 (by first | omega | assumption | exact rfl | (simp only [Nd,Ni,M6,Nh];omega)) ?_)
  | (with_reducible refine L4.B5 (by first | omega | assumption | exact rfl | (simp only [Nd,Ni,M6,Nh];omega)) ?_))
local macro_rules | `(tactic| walk_at "g1")=>`(tactic| first | (with_reducible refine L4.g_seq ?_) | walk_at "g0")
local macro_rules | `(tactic| walk_at "one")=>`(tactic| repeat walk_at "g0")
local macro_rules | `(tactic| walk_at "go")=>`(tactic| repeat walk_at "g1")
local macro_rules | `(tactic| walk_at "s")=>`(tactic| exact ⟨rfl,rfl,rfl,by decide +kernel,rfl,by decide +kernel,by decide +kernel⟩)
local macro_rules | `(tactic| walk_at "d")=>`(tactic| refine D.ok S (fun vs H Q E h=>?_) (fun f cdv A outer s H vs Q E hr h=>?_))
namespace Law
open PySem PySem.Spec PyProof.Rows L2 L3 L4
abbrev St:=L2.St
def top (i:Nat):Stmt:=PySem.Challenge.pw_risemarks_k57_whole_letters_in_any_order.main.body.getD i (.Pass ⟨0,0,0,0⟩)
theorem cR {t u:TS} {D:Ends} {σ : St} {H:Hp} (P:St→Hp→Prop) (h1:∀ nx:St→Hp→Prop,(∀ σ H,P σ H→nx σ H)→t { D with nx:=nx } σ H) (h2:∀ σ H,P σ H→u D σ H):GQ t u D σ H:=h1 (u D) h2
def Oth (p:Addr) (H H':Hp):Prop:=∀ q o,H q=some o→q≠p→H' q=some o
theorem Oth.refl (p:Addr) (H:Hp):Oth p H H:=fun _ _ h _=>h
theorem Oth.trans {p:Addr} {H H1 H2:Hp} (a:Oth p H H1) (b:Oth p H1 H2):Oth p H H2:=fun q o h n=>b q o (a q o h n) n
theorem Oth.upd {p:Addr} {H H1:Hp} (a:Oth p H H1) (o:HO):Oth p H (upd H1 p o):=fun q u h n=>by rw [aF n];exact a q u h n
theorem Oth.same {p:Addr} {H0 H H':Hp} (a:Oth p H H') (s:aI H0 H) (n:H0 p=none):aI H0 H':=fun q o h=>a q o (s q o h) (aG h n)
theorem b7 {H:Hp} {p:Addr} (h:H p=none) (o:HO):aI H (upd H p o):=fun b u q=>by rw [aF (aG q h)];exact q
def bh (H:Hp) (p:Addr) (n:Int):Prop:=∃ a b c:Int,H p=some (.lst [.int a,.int b,.int c])∧0≤a∧a < 10 ^ 121∧0≤b∧b≤n
theorem bh.mono {H:Hp} {p:Addr} {n m:Int} (h:bh H p n) (l:n≤m):bh H p m:=by
 obtain ⟨a,b,c,e,h1,h2,h3,h4⟩:=h
 exact ⟨a,b,c,e,h1,h2,h3,Nz h4 l⟩
theorem bh.same {H H':Hp} {p:Addr} {n:Int} (h:bh H p n) (o:aI H H'):bh H' p n:=by
 obtain ⟨a,b,c,e,r⟩:=h
 exact ⟨a,b,c,o _ _ e,r⟩
section
variable {P:Program} {w:World} {K:PySem.W.Frag} {mg:Str→Option Value} {base:Heap} {CX:CXT}
theorem Dat.none {x qual:Str} {st:Stmt} {ps:List Str} {sp:Sp} (D:Dat K mg x qual st ps) (no:∀ vs H Q E,¬ sp vs H Q E):Cal P w K mg base CX x 0 ps sp:=by
 obtain ⟨f,fd,F,b,m⟩:=D.ex
 exact ⟨f,fd,⟨fun vs H Q E h=>absurd h (no vs H Q E),fun A outer s H args us vs Q E _ _ _ _ h=>absurd h (no vs H Q E)⟩,b,F.kp,m⟩
end
section
variable {P:Program} {w:World} {K:PySem.W.Frag} {mg:Str→Option Value} {base:Heap} {CX:CXT}
theorem DF:aq ["_law_script", "_law_k", "_law_hand_here"] ["_law_script", "_law_k"] (aj (top 72)):=by walk_at "s"
def oU (K:PySem.W.Frag):Sp:=fun vs H Q _=>∃ (a:Addr) (ns:List Int) (k:Int),vs=[.ref a,.int k]∧SqL K H a (ns.map V.int)∧ns.length≤63∧0≤k ∧
 ∀ (p:Addr) (H':Hp),H p=none→bh H' p 0→aI H H'→Q (.ref p) H'
theorem tF {ns:List Int} {k:Int} (h0 : 0≤k) (h:k < (ns.length:Int)):∃ v:Int,atI (ns.map V.int) k=some (.int v):=by
 have hk:k.toNat < ns.length:=by omega
 have ek:k=((k.toNat:Nat):Int):=by omega
 have q:atI (ns.map V.int) ((k.toNat:Nat):Int)=some (.int ns[k.toNat]):=cS (by rw [Nb,MT hk] <;> rfl)
 rw [← ek] at q
 exact ⟨_,q⟩
theorem En (D:Dat K mg "_law_hand" "_law_hand" (top 72) ["_law_script", "_law_k"]) (BT:Bt mg):Cal P w K mg base CX "_law_hand" 1 ["_law_script", "_law_k"] (oU K):=by
 have S:=DF
 walk_at "d"
 ·obtain ⟨a,ns,k,rfl,_⟩:=h
  rfl
 obtain ⟨a,ns,k,rfl,hS,h63,h0,q⟩:=h
 refine ⟨_,(ak (aM (i:=2) S.nd rfl (by first | exact Or.inl rfl | exact Or.inr rfl) (bQ (aa ai (aa ai (aa ai af)))))
   (ak (bf (aK fG (pv 1) (aX gp rfl BT.len L3.dg (aa (pv 0) af)) (aO _)) (ao (fW (aP c8 (ay bH (pv 0) (pv 1) (fun _ _=>rfl)) (aP dM (aP iK ai ai) (aP iK ai ai))) (iG (pv 2) ai set_list))) aJ)
   (ak (bf (PW.pt (iE (aK wW (ay bH (pv 2) ai (fun _ _=>rfl)) (aP iK ai ai) (aO _)) (fU (aK bZ (aP c8 (ay bH (pv 0) ai (fun _ _=>rfl)) ai) ai (aO _))))) (ao (fW ai (iG (pv 2) ai set_list))) aJ)
   (ak (bf (aK bZ (pv 1) ai (aO _)) (ao (fW (aP fH (ay bH (pv 2) ai (fun _ _=>rfl)) ai) (iG (pv 2) ai set_list))) aJ)
   (ao (aB (pv 2))))))),?_⟩
 have hl:(ns.map V.int).length=ns.length:=Nh _
 refine ⟨(by show 3≤sizeLine;decide),fun p hp=>?_⟩
 have sq:∀ o,SqL K (upd H p o) a (ns.map V.int):=fun o=>(b7 hp o).seq hS
 -- the number
 dsimp only [bD]
 refine cR (fun σ H'=>∃ x:Int,σ=[some (.ref a),some (.int k),some (.ref p)]∧H'=upd H p (.lst [.int x,.int 0,.int 1])∧0≤x∧x < 10 ^ 121∧(x=0∨k < (ns.length:Int))) (fun nx kk=>?_) ?_
 ·refine ⟨_,rfl,_,rfl,a,_,rfl,.inl (sq _),_,_,rfl,rfl,_,rfl,?_⟩
  refine yO (fun c=>?_) (fun c=>?_)
  ·have c':k < ((ns.map V.int).length:Int):=of_decide_eq_true c
   rw [hl] at c'
   obtain ⟨v,hv⟩:=tF h0 c'
   refine ⟨_,rfl,_,rfl,a,_,_,_,rfl,rfl,sq _,hv,_,_,rfl,rfl,⟨by decide,by decide,by decide⟩,_,_,rfl,rfl,⟨by decide,by decide,by decide⟩,_,_,rfl,rfl,⟨⟨by decide,by decide⟩,by decide,by decide⟩,_,_,rfl,rfl,(by show (0:Int) < _;decide),?_⟩
   refine ⟨_,rfl,p,_,_,0,rfl,rfl,aE,rfl,?_⟩
   refine kk _ _ ⟨_,rfl,e8,?_,?_,.inr c'⟩
   ·exact Int.emod_nonneg _ (by decide)
   ·exact Int.lt_trans (Int.emod_lt_of_pos _ (by decide)) (by decide)
  ·exact kk _ _ ⟨0,rfl,rfl,by decide,by decide,.inl rfl⟩
 rintro σ H' ⟨x,rfl,rfl,x0,x1,xk⟩
 -- the way
 refine cR (fun σ H'=>∃ m:Int,σ=[some (.ref a),some (.int k),some (.ref p)]∧H'=upd H p (.lst [.int x,.int 0,.int m])) (fun nx kk=>?_) ?_
 ·refine ⟨_,rfl,p,_,_,_,rfl,rfl,SqL.of aE,rfl,_,_,rfl,rfl,⟨by decide,by decide,by decide⟩,_,_,rfl,rfl,_,rfl,?_⟩
  refine yO (fun c=>?_) (fun c=>?_)
  ·have c':(10:Int) ^ 18≤x:=of_decide_eq_true c
   have hk:k < (ns.length:Int):=by
    rcases xk with z | z
    ·rw [z] at c';exact absurd c' (by decide)
    ·exact z
   obtain ⟨v,hv⟩:=tF (k:=0) (ns:=ns) (NF 0) (by omega)
   refine ⟨_,rfl,a,_,_,_,rfl,rfl,sq _,hv,_,_,rfl,rfl,(by show (0:Int) < _;decide),rfl,_,rfl,?_⟩
   refine yO (fun c=>?_) (fun c=>?_)
   ·refine ⟨_,rfl,p,_,_,2,rfl,rfl,aE,rfl,?_⟩
    exact kk _ _ ⟨0,rfl,e8⟩
   ·exact kk _ _ ⟨1,rfl,rfl⟩
  ·refine LP ?_
   exact kk _ _ ⟨1,rfl,rfl⟩
 rintro σ H' ⟨m,rfl,rfl⟩
 refine cR (fun σ H'=>∃ y:Int,σ=[some (.ref a),some (.int k),some (.ref p)]∧H'=upd H p (.lst [.int y,.int 0,.int m])∧0≤y∧y < 10 ^ 121) (fun nx kk=>?_) ?_
 ·refine ⟨_,rfl,rfl,_,rfl,?_⟩
  refine yO (fun c=>?_) (fun c=>?_)
  ·refine ⟨_,rfl,p,_,_,_,rfl,rfl,SqL.of aE,rfl,_,_,rfl,rfl,⟨by decide,by decide⟩,_,rfl,p,_,_,0,rfl,rfl,aE,rfl,?_⟩
   exact kk _ _ ⟨x / 2,rfl,e8,by omega,by omega⟩
  ·exact kk _ _ ⟨x,rfl,rfl,x0,x1⟩
 rintro σ H' ⟨y,rfl,rfl,y0,y1⟩
 refine ⟨_,rfl,?_⟩
 exact q p _ hp ⟨y,0,m,aE,y0,y1,NF _,NF _⟩ (b7 hp _)
theorem Dw:aq ["_law_hand_here", "_law_many", "_law_found", "_law_low", "_law_by", "_law_one", "_law_two"] ["_law_hand_here", "_law_many"] (aj (top 73)):=by walk_at "s"
def lim (n:Nat):Int:=10 ^ (6+5 * n)
def Dh:Nat→Sp
 | 0=>fun _ _ _ _=>False
 | n+1=>fun vs H Q _=>∃ (p:Addr) (many b:Int),vs=[.ref p,.int many]∧0 < many∧many≤lim n∧bh H p b∧b+2 ^ n≤2 ^ 60∧n≤12 ∧
  ∀ (r:Int) (H':Hp),0≤r→r < many→bh H' p (b+2 ^ n)→Oth p H H'→Q (.int r) H'
theorem BI {n:Nat} {m:Int} (h0 : 0 < m) (h:m≤lim (n+1)):m / 1000000+1≤lim n:=by
 have e:lim (n+1)=100000 * lim n:=by
  unfold lim
  rw [show 6+5 * (n+1)=(6+5 * n)+5 from by omega,Int.pow_add]
  rw [show (10:Int) ^ 5=100000 from by decide,Int.mul_comm]
 have e1:(1000000:Int)≤lim n:=by
  unfold lim
  rw [Int.pow_add]
  have:(0:Int) < 10 ^ (5 * n):=Int.pow_pos (by decide)
  rw [show (10:Int) ^ 6=1000000 from by decide]
  have h1:(1:Int)≤10 ^ (5 * n):=this
  have:=Int.mul_le_mul_of_nonneg_left h1 (show (0:Int)≤1000000 by decide)
  rw [Int.mul_one] at this
  exact this
 omega
theorem EF {n:Nat}:(1000000:Int)≤lim n:=by
 unfold lim
 rw [Int.pow_add]
 have:(0:Int) < 10 ^ (5 * n):=Int.pow_pos (by decide)
 rw [show (10:Int) ^ 6=1000000 from by decide]
 have h1:(1:Int)≤10 ^ (5 * n):=this
 have:=Int.mul_le_mul_of_nonneg_left h1 (show (0:Int)≤1000000 by decide)
 rw [Int.mul_one] at this
 exact this
theorem BJ {n:Nat} (h:n≤12):lim n < 2 ^ 250:=by
 unfold lim
 refine Int.lt_of_le_of_lt (b:=10 ^ 66) ?_ (by decide)
 have:(10:Nat) ^ (6+5 * n)≤10 ^ 66:=Nat.pow_le_pow_right (by decide) (by omega)
 exact_mod_cast this
theorem Hl {u v A B:Int} (h1 : 0≤u) (h2:u≤A) (h3 : 0≤v) (h4:v≤B) : 0≤u * v∧u * v≤A * B:=
 ⟨Int.mul_nonneg h1 h3,Nz (Int.mul_le_mul_of_nonneg_right h2 h3) (Int.mul_le_mul_of_nonneg_left h4 (Nz h1 h2))⟩
theorem Gk {n:Nat} (h:n≤12):(1:Int)≤2 ^ n∧(2:Int) ^ n≤1048576:=by
 have h1 : 1≤2 ^ n:=Nat.one_le_two_pow
 have h2 : 2 ^ n≤2 ^ 20:=Nat.pow_le_pow_right (by decide) (by omega)
 have e:((2:Int) ^ n)=((2 ^ n:Nat):Int):=by norm_cast
 rw [e]
 omega
theorem rL (D:Dat K mg "_law_pick" "_law_pick" (top 73) ["_law_hand_here", "_law_many"]) (NE:br CX):∀ n:Nat,Cal P w K mg base CX "_law_pick" n ["_law_hand_here", "_law_many"] (Dh n)
 | 0=>Dat.none D fun _ _ _ _ h=>h
 | n+1=>by
  have az:=rL D NE n
  have S:=Dw
  walk_at "d"
  ·obtain ⟨p,many,b,rfl,_⟩:=h
   rfl
  obtain ⟨p,many,b,rfl,hm,hlm,hh,hb,hn,q⟩:=h
  have hm6:=Int.lt_of_le_of_lt hlm (BJ hn)
  refine ⟨_,(ak (bf (aK bZ (ay bH (pv 0) ai (fun _ _=>rfl)) ai (aO _)) (ak (aM (i:=2) S.nd rfl (by first | exact Or.inl rfl | exact Or.inr rfl) (aP c8 (ay bH (pv 0) ai (fun _ _=>rfl)) (pv 1)))
    (ak (fW (aP fH (ay bH (pv 0) ai (fun _ _=>rfl)) (pv 1)) (iG (pv 0) ai set_list))
    (ao (aB (pv 2))))) aJ)
   (ak (bf (aK jg (pv 1) ai (aO _)) (ak (aM (i:=3) S.nd rfl (by first | exact Or.inl rfl | exact Or.inr rfl) (aH az (hr.mono (by first | decide | omega)) NE.pass (aa (pv 0) (aa ai af))))
    (ao (aB (aP c8 (aP bM (pv 3) (aP dM ai (aH az (hr.mono (by first | decide | omega)) NE.pass (aa (pv 0) (aa (aP bM (aP fH (pv 1) ai) ai) af))))) (pv 1))))) aJ)
   (ak (fW (aP bM (ay bH (pv 0) ai (fun _ _=>rfl)) ai) (iG (pv 0) ai set_list))
   (ak (aM (i:=4) S.nd rfl (by first | exact Or.inl rfl | exact Or.inr rfl) (aP bM ai (aP dM (aP dM ai (ay bH (pv 0) ai (fun _ _=>rfl))) (ay bH (pv 0) ai (fun _ _=>rfl)))))
   (ak (aM (i:=5) S.nd rfl (by first | exact Or.inl rfl | exact Or.inr rfl) (aP c8 (aP dM (aP bM (aP c8 (ay bH (pv 0) ai (fun _ _=>rfl)) ai) ai) (pv 4)) ai))
   (ak (aM (i:=6) S.nd rfl (by first | exact Or.inl rfl | exact Or.inr rfl) (aP c8 (aP bM (aP dM (pv 5) (pv 5)) (aP dM ai (pv 5))) ai))
   (ao (aB (aP c8 (aP fH (aP c8 (aP dM (pv 6) ai) ai) ai) (pv 1)))))))))),?_⟩
  obtain ⟨a,d,c,hp,a0,a1,d0,d1⟩:=id hh
  have p20:=Gk hn
  refine ⟨_,rfl,p,_,_,_,rfl,rfl,SqL.of hp,rfl,rfl,_,rfl,?_⟩
  refine yO (fun cc=>?_) (fun cc=>?_)
  ·refine ⟨_,rfl,p,_,_,_,rfl,rfl,SqL.of hp,rfl,_,rfl,_,_,rfl,rfl,hm,?_⟩
   refine ⟨_,rfl,p,_,_,_,rfl,rfl,SqL.of hp,rfl,_,rfl,_,_,rfl,rfl,⟨hm,hm6⟩,_,rfl,p,_,_,0,rfl,rfl,hp,rfl,_,rfl,?_⟩
   refine q _ _ (Int.emod_nonneg _ (by omega)) (Int.emod_lt_of_pos _ hm) ⟨a / many,d,c,aE,Int.ediv_nonneg a0 (by omega),Int.lt_of_le_of_lt (Int.ediv_le_self _ a0) a1,d0,by omega⟩ ((Oth.refl p H).upd _)
  refine ⟨_,rfl,_,_,rfl,rfl,_,rfl,?_⟩
  refine yO (fun cg=>?_) (fun cg=>?_)
  ·have cg':(1000000:Int) < many:=of_decide_eq_true cg
   -- two smaller ones
   cases n with
   | zero=>
    have:many≤1000000:=hlm
    omega
   | succ n=>
    have p21:=Gk (n:=n) (by omega)
    have e2:(2:Int) ^ (n+1)=2 * 2 ^ n:=by rw [Int.pow_succ,Int.mul_comm]
    have hm2:=BI hm hlm
    have hm3:=BJ (n:=n) (by omega)
    have hm4:=Int.ediv_nonneg (Int.le_of_lt hm) (show (0:Int)≤1000000 by decide)
    rw [e2] at hb
    refine ⟨_,rfl,p,1000000,b,rfl,by decide,EF,hh,by omega,by omega,fun r1 H1 r10 r11 hh1 o1=>?_⟩
    refine ⟨_,rfl,_,rfl,_,rfl,_,_,rfl,rfl,⟨by decide,by decide⟩,_,_,rfl,rfl,p,_,_,rfl,by omega,hm2,hh1,by omega,by omega,fun r2 H2 r20 r21 hh2 o2=>?_⟩
    ·refine ⟨_,_,rfl,rfl,⟨⟨by decide,by decide⟩,by omega,by omega⟩,_,_,rfl,rfl,_,rfl,_,_,rfl,rfl,hm,?_⟩
     refine q _ _ (Int.emod_nonneg _ (by omega)) (Int.emod_lt_of_pos _ hm) (hh2.mono ?_) (o1.trans o2)
     show b+2 ^ n+2 ^ n≤b+2 ^ (n+1)
     omega
  ·have MJ:b≤1152921504606846976:=by omega
   refine ⟨_,rfl,p,_,_,_,rfl,rfl,SqL.of hp,rfl,_,_,rfl,rfl,_,rfl,p,_,_,1,rfl,rfl,hp,rfl,?_⟩
   have hp1:(upd H p (HO.lst [.int a,.int (d+1),.int c])) p=some (.lst [.int a,.int (d+1),.int c]):=aE
   have m1:=Hl (u:=39916801 * (d+1)) (v:=d+1) (A:=2 ^ 90) (B:=2 ^ 62) (by omega) (by omega) (by omega) (by omega)
   have m0:=Int.emod_nonneg a (show (2147483629:Int)≠0 by decide)
   have m0':=Int.emod_lt_of_pos a (show (0:Int) < 2147483629 by decide)
   refine ⟨_,rfl,p,_,_,_,rfl,rfl,SqL.of hp1,rfl,_,_,rfl,rfl,⟨⟨by decide,by decide⟩,by omega,by omega⟩,_,rfl,p,_,_,_,rfl,rfl,SqL.of hp1,rfl,_,_,rfl,rfl,⟨⟨by omega,by omega⟩,by omega,by omega⟩,_,_,rfl,rfl,?_⟩
   refine ⟨_,rfl,p,_,_,_,rfl,rfl,SqL.of hp1,rfl,_,_,rfl,rfl,(by show (0:Int) < _;decide),_,_,rfl,rfl,_,rfl,_,_,rfl,rfl,⟨⟨by omega,by omega⟩,by omega,by omega⟩,_,_,rfl,rfl,(by show (0:Int) < _;decide),?_⟩
   generalize hx:(a % 2147483629+11) * (716151937+39916801 * (d+1) * (d+1)) % 998244353=x
   have x0 : 0≤x:=hx▸Int.emod_nonneg _ (by decide)
   have x1:x < 998244353:=hx▸Int.emod_lt_of_pos _ (by decide)
   refine ⟨_,rfl,_,rfl,_,_,rfl,rfl,⟨⟨by omega,by omega⟩,by omega,by omega⟩,_,rfl,_,_,rfl,rfl,⟨⟨by decide,by decide⟩,by omega,by omega⟩,_,_,rfl,rfl,_,_,rfl,rfl,(by show (0:Int) < _;decide),?_⟩
   generalize hy:(x * x+48271 * x) % 1000000007=y
   have y0 : 0≤y:=hy▸Int.emod_nonneg _ (by decide)
   have y1:y < 1000000007:=hy▸Int.emod_lt_of_pos _ (by decide)
   refine ⟨_,rfl,_,_,rfl,rfl,⟨⟨by omega,by omega⟩,by decide,by decide⟩,_,_,rfl,rfl,(by show (0:Int) < _;decide),_,_,rfl,rfl,⟨by decide,by decide⟩,_,rfl,_,_,rfl,rfl,hm,?_⟩
   exact q _ _ (Int.emod_nonneg _ (by omega)) (Int.emod_lt_of_pos _ hm) ⟨a,d+1,c,hp1,a0,a1,by omega,by omega⟩ ((Oth.refl p H).upd _)
def fR:Sp:=fun vs H Q _=>∃ (p:Addr) (many b:Int),vs=[.ref p,.int many]∧0 < many∧many≤10 ^ 50∧bh H p b∧b≤1000000000 ∧
  ∀ (r:Int) (H':Hp),0≤r→r < many→bh H' p (b+1024)→Oth p H H'→Q (.int r) H'
theorem Eg (D:Dat K mg "_law_pick" "_law_pick" (top 73) ["_law_hand_here", "_law_many"]) (NE:br CX):Cal P w K mg base CX "_law_pick" 11 ["_law_hand_here", "_law_many"] fR:=
 (rL D NE 11).imp fun vs H Q E ⟨p,many,b,e,h1,h2,hh,hb,q⟩=>⟨p,many,b,e,h1,Nz h2 (by decide),hh,(by show b+1024≤1152921504606846976;omega),by decide,q⟩
end
def bx (n:Int):Ob:=⟨fun _ o=>∃ a b c:Int,o = .lst [.int a,.int b,.int c]∧0≤a∧a < 10 ^ 121∧0≤b∧b≤n,fun _ h=>h⟩
theorem bx.at {n:Int} {H:Hp} {p:Addr} (h:∃ o,H p=some o∧(bx n).p H o):bh H p n:=by
 obtain ⟨o,e,a,b,c,rfl,r⟩:=h
 exact ⟨a,b,c,e,r⟩
theorem bh.ob {n:Int} {H:Hp} {p:Addr} (h:bh H p n):∃ o,H p=some o∧(bx n).p H o:=by
 obtain ⟨a,b,c,e,r⟩:=h
 exact ⟨_,e,a,b,c,rfl,r⟩
theorem bh.ts {n:Int} {H H':Hp} {p:Addr} (h:bh H p n) (o:Oth p H H'):Chg p H H':=by
 obtain ⟨a,b,c,e,_⟩:=h
 exact ⟨o,fun q xs hq=>o q _ hq fun z=>by rw [z,e] at hq;cases hq⟩
section
variable {K:PySem.W.Frag} {P:Addr→Prop} {H0 H:Hp} {l l':List (Addr×Ob)} {fs:List Pr} {p:Addr} {Q:VK} {E:XK}
theorem kP {a:Addr} {ns:List Int} {k:Int} (L:Led P H0 H l fs) (hS:SqL K H a (ns.map V.int)) (h63:ns.length≤63) (h0 : 0≤k)
  (q:∀ p H',H p=none→Led P H0 H' ((p,bx 0)::l) fs→aI H H'→Q (.ref p) H'):oU K [.ref a,.int k] H Q E:=
 ⟨a,ns,k,rfl,hS,h63,h0,fun p H' np hh s=>q p H' np ⟨fun x hx=>by
   rcases List.mem_cons.mp hx with rfl | hx
   ·exact hh.ob
   ·exact (L.keep s).at_ x hx,
  by
   rw [List.map_cons,List.nodup_cons]
   refine ⟨fun z=>?_,L.nd⟩
   obtain ⟨x,hx,e⟩:=List.mem_map.mp z
   exact (L.fresh np).1 x hx e,
  fun x hx=>by
   rcases List.mem_cons.mp hx with rfl | hx
   ·exact (L.fresh np).2
   ·exact L.own x hx,(L.keep s).fr,(L.keep s).st⟩ s⟩
theorem bg {many b:Int} (L:Led P H0 H l fs) (m:Put p (bx b) (bx (b+1024)) l l') (h0 : 0 < many) (h1:many≤10 ^ 50) (hb:b≤1000000000)
  (q:∀ r H',0≤r→r < many→Led P H0 H' l' fs→Chg p H H'→Q (.int r) H'):fR [.ref p,.int many] H Q E:=
 have hh:=bx.at (L.at_ _ m.mem)
 ⟨p,many,b,rfl,h0,h1,hh,hb,fun r H' r0 r1 hh' o=>q r H' r0 r1 (L.set m (hh.ts o) hh'.ob) (hh.ts o)⟩
theorem bU {b:Int} (h:bh H p b):Led (·=p) H H [(p,bx b)] []:=
 ⟨fun x hx=>by rw [List.mem_singleton.mp hx];exact h.ob,by simp,fun x hx=>.inl (by rw [List.mem_singleton.mp hx]),fun _ _ h _=>h,fun _ h=>by simp at h⟩
end
structure ShN (c s:Int):Prop where
 c1 : 1≤c
 c2:c≤1000
 s1 : 1≤s
 s2:s≤1000
theorem Lm:¬ (("counts" : Str) = "slots"):=by decide +kernel
def shF (c s:Int):List (Str×V):=[("counts",.int c),("slots",.int s)]
theorem Dj (c s:Int):bO "slots" (.int s) (bO "counts" (.int c) [])=shF c s:=by
 show (if ("counts" : Str) = "slots" then _ else (("counts" : Str),V.int c)::[(("slots" : Str),V.int s)])=_
 rw [if_neg Lm]
 rfl
theorem wK (c s:Int):(shF c s).lookup ("counts" : Str)=some (.int c):=by unfold shF;walk_at "lk"
theorem qU (c s:Int):(shF c s).lookup ("slots" : Str)=some (.int s):=by unfold shF;walk_at "lk"
def CC (C:Addr) (c s:Int):Ob:=⟨fun _ o=>∃ dx,o = .ins C dx (shF c s),fun _ h=>h⟩
structure ShC (K:PySem.W.Frag) (C:Addr):Prop where
 cl:Cls K C
 nc:aY K C "counts"
 ns:aY K C "slots"
section
variable {P:Program} {w:World} {K:PySem.W.Frag} {mg:Str→Option Value} {base:Heap} {CX:CXT} {C:Addr}
theorem Al:aq ["thing"] ["thing"] (aj (top 16)):=by walk_at "s"
def qI:Sp:=fun vs H Q _=>∃ i:Int,vs=[.int i]∧Q (.bl true) H
theorem gG {H:Hp} {Q:VK} {x:V} {t:Value} {T:String} {b:Bool} (ty:iy K H x t) (e:PySem.W.kitOne K t (.type T)=some b) (h:Q (.bl b) H):GZ K [x,.ty T] H Q:=⟨x,_,t,b,rfl,ty,.inl ⟨T,rfl,e⟩,h⟩
theorem Ba (D:Dat K mg "is_whole" "is_whole" (top 16) ["thing"]) (BT:Bt mg):Cal P w K mg base CX "is_whole" 1 ["thing"] qI:=by
 have S:=Al
 walk_at "d"
 ·obtain ⟨i,rfl,_⟩:=h
  rfl
 obtain ⟨i,rfl,q⟩:=h
 refine ⟨_,(ao (aB (iI (pI BT.isinstance BT.int_ L3.Cv (pv 0)) (iH (G3 (pI BT.isinstance BT.bool_ L3.FE (pv 0))))))),?_⟩
 dsimp only [aZ]
 walk_at "go"
 refine gG (.int i) rfl ?_
 walk_at "go"
 refine gG (.int i) rfl ?_
 walk_at "go"
 exact q
theorem DG:aq ["thing", "least"] ["thing", "least"] (aj (top 17)):=by walk_at "s"
def oW:Sp:=fun vs H Q _=>∃ i n:Int,vs=[.int i,.int n]∧Q (.bl (decide (n≤i))) H
theorem Ep (D:Dat K mg "is_whole_from" "is_whole_from" (top 17) ["thing", "least"]) (NE:br CX) (vK:Cal P w K mg base CX "is_whole" 1 ["thing"] qI):Cal P w K mg base CX "is_whole_from" 2 ["thing", "least"] oW:=by
 have S:=DG
 walk_at "d"
 ·obtain ⟨i,n,rfl,_⟩:=h
  rfl
 obtain ⟨i,n,rfl,q⟩:=h
 refine ⟨_,(ao (aB (iI (aH vK (hr.mono (by first | decide | omega)) NE.pass (aa (pv 0) af)) (iH (cJ nR (pv 1) (pv 0) (aO _)))))),?_⟩
 walk_at "go"
 refine ⟨i,rfl,?_⟩
 walk_at "go"
 exact q
theorem Ds:aq ["thing"] ["thing"] (aj (top 18)):=by walk_at "s"
def z8:Sp:=fun vs H Q _=>∃ i:Int,vs=[.int i]∧1≤i∧i≤1000∧Q (.bl true) H
theorem Ec (D:Dat K mg "is_side" "is_side" (top 18) ["thing"]) (NE:br CX) (kr:GlV mg "GREATEST_SIDE" (.int 1000)) (d9:Cal P w K mg base CX "is_whole_from" 2 ["thing", "least"] oW):Cal P w K mg base CX "is_side" 3 ["thing"] z8:=by
 have S:=Ds
 walk_at "d"
 ·obtain ⟨i,rfl,_⟩:=h
  rfl
 obtain ⟨i,rfl,h1,h2,q⟩:=h
 refine ⟨_,(ao (aB (iI (aH d9 (hr.mono (by first | decide | omega)) NE.pass (aa (pv 0) (aa ai af))) (iH (cJ nR (pv 0) (yl kr) (aO _)))))),?_⟩
 walk_at "go"
 refine ⟨i,1,rfl,?_⟩
 rw [Np h1]
 walk_at "go"
 rw [Np h2]
 exact q
theorem Aq:aq ["self", "counts", "slots"] ["self", "counts", "slots"] (aj (inClass (top 19) 0)):=by walk_at "s"
def kI (C:Addr):Sp:=fun vs H Q _=>∃ (p dx:Addr) (c s:Int),vs=[.ref p,.int c,.int s]∧ShN c s∧H p=some (.ins C dx [])∧∀ H',H' p=some (.ins C dx (shF c s))→(∀ q o,H q=some o→q≠p→H' q=some o)→Q .non H'
theorem Bf (D:nh K mg "Shape" "Shape.__init__" C (inClass (top 19) 0) ["self", "counts", "slots"]) (SC:ShC K C) (NE:br CX) (oj:Cal P w K mg base CX "is_side" 3 ["thing"] z8):Mak P w K mg base CX "Shape" C 4 ["self", "counts", "slots"] (kI C):=by
 have S:=Aq
 walk_at "d"
 ·obtain ⟨p,dx,c,s,rfl,_⟩:=h
  rfl
 obtain ⟨p,dx,c,sl,rfl,n,hp,q⟩:=h
 refine ⟨_,(ak (bf (PW.pt (wO (dj (cj (aH oj (hr.mono (by first | decide | omega)) NE.pass (aa (pv 1) af)))) (pF (dj (cj (aH oj (hr.mono (by first | decide | omega)) NE.pass (aa (pv 2) af))))))) (ao gz) aJ)
   (ak (cU (pv 0) (pv 1) rfl)
   (ao (cU (pv 0) (pv 2) rfl)))),?_⟩
 dsimp only [aZ]
 walk_at "go"
 refine ⟨c,rfl,n.c1,n.c2,?_⟩
 walk_at "go"
 refine ⟨sl,rfl,n.s1,n.s2,?_⟩
 walk_at "go"
 refine ⟨p,C,dx,[],rfl,hp,SC.cl,SC.nc,by decide,?_⟩
 walk_at "go"
 refine ⟨p,C,dx,_,rfl,aE,SC.cl,SC.ns,(by show 1 < 1000;decide),?_⟩
 rw [e8,Dj]
 exact q _ aE fun x o h z=>by rw [aF z];exact h
theorem xO {PP:Addr→Prop} {H0 H:Hp} {l:List (Addr×Ob)} {fs:List Pr} {Q:VK} {E:XK} {c s:Int} (L:Led PP H0 H l fs) (n:ShN c s) (q:∀ x H',H x=none→Led PP H0 H' ((x,CC C c s)::l) fs→aI H H'→Q (.ref x) H'):Made C (kI C) E [.int c,.int s] H Q:=by
 intro x dx nx nd ne
 refine ⟨x,dx,c,s,rfl,n,aE,fun H' h1 h2=>⟨rfl,?_⟩⟩
 have sm:aI H H':=fun b o e=>h2 b o (by rw [aF (aG e nx),aF (aG e nd)];exact e) (aG e nx)
 exact q x H' nx (L.add sm nx ⟨_,h1,dx,rfl⟩) sm
def mk (c s m l k:Int):Int:=(m * s+l) * c+k
def CF (C:Addr) (H:Hp) (p:Addr) (c s:Int):Prop:=∃ dx,H p=some (.ins C dx (shF c s))
theorem Dz:aq ["shape", "moment", "slot", "count"] ["shape", "moment", "slot", "count"] (aj (top 20)):=by walk_at "s"
def Ad (C:Addr):Sp:=fun vs H Q _=>∃ (p:Addr) (c s m l k:Int),vs=[.ref p,.int m,.int l,.int k]∧ShN c s∧CF C H p c s∧Q (.int (mk c s m l k)) H
theorem Ei (D:Dat K mg "mark_of" "mark_of" (top 20) ["shape", "moment", "slot", "count"]) (SC:ShC K C):Cal P w K mg base CX "mark_of" 1 ["shape", "moment", "slot", "count"] (Ad C):=by
 have S:=Dz
 walk_at "d"
 ·obtain ⟨p,c,s,m,l,k,rfl,_⟩:=h
  rfl
 obtain ⟨p,c,sl,m,l,k,rfl,n,⟨dx,hp⟩,q⟩:=h
 obtain ⟨c1,c2,s1,s2⟩:=n
 refine ⟨_,(ao (aB (aP bM (aP A8 (aP bM (aP A8 (pv 1) (aQ (pv 0) rfl)) (pv 2)) (aQ (pv 0) rfl)) (pv 3)))),?_⟩
 dsimp only [aZ]
 walk_at "go"
 refine ⟨p,C,dx,_,_,rfl,hp,SC.cl,SC.ns,qU c sl,?_⟩
 refine Im (show C3 _ _ from .inr ⟨by omega,by omega⟩) ?_
 walk_at "go"
 refine ⟨p,C,dx,_,_,rfl,hp,SC.cl,SC.nc,wK c sl,?_⟩
 refine Im (show C3 _ _ from .inr ⟨by omega,by omega⟩) ?_
 walk_at "go"
 exact q
theorem Ay:aq ["shape", "mark", "count", "rest"] ["shape", "mark"] (aj (top 21)):=by walk_at "s"
def oR (C:Addr):Sp:=fun vs H Q _=>∃ (p:Addr) (c s m:Int),vs=[.ref p,.int m]∧ShN c s∧CF C H p c s∧0≤m ∧
 ∀ t H',H t=none→H' t=some (.tup [.int (m / c / s),.int (m / c % s),.int (m % c)])→aI H H'→Q (.ref t) H'
theorem Bo (D:Dat K mg "parts_of" "parts_of" (top 21) ["shape", "mark"]) (SC:ShC K C):Cal P w K mg base CX "parts_of" 1 ["shape", "mark"] (oR C):=by
 have S:=Ay
 walk_at "d"
 ·obtain ⟨p,c,s,m,rfl,_⟩:=h
  rfl
 obtain ⟨p,c,sl,m,rfl,n,⟨dx,hp⟩,m0,q⟩:=h
 obtain ⟨c1,c2,s1,s2⟩:=n
 refine ⟨_,(ak (aM (i:=2) S.nd rfl (by first | exact Or.inl rfl | exact Or.inr rfl) (aP c8 (pv 1) (aQ (pv 0) rfl)))
   (ak (aM (i:=3) S.nd rfl (by first | exact Or.inl rfl | exact Or.inr rfl) (aP fH (pv 1) (aQ (pv 0) rfl)))
   (ao (aB (bA (aa (aP fH (pv 3) (aQ (pv 0) rfl)) (aa (aP c8 (pv 3) (aQ (pv 0) rfl)) (aa (pv 2) af)))))))),?_⟩
 dsimp only [aZ]
 have L:=Led.start H (fun _=>False)
 walk_at "go"
 refine ⟨p,C,dx,_,_,rfl,hp,SC.cl,SC.nc,wK c sl,?_⟩
 walk_at "go"
 refine ⟨p,C,dx,_,_,rfl,hp,SC.cl,SC.nc,wK c sl,?_⟩
 walk_at "go"
 refine ⟨p,C,dx,_,_,rfl,hp,SC.cl,SC.ns,qU c sl,?_⟩
 walk_at "go"
 refine ⟨p,C,dx,_,_,rfl,hp,SC.cl,SC.ns,qU c sl,?_⟩
 walk_at "go"
 exact q _ _ n' (L'.tup (by walk_at "mem")) (by assumption)
end
def jW:List Str:=["ahead", "apart", "ends", "once", "spoken"]
structure RuN (ws:List Str):Prop where
 sub:∀ x∈ws,x∈jW
 nd:ws.Nodup
def stF (sh:V) (far room term:Int) (tr:Addr):List (Str×V):=[("shape",sh),("far",.int far),("room",.int room),("term",.int term),("rules",.ref tr)]
structure StC (K:PySem.W.Frag) (C:Addr):Prop where
 cl:Cls K C
 n1:aY K C "shape"
 n2:aY K C "far"
 n3:aY K C "room"
 n4:aY K C "term"
 n5:aY K C "rules"
def qk (C:Addr) (H:Hp) (p:Addr) (sh:V) (far room term:Int) (ws:List Str):Prop:=∃ (dx tr:Addr) (ms:List Str),H p=some (.ins C dx (stF sh far room term tr))∧H tr=some (.tup (ms.map V.str))∧ms.Perm ws
structure StN (far room term:Int):Prop where
 f0 : 0≤far
 f1:far≤1000000000000
 r0 : 1≤room
 r1:room≤1000000000000
 t0 : 1≤term
 t1:term≤1000000000000
theorem De (sh:V) (far room term:Int) (tr:Addr):bO "rules" (.ref tr) (bO "term" (.int term) (bO "room" (.int room) (bO "far" (.int far) (bO "shape" sh []))))=stF sh far room term tr:=by
 have a1:¬ (("shape" : Str) = "far"):=by decide +kernel
 have a2:¬ (("shape" : Str) = "room"):=by decide +kernel
 have a3:¬ (("shape" : Str) = "term"):=by decide +kernel
 have a4:¬ (("shape" : Str) = "rules"):=by decide +kernel
 have b2:¬ (("far" : Str) = "room"):=by decide +kernel
 have b3:¬ (("far" : Str) = "term"):=by decide +kernel
 have b4:¬ (("far" : Str) = "rules"):=by decide +kernel
 have c3:¬ (("room" : Str) = "term"):=by decide +kernel
 have c4:¬ (("room" : Str) = "rules"):=by decide +kernel
 have d4:¬ (("term" : Str) = "rules"):=by decide +kernel
 simp only [bO,if_neg a1,if_neg a2,if_neg a3,if_neg a4,if_neg b2,if_neg b3,if_neg b4,if_neg c3,if_neg c4,if_neg d4]
 rfl
theorem c7 (f:Str) (v:V):∀ fs:List (Str×V),(bO f v fs).length≤fs.length+1
 | []=>NB 1
 | (g,x)::r=>by
  show (if g=f then (g,v)::r else (g,x)::bO f v r).length≤_
  have:=c7 f v r
  by_cases c:g=f
  ·rw [if_pos c,Nd,Nd];omega
  ·rw [if_neg c,Nd,Nd];omega
theorem ny (sh:V) (far room term:Int) (tr:Addr):(stF sh far room term tr).lookup ("rules" : Str)=some (.ref tr):=by unfold stF;walk_at "lk"
theorem fD (sh:V) (far room term:Int) (tr:Addr):(stF sh far room term tr).lookup ("shape" : Str)=some sh:=by unfold stF;walk_at "lk"
theorem Df (sh:V) (far room term:Int) (tr:Addr):(stF sh far room term tr).lookup ("far" : Str)=some (.int far):=by unfold stF;walk_at "lk"
theorem z0 (sh:V) (far room term:Int) (tr:Addr):(stF sh far room term tr).lookup ("room" : Str)=some (.int room):=by unfold stF;walk_at "lk"
theorem zZ (sh:V) (far room term:Int) (tr:Addr):(stF sh far room term tr).lookup ("term" : Str)=some (.int term):=by unfold stF;walk_at "lk"
section
variable {P:Program} {w:World} {K:PySem.W.Frag} {mg:Str→Option Value} {base:Heap} {CX:CXT} {C aR:Addr}
theorem Dr:aq ["thing", "least"] ["thing", "least"] (aj (top 43)):=by walk_at "s"
def z7:Sp:=fun vs H Q _=>∃ i n:Int,vs=[.int i,.int n]∧n≤i∧i≤1000000000000∧Q (.bl true) H
theorem Ea (D:Dat K mg "is_span" "is_span" (top 43) ["thing", "least"]) (NE:br CX) (kq:GlV mg "GREATEST_SPAN" (.int 1000000000000)) (d9:Cal P w K mg base CX "is_whole_from" 2 ["thing", "least"] oW):Cal P w K mg base CX "is_span" 3 ["thing", "least"] z7:=by
 have S:=Dr
 walk_at "d"
 ·obtain ⟨i,n,rfl,_⟩:=h
  rfl
 obtain ⟨i,n,rfl,h1,h2,q⟩:=h
 refine ⟨_,(ao (aB (iI (aH d9 (hr.mono (by first | decide | omega)) NE.pass (aa (pv 0) (aa (pv 1) af))) (iH (cJ nR (pv 0) (yl kq) (aO _)))))),?_⟩
 try dsimp only [aZ]
 walk_at "go"
 refine ⟨i,n,rfl,?_⟩
 rw [Np h1]
 walk_at "go"
 rw [Np h2]
 exact q
theorem Du:aq ["thing"] ["thing"] (aj (top 44)):=by walk_at "s"
def Aa:Sp:=fun vs H Q _=>∃ z:Str,vs=[.str z]∧z∈jW∧Q (.bl true) H
theorem Ed (D:Dat K mg "is_rule" "is_rule" (top 44) ["thing"]) (BT:Bt mg) (fj:GlV mg "RULES" (.ref aR)) (hR:∀ H,SqT K H aR (jW.map V.str)):Cal P w K mg base CX "is_rule" 1 ["thing"] Aa:=by
 have S:=Du
 walk_at "d"
 ·obtain ⟨z,rfl,_⟩:=h
  rfl
 obtain ⟨z,rfl,hz,q⟩:=h
 refine ⟨_,(ao (aB (iI (pI BT.isinstance BT.str_ L3.Jm (pv 0)) (iH (cJ jH (pv 0) (yl fj) (by with_unfolding_all rfl)))))),?_⟩
 try dsimp only [aZ]
 walk_at "go"
 refine gG (.str z) rfl ?_
 walk_at "go"
 refine B0 (hR _) ?_
 rw [Np hz]
 exact q
theorem Ar:aq ["thing"] ["thing"] (aj (top 45)):=by walk_at "s"
theorem AO {ws:List Str} (h:RuN ws):ws.length≤5:=by
 have:∀ (xs ys:List Str),xs.Nodup→(∀ x∈xs,x∈ys)→xs.length≤ys.length:=by
  intro xs
  induction xs with
  | nil=>intro ys _ _;exact NC _
  | cons x xs ih=>
   intro ys hn hs
   rw [List.nodup_cons] at hn
   have hx:=hs x M7
   have:=ih (ys.erase x) hn.2 fun y hy=>(List.mem_erase_of_ne (fun e=>hn.1 (by rw [← e];exact hy))).mpr (hs y (M3 _ hy))
   rw [List.length_erase_of_mem hx] at this
   have hp:=List.length_pos_of_mem hx
   rw [Nd];omega
 exact this ws jW h.nd h.sub
def kZ:Sp:=fun vs H Q _=>∃ (a:Addr) (ws:List Str),vs=[.ref a]∧H a=some (.lst (ws.map V.str))∧RuN ws∧∀ H',aI H H'→Q (.bl true) H'
theorem Bg (D:Dat K mg "are_rules" "are_rules" (top 45) ["thing"]) (BT:Bt mg) (NE:br CX) (zo:Cal P w K mg base CX "is_rule" 1 ["thing"] Aa):Cal P w K mg base CX "are_rules" 3 ["thing"] kZ:=by
 have S:=Ar
 walk_at "d"
 ·obtain ⟨a,ws,rfl,_⟩:=h
  rfl
 obtain ⟨a,ws,rfl,ha,hw,q⟩:=h
 refine ⟨_,(ak (bf (gy (iJ (pv 0))) (ao (aB eu)) aJ)
   (ak (bf (dj (cj (DY BT.isinstance (pv 0) (bA (aa (pJ (v:=(V.ty "list")) rfl BT.list_ L3.iu rfl) (aa (pJ (v:=(V.ty "tuple")) rfl BT.tuple_ L3.l6 rfl) af)))))) (ao (aB eu)) aJ)
   (ak (bf (dj (cj (aX (Cr rfl) rfl BT.all L3.Jo (aa (fX (g:=(bD 0)) rfl (b8 (pv 0)) (eZ (own:=["word"]) (cap:=[]) (aj (top 45)).names ["thing"] rfl rfl rfl (by decide +kernel)) (fun _ _ _ _=>(bu (i:=0) (show (gq ["thing"] ["word"] []).Nodup by decide +kernel) rfl (by first | exact Or.inl rfl | exact Or.inr rfl))) (fun _ _ _ _=>eS) (fun _ _ _ _=>(aH zo (hr.mono (by first | decide | omega)) NE.pass (aa (pv 0) af)))) af)))) (ao (aB eu)) aJ)
   (ao (aB (cJ bZ (yk rfl rfl rfl BT.len BT.set_ (pv 0)) (aX gp rfl BT.len L3.dg (aa (pv 0) af)) (aO _))))))),?_⟩
 try dsimp only [aZ]
 have hl5:=AO hw
 have L:=Led.start H (fun _=>False)
 walk_at "go"
 refine bF (fun z=>nomatch z) fun _=>?_
 walk_at "go"
 have s1:=L'.same
 refine II ["list", "tuple"] (.lst (s1 _ _ ha)) (L'.tup (by walk_at "mem")) rfl ?_
 clear L L'
 rename Hp=>H1
 walk_at "go"
 refine cB (SqL.of (s1 _ _ ha)) ?_
 refine dR (ws.map V.str) (fun i ys Hx=>ys=(List.replicate i true).map V.bl∧Hx=H1) ⟨rfl,rfl⟩ (fun i ys Hx hi ⟨e,e2⟩=>⟨e2▸SqL.of (s1 _ _ ha),by
  rw [e,Nh,MY]
  rw [Nh] at hi
  exact Nr (small1000 (by omega))⟩) ?_ ?_
 ·rintro i v ys H2 hv ⟨rfl,rfl⟩
  obtain ⟨z,hz,rfl⟩:∃ z,z∈ws∧v = .str z:=by
   obtain ⟨z,hz,e⟩:=List.mem_map.mp (M0 hv)
   exact ⟨z,hz,e.symm⟩
  try dsimp only [bD]
  walk_at "go"
  refine ⟨z,rfl,hw.sub z hz,?_⟩
  exact ⟨by rw [List.replicate_succ',Nj];rfl,rfl⟩
 ·rintro ys H2 ⟨rfl,rfl⟩ lc nlc
  rw [Nh]
  have s2:aI H2 (upd H2 lc (.lst ((List.replicate ws.length true).map V.bl))):=b7 nlc _
  walk_at "go"
  refine IW (bs:=List.replicate ws.length true) (SqL.of aE) ?_
  rw [show (List.replicate ws.length true).all id=true by rw [List.all_eq_true];intro b hb;exact (List.mem_replicate.mp hb).2]
  walk_at "go"
  refine yX (SqL.of (s2 _ _ (s1 _ _ ha))) (by omega) ?_
  walk_at "go"
  refine dQ (SqL.of (s2 _ _ (s1 _ _ ha))) ?_
  walk_at "go"
  have e:decide ((((bT [] ws).length:Nat):Int)=(((ws.map V.str).length:Nat):Int))=true:=Np (by rw [mj ws [] hw.nd (fun _ _ h=>by simp at h),Ni,Nat.zero_add,Nh])
  rw [e]
  exact q _ (s1.trans s2)
theorem qX:aq ["self", "shape", "far", "room", "term", "rules"] ["self", "shape", "far", "room", "term", "rules"] (aj (inClass (top 46) 0)):=by walk_at "s"
def fQ (C:Addr):Sp:=fun vs H Q _=>∃ (p dx a:Addr) (sh:V) (far room term:Int) (ws:List Str),vs=[.ref p,sh,.int far,.int room,.int term,.ref a]∧StN far room term∧H a=some (.lst (ws.map V.str))∧RuN ws∧H p=some (.ins C dx []) ∧
 ∀ (tr:Addr) (ms:List Str) (H':Hp),ms.Perm ws→H' p=some (.ins C dx (stF sh far room term tr))→H' tr=some (.tup (ms.map V.str))→(∀ q o,H q=some o→q≠p→H' q=some o)→Q .non H'
theorem rK (D:oG K mg "Settings" "Settings.__init__" C (inClass (top 46) 0) ["self", "shape", "far", "room", "term", "rules"]) (SC:StC K C) (BT:Bt mg) (NE:br CX) (fj:GlV mg "RULES" (.ref aR)) (jN:Cal P w K mg base CX "is_span" 3 ["thing", "least"] z7) (tu:Cal P w K mg base CX "are_rules" 3 ["thing"] kZ):Mak P w K mg base CX "Settings" C 4 ["self", "shape", "far", "room", "term", "rules"] (fQ C):=by
 have S:=qX
 walk_at "d"
 ·obtain ⟨p,dx,a,sh,far,room,term,ws,rfl,_⟩:=h
  rfl
 obtain ⟨p,dx,a,sh,far,room,term,ws,rfl,n,ha,hw,hp,q⟩:=h
 refine ⟨_,(ak (bf (dj (cj (aH jN (hr.mono (by first | decide | omega)) NE.pass (aa (pv 2) (aa ai af))))) (ao gz) aJ)
   (ak (bf (dj (cj (aH jN (hr.mono (by first | decide | omega)) NE.pass (aa (pv 3) (aa ai af))))) (ao gz) aJ)
   (ak (bf (dj (cj (aH jN (hr.mono (by first | decide | omega)) NE.pass (aa (pv 4) (aa ai af))))) (ao gz) aJ)
   (ak (bf (dj (cj (aH tu (hr.mono (by first | decide | omega)) NE.pass (aa (pv 5) af)))) (ao gz) aJ)
   (ak (cU (pv 0) (pv 1) rfl)
   (ak (cU (pv 0) (pv 2) rfl)
   (ak (cU (pv 0) (pv 3) rfl)
   (ak (cU (pv 0) (pv 4) rfl)
   (ao (cU (pv 0) (eU (gy (iJ (pv 5))) (yl fj) (dm Ft rfl BT.tuple_ L3.l6 (aa (aX Fv rfl BT.sorted L3.oq (aa (pv 5) af)) af))) rfl)))))))))),?_⟩
 try dsimp only [aZ]
 have hl5:=AO hw
 walk_at "go"
 refine ⟨far,0,rfl,n.f0,n.f1,?_⟩
 walk_at "go"
 refine ⟨room,1,rfl,n.r0,n.r1,?_⟩
 walk_at "go"
 refine ⟨term,1,rfl,n.t0,n.t1,?_⟩
 walk_at "go"
 refine ⟨a,ws,rfl,ha,hw,fun H1 s1=>?_⟩
 have ha1:=s1 _ _ ha
 have hp1:=s1 _ _ hp
 have npa:a≠p:=fun z=>by rw [z,hp] at ha;cases ha
 have k1:=c7 ("shape" : Str) sh []
 have k2:=c7 ("far" : Str) (.int far) (bO "shape" sh [])
 have k3:=c7 ("room" : Str) (.int room) (bO "far" (.int far) (bO "shape" sh []))
 have k4:=c7 ("term" : Str) (.int term) (bO "room" (.int room) (bO "far" (.int far) (bO "shape" sh [])))
 rw [Ni] at k1
 walk_at "go"
 refine ⟨p,C,dx,[],rfl,hp1,SC.cl,SC.n1,by decide,?_⟩
 walk_at "go"
 refine ⟨p,C,dx,_,rfl,aE,SC.cl,SC.n2,by omega,?_⟩
 rw [e8]
 walk_at "go"
 refine ⟨p,C,dx,_,rfl,aE,SC.cl,SC.n3,by omega,?_⟩
 rw [e8]
 walk_at "go"
 refine ⟨p,C,dx,_,rfl,aE,SC.cl,SC.n4,by omega,?_⟩
 rw [e8]
 have key:=fun tr=>De sh far room term tr
 generalize bO ("term" : Str) (.int term) (bO "room" (.int room) (bO "far" (.int far) (bO "shape" sh [])))=fs at *
 have hpc:(upd H1 p (.ins C dx fs)) p=some (.ins C dx fs):=aE
 have hac:(upd H1 p (.ins C dx fs)) a=some (.lst (ws.map V.str)):=by rw [aF npa];exact ha1
 have oc:∀ q o,H q=some o→q≠p→(upd H1 p (.ins C dx fs)) q=some o:=fun q o e z=>by rw [aF z];exact s1 _ _ e
 generalize upd H1 p (.ins C dx fs)=Hc at *
 have L:=Led.start Hc (fun _=>False)
 walk_at "go"
 refine bF (fun z=>nomatch z) fun _=>?_
 walk_at "go"
 refine EX L (SqL.of hac) (by omega) fun lb ms H2 nb pm _ L s2=>?_
 walk_at "go"
 refine BU L (SqL.of (L.eo (p:=lb) .head)) fun tr H3 nt L s3=>?_
 walk_at "go"
 have hp3:=s3 _ _ (s2 _ _ hpc)
 have htr:=L.tup (r:=tr) (xs:=ms.map V.str) (by walk_at "mem")
 have LI:tr≠p:=fun z=>by rw [z,hp3] at htr;cases htr
 refine ⟨p,C,dx,fs,rfl,hp3,SC.cl,SC.n5,by omega,?_⟩
 refine q tr ms _ pm (by rw [aE,key]) (by rw [aF LI];exact htr) fun x o e z=>by rw [aF z];exact s3 _ _ (s2 _ _ (oc x o e z))
theorem oH {PP:Addr→Prop} {H0 H:Hp} {l:List (Addr×Ob)} {fs:List Pr} {Q:VK} {E:XK} {a:Addr} {sh:V} {far room term:Int} {ws:List Str} (n:StN far room term) (ha:H a=some (.lst (ws.map V.str))) (hw:RuN ws) (q:∀ x H',H x=none→qk C H' x sh far room term ws→aI H H'→Q (.ref x) H'):Made C (fQ C) E [sh,.int far,.int room,.int term,.ref a] H Q:=by
 intro x dx nx nd ne
 have sm0:∀ b o,H b=some o→(upd (upd H dx (.own x)) x (.ins C dx [])) b=some o:=fun b o e=>by rw [aF (aG e nx),aF (aG e nd)];exact e
 refine ⟨x,dx,a,sh,far,room,term,ws,rfl,n,sm0 _ _ ha,hw,aE,fun tr ms H' pm h1 h2 h3=>⟨rfl,?_⟩⟩
 exact q x H' nx ⟨dx,tr,ms,h1,h2,pm⟩ fun b o e=>h3 b o (sm0 _ _ e) (aG e nx)
theorem uD:aq ["settings", "word"] ["settings", "word"] (aj (top 47)):=by walk_at "s"
def fE (C:Addr):Sp:=fun vs H Q _=>∃ (p:Addr) (sh:V) (far room term:Int) (ws:List Str) (z:Str),vs=[.ref p,.str z]∧qk C H p sh far room term ws∧Q (.bl (decide (z∈ws))) H
theorem uV (D:Dat K mg "has_rule" "has_rule" (top 47) ["settings", "word"]) (SC:StC K C):Cal P w K mg base CX "has_rule" 1 ["settings", "word"] (fE C):=by
 have S:=uD
 walk_at "d"
 ·obtain ⟨p,sh,far,room,term,ws,z,rfl,_⟩:=h
  rfl
 obtain ⟨p,sh,far,room,term,ws,z,rfl,⟨dx,tr,ms,hp,ht,pm⟩,q⟩:=h
 refine ⟨_,(ao (aB (cJ jH (pv 1) (aQ (pv 0) rfl) (by with_unfolding_all rfl)))),?_⟩
 try dsimp only [aZ]
 walk_at "go"
 refine ⟨p,C,dx,_,_,rfl,hp,SC.cl,SC.n5,ny sh far room term tr,?_⟩
 refine B0 (SqT.of ht) ?_
 rw [show decide (z∈ms)=decide (z∈ws) from decide_eq_decide.mpr pm.mem_iff]
 exact q
end
def t9 (H:Hp) (t:Addr) (x y z:Int):Prop:=H t=some (.tup [.int x,.int y,.int z])
section
variable {P:Program} {w:World} {K:PySem.W.Frag} {mg:Str→Option Value} {base:Heap} {CX:CXT} {C:Addr}
theorem uw:aq ["area"] ["area"] (aj (top 23)):=by walk_at "s"
def qS:Sp:=fun vs H Q _=>∃ (t:Addr) (x y z:Int),vs=[.ref t]∧t9 H t x y z∧Q (.int x) H
def qR:Sp:=fun vs H Q _=>∃ (t:Addr) (x y z:Int),vs=[.ref t]∧t9 H t x y z∧Q (.int y) H
def nM:Sp:=fun vs H Q _=>∃ (t:Addr) (x y z:Int),vs=[.ref t]∧t9 H t x y z∧Q (.int z) H
theorem lB (D:Dat K mg "slot_of" "slot_of" (top 23) ["area"]):Cal P w K mg base CX "slot_of" 1 ["area"] qS:=by
 have S:=uw
 walk_at "d"
 ·obtain ⟨t,x,y,z,rfl,_⟩:=h
  rfl
 obtain ⟨t,x,y,z,rfl,ht,q⟩:=h
 refine ⟨_,(ao (aB (ay au (pv 0) ai (fun _ _=>rfl)))),?_⟩
 dsimp only [aZ]
 have L:=(Led.start H (fun _=>False)).more (aS t [.int x,.int y,.int z]) ht
 walk_at "go"
 exact q
theorem rm:aq ["area"] ["area"] (aj (top 24)):=by walk_at "s"
theorem jX (D:Dat K mg "first_of" "first_of" (top 24) ["area"]):Cal P w K mg base CX "first_of" 1 ["area"] qR:=by
 have S:=rm
 walk_at "d"
 ·obtain ⟨t,x,y,z,rfl,_⟩:=h
  rfl
 obtain ⟨t,x,y,z,rfl,ht,q⟩:=h
 refine ⟨_,(ao (aB (ay au (pv 0) ai (fun _ _=>rfl)))),?_⟩
 dsimp only [aZ]
 have L:=(Led.start H (fun _=>False)).more (aS t [.int x,.int y,.int z]) ht
 walk_at "go"
 exact q
theorem yf:aq ["area"] ["area"] (aj (top 25)):=by walk_at "s"
theorem nT (D:Dat K mg "end_of" "end_of" (top 25) ["area"]):Cal P w K mg base CX "end_of" 1 ["area"] nM:=by
 have S:=yf
 walk_at "d"
 ·obtain ⟨t,x,y,z,rfl,_⟩:=h
  rfl
 obtain ⟨t,x,y,z,rfl,ht,q⟩:=h
 refine ⟨_,(ao (aB (ay au (pv 0) ai (fun _ _=>rfl)))),?_⟩
 dsimp only [aZ]
 have L:=(Led.start H (fun _=>False)).more (aS t [.int x,.int y,.int z]) ht
 walk_at "go"
 exact q
end
inductive Ln
 | took (g sl f e:Int)
 | held (m:Int)
 | heard (m:Int)
 | ends (g e:Int)
inductive jT (H:Hp) (t:Addr):Ln→Prop
 | took {g sl f e:Int} {ar:Addr} (h:H t=some (.tup [.str "took",.int g,.ref ar])) (ha:H ar=some (.tup [.int sl,.int f,.int e])):jT H t (.took g sl f e)
 | held {m:Int} (h:H t=some (.tup [.str "held",.int m])):jT H t (.held m)
 | heard {m:Int} (h:H t=some (.tup [.str "heard",.int m])):jT H t (.heard m)
 | ends {g e:Int} (h:H t=some (.tup [.str "ends",.int g,.int e])):jT H t (.ends g e)
theorem jT.ts {H H':Hp} {t:Addr} {l:Ln} (h:jT H t l) (s:cF H H'):jT H' t l:=by
 cases h with
 | took h ha=>exact .took (s _ _ h) (s _ _ ha)
 | held h=>exact .held (s _ _ h)
 | heard h=>exact .heard (s _ _ h)
 | ends h=>exact .ends (s _ _ h)
theorem jT.same {H H':Hp} {t:Addr} {l:Ln} (h:jT H t l) (s:aI H H'):jT H' t l:=h.ts (cu s)
abbrev Lns:=List (Addr×Ln)
def lnV (ls:Lns):List V:=ls.map fun x=>.ref x.1
def eE (H:Hp) (ls:Lns):Prop:=∀ x∈ls,jT H x.1 x.2
theorem eE.ts {H H':Hp} {ls:Lns} (h:eE H ls) (s:cF H H'):eE H' ls:=fun x hx=>(h x hx).ts s
theorem eE.same {H H':Hp} {ls:Lns} (h:eE H ls) (s:aI H H'):eE H' ls:=fun x hx=>(h x hx).same s
theorem gZ (ls:Lns):(lnV ls).length=ls.length:=Nh ..
theorem pP {ls:Lns} {i:Nat} {v:V} (h:(lnV ls)[i]?=some v):∃ x,ls[i]?=some x∧v = .ref x.1:=by
 unfold lnV at h
 rw [Nb] at h
 cases e:ls[i]? with
 | none=>rw [e] at h;cases h
 | some x=>rw [e] at h;cases h;exact ⟨x,rfl,rfl⟩
theorem BH {ls:Lns} {x:Addr×Ln}:lnV (ls++[x])=lnV ls++[.ref x.1]:=by
 unfold lnV;rw [Nj];rfl
theorem take_snoc {α : Type} {gs:List α} {i:Nat} {x : α} (h:gs[i]?=some x):gs.take (i+1)=gs.take i++[x]:=by
 rw [List.take_add_one,h];rfl
structure Nt where
 g:Int
 ar:Option (Int×Int×Int)
 hd:Int
 hr:Int
def Nt.nil:Nt:=⟨0,none,0,0⟩
def Nt.step (n:Nt):Ln→Nt
 | .took g sl f e=>⟨g,some (sl,f,e),n.hd,n.hr⟩
 | .held m=>⟨n.g,n.ar,max n.hd m,n.hr⟩
 | .heard m=>⟨n.g,n.ar,n.hd,max n.hr m⟩
 | .ends g e=>if g=n.g then ⟨n.g,n.ar.map fun x=>(x.1,x.2.1,min x.2.2 e),n.hd,n.hr⟩ else n
def j7 (n:Nt) (ls:Lns):Nt:=ls.foldl (fun n x=>n.step x.2) n
theorem jD (n:Nt) (g e:Int):n.step (.ends g e)=if g=n.g then ⟨n.g,n.ar.map fun x=>(x.1,x.2.1,min x.2.2 e),n.hd,n.hr⟩ else n:=rfl
theorem vA {n:Nt} {ls:Lns} {i:Nat} {x:Addr×Ln} (h:ls[i]?=some x):j7 n (ls.take (i+1))=(j7 n (ls.take i)).step x.2:=by
 unfold j7
 rw [take_snoc h,List.foldl_append];rfl
theorem pX {α : Type} {p : α→Bool} {xs:List α} {i:Nat} {x : α} (h:xs[i]?=some x) (b:p x=true):(xs.take (i+1)).filter p=(xs.take i).filter p++[x]:=by
 rw [take_snoc h,List.filter_append,List.filter_cons_of_pos (by exact b),List.filter_nil]
theorem pY {α : Type} {p : α→Bool} {xs:List α} {i:Nat} {x : α} (h:xs[i]?=some x) (b:p x=false):(xs.take (i+1)).filter p=(xs.take i).filter p:=by
 rw [take_snoc h,List.filter_append,List.filter_cons_of_neg (by rw [b];exact M8),List.filter_nil,Nk]
def isT (x:Addr×Ln):Bool:=match x.2 with
 | .took ..=>true
 | _=>false
def gOf (x:Addr×Ln):Int:=match x.2 with
 | .took g ..=>g
 | _=>0
def gts (ls:Lns):List Int:=(ls.filter isT).map gOf
theorem lQ:∀ (T:List Int) (z:Int),z≤T.foldl max z∧(∀ a∈T,a≤T.foldl max z)∧(T.foldl max z=z∨T.foldl max z∈T)
 | [],z=>⟨NF _,(fun _ h=>by simp at h),.inl rfl⟩
 | x::T,z=>by
  obtain ⟨h1,h2,h3⟩:=lQ T (max z x)
  rw [List.foldl_cons]
  refine ⟨by omega,fun a ha=>?_,?_⟩
  ·rcases List.mem_cons.mp ha with rfl | ha
   ·omega
   ·exact h2 a ha
  ·rcases h3 with h3 | h3
   ·by_cases c:z≤x
    ·exact .inr (by rw [h3,show max z x=x by omega];exact M7)
    ·exact .inl (by rw [h3];omega)
   ·exact .inr (M3 _ h3)
theorem Fl {T:List Int} {z M:Int} (h1:M=z∨M∈T) (h2:∀ a∈T,a≤M) (h3:z≤M):T.foldl max z=M:=by
 obtain ⟨k1,k2,k3⟩:=lQ T z
 refine Int.le_antisymm ?_ ?_
 ·rcases k3 with k | k
  ·omega
  ·exact h2 _ k
 ·rcases h1 with rfl | h
  ·exact k1
  ·exact k2 _ h
def tL:Ln→Prop
 | .took g _ _ _=>1≤g
 | .ends g _=>1≤g
 | _=>True
def er (ls:Lns):Prop:=∀ x∈ls,tL x.2
structure zx (n:Nt):Prop where
 no:n.ar=none→n.g=0
 yes:n.ar.isSome=true→1≤n.g
theorem Nt.D9 {n:Nt} {l:Ln} (h:zx n) (g:tL l):zx (n.step l):=by
 cases l with
 | took g' sl f e=>exact ⟨(fun z=>by cases z),fun _=>g⟩
 | held m=>exact ⟨h.no,h.yes⟩
 | heard m=>exact ⟨h.no,h.yes⟩
 | ends g' e=>
  rw [jD]
  by_cases c:g'=n.g
  ·rw [if_pos c]
   exact ⟨fun z=>h.no (Option.map_eq_none_iff.mp z),fun z=>h.yes (by simpa using z)⟩
  ·rw [if_neg c];exact h
theorem lP:∀ {ls:Lns} {n:Nt},zx n→er ls→zx (j7 n ls)
 | [],_,h,_=>h
 | x::ls,n,h,g=>lP (ls:=ls) (Nt.D9 h (g x M7)) fun y hy=>g y (M3 _ hy)
theorem Bp:zx Nt.nil:=⟨fun _=>rfl,fun z=>by cases z⟩
def qm (K:PySem.W.Frag) (H:Hp) (t:Addr) (n:Nt):Prop:=∃ v,SqT K H t [.int n.g,v,.int n.hd,.int n.hr]∧((n.ar=none∧v = .non)∨∃ (a:Addr) (sl f e:Int),n.ar=some (sl,f,e)∧v = .ref a∧H a=some (.tup [.int sl,.int f,.int e]))
theorem rz {K:PySem.W.Frag} {H H':Hp} {a:Addr} {xs:List V} (e:aI H H') (h:SqT K H a xs):SqT K H' a xs:=by
 rcases h with (h | ⟨o,h⟩) | h
 ·exact .inl (.inl (e _ _ h))
 ·exact .inl (.inr ⟨o,e _ _ h⟩)
 ·exact .inr h
theorem qm.same {K:PySem.W.Frag} {H H':Hp} {t:Addr} {n:Nt} (h:qm K H t n) (s:aI H H'):qm K H' t n:=by
 obtain ⟨v,hs,hv⟩:=h
 refine ⟨v,rz s hs,?_⟩
 rcases hv with z | ⟨a,sl,f,e,ea,ev,ha⟩
 ·exact .inl z
 ·exact .inr ⟨a,sl,f,e,ea,ev,s _ _ ha⟩
section
variable {P:Program} {w:World} {K:PySem.W.Frag} {mg:Str→Option Value} {base:Heap} {CX:CXT}
theorem AJ:aq ["area", "end"] ["area", "end"] (aj (top 26)):=by walk_at "s"
def oX:Sp:=fun vs H Q _=>∃ (t:Addr) (sl f e x:Int),vs=[.ref t,.int x]∧t9 H t sl f e∧∀ t' H',H' t'=some (.tup [.int sl,.int f,.int x])→aI H H'→Q (.ref t') H'
theorem rS (D:Dat K mg "ended_at" "ended_at" (top 26) ["area", "end"]) (NE:br CX) (cK:Cal P w K mg base CX "slot_of" 1 ["area"] qS) (cX:Cal P w K mg base CX "first_of" 1 ["area"] qR):Cal P w K mg base CX "ended_at" 2 ["area", "end"] oX:=by
 have S:=AJ
 walk_at "d"
 ·obtain ⟨t,sl,f,e,x,rfl,_⟩:=h
  rfl
 obtain ⟨t,sl,f',e,x,rfl,ht,q⟩:=h
 refine ⟨_,(ao (aB (bA (aa (aH cK (hr.mono (by first | decide | omega)) NE.pass (aa (pv 0) af)) (aa (aH cX (hr.mono (by first | decide | omega)) NE.pass (aa (pv 0) af)) (aa (pv 1) af)))))),?_⟩
 try dsimp only [aZ]
 have L:=Led.start H (fun _=>False)
 walk_at "go"
 refine ⟨t,_,_,_,rfl,ht,?_⟩
 walk_at "go"
 refine ⟨t,_,_,_,rfl,ht,?_⟩
 walk_at "go"
 exact q _ _ (L'.tup (by walk_at "mem")) L'.same
theorem xZ:aq ["told", "line"] ["told", "line"] (aj (top 35)):=by walk_at "s"
def qL (K:PySem.W.Frag):Sp:=fun vs H Q _=>∃ (t l:Addr) (n:Nt) (ln:Ln),vs=[.ref t,.ref l]∧qm K H t n∧zx n∧jT H l ln∧tL ln∧∀ t' H',qm K H' t' (n.step ln)→aI H H'→Q (.ref t') H'
theorem yq (D:Dat K mg "read_on" "read_on" (top 35) ["told", "line"]) (BT:Bt mg) (NE:br CX) (cQ:Cal P w K mg base CX "end_of" 1 ["area"] nM) (iW:Cal P w K mg base CX "ended_at" 2 ["area", "end"] oX):Cal P w K mg base CX "read_on" 3 ["told", "line"] (qL K):=by
 have S:=xZ
 walk_at "d"
 ·obtain ⟨t,l,n,ln,rfl,_⟩:=h
  rfl
 obtain ⟨t,l,n,ln,rfl,hn,hok,hl,hg,q⟩:=h
 refine ⟨_,(ak (bf (aK bZ (ay au (pv 1) ai (fun _ _=>rfl)) bB (aO _)) (ao (aB (bA (aa (ay au (pv 1) ai (fun _ _=>rfl)) (aa (ay au (pv 1) ai (fun _ _=>rfl)) (aa (ay au (pv 0) ai (fun _ _=>rfl)) (aa (ay au (pv 0) ai (fun _ _=>rfl)) af))))))) aJ)
   (ak (bf (aK bZ (ay au (pv 1) ai (fun _ _=>rfl)) bB (aO _)) (ao (aB (bA (aa (ay au (pv 0) ai (fun _ _=>rfl)) (aa (ay au (pv 0) ai (fun _ _=>rfl)) (aa (aX (j8 rfl) rfl BT.max L3.ef (aa (ay au (pv 0) ai (fun _ _=>rfl)) (aa (ay au (pv 1) ai (fun _ _=>rfl)) af))) (aa (ay au (pv 0) ai (fun _ _=>rfl)) af))))))) aJ)
   (ak (bf (aK bZ (ay au (pv 1) ai (fun _ _=>rfl)) bB (aO _)) (ao (aB (bA (aa (ay au (pv 0) ai (fun _ _=>rfl)) (aa (ay au (pv 0) ai (fun _ _=>rfl)) (aa (ay au (pv 0) ai (fun _ _=>rfl)) (aa (aX (j8 rfl) rfl BT.max L3.ef (aa (ay au (pv 0) ai (fun _ _=>rfl)) (aa (ay au (pv 1) ai (fun _ _=>rfl)) af))) af))))))) aJ)
   (ak (bf (aK Gn (ay au (pv 1) ai (fun _ _=>rfl)) (ay au (pv 0) ai (fun _ _=>rfl)) (aO _)) (ao (aB (pv 0))) aJ)
   (ao (aB (bA (aa (ay au (pv 0) ai (fun _ _=>rfl)) (aa (aH iW (hr.mono (by first | decide | omega)) NE.pass (aa (ay au (pv 0) ai (fun _ _=>rfl)) (aa (aX (xG rfl) rfl BT.min L3.l7 (aa (aH cQ (hr.mono (by first | decide | omega)) NE.pass (aa (ay au (pv 0) ai (fun _ _=>rfl)) af)) (aa (ay au (pv 1) ai (fun _ _=>rfl)) af))) af))) (aa (ay au (pv 0) ai (fun _ _=>rfl)) (aa (ay au (pv 0) ai (fun _ _=>rfl)) af))))))))))),?_⟩
 try dsimp only [aZ]
 obtain ⟨v,hs,hv⟩:=id hn
 have x1:¬ (("held" : Str) = "took"):=by decide +kernel
 have x2:¬ (("heard" : Str) = "took"):=by decide +kernel
 have x3:¬ (("ends" : Str) = "took"):=by decide +kernel
 have x4:¬ (("heard" : Str) = "held"):=by decide +kernel
 have x5:¬ (("ends" : Str) = "held"):=by decide +kernel
 have x6:¬ (("ends" : Str) = "heard"):=by decide +kernel
 cases hl with
 | took h ha=>
  have L:=(Led.start H (fun _=>False)).more (aS l [_,_,_]) h
  walk_at "go"
  exact q _ _ ⟨_,SqT.of (L'.tup (by walk_at "mem")),.inr ⟨_,_,_,_,rfl,rfl,L'.same _ _ ha⟩⟩ L'.same
 | held h=>
  have L:=(Led.start H (fun _=>False)).more (aS l [_,_]) h
  walk_at "go"
  refine q _ _ ⟨v,SqT.of (L'.tup (by walk_at "mem")),?_⟩ L'.same
  rcases hv with z | ⟨a,sl,f',e,ea,ev,ha⟩
  ·exact .inl z
  ·exact .inr ⟨a,sl,f',e,ea,ev,L'.same _ _ ha⟩
 | heard h=>
  have L:=(Led.start H (fun _=>False)).more (aS l [_,_]) h
  walk_at "go"
  refine q _ _ ⟨v,SqT.of (L'.tup (by walk_at "mem")),?_⟩ L'.same
  rcases hv with z | ⟨a,sl,f',e,ea,ev,ha⟩
  ·exact .inl z
  ·exact .inr ⟨a,sl,f',e,ea,ev,L'.same _ _ ha⟩
 | @ends g' e' h=>
  have L:=(Led.start H (fun _=>False)).more (aS l [_,_,_]) h
  have g1 : 1≤g':=hg
  rw [jD] at q
  walk_at "go"
  refine GC (fun z=>?_) (fun z=>?_)
  ·rw [if_pos z] at q
   rcases hv with ⟨e,rfl⟩ | ⟨a,sl,f',e,ea,rfl,ha⟩
   ·exact absurd (hok.no e) (by omega)
   rw [ea] at q
   walk_at "go"
   refine ⟨a,_,_,_,rfl,ha,?_⟩
   walk_at "go"
   refine ⟨a,_,_,_,_,rfl,ha,fun t2 H2 ht2 s2=>?_⟩
   have hs2:=rz s2 hs
   have M:=(Led.start H2 (fun _=>False)).more (aS t2 [_,_,_]) ht2
   clear L
   walk_at "go"
   exact q _ _ ⟨_,SqT.of (L'.tup (by walk_at "mem")),.inr ⟨t2,sl,f',_,rfl,rfl,L'.tup (r:=t2) (by walk_at "mem")⟩⟩ (s2.trans L'.same)
  ·rw [if_neg z] at q
   walk_at "go"
   exact q _ _ hn (aI.refl _)
theorem As:aq ["lines", "told", "line"] ["lines"] (aj (top 36)):=by walk_at "s"
def kJ (K:PySem.W.Frag):Sp:=fun vs H Q _=>∃ (a:Addr) (ls:Lns),vs=[.ref a]∧SqL K H a (lnV ls)∧eE H ls∧er ls∧∀ t H',qm K H' t (j7 Nt.nil ls)→aI H H'→Q (.ref t) H'
theorem Bh {aN:Addr} (D:Dat K mg "read_note" "read_note" (top 36) ["lines"]) (NE:br CX) (fL:GlV mg "NOTHING" (.ref aN)) (hN:∀ H,SqT K H aN [.int 0,.non,.int 0,.int 0]) (zl:Cal P w K mg base CX "read_on" 3 ["told", "line"] (qL K)):Cal P w K mg base CX "read_note" 4 ["lines"] (kJ K):=by
 have S:=As
 walk_at "d"
 ·obtain ⟨a,ls,rfl,_⟩:=h
  rfl
 obtain ⟨a,ls,rfl,hS,hL,hg,q⟩:=h
 refine ⟨_,(ak (aM (i:=1) S.nd rfl (by first | exact Or.inl rfl | exact Or.inr rfl) (yl fL))
   (ak (fV PassesOwn.never rfl (b8 (pv 0)) (bu (i:=2) S.nd rfl (by first | exact Or.inl rfl | exact Or.inr rfl)) (ao (aM (i:=1) S.nd rfl (by first | exact Or.inl rfl | exact Or.inr rfl) (aH zl (hr.mono (by first | decide | omega)) NE.pass (aa (pv 1) (aa (pv 2) af))))))
   (ao (aB (pv 1))))),?_⟩
 try dsimp only [aZ]
 walk_at "go"
 refine cB hS ?_
 refine iP (lnV ls) (fun i σ H'=>∃ (t:Addr) (u2:Option V),σ=[some (.ref a),some (.ref t),u2]∧qm K H' t (j7 Nt.nil (ls.take i))∧aI H H') ⟨aN,_,rfl,⟨.non,hN H,.inl ⟨rfl,rfl⟩⟩,aI.refl _⟩ (fun i σ H' _ ⟨_,_,_,_,sm⟩=>sm.seq hS) ?_ ?_
 ·rintro i v σ HG hv ⟨t,u2,rfl,hn,sm⟩
  obtain ⟨x,hx,rfl⟩:=pP hv
  have xm:=M0 hx
  try dsimp only [bD]
  walk_at "go"
  refine ⟨t,x.1,_,x.2,rfl,hn,lP Bp fun y hy=>hg y (List.mem_of_mem_take hy),(hL x xm).same sm,hg x xm,fun t2 H2 hn2 s2=>?_⟩
  walk_at "go"
  exact ⟨t2,_,rfl,by rw [vA hx];exact hn2,sm.trans s2⟩
 ·rintro σ HG ⟨t,u2,rfl,hn,sm⟩
  rw [gZ,Ng] at hn
  walk_at "go"
  exact q _ _ hn sm
theorem Am:aq ["lines"] ["lines"] (aj (top 38)):=by walk_at "s"
def wB (K:PySem.W.Frag):Sp:=fun vs H Q _=>∃ (a:Addr) (ls:Lns),vs=[.ref a]∧SqL K H a (lnV ls)∧eE H ls∧ls.length≤400∧∀ l H',H l=none→H' l=some (.lst (lnV (ls.filter isT)))→aI H H'→Q (.ref l) H'
theorem n6 {H:Hp} {x:Addr×Ln} (h:jT H x.1 x.2):(isT x=true∧∃ g ar,H x.1=some (.tup [.str "took",.int g,.ref ar])∧gOf x=g)∨(isT x=false∧∃ w v,¬ (w=("took" : Str))∧H x.1=some (.tup (.str w::v))):=by
 obtain ⟨t,l⟩:=x
 cases h with
 | took h ha=>exact .inl ⟨rfl,_,_,h,rfl⟩
 | held h=>exact .inr ⟨rfl,_,_,by decide +kernel,h⟩
 | heard h=>exact .inr ⟨rfl,_,_,by decide +kernel,h⟩
 | ends h=>exact .inr ⟨rfl,_,_,by decide +kernel,h⟩
theorem FG {v:V} {xs:List V}:atI (v::xs) 0=some v:=cS (j:=0) rfl
theorem Bc (D:Dat K mg "tooks_of" "tooks_of" (top 38) ["lines"]):Cal P w K mg base CX "tooks_of" 2 ["lines"] (wB K):=by
 have S:=Am
 walk_at "d"
 ·obtain ⟨a,ls,rfl,_⟩:=h
  rfl
 obtain ⟨a,ls,rfl,hS,hL,h100,q⟩:=h
 refine ⟨_,(ao (aB (fX (g:=(bD 0)) rfl (b8 (pv 0)) (eZ (own:=["line"]) (cap:=[]) (aj (top 38)).names ["lines"] rfl rfl rfl (by decide +kernel)) (fun _ _ _ _=>(bu (i:=0) (show (gq ["lines"] ["line"] []).Nodup by decide +kernel) rfl (by first | exact Or.inl rfl | exact Or.inr rfl))) (fun _ _ _ _=>je (aK bZ (ay (g4 (K:=K) rfl) (pv 0) ai (fun _ _=>rfl)) bB (aO _))) (fun _ _ _ _=>(pv 0))))),?_⟩
 try dsimp only [aZ]
 walk_at "go"
 refine cB hS ?_
 refine dR (lnV ls) (fun i ys H'=>ys=lnV ((ls.take i).filter isT)∧H'=H) ⟨rfl,rfl⟩ (fun i ys H' hi ⟨e,e2⟩=>⟨e2▸hS,by
  rw [e,gZ]
  have h1:=List.length_filter_le isT (ls.take i)
  rw [Nf] at h1
  exact Nr (small1000 (by omega))⟩) ?_ ?_
 ·rintro i v ys H1 hv ⟨rfl,rfl⟩
  obtain ⟨x,hx,rfl⟩:=pP hv
  try dsimp only [bD]
  rcases n6 (hL x (M0 hx)) with ⟨b,g,ar,ht,_⟩ | ⟨b,wd,vs,nw,ht⟩
  ·have L:=(Led.start H1 (fun _=>False)).more (aS x.1 [_,_,_]) ht
   walk_at "go"
   exact ⟨by rw [pX hx b,BH],rfl⟩
  ·walk_at "go"
   refine BZ (SqT.of ht) FG ?_
   walk_at "go"
   exact ⟨by rw [pY hx b],rfl⟩
 ·rintro ys H1 ⟨rfl,rfl⟩ lc nlc
  rw [gZ,Ng]
  exact q _ _ nlc aE (b7 nlc _)
theorem rg:aq ["lines"] ["lines"] (aj (top 39)):=by walk_at "s"
def kY (K:PySem.W.Frag):Sp:=fun vs H Q _=>∃ (a:Addr) (ls:Lns),vs=[.ref a]∧SqL K H a (lnV ls)∧eE H ls∧er ls∧ls.length≤400∧∀ H',aI H H'→Q (.int ((gts ls).foldl max 0)) H'
theorem EV {ls:Lns} (h:er ls):∀ a∈gts ls,1≤a:=fun a ha=>by
 obtain ⟨x,hx,rfl⟩:=List.mem_map.mp ha
 obtain ⟨hm,hb⟩:=List.mem_filter.mp hx
 have:=h x hm
 obtain ⟨t,l⟩:=x
 cases l with
 | took g sl f e=>exact this
 | held m=>cases hb
 | heard m=>cases hb
 | ends g e=>cases hb
theorem rQ (D:Dat K mg "greatest_taken" "greatest_taken" (top 39) ["lines"]) (BT:Bt mg) (NE:br CX) (vI:Cal P w K mg base CX "tooks_of" 2 ["lines"] (wB K)):Cal P w K mg base CX "greatest_taken" 3 ["lines"] (kY K):=by
 have S:=rg
 walk_at "d"
 ·obtain ⟨a,ls,rfl,_⟩:=h
  rfl
 obtain ⟨a,ls,rfl,hS,hL,hg,h100,q⟩:=h
 refine ⟨_,(ao (aB (DX rfl rfl BT.max (fX (g:=(bD 0)) rfl (b8 (aH vI (hr.mono (by first | decide | omega)) NE.pass (aa (pv 0) af))) (eZ (own:=["line"]) (cap:=[]) (aj (top 39)).names ["lines"] rfl rfl rfl (by decide +kernel)) (fun _ _ _ _=>(bu (i:=0) (show (gq ["lines"] ["line"] []).Nodup by decide +kernel) rfl (by first | exact Or.inl rfl | exact Or.inr rfl))) (fun _ _ _ _=>eS) (fun _ _ _ _=>(ay (g4 (K:=K) rfl) (pv 0) ai (fun _ _=>rfl)))) ai))),?_⟩
 try dsimp only [aZ]
 walk_at "go"
 refine ⟨a,ls,rfl,hS,hL,h100,fun l1 H1 nl1 hl1 s1=>?_⟩
 walk_at "go"
 refine cB (SqL.of hl1) ?_
 have hfl:=List.length_filter_le isT ls
 refine dR (lnV (ls.filter isT)) (fun i ys H'=>ys=(((ls.filter isT).take i).map gOf).map V.int∧H'=H1) ⟨rfl,rfl⟩ (fun i ys H' hi ⟨e,e2⟩=>⟨e2▸SqL.of hl1,by
  rw [e,Nh,Nh,Nf]
  exact Nr (small1000 (by omega))⟩) ?_ ?_
 ·rintro i v ys H2 hv ⟨rfl,rfl⟩
  obtain ⟨x,hx,rfl⟩:=pP hv
  obtain ⟨xm,xb⟩:=List.mem_filter.mp (M0 hx)
  try dsimp only [bD]
  rcases n6 ((hL x xm).same s1) with ⟨b,g,ar,ht,eg⟩ | ⟨b,_⟩
  ·have L:=(Led.start H2 (fun _=>False)).more (aS x.1 [_,_,_]) ht
   walk_at "go"
   exact ⟨by rw [take_snoc hx,Nj,Nj,← eg];rfl,rfl⟩
  ·rw [xb] at b;cases b
 ·rintro ys H2 ⟨rfl,rfl⟩ lc nlc
  rw [gZ,Ng]
  walk_at "go"
  have sx:=s1.trans (b7 nlc (.lst (((ls.filter isT).map gOf).map V.int)))
  have hp:=EV hg
  refine ID (ns:=gts ls) (SqL.of aE) (fun e=>?_) (fun M hM hx=>?_)
  ·have:=q _ sx
   rw [e] at this
   exact this
  ·have:=q _ sx
   rw [Fl (.inr hM) hx (by have:=hp M hM;omega)] at this
   exact this
end
def qE (H:Hp) (t:Addr) (x y:Int):Prop:=H t=some (.tup [.int x,.int y])
def bnd (m c:Int):Int:=if c=0 then m else m+1
theorem yJ {m c b:Int} (c0 : 0≤c):HT.lexLt [m,c] [b,0]=decide (m < b):=by
 rw [HT.iM]
 by_cases h:m=b
 ·rw [if_pos h,HT.iM,Nn (show ¬ m < b by omega)]
  by_cases h2:c=0
  ·rw [if_pos h2];rfl
  ·rw [if_neg h2,Nn (show ¬ c < 0 by omega)]
 ·rw [if_neg h]
section
variable {P:Program} {w:World} {K:PySem.W.Frag} {mg:Str→Option Value} {base:Heap} {CX:CXT} {C:Addr}
theorem rq:aq ["place"] ["place"] (aj (top 28)):=by walk_at "s"
def kM:Sp:=fun vs H Q _=>∃ (t:Addr) (m c:Int),vs=[.ref t]∧qE H t m c∧Q (.int (bnd m c)) H
theorem rT (D:Dat K mg "bound_of" "bound_of" (top 28) ["place"]):Cal P w K mg base CX "bound_of" 1 ["place"] kM:=by
 have S:=rq
 walk_at "d"
 ·obtain ⟨t,m,c,rfl,_⟩:=h
  rfl
 obtain ⟨t,m,c,rfl,ht,q⟩:=h
 refine ⟨_,(ao (aB (eU (aK bZ (ay au (pv 0) ai (fun _ _=>rfl)) ai (aO _)) (ay au (pv 0) ai (fun _ _=>rfl)) (aP bM (ay au (pv 0) ai (fun _ _=>rfl)) ai)))),?_⟩
 try dsimp only [aZ]
 have L:=(Led.start H (fun _=>False)).more (aS t [.int m,.int c]) ht
 walk_at "go"
 unfold bnd at q
 refine bF (fun cc=>?_) (fun cc=>?_)
 ·rw [if_pos cc] at q
  walk_at "go"
  exact q
 ·rw [if_neg cc] at q
  walk_at "go"
  exact q
theorem x8:aq ["place", "bound"] ["place", "bound"] (aj (top 29)):=by walk_at "s"
def kR:Sp:=fun vs H Q _=>∃ (t:Addr) (m c b:Int),vs=[.ref t,.int b]∧qE H t m c∧0≤c∧∀ r H',qE H' r (if m < b then b else m) (if m < b then 0 else c)→aI H H'→Q (.ref r) H'
theorem yr (D:Dat K mg "raised" "raised" (top 29) ["place", "bound"]) (BT:Bt mg):Cal P w K mg base CX "raised" 1 ["place", "bound"] kR:=by
 have S:=x8
 walk_at "d"
 ·obtain ⟨t,m,c,b,rfl,_⟩:=h
  rfl
 obtain ⟨t,m,c,b,rfl,ht,c0,q⟩:=h
 refine ⟨_,(ao (aB (aX (Jg rfl (xu hr)) rfl BT.max L3.ef (aa (pv 0) (aa (bA (aa (pv 1) (aa ai af))) af))))),?_⟩
 try dsimp only [aZ]
 have L:=(Led.start H (fun _=>False)).more (aS t [.int m,.int c]) ht
 walk_at "go"
 refine E6 (L'.tup (by walk_at "mem")) (L'.tup (by walk_at "mem")) ?_
 rw [yJ c0]
 refine q _ _ ?_ L'.same
 by_cases h:m < b
 ·rw [if_pos h,if_pos h,if_pos (Np h)]
  exact L'.tup (by walk_at "mem")
 ·rw [if_neg h,if_neg h,if_neg (by rw [Nn h];exact M8)]
  exact L'.tup (by walk_at "mem")
theorem mS:aq ["shape", "place"] ["shape", "place"] (aj (top 30)):=by walk_at "s"
def Ac (C:Addr):Sp:=fun vs H Q _=>∃ (p t:Addr) (c s m k:Int),vs=[.ref p,.ref t]∧CF C H p c s∧qE H t m k∧∀ r H',qE H' r (if k+1=c then m+1 else m) (if k+1=c then 0 else k+1)→aI H H'→Q (.ref r) H'
theorem mV (D:Dat K mg "next_place" "next_place" (top 30) ["shape", "place"]) (SC:ShC K C):Cal P w K mg base CX "next_place" 1 ["shape", "place"] (Ac C):=by
 have S:=mS
 walk_at "d"
 ·obtain ⟨p,t,c,s,m,k,rfl,_⟩:=h
  rfl
 obtain ⟨p,t,c,s',m,k,rfl,⟨dx,hp⟩,ht,q⟩:=h
 refine ⟨_,(ak (bf (aK bZ (aP bM (ay au (pv 1) ai (fun _ _=>rfl)) ai) (aQ (pv 0) rfl) (aO _)) (ao (aB (bA (aa (aP bM (ay au (pv 1) ai (fun _ _=>rfl)) ai) (aa ai af))))) aJ)
   (ao (aB (bA (aa (ay au (pv 1) ai (fun _ _=>rfl)) (aa (aP bM (ay au (pv 1) ai (fun _ _=>rfl)) ai) af)))))),?_⟩
 try dsimp only [aZ]
 have L:=(Led.start H (fun _=>False)).more (aS t [.int m,.int k]) ht
 walk_at "go"
 refine ⟨p,C,dx,_,_,rfl,hp,SC.cl,SC.nc,wK c s',?_⟩
 walk_at "go"
 refine bF (fun cc=>?_) (fun cc=>?_)
 ·walk_at "go"
  refine q _ _ ?_ L'.same
  rw [if_pos cc,if_pos cc]
  exact L'.tup (by walk_at "mem")
 ·walk_at "go"
  refine q _ _ ?_ L'.same
  rw [if_neg cc,if_neg cc]
  exact L'.tup (by walk_at "mem")
end
section
variable {P:Program} {w:World} {K:PySem.W.Frag} {mg:Str→Option Value} {base:Heap} {C CW CR CN:Addr}
theorem DL:aq ["self", "reading"] ["self", "reading"] (aj (inClass (top 8) 0)):=by walk_at "s"
theorem Ew (D:qu K mg "Wait" "Wait.__init__" CW (inClass (top 8) 0) ["self", "reading"]) (dZ:tO K mg "RiseError" CR) (EP:ng K CW "reading"):tN P w K mg base "Wait" CW 1 ["self", "reading"] (fS CW "reading"):=by
 have S:=DL
 refine D.ok' S (fun vs H Q E h=>?_) (fun f cdv A outer s H vs Q E hr h=>?_)
 ·obtain ⟨x,v,rfl,_⟩:=h
  rfl
 obtain ⟨x,v,rfl,hx,q⟩:=h
 refine ⟨_,(ak (bC (lA dZ (aa (pv 0) (aa bB af))))
   (ao (pG (pv 0) (pv 1) rfl))),?_⟩
 try dsimp only [aZ]
 walk_at "go"
 refine lN hx D.ok ?_
 walk_at "go"
 exact vp hx EP fun d nd=>q d nd
theorem o7:aq ["area", "place", "reading"] ["area", "place", "reading"] (aj (top 31)):=by walk_at "s"
def due (m f r:Int):Int:=max (max m r) f
def i9:Sp:=fun vs H Q _=>∃ (a t:Addr) (sl f e m k r:Int),vs=[.ref a,.ref t,.int r]∧t9 H a sl f e∧qE H t m k∧Q (.int (due m f r)) H
theorem pN {CX:CXT} (D:Dat K mg "moment_at" "moment_at" (top 31) ["area", "place", "reading"]) (BT:Bt mg) (NE:br CX) (cX:Cal P w K mg base CX "first_of" 1 ["area"] qR):Cal P w K mg base CX "moment_at" 2 ["area", "place", "reading"] i9:=by
 have S:=o7
 walk_at "d"
 ·obtain ⟨a,t,sl,f,e,m,k,r,rfl,_⟩:=h
  rfl
 obtain ⟨a,t,sl,f',e,m,k,r,rfl,ha,ht,q⟩:=h
 refine ⟨_,(ao (aB (aX (Cs rfl) rfl BT.max L3.ef (aa (ay au (pv 1) ai (fun _ _=>rfl)) (aa (pv 2) (aa (aH cX (hr.mono (by first | decide | omega)) NE.pass (aa (pv 0) af)) af)))))),?_⟩
 try dsimp only [aZ]
 have L:=((Led.start H (fun _=>False)).more (aS t [.int m,.int k]) ht).more (aS a [.int sl,.int f',.int e]) ha
 walk_at "go"
 refine ⟨a,sl,f',e,rfl,ha,?_⟩
 walk_at "go"
 exact q
theorem DB:aq ["shape", "far", "area", "place", "reading", "moment", "count", "mark"] ["shape", "far", "area", "place", "reading"] (aj (top 32)):=by walk_at "s"
def cnt (m f r k:Int):Int:=if due m f r=m then k else 0
def Ae (C CN CW:Addr):Sp:=fun vs H Q E=>∃ (p a t:Addr) (c s sl f e m k r fa:Int),vs=[.ref p,.int fa,.ref a,.ref t,.int r]∧ShN c s∧CF C H p c s∧t9 H a sl f e∧qE H t m k ∧
 (e≤due m f r→E (.ref CN) none H)∧(¬ e≤due m f r→r+fa < due m f r→∀ d H',aI H H'→H' d=some (.xd [("reading",.int (due m f r - fa))])→E (.ref CW) (some d) H') ∧
 (¬ e≤due m f r→¬ r+fa < due m f r→∀ x y H',H' x=some (.tup [.int (mk c s (due m f r) sl (cnt m f r k)),.ref y])→qE H' y (if cnt m f r k+1=c then due m f r+1 else due m f r) (if cnt m f r k+1=c then 0 else cnt m f r k+1)→aI H H'→Q (.ref x) H')
theorem Ek (D:Dat K mg "made" "made" (top 32) ["shape", "far", "area", "place", "reading"]) (BT:Bt mg) (NE:br (CX1 P w)) (gK:mG K mg "NoRoom" CN) (vQ:tN P w K mg base "Wait" CW 1 ["self", "reading"] (fS CW "reading"))
  (dU:Cal P w K mg base (CX1 P w) "moment_at" 2 ["area", "place", "reading"] i9) (cQ:Cal P w K mg base (CX1 P w) "end_of" 1 ["area"] nM) (cK:Cal P w K mg base (CX1 P w) "slot_of" 1 ["area"] qS)
  (zm:Cal P w K mg base (CX1 P w) "mark_of" 1 ["shape", "moment", "slot", "count"] (Ad C)) (qc:Cal P w K mg base (CX1 P w) "next_place" 1 ["shape", "place"] (Ac C)):Cal P w K mg base (CX1 P w) "made" 3 ["shape", "far", "area", "place", "reading"] (Ae C CN CW):=by
 have S:=DB
 refine D.okR S (fun vs H Q E h=>?_) (fun f cdv A outer s H vs Q E hr h=>?_)
 ·obtain ⟨p,a,t,c,s,sl,f,e,m,k,r,fa,rfl,_⟩:=h
  rfl
 obtain ⟨p,a,t,c,s',sl,f',e,m,k,r,fa,rfl,N,hp,ha,ht,q1,q2,q3⟩:=h
 refine ⟨_,(ak (aM (i:=5) S.nd rfl (by first | exact Or.inl rfl | exact Or.inr rfl) (aH dU (hr.mono (by first | decide | omega)) NE.pass (aa (pv 2) (aa (pv 3) (aa (pv 4) af)))))
   (ak (bf (aK wW (pv 5) (aH cQ (hr.mono (by first | decide | omega)) NE.pass (aa (pv 2) af)) (aO _)) (ao (fF gK rfl aL (aa bB af))) aJ)
   (ak (bf (aK jg (pv 5) (aP bM (pv 4) (pv 1)) (aO _)) (ao (jF vQ (hr.mono (by first | decide | omega)) rfl aL (aa (aP gD (pv 5) (pv 1)) af))) aJ)
   (ak (aM (i:=6) S.nd rfl (by first | exact Or.inl rfl | exact Or.inr rfl) (eU (aK bZ (pv 5) (ay au (pv 3) ai (fun _ _=>rfl)) (aO _)) (ay au (pv 3) ai (fun _ _=>rfl)) ai))
   (ak (aM (i:=7) S.nd rfl (by first | exact Or.inl rfl | exact Or.inr rfl) (aH zm (hr.mono (by first | decide | omega)) NE.pass (aa (pv 0) (aa (pv 5) (aa (aH cK (hr.mono (by first | decide | omega)) NE.pass (aa (pv 2) af)) (aa (pv 6) af))))))
   (ao (aB (bA (aa (pv 7) (aa (aH qc (hr.mono (by first | decide | omega)) NE.pass (aa (pv 0) (aa (bA (aa (pv 5) (aa (pv 6) af))) af))) af)))))))))),?_⟩
 try dsimp only [aZ]
 have L:=((Led.start H (fun _=>False)).more (aS t [.int m,.int k]) ht).more (aS a [.int sl,.int f',.int e]) ha
 walk_at "go"
 refine ⟨a,t,sl,f',e,m,k,r,rfl,ha,ht,?_⟩
 have sh:=N
 have HW:cnt m f' r k=if due m f' r=m then k else 0:=rfl
 generalize due m f' r=du at *
 generalize cnt m f' r k=cn at *
 walk_at "go"
 refine ⟨a,sl,f',e,rfl,ha,?_⟩
 walk_at "go"
 refine bF (fun b1=>?_) (fun b1=>?_)
 ·walk_at "go"
  exact q1 b1
 walk_at "go"
 refine bF (fun b2=>?_) (fun b2=>?_)
 ·walk_at "go"
  exact g5 fun d H' sm hd=>q2 (by omega) b2 d H' sm hd
 walk_at "go"
 refine bF (fun b3=>?_) (fun b3=>?_)
 all_goals (walk_at "go")
 all_goals (first | rw [if_pos b3] at HW | rw [if_neg b3] at HW)
 all_goals subst HW
 all_goals (refine ⟨a,sl,f',e,rfl,ha,?_⟩;walk_at "go")
 all_goals (refine ⟨p,c,s',_,sl,_,rfl,sh,hp,?_⟩;walk_at "go")
 all_goals (refine ⟨p,_,c,s',_,_,rfl,hp.elim fun dx h=>⟨dx,L'.same _ _ h⟩,L'.tup (by walk_at "mem"),fun y HY hy sY=>?_⟩)
 all_goals (have L:=L'.keep sY;walk_at "go")
 all_goals exact q3 (by omega) (by omega) _ y _ (L'.tup (by walk_at "mem")) (by have z:=L'.same;first | exact L'.st _ (by walk_at "mem") | exact (show aI HY _ by assumption) _ _ hy) L'.same
end
def fO (H:Hp) (v:V) (pl:Option (Int×Int)):Prop:=(pl=none∧v = .non)∨∃ (t:Addr) (m k:Int),pl=some (m,k)∧v = .ref t∧H t=some (.tup [.int m,.int k])
theorem fO.same {H H':Hp} {v:V} {pl:Option (Int×Int)} (h:fO H v pl) (s:aI H H'):fO H' v pl:=by
 rcases h with h | ⟨t,m,k,e,ev,ht⟩
 ·exact .inl h
 ·exact .inr ⟨t,m,k,e,ev,s _ _ ht⟩
def eB (K:PySem.W.Frag) (H:Hp) (s:Addr) (pl:Option (Int×Int)) (n:Nt) (g:Int):Prop:=∃ (v:V) (t:Addr),H s=some (.tup [v,.ref t,.int g])∧fO H v pl∧qm K H t n
theorem eB.same {K:PySem.W.Frag} {H H':Hp} {s:Addr} {pl:Option (Int×Int)} {n:Nt} {g:Int} (h:eB K H s pl n g) (sm:aI H H'):eB K H' s pl n g:=by
 obtain ⟨v,t,hs,hp,hn⟩:=h
 exact ⟨v,t,sm _ _ hs,hp.same sm,hn.same sm⟩
theorem qk.same {C:Addr} {H H':Hp} {p:Addr} {sh:V} {far room term:Int} {ws:List Str} (h:qk C H p sh far room term ws) (sm:aI H H'):qk C H' p sh far room term ws:=by
 obtain ⟨dx,tr,ms,h1,h2,pm⟩:=h
 exact ⟨dx,tr,ms,sm _ _ h1,sm _ _ h2,pm⟩
def C5 (H:Hp) (v:V) (ar:Option (Int×Int×Int)):Prop:=(ar=none∧v = .non)∨∃ (a:Addr) (sl f e:Int),ar=some (sl,f,e)∧v = .ref a∧H a=some (.tup [.int sl,.int f,.int e])
section
variable {P:Program} {w:World} {K:PySem.W.Frag} {mg:Str→Option Value} {base:Heap} {CX:CXT} {CD CA CU CS:Addr}
theorem rj:aq ["stand"] ["stand"] (aj (top 49)):=by walk_at "s"
def nI (K:PySem.W.Frag):Sp:=fun vs H Q _=>∃ (s:Addr) (pl:Option (Int×Int)) (n:Nt) (g:Int),vs=[.ref s]∧eB K H s pl n g∧Q (.int n.g) H
theorem rR (D:Dat K mg "grant_in" "grant_in" (top 49) ["stand"]):Cal P w K mg base CX "grant_in" 1 ["stand"] (nI K):=by
 have S:=rj
 walk_at "d"
 ·obtain ⟨s,pl,n,g,rfl,_⟩:=h
  rfl
 obtain ⟨s,pl,n,g,rfl,⟨v,t,hs,hp,av,hn,hv⟩,q⟩:=h
 refine ⟨_,(ao (aB (ay au (ay au (pv 0) ai (fun _ _=>rfl)) ai (fun _ _=>rfl)))),?_⟩
 try dsimp only [aZ]
 have L:=(Led.start H (fun _=>False)).more (aS s [_,_,_]) hs
 walk_at "go"
 exact q
theorem uB:aq ["stand"] ["stand"] (aj (top 51)):=by walk_at "s"
def ja (K:PySem.W.Frag):Sp:=fun vs H Q _=>∃ (s:Addr) (pl:Option (Int×Int)) (n:Nt) (g:Int),vs=[.ref s]∧eB K H s pl n g∧Q (.int n.hd) H
theorem uT (D:Dat K mg "held_in" "held_in" (top 51) ["stand"]):Cal P w K mg base CX "held_in" 1 ["stand"] (ja K):=by
 have S:=uB
 walk_at "d"
 ·obtain ⟨s,pl,n,g,rfl,_⟩:=h
  rfl
 obtain ⟨s,pl,n,g,rfl,⟨v,t,hs,hp,av,hn,hv⟩,q⟩:=h
 refine ⟨_,(ao (aB (ay au (ay au (pv 0) ai (fun _ _=>rfl)) ai (fun _ _=>rfl)))),?_⟩
 try dsimp only [aZ]
 have L:=(Led.start H (fun _=>False)).more (aS s [_,_,_]) hs
 walk_at "go"
 exact q
theorem q9:aq ["stand"] ["stand"] (aj (top 52)):=by walk_at "s"
def nG (K:PySem.W.Frag):Sp:=fun vs H Q _=>∃ (s:Addr) (pl:Option (Int×Int)) (n:Nt) (g:Int),vs=[.ref s]∧eB K H s pl n g∧Q (.int n.hr) H
theorem rO (D:Dat K mg "heard_in" "heard_in" (top 52) ["stand"]):Cal P w K mg base CX "heard_in" 1 ["stand"] (nG K):=by
 have S:=q9
 walk_at "d"
 ·obtain ⟨s,pl,n,g,rfl,_⟩:=h
  rfl
 obtain ⟨s,pl,n,g,rfl,⟨v,t,hs,hp,av,hn,hv⟩,q⟩:=h
 refine ⟨_,(ao (aB (ay au (ay au (pv 0) ai (fun _ _=>rfl)) ai (fun _ _=>rfl)))),?_⟩
 try dsimp only [aZ]
 have L:=(Led.start H (fun _=>False)).more (aS s [_,_,_]) hs
 walk_at "go"
 exact q
theorem uH:aq ["stand"] ["stand"] (aj (top 50)):=by walk_at "s"
def gx (K:PySem.W.Frag):Sp:=fun vs H Q _=>∃ (s:Addr) (pl:Option (Int×Int)) (n:Nt) (g:Int),vs=[.ref s]∧eB K H s pl n g∧∀ v,C5 H v n.ar→Q v H
theorem uZ (D:Dat K mg "area_in" "area_in" (top 50) ["stand"]):Cal P w K mg base CX "area_in" 1 ["stand"] (gx K):=by
 have S:=uH
 walk_at "d"
 ·obtain ⟨s,pl,n,g,rfl,_⟩:=h
  rfl
 obtain ⟨s,pl,n,g,rfl,⟨v,t,hs,hp,av,hn,hv⟩,q⟩:=h
 refine ⟨_,(ao (aB (ay au (ay au (pv 0) ai (fun _ _=>rfl)) ai (fun _ _=>rfl)))),?_⟩
 try dsimp only [aZ]
 have L:=(Led.start H (fun _=>False)).more (aS s [_,_,_]) hs
 walk_at "go"
 exact q av hv
theorem qW:aq ["note"] ["note"] (aj (top 53)):=by walk_at "s"
def jE (K:PySem.W.Frag):Sp:=fun vs H Q _=>∃ (t:Addr) (n:Nt),vs=[.ref t]∧qm K H t n∧∀ p H',H' p=some (.tup [.int (max n.hd n.hr),.int 0])→aI H H'→Q (.ref p) H'
theorem rJ (D:Dat K mg "start_by" "start_by" (top 53) ["note"]) (BT:Bt mg):Cal P w K mg base CX "start_by" 1 ["note"] (jE K):=by
 have S:=qW
 walk_at "d"
 ·obtain ⟨t,n,rfl,_⟩:=h
  rfl
 obtain ⟨t,n,rfl,⟨av,hn,hv⟩,q⟩:=h
 refine ⟨_,(ao (aB (bA (aa (aX (j8 rfl) rfl BT.max L3.ef (aa (ay au (pv 0) ai (fun _ _=>rfl)) (aa (ay au (pv 0) ai (fun _ _=>rfl)) af))) (aa ai af))))),?_⟩
 try dsimp only [aZ]
 have L:=Led.start H (fun _=>False)
 walk_at "go"
 exact q _ _ (L'.tup (by walk_at "mem")) L'.same
theorem uy:aq ["place"] ["place"] (aj (top 54)):=by walk_at "s"
def eO (CD:Addr):Sp:=fun vs H Q E=>∃ (v:V) (pl:Option (Int×Int)),vs=[v]∧fO H v pl∧(pl=none→E (.ref CD) none H)∧(pl.isSome=true→Q .non H)
theorem uQ (D:Dat K mg "need_up" "need_up" (top 54) ["place"]) (NE:br (CX1 P w)) (Js:mG K mg "Down" CD):Cal P w K mg base (CX1 P w) "need_up" 1 ["place"] (eO CD):=by
 have S:=uy
 refine D.okR S (fun vs H Q E h=>?_) (fun f cdv A outer s H vs Q E hr h=>?_)
 ·obtain ⟨v,pl,rfl,_⟩:=h
  rfl
 obtain ⟨v,pl,rfl,hp,qe,qq⟩:=h
 refine ⟨_,(ao (bf (gy (iJ (pv 0))) (ao (fF Js rfl aL (aa bB af))) aJ)),?_⟩
 try dsimp only [aZ]
 walk_at "go"
 rcases hp with ⟨e,rfl⟩ | ⟨t,m,k,e,rfl,ht⟩
 ·refine lM rfl ?_
  walk_at "go"
  exact qe e
 ·refine bF (fun z=>nomatch z) fun _=>?_
  walk_at "go"
  exact qq (by rw [e];rfl)
theorem oZ:aq ["area"] ["area"] (aj (top 55)):=by walk_at "s"
def iD (CA:Addr):Sp:=fun vs H Q E=>∃ (v:V) (ar:Option (Int×Int×Int)),vs=[v]∧C5 H v ar∧(ar=none→E (.ref CA) none H)∧(ar.isSome=true→Q .non H)
theorem pM (D:Dat K mg "need_area" "need_area" (top 55) ["area"]) (NE:br (CX1 P w)) (CI:mG K mg "NoArea" CA):Cal P w K mg base (CX1 P w) "need_area" 1 ["area"] (iD CA):=by
 have S:=oZ
 refine D.okR S (fun vs H Q E h=>?_) (fun f cdv A outer s H vs Q E hr h=>?_)
 ·obtain ⟨v,ar,rfl,_⟩:=h
  rfl
 obtain ⟨v,ar,rfl,hp,qe,qq⟩:=h
 refine ⟨_,(ao (bf (gy (iJ (pv 0))) (ao (fF CI rfl aL (aa bB af))) aJ)),?_⟩
 try dsimp only [aZ]
 walk_at "go"
 rcases hp with ⟨e,rfl⟩ | ⟨a,sl,f',e',e,rfl,ht⟩
 ·refine lM rfl ?_
  walk_at "go"
  exact qe e
 ·refine bF (fun z=>nomatch z) fun _=>?_
  walk_at "go"
  exact qq (by rw [e];rfl)
def fz (H0 H:Hp) (t:Addr) (v:V) (ls:Lns) (pv:V):Prop:=∃ l,H t=some (.tup [v,.ref l,pv])∧H0 l=none∧H l=some (.lst (lnV ls))∧eE H ls
theorem uF:aq ["stand"] ["stand"] (aj (top 56)):=by walk_at "s"
def nK (K:PySem.W.Frag) (CD:Addr):Sp:=fun vs H Q E=>∃ (s:Addr) (pl:Option (Int×Int)) (n:Nt) (g:Int),vs=[.ref s]∧eB K H s pl n g∧(pl=none→E (.ref CD) none H)∧(pl.isSome=true→∀ t H',fz H H' t .non [] .non→aI H H'→Q (.ref t) H')
theorem uX (D:Dat K mg "falling" "falling" (top 56) ["stand"]) (NE:br (CX1 P w)) (bI:Cal P w K mg base (CX1 P w) "need_up" 1 ["place"] (eO CD)):Cal P w K mg base (CX1 P w) "falling" 2 ["stand"] (nK K CD):=by
 have S:=uF
 refine D.okR S (fun vs H Q E h=>?_) (fun f cdv A outer s H vs Q E hr h=>?_)
 ·obtain ⟨s,pl,n,g,rfl,_⟩:=h
  rfl
 obtain ⟨s,pl,n,g,rfl,⟨v,t,hs,hp,hn⟩,qe,qq⟩:=h
 refine ⟨_,(ak (bC (b6 bI (hr.mono (by first | decide | omega)) aL (aa (ay au (pv 0) ai (fun _ _=>rfl)) af)))
   (ao (aB (bA (aa pH (aa (bQ af) (aa pH af))))))),?_⟩
 try dsimp only [aZ]
 have L:=(Led.start H (fun _=>False)).more (aS s [_,_,_]) hs
 walk_at "go"
 refine ⟨v,pl,rfl,hp,qe,fun hsome=>?_⟩
 walk_at "go"
 exact qq hsome _ _ ⟨_,L'.tup (by walk_at "mem"),by assumption,L'.eo .head,fun _ h=>by simp at h⟩ L'.same
theorem xY:aq ["stand"] ["stand"] (aj (top 57)):=by walk_at "s"
def qK (K:PySem.W.Frag) (CU:Addr):Sp:=fun vs H Q E=>∃ (s:Addr) (pl:Option (Int×Int)) (n:Nt) (g:Int),vs=[.ref s]∧eB K H s pl n g∧(pl.isSome=true→E (.ref CU) none H)∧(pl=none→∀ t p H',fz H H' t .non [] (.ref p)→H' p=some (.tup [.int (max n.hd n.hr),.int 0])→aI H H'→Q (.ref t) H')
theorem yp (D:Dat K mg "rising" "rising" (top 57) ["stand"]) (NE:br (CX1 P w)) (Mx:mG K mg "Up" CU) (dH:Cal P w K mg base (CX1 P w) "start_by" 1 ["note"] (jE K)):Cal P w K mg base (CX1 P w) "rising" 2 ["stand"] (qK K CU):=by
 have S:=xY
 refine D.okR S (fun vs H Q E h=>?_) (fun f cdv A outer s H vs Q E hr h=>?_)
 ·obtain ⟨s,pl,n,g,rfl,_⟩:=h
  rfl
 obtain ⟨s,pl,n,g,rfl,⟨v,t,hs,hp,hn⟩,qe,qq⟩:=h
 refine ⟨_,(ak (bf (gy (wV (ay au (pv 0) ai (fun _ _=>rfl)))) (ao (fF Mx rfl aL (aa bB af))) aJ)
   (ao (aB (bA (aa pH (aa (bQ af) (aa (aH dH (hr.mono (by first | decide | omega)) NE.pass (aa (ay au (pv 0) ai (fun _ _=>rfl)) af)) af))))))),?_⟩
 try dsimp only [aZ]
 have L:=(Led.start H (fun _=>False)).more (aS s [_,_,_]) hs
 walk_at "go"
 rcases hp with ⟨e,rfl⟩ | ⟨t2,m,k,e,rfl,ht⟩
 ·refine B5 rfl ?_
  walk_at "go"
  obtain ⟨lx,elx⟩:∃ z,z=l':=⟨_,rfl⟩
  subst elx
  have nlx:H lx=none:=n'
  have M:=L'
  clear L L'
  refine ⟨t,n,rfl,hn.same M.same,fun p H2 hp2 s2=>?_⟩
  have N:=(M.keep s2).more (aS p [_,_]) hp2
  clear M
  walk_at "go"
  exact qq e _ p _ ⟨lx,L'.tup (by walk_at "mem"),nlx,L'.eo .head,fun _ h=>by simp at h⟩ (L'.tup (r:=p) (by walk_at "mem")) L'.same
 ·refine B4 (fun z=>nomatch z) ?_
  walk_at "go"
  exact qe (by rw [e];rfl)
theorem xX:aq ["settings", "stand", "grant", "area", "place"] ["settings", "stand", "grant", "area"] (aj (top 58)):=by walk_at "s"
def cN (m k b:Int):Int×Int:=(if m < b then b else m,if m < b then 0 else k)
def qJ (K:PySem.W.Frag) (CD CS:Addr):Sp:=fun vs H Q E=>∃ (p s a:Addr) (sh:V) (far room term:Int) (ws:List Str) (pl:Option (Int×Int)) (n:Nt) (g gr sl f e:Int),vs=[.ref p,.ref s,.int gr,.ref a]∧qk CS H p sh far room term ws∧eB K H s pl n g∧(∀ m k,pl=some (m,k)→0≤k)∧H a=some (.tup [.int sl,.int f,.int e]) ∧
 (pl=none→E (.ref CD) none H) ∧
 (∀ m k,pl=some (m,k)→("once" : Str)∈ws→gr≤g→∀ t v H',fO H' v pl→fz H H' t (.bl false) [] v→aI H H'→Q (.ref t) H') ∧
 (∀ m k,pl=some (m,k)→¬ (("once" : Str)∈ws∧gr≤g)→∀ t l v H',fO H' v (some (cN m k (bnd m k)))→fz H H' t (.bl true) [(l,.took gr sl f e)] v→aI H H'→Q (.ref t) H')
theorem yo (D:Dat K mg "taking" "taking" (top 58) ["settings", "stand", "grant", "area"]) (NE:br (CX1 P w)) (bI:Cal P w K mg base (CX1 P w) "need_up" 1 ["place"] (eO CD)) (cz:Cal P w K mg base (CX1 P w) "has_rule" 1 ["settings", "word"] (fE CS)) (eY:Cal P w K mg base (CX1 P w) "bound_of" 1 ["place"] kM) (fN:Cal P w K mg base (CX1 P w) "raised" 1 ["place", "bound"] kR):Cal P w K mg base (CX1 P w) "taking" 2 ["settings", "stand", "grant", "area"] (qJ K CD CS):=by
 have S:=xX
 refine D.okR S (fun vs H Q E h=>?_) (fun f cdv A outer s H vs Q E hr h=>?_)
 ·obtain ⟨p,s,a,sh,far,room,term,ws,pl,n,g,gr,sl,f,e,rfl,_⟩:=h
  rfl
 obtain ⟨p,s,a,sh,far,room,term,ws,pl,n,g,gr,sl,f',e,rfl,hst,⟨v,t,hs,hp,hn⟩,hk,ha,qe,q0,q1⟩:=h
 refine ⟨_,(ak (aM (i:=4) S.nd rfl (by first | exact Or.inl rfl | exact Or.inr rfl) (ay au (pv 1) ai (fun _ _=>rfl)))
   (ak (bC (b6 bI (hr.mono (by first | decide | omega)) aL (aa (pv 4) af)))
   (ak (bf (PW.pt (iE (cj (aH cz (hr.mono (by first | decide | omega)) NE.pass (aa (pv 0) (aa bB af)))) (fU (aK nR (pv 2) (ay au (pv 1) ai (fun _ _=>rfl)) (aO _))))) (ao (aB (bA (aa eu (aa (bQ af) (aa (pv 4) af)))))) aJ)
   (ao (aB (bA (aa eu (aa (bQ (aa (bA (aa bB (aa (pv 2) (aa (pv 3) af)))) af)) (aa (aH fN (hr.mono (by first | decide | omega)) NE.pass (aa (pv 4) (aa (aH eY (hr.mono (by first | decide | omega)) NE.pass (aa (pv 4) af)) af))) af))))))))),?_⟩
 try dsimp only [aZ]
 have L:=((Led.start H (fun _=>False)).more (aS s [_,_,_]) hs).more (aS a [_,_,_]) ha
 walk_at "go"
 refine ⟨v,pl,rfl,hp,qe,fun hsome=>?_⟩
 rcases id hp with ⟨e1,rfl⟩ | ⟨tp,m,k,epl,rfl,htp⟩
 ·rw [e1] at hsome;cases hsome
 have q0:=q0 m k epl
 have q1:=q1 m k epl
 have k0:=hk m k epl
 walk_at "one"
 try dsimp only [bD]
 refine cR (fun σ H'=>H'=H∧σ=[some (.ref p),some (.ref s),some (.int gr),some (.ref a),some (.ref tp)]∧¬ (("once" : Str)∈ws∧gr≤g)) (fun nx kk=>?_) ?_
 ·walk_at "go"
  refine ⟨p,sh,far,room,term,ws,_,rfl,hst,?_⟩
  walk_at "go"
  refine bF (fun c1=>?_) (fun c1=>?_)
  ·walk_at "go"
   refine bF (fun c2=>?_) (fun c2=>?_)
   ·walk_at "go"
    exact q0 c1 c2 _ _ _ (hp.same L'.same) ⟨_,L'.tup (by walk_at "mem"),by assumption,L'.eo .head,fun _ h=>by simp at h⟩ L'.same
   ·walk_at "go"
    exact kk _ _ ⟨rfl,rfl,fun z=>c2 z.2⟩
  ·walk_at "go"
   exact kk _ _ ⟨rfl,rfl,fun z=>c1 z.1⟩
 rintro σ HA ⟨rfl,rfl,hno⟩
 walk_at "go"
 obtain ⟨lx,tk,elx,etk⟩:∃ z y,z=l'∧y=t':=⟨_,_,rfl,rfl⟩
 subst elx etk
 have M:=L'
 clear L L'
 have nlx:HA lx=none:=(M.own (lx,_) M7).elim (fun z=>absurd z id) id
 refine ⟨tp,m,k,rfl,M.same _ _ htp,?_⟩
 walk_at "go"
 refine ⟨tp,m,k,_,rfl,M.same _ _ htp,k0,fun r H2 hr2 s2=>?_⟩
 have N:=(M.keep s2).more (aS r [_,_]) hr2
 clear M
 walk_at "go"
 exact q1 hno _ tk (.ref r) _ (.inr ⟨r,_,_,rfl,rfl,L'.tup (r:=r) (by walk_at "mem")⟩) ⟨lx,L'.tup (by walk_at "mem"),nlx,L'.eo .head,fun z hz=>by
  rw [List.mem_singleton.mp hz]
  exact .took (L'.tup (r:=tk) (by walk_at "mem")) (L'.tup (r:=a) (by walk_at "mem"))⟩ L'.same
theorem uC:aq ["settings", "stand", "bound", "is_written"] ["settings", "stand", "bound"] (aj (top 62)):=by walk_at "s"
def nF (K:PySem.W.Frag) (CD CS:Addr):Sp:=fun vs H Q E=>∃ (p s:Addr) (sh:V) (far room term:Int) (ws:List Str) (pl:Option (Int×Int)) (n:Nt) (g b:Int),vs=[.ref p,.ref s,.int b]∧qk CS H p sh far room term ws∧eB K H s pl n g∧(∀ m k,pl=some (m,k)→0≤k) ∧
 (pl=none→E (.ref CD) none H) ∧
 (∀ m k,pl=some (m,k)→∀ t v ls H',((("spoken" : Str)∈ws∧n.hr < b∧∃ l,ls=[(l,.heard b)])∨(¬ (("spoken" : Str)∈ws∧n.hr < b)∧ls=[]))→fO H' v (some (cN m k b))→fz H H' t .non ls v→aI H H'→Q (.ref t) H')
theorem uU (D:Dat K mg "hearing" "hearing" (top 62) ["settings", "stand", "bound"]) (NE:br (CX1 P w)) (bI:Cal P w K mg base (CX1 P w) "need_up" 1 ["place"] (eO CD)) (cz:Cal P w K mg base (CX1 P w) "has_rule" 1 ["settings", "word"] (fE CS)) (iV:Cal P w K mg base (CX1 P w) "heard_in" 1 ["stand"] (nG K)) (fN:Cal P w K mg base (CX1 P w) "raised" 1 ["place", "bound"] kR):Cal P w K mg base (CX1 P w) "hearing" 2 ["settings", "stand", "bound"] (nF K CD CS):=by
 have S:=uC
 refine D.okR S (fun vs H Q E h=>?_) (fun f cdv A outer s H vs Q E hr h=>?_)
 ·obtain ⟨p,s,sh,far,room,term,ws,pl,n,g,b,rfl,_⟩:=h
  rfl
 obtain ⟨p,s,sh,far,room,term,ws,pl,n,g,b,rfl,hst,hsd,hk,qe,q1⟩:=h
 obtain ⟨v,t,hs,hp,hn⟩:=id hsd
 refine ⟨_,(ak (bC (b6 bI (hr.mono (by first | decide | omega)) aL (aa (ay au (pv 1) ai (fun _ _=>rfl)) af)))
   (ak (aM (i:=3) S.nd rfl (by first | exact Or.inl rfl | exact Or.inr rfl) (iI (aH cz (hr.mono (by first | decide | omega)) NE.pass (aa (pv 0) (aa bB af))) (iH (cJ jg (pv 2) (aH iV (hr.mono (by first | decide | omega)) NE.pass (aa (pv 1) af)) (aO _)))))
   (ao (aB (bA (aa pH (aa (eU (cj (pv 3)) (bQ (aa (bA (aa bB (aa (pv 2) af))) af)) (bQ af)) (aa (aH fN (hr.mono (by first | decide | omega)) NE.pass (aa (ay au (pv 1) ai (fun _ _=>rfl)) (aa (pv 2) af))) af)))))))),?_⟩
 try dsimp only [aZ]
 have L:=(Led.start H (fun _=>False)).more (aS s [_,_,_]) hs
 walk_at "go"
 refine ⟨v,pl,rfl,hp,qe,fun hsome=>?_⟩
 rcases id hp with ⟨e1,rfl⟩ | ⟨tp,m,k,epl,rfl,htp⟩
 ·rw [e1] at hsome;cases hsome
 have q1:=q1 m k epl
 have k0:=hk m k epl
 walk_at "one"
 try dsimp only [bD]
 refine cR (fun σ H'=>H'=H∧σ=[some (.ref p),some (.ref s),some (.int b),some (.bl (decide (("spoken" : Str)∈ws∧n.hr < b)))]) (fun nx kk=>?_) ?_
 ·walk_at "go"
  refine ⟨p,sh,far,room,term,ws,_,rfl,hst,?_⟩
  walk_at "go"
  refine bF (fun c1=>?_) (fun c1=>?_)
  ·walk_at "go"
   refine ⟨s,pl,n,g,rfl,hsd,?_⟩
   walk_at "go"
   exact kk _ _ ⟨rfl,by rw [show decide (("spoken" : Str)∈ws∧n.hr < b)=decide (n.hr < b) from decide_eq_decide.mpr ⟨fun z=>z.2,fun z=>⟨c1,z⟩⟩];rfl⟩
  ·exact kk _ _ ⟨rfl,by rw [Nn (fun z=>c1 z.1)];rfl⟩
 rintro σ HA ⟨rfl,rfl⟩
 walk_at "go"
 refine bF (fun c=>?_) (fun c=>?_)
 ·walk_at "go"
  obtain ⟨lx,tk,elx,etk⟩:∃ z y,z=l'∧y=t':=⟨_,_,rfl,rfl⟩
  subst elx etk
  have M:=L'
  clear L L'
  have nlx:HA lx=none:=(M.own (lx,_) M7).elim (fun z=>absurd z id) id
  refine ⟨tp,m,k,_,rfl,M.same _ _ htp,k0,fun r H2 hr2 s2=>?_⟩
  have N:=(M.keep s2).more (aS r [_,_]) hr2
  clear M
  walk_at "go"
  exact q1 _ (.ref r) [(tk,.heard b)] _ (.inl ⟨c.1,c.2,tk,rfl⟩) (.inr ⟨r,_,_,rfl,rfl,L'.tup (r:=r) (by walk_at "mem")⟩) ⟨lx,L'.tup (by walk_at "mem"),nlx,L'.eo .head,fun z hz=>by
   rw [List.mem_singleton.mp hz]
   exact .heard (L'.tup (r:=tk) (by walk_at "mem"))⟩ L'.same
 ·walk_at "go"
  obtain ⟨lx,elx⟩:∃ z,z=l':=⟨_,rfl⟩
  subst elx
  have M:=L'
  clear L L'
  have nlx:HA lx=none:=(M.own (lx,_) M7).elim (fun z=>absurd z id) id
  refine ⟨tp,m,k,_,rfl,M.same _ _ htp,k0,fun r H2 hr2 s2=>?_⟩
  have N:=(M.keep s2).more (aS r [_,_]) hr2
  clear M
  walk_at "go"
  exact q1 _ (.ref r) [] _ (.inr ⟨c,rfl⟩) (.inr ⟨r,_,_,rfl,rfl,L'.tup (r:=r) (by walk_at "mem")⟩) ⟨lx,L'.tup (by walk_at "mem"),nlx,L'.eo .head,fun z hz=>by simp at hz⟩ L'.same
theorem ye:aq ["settings", "stand", "place", "end", "told"] ["settings", "stand"] (aj (top 63)):=by walk_at "s"
def eW (f m k hd:Int):Int:=max (max f (bnd m k)) hd
theorem tG {H:Hp} {v:V} {sl f e:Int} (h:C5 H v (some (sl,f,e))):∃ a,v = .ref a∧H a=some (.tup [.int sl,.int f,.int e]):=by
 rcases h with ⟨z,_⟩ | ⟨a,_,_,_,z,ev,ha⟩
 ·cases z
 ·cases z;exact ⟨a,ev,ha⟩
def qQ (K:PySem.W.Frag) (CD CA CN CS:Addr):Sp:=fun vs H Q E=>∃ (p s:Addr) (sh:V) (far room term:Int) (ws:List Str) (pl:Option (Int×Int)) (n:Nt) (g:Int),vs=[.ref p,.ref s]∧qk CS H p sh far room term ws∧eB K H s pl n g ∧
 (pl=none→E (.ref CD) none H)∧(pl.isSome=true→n.ar=none→E (.ref CA) none H) ∧
 (∀ m k sl f e,pl=some (m,k)→n.ar=some (sl,f,e)→eW f m k n.hd≥e→E (.ref CN) none H) ∧
 (∀ m k sl f e,pl=some (m,k)→n.ar=some (sl,f,e)→¬ eW f m k n.hd≥e→∀ t tv v ls H',H' tv=some (.tup [.int n.g,.int (eW f m k n.hd)])→((("ends" : Str)∈ws∧∃ l,ls=[(l,.ends n.g (eW f m k n.hd))])∨(¬ ("ends" : Str)∈ws∧ls=[]))→fO H' v pl→fz H H' t (.ref tv) ls v→aI H H'→Q (.ref t) H')
theorem yy {CN:Addr} (D:Dat K mg "giving" "giving" (top 63) ["settings", "stand"]) (BT:Bt mg) (NE:br (CX1 P w)) (gK:mG K mg "NoRoom" CN) (bI:Cal P w K mg base (CX1 P w) "need_up" 1 ["place"] (eO CD)) (cZ:Cal P w K mg base (CX1 P w) "need_area" 1 ["area"] (iD CA)) (bS:Cal P w K mg base (CX1 P w) "area_in" 1 ["stand"] (gx K)) (cX:Cal P w K mg base (CX1 P w) "first_of" 1 ["area"] qR) (cQ:Cal P w K mg base (CX1 P w) "end_of" 1 ["area"] nM) (eY:Cal P w K mg base (CX1 P w) "bound_of" 1 ["place"] kM)
  (cA:Cal P w K mg base (CX1 P w) "held_in" 1 ["stand"] (ja K)) (gg:Cal P w K mg base (CX1 P w) "grant_in" 1 ["stand"] (nI K)) (cz:Cal P w K mg base (CX1 P w) "has_rule" 1 ["settings", "word"] (fE CS)):Cal P w K mg base (CX1 P w) "giving" 2 ["settings", "stand"] (qQ K CD CA CN CS):=by
 have S:=ye
 refine D.okR S (fun vs H Q E h=>?_) (fun f cdv A outer s H vs Q E hr h=>?_)
 ·obtain ⟨p,s,sh,far,room,term,ws,pl,n,g,rfl,_⟩:=h
  rfl
 obtain ⟨p,s,sh,far,room,term,ws,pl,n,g,rfl,hst,hsd,qd,qa,qn,q1⟩:=h
 obtain ⟨v,t,hs,hp,hn⟩:=id hsd
 refine ⟨_,(ak (aM (i:=2) S.nd rfl (by first | exact Or.inl rfl | exact Or.inr rfl) (ay au (pv 1) ai (fun _ _=>rfl)))
   (ak (bC (b6 bI (hr.mono (by first | decide | omega)) aL (aa (pv 2) af)))
   (ak (bC (b6 cZ (hr.mono (by first | decide | omega)) aL (aa (aH bS (hr.mono (by first | decide | omega)) NE.pass (aa (pv 1) af)) af)))
   (ak (aM (i:=3) S.nd rfl (by first | exact Or.inl rfl | exact Or.inr rfl) (aX (Cs rfl) rfl BT.max L3.ef (aa (aH cX (hr.mono (by first | decide | omega)) NE.pass (aa (aH bS (hr.mono (by first | decide | omega)) NE.pass (aa (pv 1) af)) af)) (aa (aH eY (hr.mono (by first | decide | omega)) NE.pass (aa (pv 2) af)) (aa (aH cA (hr.mono (by first | decide | omega)) NE.pass (aa (pv 1) af)) af)))))
   (ak (bf (aK wW (pv 3) (aH cQ (hr.mono (by first | decide | omega)) NE.pass (aa (aH bS (hr.mono (by first | decide | omega)) NE.pass (aa (pv 1) af)) af)) (aO _)) (ao (fF gK rfl aL (aa bB af))) aJ)
   (ak (aM (i:=4) S.nd rfl (by first | exact Or.inl rfl | exact Or.inr rfl) (bA (aa (aH gg (hr.mono (by first | decide | omega)) NE.pass (aa (pv 1) af)) (aa (pv 3) af))))
   (ao (aB (bA (aa (pv 4) (aa (eU (cj (aH cz (hr.mono (by first | decide | omega)) NE.pass (aa (pv 0) (aa bB af)))) (bQ (aa (bA (aa bB (aa (aH gg (hr.mono (by first | decide | omega)) NE.pass (aa (pv 1) af)) (aa (pv 3) af)))) af)) (bQ af)) (aa (pv 2) af)))))))))))),?_⟩
 try dsimp only [aZ]
 have L:=(Led.start H (fun _=>False)).more (aS s [_,_,_]) hs
 walk_at "go"
 refine ⟨v,pl,rfl,hp,qd,fun hsome=>?_⟩
 rcases id hp with ⟨e1,rfl⟩ | ⟨tp,m,k,epl,rfl,htp⟩
 ·rw [e1] at hsome;cases hsome
 walk_at "go"
 refine ⟨s,pl,n,g,rfl,hsd,fun av hav=>?_⟩
 walk_at "go"
 refine ⟨av,n.ar,rfl,hav,qa hsome,fun hars=>?_⟩
 obtain ⟨⟨sl,f',e⟩,ear⟩:=Option.isSome_iff_exists.mp hars
 have qn:=qn m k sl f' e epl ear
 have q1:=q1 m k sl f' e epl ear
 rw [ear] at hav
 walk_at "go"
 refine ⟨s,pl,n,g,rfl,hsd,fun av2 hav2=>?_⟩
 rw [ear] at hav2
 obtain ⟨a2,rfl,ha2⟩:=tG hav2
 walk_at "go"
 refine ⟨a2,_,_,_,rfl,ha2,?_⟩
 walk_at "go"
 refine ⟨tp,m,k,rfl,htp,?_⟩
 walk_at "go"
 refine ⟨s,pl,n,g,rfl,hsd,?_⟩
 walk_at "go"
 refine ⟨s,pl,n,g,rfl,hsd,fun av3 hav3=>?_⟩
 rw [ear] at hav3
 obtain ⟨a3,rfl,ha3⟩:=tG hav3
 walk_at "go"
 refine ⟨a3,_,_,_,rfl,ha3,?_⟩
 walk_at "go"
 refine bF (fun c=>?_) (fun c=>?_)
 ·walk_at "go"
  exact qn c
 walk_at "go"
 refine ⟨s,pl,n,g,rfl,hsd,?_⟩
 walk_at "go"
 obtain ⟨tv,etv⟩:∃ z,z=t':=⟨_,rfl⟩
 subst etv
 have M:=L'
 clear L L'
 have sM:=M.same
 refine ⟨p,sh,far,room,term,ws,_,rfl,hst.same sM,?_⟩
 walk_at "go"
 refine bF (fun c1=>?_) (fun c1=>?_)
 ·walk_at "go"
  refine ⟨s,pl,n,g,rfl,hsd.same sM,?_⟩
  walk_at "go"
  refine q1 c _ tv (.ref tp) [(_,.ends n.g _)] _ (L'.tup (r:=tv) (by walk_at "mem")) (.inl ⟨c1,_,rfl⟩) (hp.same L'.same) ⟨l',L'.tup (by walk_at "mem"),(L'.own (l',_) M7).elim (fun z=>absurd z id) id,L'.eo .head,fun z hz=>?_⟩ L'.same
  rw [List.mem_singleton.mp hz]
  exact .ends (L'.tup (by walk_at "mem"))
 ·walk_at "go"
  exact q1 c _ tv (.ref tp) [] _ (L'.tup (r:=tv) (by walk_at "mem")) (.inr ⟨c1,rfl⟩) (hp.same L'.same) ⟨l',L'.tup (by walk_at "mem"),(L'.own (l',_) M7).elim (fun z=>absurd z id) id,L'.eo .head,fun z hz=>by simp at hz⟩ L'.same
end
def MkE (CD CA CN CW:Addr) (H:Hp) (pl:Option (Int×Int)) (n:Nt) (far r:Int) (E:XK):Prop:=(pl=none→E (.ref CD) none H)∧(pl.isSome=true→n.ar=none→E (.ref CA) none H) ∧
 (∀ m k sl f e,pl=some (m,k)→n.ar=some (sl,f,e)→e≤due m f r→E (.ref CN) none H) ∧
 (∀ m k sl f e,pl=some (m,k)→n.ar=some (sl,f,e)→¬ e≤due m f r→r+far < due m f r→∀ d H',aI H H'→H' d=some (.xd [("reading",.int (due m f r - far))])→E (.ref CW) (some d) H')
def nxP (c m f r k:Int):Int×Int:=(if cnt m f r k+1=c then due m f r+1 else due m f r,if cnt m f r k+1=c then 0 else cnt m f r k+1)
def kC (C CS:Addr) (H:Hp) (p sp:Addr) (c s far room term:Int) (ws:List Str):Prop:=qk CS H p (.ref sp) far room term ws∧CF C H sp c s∧ShN c s
theorem kC.same {C CS:Addr} {H H':Hp} {p sp:Addr} {c s far room term:Int} {ws:List Str} (h:kC C CS H p sp c s far room term ws) (sm:aI H H'):kC C CS H' p sp c s far room term ws:=
 ⟨h.1.same sm,h.2.1.elim fun dx e=>⟨dx,sm _ _ e⟩,h.2.2⟩
section
variable {P:Program} {w:World} {K:PySem.W.Frag} {mg:Str→Option Value} {base:Heap} {C CD CA CN CW CT CS CR:Addr}
theorem yg:aq ["self", "moment"] ["self", "moment"] (aj (inClass (top 9) 0)):=by walk_at "s"
theorem yz (D:qu K mg "NoNote" "NoNote.__init__" CT (inClass (top 9) 0) ["self", "moment"]) (dZ:tO K mg "RiseError" CR) (EP:ng K CT "moment"):tN P w K mg base "NoNote" CT 1 ["self", "moment"] (fS CT "moment"):=by
 have S:=yg
 refine D.ok' S (fun vs H Q E h=>?_) (fun f cdv A outer s H vs Q E hr h=>?_)
 ·obtain ⟨x,v,rfl,_⟩:=h
  rfl
 obtain ⟨x,v,rfl,hx,q⟩:=h
 refine ⟨_,(ak (bC (lA dZ (aa (pv 0) (aa bB af))))
   (ao (pG (pv 0) (pv 1) rfl))),?_⟩
 try dsimp only [aZ]
 walk_at "go"
 refine lN hx D.ok ?_
 walk_at "go"
 exact vp hx EP fun d nd=>q d nd
theorem GV:aq ["settings", "stand", "reading"] ["settings", "stand", "reading"] (aj (top 59)):=by walk_at "s"
def Af (K:PySem.W.Frag) (C CD CA CN CW CS:Addr):Sp:=fun vs H Q E=>∃ (p s sp:Addr) (c s' far room term:Int) (ws:List Str) (pl:Option (Int×Int)) (n:Nt) (g r:Int),vs=[.ref p,.ref s,.int r]∧kC C CS H p sp c s' far room term ws∧eB K H s pl n g∧MkE CD CA CN CW H pl n far r E ∧
 (∀ m k sl f e,pl=some (m,k)→n.ar=some (sl,f,e)→¬ e≤due m f r→¬ r+far < due m f r→∀ x y H',H' x=some (.tup [.int (mk c s' (due m f r) sl (cnt m f r k)),.ref y])→fO H' (.ref y) (some (nxP c m f r k))→aI H H'→Q (.ref x) H')
theorem Hh (D:Dat K mg "mark_and_place" "mark_and_place" (top 59) ["settings", "stand", "reading"]) (SS:StC K CS) (NE:br (CX1 P w)) (bI:Cal P w K mg base (CX1 P w) "need_up" 1 ["place"] (eO CD)) (cZ:Cal P w K mg base (CX1 P w) "need_area" 1 ["area"] (iD CA)) (bS:Cal P w K mg base (CX1 P w) "area_in" 1 ["stand"] (gx K))
  (vJ:Cal P w K mg base (CX1 P w) "made" 3 ["shape", "far", "area", "place", "reading"] (Ae C CN CW)):Cal P w K mg base (CX1 P w) "mark_and_place" 4 ["settings", "stand", "reading"] (Af K C CD CA CN CW CS):=by
 have S:=GV
 refine D.okR S (fun vs H Q E h=>?_) (fun f cdv A outer s H vs Q E hr h=>?_)
 ·obtain ⟨p,s,sp,c,s',far,room,term,ws,pl,n,g,r,rfl,_⟩:=h
  rfl
 obtain ⟨p,s,sp,c,s',far,room,term,ws,pl,n,g,r,rfl,⟨⟨dx,tr,ms,hp0,htr,pm⟩,hsh,shn⟩,hsd,⟨qd,qa,qn,qw⟩,q1⟩:=h
 obtain ⟨v,t,hs,hp,hn⟩:=id hsd
 refine ⟨_,(ak (bC (b6 bI (hr.mono (by first | decide | omega)) aL (aa (ay au (pv 1) ai (fun _ _=>rfl)) af)))
   (ak (bC (b6 cZ (hr.mono (by first | decide | omega)) aL (aa (aH bS (hr.mono (by first | decide | omega)) NE.pass (aa (pv 1) af)) af)))
   (ao (aB (b6 vJ (hr.mono (by first | decide | omega)) aL (aa (aQ (pv 0) rfl) (aa (aQ (pv 0) rfl) (aa (aH bS (hr.mono (by first | decide | omega)) NE.pass (aa (pv 1) af)) (aa (ay au (pv 1) ai (fun _ _=>rfl)) (aa (pv 2) af)))))))))),?_⟩
 try dsimp only [aZ]
 have L:=(Led.start H (fun _=>False)).more (aS s [_,_,_]) hs
 walk_at "go"
 refine ⟨v,pl,rfl,hp,qd,fun hsome=>?_⟩
 rcases id hp with ⟨e1,rfl⟩ | ⟨tp,m,k,epl,rfl,htp⟩
 ·rw [e1] at hsome;cases hsome
 walk_at "go"
 refine ⟨s,pl,n,g,rfl,hsd,fun av hav=>?_⟩
 walk_at "go"
 refine ⟨av,n.ar,rfl,hav,qa hsome,fun hars=>?_⟩
 obtain ⟨⟨sl,f',e⟩,ear⟩:=Option.isSome_iff_exists.mp hars
 have qn:=qn m k sl f' e epl ear
 have qw:=qw m k sl f' e epl ear
 have q1:=q1 m k sl f' e epl ear
 walk_at "go"
 refine ⟨p,CS,dx,_,_,rfl,hp0,SS.cl,SS.n1,fD _ far room term tr,?_⟩
 walk_at "go"
 refine ⟨p,CS,dx,_,_,rfl,hp0,SS.cl,SS.n2,Df _ far room term tr,?_⟩
 walk_at "go"
 refine ⟨s,pl,n,g,rfl,hsd,fun av2 hav2=>?_⟩
 rw [ear] at hav2
 obtain ⟨a2,rfl,ha2⟩:=tG hav2
 walk_at "go"
 exact ⟨sp,a2,tp,c,s',sl,f',e,m,k,r,far,rfl,shn,hsh,ha2,htp,qn,qw,fun b1 b2 x y H' hx hy sm=>q1 b1 b2 x y H' hx (.inr ⟨y,_,_,rfl,rfl,hy⟩) sm⟩
theorem uv:aq ["settings", "stand", "reading", "ahead"] ["settings", "stand", "reading"] (aj (top 60)):=by walk_at "s"
def nA (K:PySem.W.Frag) (C CD CA CN CW CS:Addr):Sp:=fun vs H Q E=>∃ (p s sp:Addr) (c s' far room term:Int) (ws:List Str) (pl:Option (Int×Int)) (n:Nt) (g r:Int),vs=[.ref p,.ref s,.int r]∧kC C CS H p sp c s' far room term ws∧eB K H s pl n g∧MkE CD CA CN CW H pl n far r E ∧
 (∀ m k sl f e,pl=some (m,k)→n.ar=some (sl,f,e)→¬ e≤due m f r→¬ r+far < due m f r→∀ t v ls H',(n.hd < due m f r+room∧(∃ l,ls=[(l,.held (due m f r+room))])∨¬ n.hd < due m f r+room∧ls=[])→fO H' v pl→fz H H' t (.int (max n.hd (due m f r+room))) ls v→aI H H'→Q (.ref t) H')
theorem uO (D:Dat K mg "writing" "writing" (top 60) ["settings", "stand", "reading"]) (SS:StC K CS) (NE:br (CX1 P w)) (dI:Cal P w K mg base (CX1 P w) "mark_and_place" 4 ["settings", "stand", "reading"] (Af K C CD CA CN CW CS)) (bS:Cal P w K mg base (CX1 P w) "area_in" 1 ["stand"] (gx K)) (cA:Cal P w K mg base (CX1 P w) "held_in" 1 ["stand"] (ja K))
  (dU:Cal P w K mg base (CX1 P w) "moment_at" 2 ["area", "place", "reading"] i9):Cal P w K mg base (CX1 P w) "writing" 5 ["settings", "stand", "reading"] (nA K C CD CA CN CW CS):=by
 have S:=uv
 refine D.okR S (fun vs H Q E h=>?_) (fun f cdv A outer s H vs Q E hr h=>?_)
 ·obtain ⟨p,s,sp,c,s',far,room,term,ws,pl,n,g,r,rfl,_⟩:=h
  rfl
 obtain ⟨p,s,sp,c,s',far,room,term,ws,pl,n,g,r,rfl,hss,hsd,he,q1⟩:=h
 refine ⟨_,(ak (bC (b6 dI (hr.mono (by first | decide | omega)) aL (aa (pv 0) (aa (pv 1) (aa (pv 2) af)))))
   (ak (aM (i:=3) S.nd rfl (by first | exact Or.inl rfl | exact Or.inr rfl) (aP bM (aH dU (hr.mono (by first | decide | omega)) NE.pass (aa (aH bS (hr.mono (by first | decide | omega)) NE.pass (aa (pv 1) af)) (aa (ay au (pv 1) ai (fun _ _=>rfl)) (aa (pv 2) af)))) (aQ (pv 0) rfl)))
   (ak (bf (aK jg (pv 3) (aH cA (hr.mono (by first | decide | omega)) NE.pass (aa (pv 1) af)) (aO _)) (ao (aB (bA (aa (pv 3) (aa (bQ (aa (bA (aa bB (aa (pv 3) af))) af)) (aa (ay au (pv 1) ai (fun _ _=>rfl)) af)))))) aJ)
   (ao (aB (bA (aa (aH cA (hr.mono (by first | decide | omega)) NE.pass (aa (pv 1) af)) (aa (bQ af) (aa (ay au (pv 1) ai (fun _ _=>rfl)) af))))))))),?_⟩
 try dsimp only [aZ]
 walk_at "go"
 refine ⟨p,s,sp,c,s',far,room,term,ws,pl,n,g,r,rfl,hss,hsd,he,fun m k sl f' e epl ear b1 b2 x y H1 hx hy s1=>?_⟩
 have q1:=q1 m k sl f' e epl ear b1 b2
 have sE:=hsd.same s1
 obtain ⟨v,t,hs,hp,hn⟩:=id sE
 obtain ⟨⟨dx,tr,ms,hp0,htr,pm⟩,hsh,shn⟩:=hss.same s1
 rcases id hp with ⟨e1,rfl⟩ | ⟨tp,m2,k2,epl2,rfl,htp⟩
 ·rw [epl] at e1;cases e1
 rw [epl] at epl2
 cases epl2
 have L:=(Led.start H1 (fun _=>False)).more (aS s [_,_,_]) hs
 walk_at "go"
 refine ⟨s,pl,n,g,rfl,sE,fun av2 hav2=>?_⟩
 rw [ear] at hav2
 obtain ⟨a2,rfl,ha2⟩:=tG hav2
 walk_at "go"
 refine ⟨a2,tp,sl,f',e,m,k,r,rfl,ha2,htp,?_⟩
 generalize due m f' r=du at *
 walk_at "go"
 refine ⟨p,CS,dx,_,_,rfl,hp0,SS.cl,SS.n3,z0 _ far room term tr,?_⟩
 walk_at "go"
 refine ⟨s,pl,n,g,rfl,sE,?_⟩
 walk_at "go"
 refine bF (fun c=>?_) (fun c=>?_)
 ·rw [show max n.hd (du+room)=du+room by omega] at q1
  walk_at "go"
  exact q1 _ (.ref tp) [(_,.held _)] _ (.inl ⟨c,_,rfl⟩) (hp.same L'.same) ⟨l',L'.tup (by walk_at "mem"),(by
   cases e0:H l' with
   | none=>rfl
   | some o=>exact absurd (s1 _ _ e0) (by rw [(L'.own (l',_) M7).elim (fun z=>absurd z id) id];exact fun z=>nomatch z)),L'.eo .head,fun z hz=>by
   rw [List.mem_singleton.mp hz]
   exact .held (L'.tup (by walk_at "mem"))⟩ (s1.trans L'.same)
 ·rw [show max n.hd (du+room)=n.hd by omega] at q1
  walk_at "go"
  refine ⟨s,pl,n,g,rfl,sE,?_⟩
  walk_at "go"
  exact q1 _ (.ref tp) [] _ (.inr ⟨c,rfl⟩) (hp.same L'.same) ⟨l',L'.tup (by walk_at "mem"),(by
   cases e0:H l' with
   | none=>rfl
   | some o=>exact absurd (s1 _ _ e0) (by rw [(L'.own (l',_) M7).elim (fun z=>absurd z id) id];exact fun z=>nomatch z)),L'.eo .head,fun z hz=>by simp at hz⟩ (s1.trans L'.same)
theorem x9:aq ["settings", "stand", "reading", "told", "moment"] ["settings", "stand", "reading"] (aj (top 61)):=by walk_at "s"
def qM (K:PySem.W.Frag) (C CD CA CN CW CT CS:Addr):Sp:=fun vs H Q E=>∃ (p s sp:Addr) (c s' far room term:Int) (ws:List Str) (pl:Option (Int×Int)) (n:Nt) (g r:Int),vs=[.ref p,.ref s,.int r]∧kC C CS H p sp c s' far room term ws∧eB K H s pl n g∧MkE CD CA CN CW H pl n far r E ∧
 (∀ m k sl f e,pl=some (m,k)→n.ar=some (sl,f,e)→¬ e≤due m f r→¬ r+far < due m f r→("ahead" : Str)∈ws→n.hd≤due m f r→∀ d H',aI H H'→H' d=some (.xd [("moment",.int (due m f r))])→E (.ref CT) (some d) H') ∧
 (∀ m k sl f e,pl=some (m,k)→n.ar=some (sl,f,e)→¬ e≤due m f r→¬ r+far < due m f r→¬ (("ahead" : Str)∈ws∧n.hd≤due m f r)→∀ t v H',fO H' v (some (nxP c m f r k))→fz H H' t (.int (mk c s' (due m f r) sl (cnt m f r k))) [] v→aI H H'→Q (.ref t) H')
theorem yt (D:Dat K mg "making" "making" (top 61) ["settings", "stand", "reading"]) (NE:br (CX1 P w)) (mE:tN P w K mg base "NoNote" CT 1 ["self", "moment"] (fS CT "moment")) (dI:Cal P w K mg base (CX1 P w) "mark_and_place" 4 ["settings", "stand", "reading"] (Af K C CD CA CN CW CS)) (bS:Cal P w K mg base (CX1 P w) "area_in" 1 ["stand"] (gx K)) (cA:Cal P w K mg base (CX1 P w) "held_in" 1 ["stand"] (ja K))
  (dU:Cal P w K mg base (CX1 P w) "moment_at" 2 ["area", "place", "reading"] i9) (cz:Cal P w K mg base (CX1 P w) "has_rule" 1 ["settings", "word"] (fE CS)):Cal P w K mg base (CX1 P w) "making" 5 ["settings", "stand", "reading"] (qM K C CD CA CN CW CT CS):=by
 have S:=x9
 refine D.okR S (fun vs H Q E h=>?_) (fun f cdv A outer s H vs Q E hr h=>?_)
 ·obtain ⟨p,s,sp,c,s',far,room,term,ws,pl,n,g,r,rfl,_⟩:=h
  rfl
 obtain ⟨p,s,sp,c,s',far,room,term,ws,pl,n,g,r,rfl,hss,hsd,he,qt,q1⟩:=h
 refine ⟨_,(ak (aM (i:=3) S.nd rfl (by first | exact Or.inl rfl | exact Or.inr rfl) (b6 dI (hr.mono (by first | decide | omega)) aL (aa (pv 0) (aa (pv 1) (aa (pv 2) af)))))
   (ak (aM (i:=4) S.nd rfl (by first | exact Or.inl rfl | exact Or.inr rfl) (aH dU (hr.mono (by first | decide | omega)) NE.pass (aa (aH bS (hr.mono (by first | decide | omega)) NE.pass (aa (pv 1) af)) (aa (ay au (pv 1) ai (fun _ _=>rfl)) (aa (pv 2) af)))))
   (ak (bf (PW.pt (iE (cj (aH cz (hr.mono (by first | decide | omega)) NE.pass (aa (pv 0) (aa bB af)))) (fU (aK wW (pv 4) (aH cA (hr.mono (by first | decide | omega)) NE.pass (aa (pv 1) af)) (aO _))))) (ao (jF mE (hr.mono (by first | decide | omega)) rfl aL (aa (pv 4) af))) aJ)
   (ao (aB (bA (aa (ay au (pv 3) ai (fun _ _=>rfl)) (aa (bQ af) (aa (ay au (pv 3) ai (fun _ _=>rfl)) af))))))))),?_⟩
 try dsimp only [aZ]
 walk_at "go"
 refine ⟨p,s,sp,c,s',far,room,term,ws,pl,n,g,r,rfl,hss,hsd,he,fun m k sl f' e epl ear b1 b2 x y H1 hx hy s1=>?_⟩
 have qt:=qt m k sl f' e epl ear b1 b2
 have q1:=q1 m k sl f' e epl ear b1 b2
 have sE:=hsd.same s1
 obtain ⟨v,t,hs,hp,hn⟩:=id sE
 have LR:=hss.same s1
 rcases id hp with ⟨e1,rfl⟩ | ⟨tp,m2,k2,epl2,rfl,htp⟩
 ·rw [epl] at e1;cases e1
 rw [epl] at epl2
 cases epl2
 have L:=((Led.start H1 (fun _=>False)).more (aS s [_,_,_]) hs).more (aS x [_,_]) hx
 walk_at "go"
 refine ⟨s,pl,n,g,rfl,sE,fun av2 hav2=>?_⟩
 rw [ear] at hav2
 obtain ⟨a2,rfl,ha2⟩:=tG hav2
 walk_at "go"
 refine ⟨a2,tp,sl,f',e,m,k,r,rfl,ha2,htp,?_⟩
 generalize nxP c m f' r k=np at *
 generalize mk c s' (due m f' r) sl (cnt m f' r k)=mm at *
 generalize due m f' r=du at *
 walk_at "one"
 try dsimp only [bD]
 refine cR (fun σ H'=>H'=H1∧σ=[some (.ref p),some (.ref s),some (.int r),some (.ref x),some (.int du)]∧¬ (("ahead" : Str)∈ws∧n.hd≤du)) (fun nx kk=>?_) ?_
 ·walk_at "go"
  refine ⟨p,_,far,room,term,ws,_,rfl,LR.1,?_⟩
  walk_at "go"
  refine bF (fun c1=>?_) (fun c1=>?_)
  ·walk_at "go"
   refine ⟨s,pl,n,g,rfl,sE,?_⟩
   walk_at "go"
   refine bF (fun c2=>?_) (fun c2=>?_)
   ·walk_at "go"
    exact g5 fun d H' sm hd=>qt c1 c2 d H' (s1.trans sm) hd
   ·walk_at "go"
    exact kk _ _ ⟨rfl,rfl,fun z=>c2 z.2⟩
  ·walk_at "go"
   exact kk _ _ ⟨rfl,rfl,fun z=>c1 z.1⟩
 rintro σ HA ⟨rfl,rfl,hno⟩
 walk_at "go"
 exact q1 hno _ (.ref y) _ (hy.same L'.same) ⟨l',L'.tup (by walk_at "mem"),(by
   cases e0:H l' with
   | none=>rfl
   | some o=>exact absurd (s1 _ _ e0) (by rw [(L'.own (l',_) M7).elim (fun z=>absurd z id) id];exact fun z=>nomatch z)),L'.eo .head,fun z hz=>by simp at hz⟩ (s1.trans L'.same)
end
end Law
namespace L4
open PySem PySem.Spec PyProof.Rows L2 L3
structure vR (P:Program) (w:World) (K:PySem.W.Frag) (mg:Str→Option Value) (base:Heap) (CX:CXT) (x:Str) (C:Addr) (k:Nat) (ps:List Str) (sp:Sp):Prop where
 ex:∃ f fd,Mk K C f∧e7 P w K mg base CX k f fd ps sp∧Binds K fd ps [.none]∧mg x=some (.ref C)
structure kj (K:PySem.W.Frag) (mg:Str→Option Value) (x qual:Str) (C:Addr) (st:Stmt) (ps:List Str):Prop where
 ex:∃ (f:Addr) (oc dV kV doc pm cdv ct:Value) (od an:Option Addr) (osl:Array (Option Value)),K.lookup f=some ⟨oc,od,.func (PySem.W.fnOf "__init__" qual (bK st) (bq st) (aj st) dV kV doc pm an cdv ct),osl⟩∧PySem.W.codeIn K cdv qual=true ∧
  Binds K (PySem.W.fnOf "__init__" qual (bK st) (bq st) (aj st) dV kV doc pm an cdv ct) ps []∧Binds K (PySem.W.fnOf "__init__" qual (bK st) (bq st) (aj st) dV kV doc pm an cdv ct) ps [.none]∧mg x=some (.ref C)∧Mk K C f
 cl:Cls K C
section
variable {P:Program} {w:World} {K:PySem.W.Frag} {mg:Str→Option Value} {base:Heap} {CX:CXT} {x qual:Str} {C:Addr} {st:Stmt} {N ps:List Str} {k:Nat} {sp:Sp}
theorem kj.ok (D:kj K mg x qual C st ps) (S:aq N ps (aj st)) (len:∀ vs H Q E,sp vs H Q E→vs.length=ps.length)
  (hbody:∀ (f:Addr) (cdv:Value) (A:Around) (outer:List Env) (s:Shared) (H:Hp) (vs:List V) (Q:VK) (E:XK),bX k (A.deeper (envOfC qual (aj st) s.heap.objs.size f cdv))→sp vs H Q E →
   ∃ t,PSs (aZ CX P w K mg base N qual (aj st) f cdv A outer s H E).nox (bq st) t∧t { nx:=fun _ H'=>Q .non H',rt:=Q } (start N vs) H):Mak P w K mg base CX x C (k+1) ps sp∧vR P w K mg base CX x C (k+1) ps sp:=by
 obtain ⟨f,oc,dV,kV,doc,pm,cdv,ct,od,an,osl,lk,hcd,b,b1,m,mk⟩:=D.ex
 have F:e7 P w K mg base CX (k+1) f _ ps sp:=sJ lk hcd S len fun A outer s H vs Q E hr hsp=>by
  obtain ⟨t,h,q⟩:=hbody f cdv A outer s H vs Q E hr hsp
  exact ⟨t,h.nox,q⟩
 exact ⟨⟨f,_,mk,F,b,m⟩,⟨f,_,mk,F,b1,m⟩⟩
theorem sX {h:Heap} (X:K.In h) (G:h.Ns mainGlobals mg) {f T:Addr} {oc tc:Value} {od td an:Option Addr} {osl tsl:Array (Option Value)} {its:Array Value} {tn:Nat} {kV doc pm cdv ct:Value} (aC:PySem.W.nsIn K mainGlobals x=some (some (.ref C)))
  (a:PySem.W.findIn K (.ref C) "__init__" = some (some (.ref f))) (i:PySem.W.isFn K (.ref f)=true)
  (l:K.lookup f=some ⟨oc,od,.func (PySem.W.fnOf "__init__" qual (bK st) (bq st) (aj st) (.ref T) kV doc pm an cdv ct),osl⟩) (tl:K.lookup T=some ⟨tc,td,.seq its tn,tsl⟩) (c:PySem.W.codeIn K cdv qual=true)
  (pg:PySem.W.plainGet K C Str.empty=true) (hd:PySem.W.hasDictIn K C=true) (po:PySem.W.plainOver K C=true) (sa:PySem.W.findIn K (.ref C) "__setattr__" = some (some (.builtin "object.__setattr__"))) (mk:PySem.W.makesIn K C=true) (kc:PySem.W.keepIn K (.ref C)=true)
  (b:∀ (T:Addr) (kV doc pm:Value) (an:Option Addr) (cdv ct:Value) (us:List Value),us.length=ps.length→∃ k:Option (Array Value)→Sem (List (Str×Value)),bindArgs (PySem.W.fnOf "__init__" qual (bK st) (bq st) (aj st) (.ref T) kV doc pm an cdv ct) ⟨us,[]⟩=(seqItems? (.ref T) >>= k)∧k (some its)=pure (ps.zip us))
  (b1:∀ (T:Addr) (kV doc pm:Value) (an:Option Addr) (cdv ct:Value) (us:List Value),us.length+1=ps.length→∃ k:Option (Array Value)→Sem (List (Str×Value)),bindArgs (PySem.W.fnOf "__init__" qual (bK st) (bq st) (aj st) (.ref T) kV doc pm an cdv ct) ⟨us,[]⟩=(seqItems? (.ref T) >>= k)∧k (some its)=pure (ps.zip (us++[.none]))):kj K mg x qual C st ps:=
 ⟨⟨f,oc,.ref T,kV,doc,pm,cdv,ct,od,an,osl,l,c,(fun s us hK hl=>by
  rw [Nk] at hl ⊢
  obtain ⟨k,h1,h2⟩:=b T kV doc pm an cdv ct us hl
  exact BindsTo.of_defaults (T:=T) rfl (hK _ _ tl) rfl h1 h2),(fun s us hK hl=>by
  rw [M6,MW] at hl
  obtain ⟨k,h1,h2⟩:=b1 T kV doc pm an cdv ct us hl
  exact BindsTo.of_defaults (T:=T) rfl (hK _ _ tl) rfl h1 h2),PySem.W.mg_of X G aC,⟨mk,a,i,kc⟩⟩,⟨pg,hd,po,sa⟩⟩
end
section
variable {X:Cx} {CX:CXT} {k:Nat} {ps:List Str} {sp:Sp} {E:XK} {x:Str} {C:Addr} {p pos:Pos} {e:Expr} {es:List Expr} {t:TA}
theorem A0 (M:vR X.prog X.w X.K X.mg X.base CX x C k ps sp) (hr:bX (k+1) X.A) (hx:Passes CX X E) (ha:PA X (e::es) t) (hg:Gl X x:=by rfl)
  (hdb:(x == ("__debug__" : Str))=false:=by decide) (he:starEach (e::es) X.env=(false,eval e X.env)::starEach es X.env:=by rfl) (hpl:(backTo pos (starEach es X.env)).any (·.1)=false:=by rfl) :
  PE X (.Call (.Name x p) (e::es) [] pos) (kQ C sp [.non] E t):=by
 obtain ⟨f,fd,m,F,b,g⟩:=M.ex
 exact wU m F hr hg g b (.cons rfl .nil) hx ha hdb he hpl
theorem xx {H:Hp} {σ : St} {Q:VK} (h:t σ H fun vs H1=>Made C sp E (vs++[.non]) H1 Q):kQ C sp [.non] E t σ H Q:=h
end
end L4
namespace Law
open PySem PySem.Spec PyProof.Rows L2 L3 L4
structure Hd where
 p:Addr
 l:Addr
 ps:Addr
 sp:Addr
 nm:Str
 c:Int
 s:Int
 far:Int
 room:Int
 term:Int
 ws:List Str
def hdF (nm:Str) (ps l:Addr) (sv:V):List (Str×V):=[("name",.str nm),("settings",.ref ps),("lines",.ref l),("spot",sv)]
structure HdC (K:PySem.W.Frag) (CH:Addr):Prop where
 cl:Cls K CH
 n1:aY K CH "name"
 n2:aY K CH "settings"
 n3:aY K CH "lines"
 n4:aY K CH "spot"
theorem EO (nm:Str) (ps l:Addr) (sv sv':V):bO "spot" sv' (hdF nm ps l sv)=hdF nm ps l sv':=by
 have a1:¬ (("name" : Str) = "spot"):=by decide +kernel
 have a2:¬ (("settings" : Str) = "spot"):=by decide +kernel
 have a3:¬ (("lines" : Str) = "spot"):=by decide +kernel
 unfold hdF
 simp only [bO,if_neg a1,if_neg a2,if_neg a3,if_pos]
theorem HU (nm:Str) (ps l:Addr) (sv:V):bO "spot" sv (bO "lines" (.ref l) (bO "settings" (.ref ps) (bO "name" (.str nm) [])))=hdF nm ps l sv:=by
 have a1:¬ (("name" : Str) = "spot"):=by decide +kernel
 have a2:¬ (("settings" : Str) = "spot"):=by decide +kernel
 have a3:¬ (("lines" : Str) = "spot"):=by decide +kernel
 have b1:¬ (("name" : Str) = "lines"):=by decide +kernel
 have b2:¬ (("settings" : Str) = "lines"):=by decide +kernel
 have c1:¬ (("name" : Str) = "settings"):=by decide +kernel
 simp only [bO,if_neg a1,if_neg a2,if_neg a3,if_neg b1,if_neg b2,if_neg c1]
 rfl
theorem sH (nm:Str) (ps l:Addr) (sv:V):(hdF nm ps l sv).lookup ("lines" : Str)=some (.ref l):=by unfold hdF;walk_at "lk"
theorem sF (nm:Str) (ps l:Addr) (sv:V):(hdF nm ps l sv).lookup ("spot" : Str)=some sv:=by unfold hdF;walk_at "lk"
theorem lK (nm:Str) (ps l:Addr) (sv:V):(hdF nm ps l sv).lookup ("settings" : Str)=some (.ref ps):=by unfold hdF;walk_at "lk"
theorem sG (nm:Str) (ps l:Addr) (sv:V):(hdF nm ps l sv).lookup ("name" : Str)=some (.str nm):=by unfold hdF;walk_at "lk"
theorem w9 (f:Str) (v:V):∀ fs:List (Str×V),(bO f v fs).lookup f=some v
 | []=>lk_hit
 | (g,x)::r=>by
  show (if g=f then (g,v)::r else (g,x)::bO f v r).lookup f=some v
  by_cases c:g=f
  ·rw [if_pos c,c];exact lk_hit
  ·rw [if_neg c,lk_miss (by rw [beq_eq_false_iff_ne];exact fun z=>c z.symm)]
   exact w9 f v r
def bE (C CS CH:Addr) (H:Hp) (d:Hd) (ls:Lns) (pl:Option (Int×Int)):Prop:=(∃ dx sv,H d.p=some (.ins CH dx (hdF d.nm d.ps d.l sv))∧fO H sv pl)∧H d.l=some (.lst (lnV ls))∧eE H ls∧kC C CS H d.ps d.sp d.c d.s d.far d.room d.term d.ws
theorem bE.same {C CS CH:Addr} {H H':Hp} {d:Hd} {ls:Lns} {pl:Option (Int×Int)} (h:bE C CS CH H d ls pl) (s:aI H H'):bE C CS CH H' d ls pl:=by
 obtain ⟨⟨dx,sv,h1,h2⟩,h3,h4,h5⟩:=h
 exact ⟨⟨dx,sv,s _ _ h1,h2.same s⟩,s _ _ h3,h4.same s,h5.same s⟩
structure cY (ls:Lns) (pl:Option (Int×Int)):Prop where
 good:er ls
 k0:∀ m k,pl=some (m,k)→0≤k
 len:ls.length≤398
def Fr2 (p l:Addr) (H H':Hp):Prop:=∀ q o,H q=some o→q≠p→q≠l→H' q=some o
theorem Fr2.trans {p l:Addr} {H H1 H2:Hp} (a:Fr2 p l H H1) (b:Fr2 p l H1 H2):Fr2 p l H H2:=fun q o h n1 n2=>b q o (a q o h n1 n2) n1 n2
theorem Fr2.of {p l:Addr} {H H1:Hp} (a:aI H H1):Fr2 p l H H1:=fun q o h _ _=>a q o h
def nt (ls:Lns):Nt:=j7 Nt.nil ls
def gmx (ls:Lns):Int:=(gts ls).foldl max 0
section
variable {P:Program} {w:World} {K:PySem.W.Frag} {mg:Str→Option Value} {base:Heap} {CX:CXT} {C CS CH CD CU CA CN CW CT:Addr}
theorem uG:aq ["lines"] ["lines"] (aj (top 37)):=by walk_at "s"
def qT (K:PySem.W.Frag):Sp:=fun vs H Q _=>∃ (a:Addr) (ls:Lns),vs=[.ref a]∧SqL K H a (lnV ls)∧eE H ls∧er ls∧∀ v H',C5 H' v (nt ls).ar→aI H H'→Q v H'
theorem uY (D:Dat K mg "area_of" "area_of" (top 37) ["lines"]) (NE:br CX) (dS:Cal P w K mg base CX "read_note" 4 ["lines"] (kJ K)):Cal P w K mg base CX "area_of" 5 ["lines"] (qT K):=by
 have S:=uG
 walk_at "d"
 ·obtain ⟨a,ls,rfl,_⟩:=h
  rfl
 obtain ⟨a,ls,rfl,hS,hL,hg,q⟩:=h
 refine ⟨_,(ao (aB (ay au (aH dS (hr.mono (by first | decide | omega)) NE.pass (aa (pv 0) af)) ai (fun _ _=>rfl)))),?_⟩
 try dsimp only [aZ]
 walk_at "go"
 refine ⟨a,ls,rfl,hS,hL,hg,fun t H' ⟨av,hn,hv⟩ sm=>?_⟩
 walk_at "go"
 exact q av H' hv sm
theorem AF:aq ["self", "name", "settings", "lines"] ["self", "name", "settings", "lines"] (aj (inClass (top 65) 0)):=by walk_at "s"
def AL (H:Hp) (v:V) (ls:Lns):Prop:=(v = .non∧ls=[])∨∃ a,v = .ref a∧H a=some (.lst (lnV ls))
def gX (CH:Addr):Sp:=fun vs H Q _=>∃ (p dx ps:Addr) (nm:Str) (v:V) (ls:Lns),vs=[.ref p,.str nm,.ref ps,v]∧AL H v ls∧eE H ls∧er ls∧ls.length≤398∧H p=some (.ins CH dx []) ∧
 ∀ (l:Addr) (sv:V) (H':Hp),H l=none→H' p=some (.ins CH dx (hdF nm ps l sv))→fO H' sv (some (max (nt ls).hd (nt ls).hr,0))→H' l=some (.lst (lnV ls))→(∀ q o,H q=some o→q≠p→H' q=some o)→Q .non H'
theorem Bw (D:kj K mg "Hand" "Hand.__init__" CH (inClass (top 65) 0) ["self", "name", "settings", "lines"]) (SC:HdC K CH) (BT:Bt mg) (NE:br CX) (dS:Cal P w K mg base CX "read_note" 4 ["lines"] (kJ K)) (dH:Cal P w K mg base CX "start_by" 1 ["note"] (jE K)):Mak P w K mg base CX "Hand" CH 5 ["self", "name", "settings", "lines"] (gX CH)∧vR P w K mg base CX "Hand" CH 5 ["self", "name", "settings", "lines"] (gX CH):=by
 have S:=AF
 walk_at "d"
 ·obtain ⟨p,dx,ps,nm,v,ls,rfl,_⟩:=h
  rfl
 obtain ⟨p,dx,ps,nm,v,ls,rfl,hal,hL,hg,hlen,hp,q⟩:=h
 refine ⟨_,(ak (cU (pv 0) (pv 1) rfl)
   (ak (cU (pv 0) (pv 2) rfl)
   (ak (cU (pv 0) (eU (gy (iJ (pv 3))) (bQ af) (dm gJ rfl BT.list_ L3.iu (aa (pv 3) af))) rfl)
   (ao (cU (pv 0) (aH dH (hr.mono (by first | decide | omega)) NE.pass (aa (aH dS (hr.mono (by first | decide | omega)) NE.pass (aa (aQ (pv 0) rfl) af)) af)) rfl))))),?_⟩
 try dsimp only [aZ]
 have k1:=c7 ("name" : Str) (.str nm) []
 have k2:=c7 ("settings" : Str) (.ref ps) (bO "name" (.str nm) [])
 rw [Ni] at k1
 walk_at "go"
 refine ⟨p,CH,dx,[],rfl,hp,SC.cl,SC.n1,by decide,?_⟩
 walk_at "go"
 refine ⟨p,CH,dx,_,rfl,aE,SC.cl,SC.n2,by omega,?_⟩
 rw [e8]
 have key:=fun l sv=>HU nm ps l sv
 generalize bO ("settings" : Str) (.ref ps) (bO "name" (.str nm) [])=fs at *
 have k3:∀ l,(bO ("lines" : Str) (.ref l) fs).length≤fs.length+1:=fun l=>c7 _ _ _
 have hpc:(upd H p (.ins CH dx fs)) p=some (.ins CH dx fs):=aE
 have oc:∀ q o,H q=some o→q≠p→(upd H p (.ins CH dx fs)) q=some o:=fun q o e z=>by rw [aF z];exact e
 have hLc:eE (upd H p (.ins CH dx fs)) ls:=hL.ts (ua hp fun xs z=>nomatch z)
 have ic:∀ q,(upd H p (.ins CH dx fs)) q=none→H q=none:=fun q e=>by
  by_cases z:q=p
  ·rw [z,aE] at e;cases e
  ·rwa [aF z] at e
 have hac:AL (upd H p (.ins CH dx fs)) v ls:=by
  rcases hal with z | ⟨a,rfl,ha⟩
  ·exact .inl z
  ·exact .inr ⟨a,rfl,oc _ _ ha fun z=>by rw [z,hp] at ha;cases ha⟩
 generalize upd H p (.ins CH dx fs)=Hc at *
 try dsimp only [bD]
 refine cR (fun σ H'=>∃ l,Hc l=none∧H' p=some (.ins CH dx (bO "lines" (.ref l) fs))∧H' l=some (.lst (lnV ls))∧eE H' ls∧(∀ q o,Hc q=some o→q≠p→H' q=some o)∧σ=[some (.ref p),some (.str nm),some (.ref ps),some v]) (fun nx kk=>?_) ?_
 ·have L:=Led.start Hc (fun _=>False)
  walk_at "go"
  rcases hac with ⟨rfl,rfl⟩ | ⟨a,rfl,ha⟩
  ·refine lM rfl ?_
   walk_at "go"
   have np:p≠l':=fun z=>by rw [z,n'] at hpc;cases hpc
   refine ⟨p,CH,dx,fs,rfl,L'.same _ _ hpc,SC.cl,SC.n3,by omega,?_⟩
   exact kk _ _ ⟨l',n',aE,by rw [aF (Ne.symm np)];exact L'.eo .head,fun _ h=>by simp at h,fun q o e z=>by rw [aF z];exact L'.same _ _ e,rfl⟩
  ·refine bF (fun z=>nomatch z) fun _=>?_
   walk_at "go"
   refine gF L (.inl (SqL.of ha)) fun b HB nb L' sB=>?_
   have np:p≠b:=fun z=>by rw [z,nb] at hpc;cases hpc
   walk_at "go"
   refine ⟨p,CH,dx,fs,rfl,sB _ _ hpc,SC.cl,SC.n3,by omega,?_⟩
   exact kk _ _ ⟨b,nb,aE,by rw [aF (Ne.symm np)];exact L'.eo .head,(hLc.same sB).ts (ua (sB _ _ hpc) fun xs z=>nomatch z),fun q o e z=>by rw [aF z];exact sB _ _ e,rfl⟩
 rintro σ H1 ⟨l,nl,hp1,hl1,hL1,o1,rfl⟩
 walk_at "go"
 refine ⟨p,CH,dx,_,_,rfl,hp1,SC.cl,SC.n3,w9 _ _ _,?_⟩
 walk_at "go"
 refine ⟨l,ls,rfl,SqL.of hl1,hL1,hg,fun t H2 hn s2=>?_⟩
 walk_at "go"
 refine ⟨t,_,rfl,hn,fun pt H3 hpt s3=>?_⟩
 walk_at "go"
 have hp3:=s3 _ _ (s2 _ _ hp1)
 have k4:=k3 l
 refine ⟨p,CH,dx,_,rfl,hp3,SC.cl,SC.n4,by omega,?_⟩
 rw [key]
 have npl:l≠p:=fun z=>by rw [z,hpc] at nl;cases nl
 have LJ:pt≠p:=fun z=>by rw [z,hp3] at hpt;cases hpt
 exact q l (.ref pt) _ (ic _ nl) aE (.inr ⟨pt,_,_,rfl,rfl,by rw [aF LJ];exact hpt⟩) (by rw [aF npl];exact s3 _ _ (s2 _ _ hl1)) fun x o e z=>by rw [aF z];exact s3 _ _ (s2 _ _ (o1 x o (oc x o e z) z))
theorem t7 {C CS:Addr} {H:Hp} {Q:VK} {E:XK} {ps sp:Addr} {nm:Str} {v:V} {ls:Lns} {c s far room term:Int} {ws:List Str} (ha:AL H v ls) (hL:eE H ls) (hg:er ls) (hl:ls.length≤398) (hs:kC C CS H ps sp c s far room term ws)
  (q:∀ x l H',H x=none→H l=none→bE C CS CH H' ⟨x,l,ps,sp,nm,c,s,far,room,term,ws⟩ ls (some (max (nt ls).hd (nt ls).hr,0))→aI H H'→Q (.ref x) H'):Made CH (gX CH) E [.str nm,.ref ps,v] H Q:=by
 intro x dx nx nd ne
 have sm0:aI H (upd (upd H dx (.own x)) x (.ins CH dx [])):=fun b o e=>by rw [aF (aG e nx),aF (aG e nd)];exact e
 have ha':AL (upd (upd H dx (.own x)) x (.ins CH dx [])) v ls:=by
  rcases ha with z | ⟨a,rfl,h⟩
  ·exact .inl z
  ·exact .inr ⟨a,rfl,sm0 _ _ h⟩
 refine ⟨x,dx,ps,nm,v,ls,rfl,ha',hL.same sm0,hg,hl,aE,fun l sv H' nl h1 h2 h3 h4=>⟨rfl,?_⟩⟩
 have sm:aI H H':=fun b o e=>h4 b o (sm0 _ _ e) (aG e nx)
 have nl':H l=none:=by
  cases e:H l with
  | none=>rfl
  | some o=>rw [sm0 _ _ e] at nl;cases nl
 exact q x l H' nx nl' ⟨⟨dx,sv,h1,h2⟩,h3,hL.same sm,hs.same sm⟩ sm
end
theorem d7 {m:Str} {nm:Str} {ps l:Addr} {sv:V} (a1:(m == ("name" : Str))=false) (a2:(m == ("settings" : Str))=false) (a3:(m == ("lines" : Str))=false) (a4:(m == ("spot" : Str))=false):(hdF nm ps l sv).lookup m=none:=by
 unfold hdF
 rw [lk_miss a1,lk_miss a2,lk_miss a3,lk_miss a4];rfl
section
variable {P:Program} {w:World} {K:PySem.W.Frag} {mg:Str→Option Value} {base:Heap} {CX:CXT} {C CS CH CD CU CA CN CW CT:Addr}
theorem AE:aq ["self"] ["self"] (aj (inClass (top 65) 1)):=by walk_at "s"
def um (C CS CH:Addr):Sp:=fun vs H Q _=>∃ (d:Hd) (ls:Lns) (pl:Option (Int×Int)),vs=[.ref d.p]∧bE C CS CH H d ls pl∧Q (.bl pl.isSome) H
theorem Bv (D:bV K CH "is_up" "Hand.is_up" (inClass (top 65) 1) ["self"]) (SC:HdC K CH):bw P w K mg base CX CH "is_up" 1 ["self"] (um C CS CH):=by
 have S:=AE
 refine cE D S (fun vs H Q E h=>?_) (fun f cdv A outer s H vs Q E hr h=>?_)
 ·obtain ⟨d,ls,pl,rfl,_⟩:=h
  rfl
 obtain ⟨d,ls,pl,rfl,⟨⟨dx,sv,hp,hpl⟩,hl,hL,hss⟩,q⟩:=h
 refine ⟨_,(ao (aB (G5 (wV (aQ (pv 0) rfl))))),?_⟩
 try dsimp only [aZ]
 walk_at "go"
 refine ⟨d.p,CH,dx,_,_,rfl,hp,SC.cl,SC.n4,sF _ _ _ _,?_⟩
 walk_at "go"
 rcases hpl with ⟨rfl,rfl⟩ | ⟨t,m,k,rfl,rfl,_⟩
 ·exact q
 ·exact q
theorem Aw:aq ["self"] ["self"] (aj (inClass (top 65) 2)):=by walk_at "s"
def wD (C CS CH:Addr):Sp:=fun vs H Q _=>∃ (d:Hd) (ls:Lns) (pl:Option (Int×Int)),vs=[.ref d.p]∧bE C CS CH H d ls pl∧∀ v,fO H v pl→Q v H
theorem Bl (D:bV K CH "place" "Hand.place" (inClass (top 65) 2) ["self"]) (SC:HdC K CH):bw P w K mg base CX CH "place" 1 ["self"] (wD C CS CH):=by
 have S:=Aw
 refine cE D S (fun vs H Q E h=>?_) (fun f cdv A outer s H vs Q E hr h=>?_)
 ·obtain ⟨d,ls,pl,rfl,_⟩:=h
  rfl
 obtain ⟨d,ls,pl,rfl,⟨⟨dx,sv,hp,hpl⟩,hl,hL,hss⟩,q⟩:=h
 refine ⟨_,(ao (aB (aQ (pv 0) rfl))),?_⟩
 try dsimp only [aZ]
 walk_at "go"
 refine ⟨d.p,CH,dx,_,_,rfl,hp,SC.cl,SC.n4,sF _ _ _ _,?_⟩
 exact q sv hpl
theorem Dy:aq ["self"] ["self"] (aj (inClass (top 65) 3)):=by walk_at "s"
def Ab (C CS CH:Addr):Sp:=fun vs H Q _=>∃ (d:Hd) (ls:Lns) (pl:Option (Int×Int)),vs=[.ref d.p]∧bE C CS CH H d ls pl∧∀ b H',H b=none→H' b=some (.lst (lnV ls))→aI H H'→Q (.ref b) H'
theorem Eh (D:bV K CH "note" "Hand.note" (inClass (top 65) 3) ["self"]) (SC:HdC K CH) (BT:Bt mg):bw P w K mg base CX CH "note" 1 ["self"] (Ab C CS CH):=by
 have S:=Dy
 refine cE D S (fun vs H Q E h=>?_) (fun f cdv A outer s H vs Q E hr h=>?_)
 ·obtain ⟨d,ls,pl,rfl,_⟩:=h
  rfl
 obtain ⟨d,ls,pl,rfl,⟨⟨dx,sv,hp,hpl⟩,hl,hL,hss⟩,q⟩:=h
 refine ⟨_,(ao (aB (dm gJ rfl BT.list_ L3.iu (aa (aQ (pv 0) rfl) af)))),?_⟩
 try dsimp only [aZ]
 walk_at "go"
 refine ⟨d.p,CH,dx,_,_,rfl,hp,SC.cl,SC.n3,sH _ _ _ _,?_⟩
 walk_at "go"
 refine gF (Led.start H (fun _=>False)) (.inl (SqL.of hl)) fun b HB nb L sB=>?_
 walk_at "go"
 exact q b HB nb (L.eo .head) sB
theorem DK:aq ["self"] ["self"] (aj (inClass (top 65) 4)):=by walk_at "s"
def uq (C CS CH:Addr):Sp:=fun vs H Q _=>∃ (d:Hd) (ls:Lns) (pl:Option (Int×Int)),vs=[.ref d.p]∧bE C CS CH H d ls pl∧er ls∧∀ v H',C5 H' v (nt ls).ar→aI H H'→Q v H'
theorem Eu (D:bV K CH "area" "Hand.area" (inClass (top 65) 4) ["self"]) (SC:HdC K CH) (NE:br CX) (jR:Cal P w K mg base CX "area_of" 5 ["lines"] (qT K)):bw P w K mg base CX CH "area" 6 ["self"] (uq C CS CH):=by
 have S:=DK
 refine cE D S (fun vs H Q E h=>?_) (fun f cdv A outer s H vs Q E hr h=>?_)
 ·obtain ⟨d,ls,pl,rfl,_⟩:=h
  rfl
 obtain ⟨d,ls,pl,rfl,⟨⟨dx,sv,hp,hpl⟩,hl,hL,hss⟩,hg,q⟩:=h
 refine ⟨_,(ao (aB (aH jR (hr.mono (by first | decide | omega)) NE.pass (aa (aQ (pv 0) rfl) af)))),?_⟩
 try dsimp only [aZ]
 walk_at "go"
 refine ⟨d.p,CH,dx,_,_,rfl,hp,SC.cl,SC.n3,sH _ _ _ _,?_⟩
 walk_at "go"
 exact ⟨d.l,ls,rfl,SqL.of hl,hL,hg,q⟩
theorem An:aq ["self"] ["self"] (aj (inClass (top 65) 5)):=by walk_at "s"
def e9 (K:PySem.W.Frag) (C CS CH:Addr):Sp:=fun vs H Q _=>∃ (d:Hd) (ls:Lns) (pl:Option (Int×Int)),vs=[.ref d.p]∧bE C CS CH H d ls pl∧cY ls pl∧∀ t H',eB K H' t pl (nt ls) (gmx ls)→aI H H'→Q (.ref t) H'
theorem Bd (D:bV K CH "stand" "Hand.stand" (inClass (top 65) 5) ["self"]) (SC:HdC K CH) (NE:br CX) (dS:Cal P w K mg base CX "read_note" 4 ["lines"] (kJ K)) (jP:Cal P w K mg base CX "greatest_taken" 3 ["lines"] (kY K)):bw P w K mg base CX CH "stand" 5 ["self"] (e9 K C CS CH):=by
 have S:=An
 refine cE D S (fun vs H Q E h=>?_) (fun f cdv A outer s H vs Q E hr h=>?_)
 ·obtain ⟨d,ls,pl,rfl,_⟩:=h
  rfl
 obtain ⟨d,ls,pl,rfl,⟨⟨dx,sv,hp,hpl⟩,hl,hL,hss⟩,⟨hg,k0,hlen⟩,q⟩:=h
 refine ⟨_,(ao (aB (bA (aa (aQ (pv 0) rfl) (aa (aH dS (hr.mono (by first | decide | omega)) NE.pass (aa (aQ (pv 0) rfl) af)) (aa (aH jP (hr.mono (by first | decide | omega)) NE.pass (aa (aQ (pv 0) rfl) af)) af)))))),?_⟩
 try dsimp only [aZ]
 walk_at "go"
 refine ⟨d.p,CH,dx,_,_,rfl,hp,SC.cl,SC.n4,sF _ _ _ _,?_⟩
 walk_at "go"
 refine ⟨d.p,CH,dx,_,_,rfl,hp,SC.cl,SC.n3,sH _ _ _ _,?_⟩
 walk_at "go"
 refine ⟨d.l,ls,rfl,SqL.of hl,hL,hg,fun t H1 hn s1=>?_⟩
 walk_at "go"
 refine ⟨d.p,CH,dx,_,_,rfl,s1 _ _ hp,SC.cl,SC.n3,sH _ _ _ _,?_⟩
 walk_at "go"
 refine ⟨d.l,ls,rfl,SqL.of (s1 _ _ hl),hL.same s1,hg,by omega,fun H2 s2=>?_⟩
 have L:=Led.start H2 (fun _=>False)
 walk_at "go"
 exact q _ _ ⟨sv,t,L'.tup (by walk_at "mem"),hpl.same ((s1.trans s2).trans L'.same),hn.same (s2.trans L'.same)⟩ ((s1.trans s2).trans L'.same)
theorem J2:aq ["self", "step"] ["self", "step"] (aj (inClass (top 65) 6)):=by walk_at "s"
def oV (C CS CH:Addr):Sp:=fun vs H Q _=>∃ (d:Hd) (ls ls2:Lns) (pl pl2:Option (Int×Int)) (H0:Hp) (t:Addr) (v pv:V),vs=[.ref d.p,.ref t]∧bE C CS CH H d ls pl∧ls.length≤398∧ls2.length≤1∧H0 d.l≠none∧fz H0 H t v ls2 pv∧fO H pv pl2∧∀ H',bE C CS CH H' d (ls++ls2) pl2→Fr2 d.p d.l H H'→Q v H'
theorem JZ {C CS CH:Addr} {H H':Hp} {d:Hd} {ls:Lns} {pl:Option (Int×Int)} (h:bE C CS CH H d ls pl) (f:Fr2 d.p d.l H H'):kC C CS H' d.ps d.sp d.c d.s d.far d.room d.term d.ws:=by
 obtain ⟨⟨dx,sv,hp,hpl⟩,hl,hL,⟨dy,tr,ms,h1,h2,pm⟩,⟨dz,h3⟩,hn⟩:=h
 have ne:∀ {u:Addr} {fs:List (Str×V)} (sv:V),stF (.ref d.sp) d.far d.room d.term u≠hdF d.nm d.ps d.l sv:=fun sv z=>by
  have:=congrArg (fun x=>(x.headD ("",.non)).1) z
  exact absurd this (by show ¬ (("shape" : Str) = "name");decide +kernel)
 have ne2:shF d.c d.s≠hdF d.nm d.ps d.l sv:=fun z=>by
  have:=congrArg (fun x=>(x.headD ("",.non)).1) z
  exact absurd this (by show ¬ (("counts" : Str) = "name");decide +kernel)
 refine ⟨⟨dy,tr,ms,f _ _ h1 ?_ ?_,f _ _ h2 ?_ ?_,pm⟩,⟨dz,f _ _ h3 ?_ ?_⟩,hn⟩
 ·intro z
  rw [z,hp] at h1
  cases h1
 ·intro z
  rw [z,hl] at h1
  cases h1
 ·intro z
  rw [z,hp] at h2
  cases h2
 ·intro z
  rw [z,hl] at h2
  cases h2
 ·intro z
  rw [z,hp] at h3
  cases h3
 ·intro z
  rw [z,hl] at h3
  cases h3
theorem GD {C CS CH:Addr} {H H':Hp} {d:Hd} {ls:Lns} {pl:Option (Int×Int)} (h:bE C CS CH H d ls pl) (f:Fr2 d.p d.l H H'):cF H H':=fun q xs e=>f q _ e (fun z=>by
  obtain ⟨⟨dx,sv,hp,hpl⟩,hl,_⟩:=h
  rw [z,hp] at e;cases e) (fun z=>by
  obtain ⟨⟨dx,sv,hp,hpl⟩,hl,_⟩:=h
  rw [z,hl] at e;cases e)
theorem fO.ts {H H':Hp} {v:V} {pl:Option (Int×Int)} (h:fO H v pl) (s:cF H H'):fO H' v pl:=by
 rcases h with h | ⟨t,m,k,e,ev,ht⟩
 ·exact .inl h
 ·exact .inr ⟨t,m,k,e,ev,s _ _ ht⟩
theorem Ku (D:bV K CH "go" "Hand.go" (inClass (top 65) 6) ["self", "step"]) (SC:HdC K CH):bw P w K mg base CX CH "go" 1 ["self", "step"] (oV C CS CH):=by
 have S:=J2
 refine cE D S (fun vs H Q E h=>?_) (fun f cdv A outer s H vs Q E hr h=>?_)
 ·obtain ⟨d,ls,ls2,pl,pl2,H0,t,v,sw,rfl,_⟩:=h
  rfl
 obtain ⟨d,ls,ls2,pl,pl2,H0,t,v,sw,rfl,hd,hlen,hl2,h0,⟨lx,ht,nlx,hlx,hL2⟩,hpv,q⟩:=h
 obtain ⟨⟨dx,sv,hp,hpl⟩,hl,hL,hss⟩:=id hd
 have nxl:lx≠d.l:=fun z=>h0 (z▸nlx)
 have npl:d.p≠d.l:=fun z=>by rw [z,hl] at hp;cases hp
 refine ⟨_,(ak (bC (ly PySem.F.plainAttrs_list PySem.F.slot_list_extend PySem.F.type_list_extend yD (aQ (pv 0) rfl) (aa (ay au (pv 1) ai (fun _ _=>rfl)) af)))
   (ak (cU (pv 0) (ay au (pv 1) ai (fun _ _=>rfl)) rfl)
   (ao (aB (ay au (pv 1) ai (fun _ _=>rfl)))))),?_⟩
 try dsimp only [aZ]
 have L:=(Led.start H (fun _=>False)).more (aS t [_,_,_]) ht
 walk_at "go"
 refine ⟨d.p,CH,dx,_,_,rfl,hp,SC.cl,SC.n3,sH _ _ _ _,?_⟩
 walk_at "go"
 refine Gx (SqL.of hl) ?_
 walk_at "go"
 refine ⟨d.l,lx,lnV ls,lnV ls2,rfl,rfl,hl,hlx,Nr (small1000 (by rw [gZ,gZ];omega)),?_⟩
 have e2:lnV ls++lnV ls2=lnV (ls++ls2):=by unfold lnV;rw [Nj]
 rw [e2]
 have c1:Chg d.l H (upd H d.l (.lst (lnV (ls++ls2)))):=Chg.upd hl fun xs z=>nomatch z
 have hp1:(upd H d.l (.lst (lnV (ls++ls2)))) d.p=some (.ins CH dx (hdF d.nm d.ps d.l sv)):=by rw [aF npl];exact hp
 have hl1:(upd H d.l (.lst (lnV (ls++ls2)))) d.l=some (.lst (lnV (ls++ls2))):=aE
 have ht1:=c1.ts _ _ ht
 have f1:Fr2 d.p d.l H (upd H d.l (.lst (lnV (ls++ls2)))):=fun q o e _ z=>by rw [aF z];exact e
 generalize upd H d.l (.lst (lnV (ls++ls2)))=H1 at *
 have M:=(Led.start H1 (fun _=>False)).more (aS t [_,_,_]) ht1
 clear L
 walk_at "go"
 refine ⟨d.p,CH,dx,_,rfl,hp1,SC.cl,SC.n4,(by show 4 < 1000;decide),?_⟩
 rw [EO]
 have f2:Fr2 d.p d.l H (upd H1 d.p (.ins CH dx (hdF d.nm d.ps d.l sw))):=fun q o e z1 z2=>by rw [aF z1];exact f1 q o e z1 z2
 have t2:=GD hd f2
 have M2:=(Led.start (upd H1 d.p (.ins CH dx (hdF d.nm d.ps d.l sw))) (fun _=>False)).more (aS t [_,_,_]) (t2 _ _ ht)
 clear M
 walk_at "go"
 refine q _ ⟨⟨dx,sw,aE,hpv.ts t2⟩,by rw [aF (Ne.symm npl)];exact hl1,fun x hx=>?_,JZ hd f2⟩ f2
 rcases List.mem_append.mp hx with hx | hx
 ·exact (hL x hx).ts t2
 ·exact (hL2 x hx).ts t2
end
theorem vn {nm:Str} {ps l:Addr} {sv:V}:(hdF nm ps l sv).lookup ("go" : Str)=none:=d7 (by decide +kernel) (by decide +kernel) (by decide +kernel) (by decide +kernel)
theorem f9 {nm:Str} {ps l:Addr} {sv:V}:(hdF nm ps l sv).lookup ("stand" : Str)=none:=d7 (by decide +kernel) (by decide +kernel) (by decide +kernel) (by decide +kernel)
section
variable {P:Program} {w:World} {K:PySem.W.Frag} {mg:Str→Option Value} {base:Heap} {CX:CXT} {C CS CH CD CU CA CN CW CT:Addr}
theorem gw {d:Hd} {ls ls2:Lns} {pl pl2:Option (Int×Int)} {H1 H:Hp} {t:Addr} {v pv:V} {Q:VK} {E:XK} (hd:bE C CS CH H d ls pl) (hd1:bE C CS CH H1 d ls pl) (hlen:ls.length≤398) (h2:ls2.length≤1) (ht:fz H1 H t v ls2 pv) (hp:fO H pv pl2)
  (q:∀ H',bE C CS CH H' d (ls++ls2) pl2→Fr2 d.p d.l H H'→Q v H'):oV C CS CH [.ref d.p,.ref t] H Q E:=
 ⟨d,ls,ls2,pl,pl2,H1,t,v,pv,rfl,hd,hlen,h2,(by rw [hd1.2.1];exact fun z=>nomatch z),ht,hp,q⟩
theorem DI:aq ["self"] ["self"] (aj (inClass (top 65) 7)):=by walk_at "s"
def uo (C CS CH CD:Addr):Sp:=fun vs H Q E=>∃ (d:Hd) (ls:Lns) (pl:Option (Int×Int)),vs=[.ref d.p]∧bE C CS CH H d ls pl∧cY ls pl∧(pl=none→∀ H',aI H H'→E (.ref CD) none H')∧(pl.isSome=true→∀ H',bE C CS CH H' d ls none→Fr2 d.p d.l H H'→Q .non H')
theorem Es (D:bV K CH "fall" "Hand.fall" (inClass (top 65) 7) ["self"]) (SC:HdC K CH) (NE:br (CX1 P w)) (bY:bw P w K mg base (CX1 P w) CH "go" 1 ["self", "step"] (oV C CS CH)) (bG:bw P w K mg base (CX1 P w) CH "stand" 5 ["self"] (e9 K C CS CH)) (jQ:Cal P w K mg base (CX1 P w) "falling" 2 ["stand"] (nK K CD)):bw P w K mg base (CX1 P w) CH "fall" 6 ["self"] (uo C CS CH CD):=by
 have S:=DI
 refine cG D S (fun vs H Q E h=>?_) (fun f cdv A outer s H vs Q E hr h=>?_)
 ·obtain ⟨d,ls,pl,rfl,_⟩:=h
  rfl
 obtain ⟨d,ls,pl,rfl,hd,hok,qe,q⟩:=h
 obtain ⟨⟨dx,sv,hp,hpl⟩,hl,hL,hss⟩:=id hd
 refine ⟨_,(ao (aB (eT bY (hr.mono (by first | decide | omega)) NE.pass (pv 0) (aa (b6 jQ (hr.mono (by first | decide | omega)) aL (aa (cV bG (hr.mono (by first | decide | omega)) NE.pass (pv 0)) af)) af)))),?_⟩
 try dsimp only [aZ]
 walk_at "go"
 refine aV hp vn ?_
 walk_at "go"
 refine aV hp f9 ?_
 walk_at "go"
 refine ⟨d,ls,pl,rfl,hd,hok,fun t H1 hst s1=>?_⟩
 walk_at "go"
 refine ⟨t,pl,_,_,rfl,hst,fun e=>qe e H1 s1,fun hs t2 H2 ht2 s2=>?_⟩
 walk_at "go"
 exact gw (hd.same (s1.trans s2)) (hd.same s1) hok.len (by simp) ht2 (.inl ⟨rfl,rfl⟩) fun H3 hd3 f3=>q hs H3 (by rw [Nk] at hd3;exact hd3) ((Fr2.of (s1.trans s2)).trans f3)
theorem Dv:aq ["self"] ["self"] (aj (inClass (top 65) 8)):=by walk_at "s"
def ug (C CS CH CU:Addr):Sp:=fun vs H Q E=>∃ (d:Hd) (ls:Lns) (pl:Option (Int×Int)),vs=[.ref d.p]∧bE C CS CH H d ls pl∧cY ls pl∧(pl.isSome=true→∀ H',aI H H'→E (.ref CU) none H')∧(pl=none→∀ H',bE C CS CH H' d ls (some (max (nt ls).hd (nt ls).hr,0))→Fr2 d.p d.l H H'→Q .non H')
theorem Ef (D:bV K CH "rise" "Hand.rise" (inClass (top 65) 8) ["self"]) (SC:HdC K CH) (NE:br (CX1 P w)) (bY:bw P w K mg base (CX1 P w) CH "go" 1 ["self", "step"] (oV C CS CH)) (bG:bw P w K mg base (CX1 P w) CH "stand" 5 ["self"] (e9 K C CS CH)) (lV:Cal P w K mg base (CX1 P w) "rising" 2 ["stand"] (qK K CU)):bw P w K mg base (CX1 P w) CH "rise" 6 ["self"] (ug C CS CH CU):=by
 have S:=Dv
 refine cG D S (fun vs H Q E h=>?_) (fun f cdv A outer s H vs Q E hr h=>?_)
 ·obtain ⟨d,ls,pl,rfl,_⟩:=h
  rfl
 obtain ⟨d,ls,pl,rfl,hd,hok,qe,q⟩:=h
 obtain ⟨⟨dx,sv,hp,hpl⟩,hl,hL,hss⟩:=id hd
 refine ⟨_,(ao (aB (eT bY (hr.mono (by first | decide | omega)) NE.pass (pv 0) (aa (b6 lV (hr.mono (by first | decide | omega)) aL (aa (cV bG (hr.mono (by first | decide | omega)) NE.pass (pv 0)) af)) af)))),?_⟩
 try dsimp only [aZ]
 walk_at "go"
 refine aV hp vn ?_
 walk_at "go"
 refine aV hp f9 ?_
 walk_at "go"
 refine ⟨d,ls,pl,rfl,hd,hok,fun t H1 hst s1=>?_⟩
 walk_at "go"
 refine ⟨t,pl,_,_,rfl,hst,fun e=>qe e H1 s1,fun hs t2 pt H2 ht2 hpt s2=>?_⟩
 walk_at "go"
 exact gw (hd.same (s1.trans s2)) (hd.same s1) hok.len (by simp) ht2 (.inr ⟨pt,_,_,rfl,rfl,hpt⟩) fun H3 hd3 f3=>q hs H3 (by rw [Nk] at hd3;exact hd3) ((Fr2.of (s1.trans s2)).trans f3)
theorem Dq:aq ["self", "grant", "area"] ["self", "grant", "area"] (aj (inClass (top 65) 9)):=by walk_at "s"
def oQ (C CS CH CD:Addr):Sp:=fun vs H Q E=>∃ (d:Hd) (ls:Lns) (pl:Option (Int×Int)) (gr sl f e:Int) (a:Addr),vs=[.ref d.p,.int gr,.ref a]∧bE C CS CH H d ls pl∧cY ls pl∧H a=some (.tup [.int sl,.int f,.int e])∧(pl=none→∀ H',aI H H'→E (.ref CD) none H') ∧
 (∀ m k,pl=some (m,k)→("once" : Str)∈d.ws→gr≤gmx ls→∀ H',bE C CS CH H' d ls pl→Fr2 d.p d.l H H'→Q (.bl false) H') ∧
 (∀ m k,pl=some (m,k)→¬ (("once" : Str)∈d.ws∧gr≤gmx ls)→∀ l H',bE C CS CH H' d (ls++[(l,.took gr sl f e)]) (some (cN m k (bnd m k)))→Fr2 d.p d.l H H'→Q (.bl true) H')
theorem D8 (D:bV K CH "take" "Hand.take" (inClass (top 65) 9) ["self", "grant", "area"]) (SC:HdC K CH) (NE:br (CX1 P w)) (bY:bw P w K mg base (CX1 P w) CH "go" 1 ["self", "step"] (oV C CS CH)) (bG:bw P w K mg base (CX1 P w) CH "stand" 5 ["self"] (e9 K C CS CH)) (lU:Cal P w K mg base (CX1 P w) "taking" 2 ["settings", "stand", "grant", "area"] (qJ K CD CS)):bw P w K mg base (CX1 P w) CH "take" 6 ["self", "grant", "area"] (oQ C CS CH CD):=by
 have S:=Dq
 refine cG D S (fun vs H Q E h=>?_) (fun f cdv A outer s H vs Q E hr h=>?_)
 ·obtain ⟨d,ls,pl,gr,sl,f,e,a,rfl,_⟩:=h
  rfl
 obtain ⟨d,ls,pl,gr,sl,f',e,a,rfl,hd,hok,ha,qe,q0,q1⟩:=h
 obtain ⟨⟨dx,sv,hp,hpl⟩,hl,hL,hss⟩:=id hd
 refine ⟨_,(ao (aB (eT bY (hr.mono (by first | decide | omega)) NE.pass (pv 0) (aa (b6 lU (hr.mono (by first | decide | omega)) aL (aa (aQ (pv 0) rfl) (aa (cV bG (hr.mono (by first | decide | omega)) NE.pass (pv 0)) (aa (pv 1) (aa (pv 2) af))))) af)))),?_⟩
 try dsimp only [aZ]
 walk_at "go"
 refine aV hp vn ?_
 walk_at "go"
 refine ⟨d.p,CH,dx,_,_,rfl,hp,SC.cl,SC.n2,lK _ _ _ _,?_⟩
 walk_at "go"
 refine aV hp f9 ?_
 walk_at "go"
 refine ⟨d,ls,pl,rfl,hd,hok,fun t H1 hst s1=>?_⟩
 walk_at "go"
 refine ⟨d.ps,t,a,_,d.far,d.room,d.term,d.ws,pl,_,_,gr,sl,f',e,rfl,(hss.same s1).1,hst,hok.k0,s1 _ _ ha,fun e=>qe e H1 s1,fun m k epl c1 c2 t2 v H2 hv ht2 s2=>?_,fun m k epl c1 t2 l v H2 hv ht2 s2=>?_⟩
 ·walk_at "go"
  exact gw (hd.same (s1.trans s2)) (hd.same s1) hok.len (by simp) ht2 hv fun H3 hd3 f3=>q0 m k epl c1 c2 H3 (by rw [Nk] at hd3;exact hd3) ((Fr2.of (s1.trans s2)).trans f3)
 ·walk_at "go"
  exact gw (hd.same (s1.trans s2)) (hd.same s1) hok.len (by simp) ht2 hv fun H3 hd3 f3=>q1 m k epl c1 l H3 hd3 ((Fr2.of (s1.trans s2)).trans f3)
theorem Ak:aq ["self", "reading"] ["self", "reading"] (aj (inClass (top 65) 10)):=by walk_at "s"
def kH (C CS CH CD CA CN CW:Addr):Sp:=fun vs H Q E=>∃ (d:Hd) (ls:Lns) (pl:Option (Int×Int)) (r:Int),vs=[.ref d.p,.int r]∧bE C CS CH H d ls pl∧cY ls pl∧(∀ H',aI H H'→MkE CD CA CN CW H' pl (nt ls) d.far r E) ∧
 (∀ m k sl f e,pl=some (m,k)→(nt ls).ar=some (sl,f,e)→¬ e≤due m f r→¬ r+d.far < due m f r→∀ ls2 H',((nt ls).hd < due m f r+d.room∧(∃ l,ls2=[(l,.held (due m f r+d.room))])∨¬ (nt ls).hd < due m f r+d.room∧ls2=[])→bE C CS CH H' d (ls++ls2) pl→Fr2 d.p d.l H H'→Q (.int (max (nt ls).hd (due m f r+d.room))) H')
theorem A9 (D:bV K CH "write" "Hand.write" (inClass (top 65) 10) ["self", "reading"]) (SC:HdC K CH) (NE:br (CX1 P w)) (bY:bw P w K mg base (CX1 P w) CH "go" 1 ["self", "step"] (oV C CS CH)) (bG:bw P w K mg base (CX1 P w) CH "stand" 5 ["self"] (e9 K C CS CH)) (jL:Cal P w K mg base (CX1 P w) "writing" 5 ["settings", "stand", "reading"] (nA K C CD CA CN CW CS)):bw P w K mg base (CX1 P w) CH "write" 6 ["self", "reading"] (kH C CS CH CD CA CN CW):=by
 have S:=Ak
 refine cG D S (fun vs H Q E h=>?_) (fun f cdv A outer s H vs Q E hr h=>?_)
 ·obtain ⟨d,ls,pl,r,rfl,_⟩:=h
  rfl
 obtain ⟨d,ls,pl,r,rfl,hd,hok,qe,q1⟩:=h
 obtain ⟨⟨dx,sv,hp,hpl⟩,hl,hL,hss⟩:=id hd
 refine ⟨_,(ao (aB (eT bY (hr.mono (by first | decide | omega)) NE.pass (pv 0) (aa (b6 jL (hr.mono (by first | decide | omega)) aL (aa (aQ (pv 0) rfl) (aa (cV bG (hr.mono (by first | decide | omega)) NE.pass (pv 0)) (aa (pv 1) af)))) af)))),?_⟩
 try dsimp only [aZ]
 walk_at "go"
 refine aV hp vn ?_
 walk_at "go"
 refine ⟨d.p,CH,dx,_,_,rfl,hp,SC.cl,SC.n2,lK _ _ _ _,?_⟩
 walk_at "go"
 refine aV hp f9 ?_
 walk_at "go"
 refine ⟨d,ls,pl,rfl,hd,hok,fun t H1 hst s1=>?_⟩
 walk_at "go"
 refine ⟨d.ps,t,d.sp,d.c,d.s,d.far,d.room,d.term,d.ws,pl,_,_,r,rfl,hss.same s1,hst,qe H1 s1,fun m k sl f' e epl ear b1 b2 t2 v ls2 H2 hls hv ht2 s2=>?_⟩
 have hl2:ls2.length≤1:=by
  rcases hls with ⟨_,l,rfl⟩ | ⟨_,rfl⟩ <;> simp
 walk_at "go"
 exact gw (hd.same (s1.trans s2)) (hd.same s1) hok.len hl2 ht2 hv fun H3 hd3 f3=>q1 m k sl f' e epl ear b1 b2 ls2 H3 hls hd3 ((Fr2.of (s1.trans s2)).trans f3)
theorem DA:aq ["self", "reading"] ["self", "reading"] (aj (inClass (top 65) 11)):=by walk_at "s"
def kK (C CS CH CD CA CN CW CT:Addr):Sp:=fun vs H Q E=>∃ (d:Hd) (ls:Lns) (pl:Option (Int×Int)) (r:Int),vs=[.ref d.p,.int r]∧bE C CS CH H d ls pl∧cY ls pl∧(∀ H',aI H H'→MkE CD CA CN CW H' pl (nt ls) d.far r E) ∧
 (∀ m k sl f e,pl=some (m,k)→(nt ls).ar=some (sl,f,e)→¬ e≤due m f r→¬ r+d.far < due m f r→("ahead" : Str)∈d.ws→(nt ls).hd≤due m f r→∀ dd H',aI H H'→H' dd=some (.xd [("moment",.int (due m f r))])→E (.ref CT) (some dd) H') ∧
 (∀ m k sl f e,pl=some (m,k)→(nt ls).ar=some (sl,f,e)→¬ e≤due m f r→¬ r+d.far < due m f r→¬ (("ahead" : Str)∈d.ws∧(nt ls).hd≤due m f r)→∀ H',bE C CS CH H' d ls (some (nxP d.c m f r k))→Fr2 d.p d.l H H'→Q (.int (mk d.c d.s (due m f r) sl (cnt m f r k))) H')
theorem Ej (D:bV K CH "make" "Hand.make" (inClass (top 65) 11) ["self", "reading"]) (SC:HdC K CH) (NE:br (CX1 P w)) (bY:bw P w K mg base (CX1 P w) CH "go" 1 ["self", "step"] (oV C CS CH)) (bG:bw P w K mg base (CX1 P w) CH "stand" 5 ["self"] (e9 K C CS CH)) (lX:Cal P w K mg base (CX1 P w) "making" 5 ["settings", "stand", "reading"] (qM K C CD CA CN CW CT CS)):bw P w K mg base (CX1 P w) CH "make" 6 ["self", "reading"] (kK C CS CH CD CA CN CW CT):=by
 have S:=DA
 refine cG D S (fun vs H Q E h=>?_) (fun f cdv A outer s H vs Q E hr h=>?_)
 ·obtain ⟨d,ls,pl,r,rfl,_⟩:=h
  rfl
 obtain ⟨d,ls,pl,r,rfl,hd,hok,qe,qt,q1⟩:=h
 obtain ⟨⟨dx,sv,hp,hpl⟩,hl,hL,hss⟩:=id hd
 refine ⟨_,(ao (aB (eT bY (hr.mono (by first | decide | omega)) NE.pass (pv 0) (aa (b6 lX (hr.mono (by first | decide | omega)) aL (aa (aQ (pv 0) rfl) (aa (cV bG (hr.mono (by first | decide | omega)) NE.pass (pv 0)) (aa (pv 1) af)))) af)))),?_⟩
 try dsimp only [aZ]
 walk_at "go"
 refine aV hp vn ?_
 walk_at "go"
 refine ⟨d.p,CH,dx,_,_,rfl,hp,SC.cl,SC.n2,lK _ _ _ _,?_⟩
 walk_at "go"
 refine aV hp f9 ?_
 walk_at "go"
 refine ⟨d,ls,pl,rfl,hd,hok,fun t H1 hst s1=>?_⟩
 walk_at "go"
 refine ⟨d.ps,t,d.sp,d.c,d.s,d.far,d.room,d.term,d.ws,pl,_,_,r,rfl,hss.same s1,hst,qe H1 s1,fun m k sl f' e epl ear b1 b2 c1 c2 dd H2 s2 hdd=>qt m k sl f' e epl ear b1 b2 c1 c2 dd H2 (s1.trans s2) hdd,fun m k sl f' e epl ear b1 b2 c1 t2 v H2 hv ht2 s2=>?_⟩
 walk_at "go"
 exact gw (hd.same (s1.trans s2)) (hd.same s1) hok.len (by simp) ht2 hv fun H3 hd3 f3=>q1 m k sl f' e epl ear b1 b2 c1 H3 (by rw [Nk] at hd3;exact hd3) ((Fr2.of (s1.trans s2)).trans f3)
theorem DE:aq ["self", "bound"] ["self", "bound"] (aj (inClass (top 65) 12)):=by walk_at "s"
def oS (C CS CH CD:Addr):Sp:=fun vs H Q E=>∃ (d:Hd) (ls:Lns) (pl:Option (Int×Int)) (b:Int),vs=[.ref d.p,.int b]∧bE C CS CH H d ls pl∧cY ls pl∧(pl=none→∀ H',aI H H'→E (.ref CD) none H') ∧
 (∀ m k,pl=some (m,k)→∀ ls2 H',((("spoken" : Str)∈d.ws∧(nt ls).hr < b∧∃ l,ls2=[(l,.heard b)])∨(¬ (("spoken" : Str)∈d.ws∧(nt ls).hr < b)∧ls2=[]))→bE C CS CH H' d (ls++ls2) (some (cN m k b))→Fr2 d.p d.l H H'→Q .non H')
theorem Em (D:bV K CH "hear" "Hand.hear" (inClass (top 65) 12) ["self", "bound"]) (SC:HdC K CH) (NE:br (CX1 P w)) (bY:bw P w K mg base (CX1 P w) CH "go" 1 ["self", "step"] (oV C CS CH)) (bG:bw P w K mg base (CX1 P w) CH "stand" 5 ["self"] (e9 K C CS CH)) (jO:Cal P w K mg base (CX1 P w) "hearing" 2 ["settings", "stand", "bound"] (nF K CD CS)):bw P w K mg base (CX1 P w) CH "hear" 6 ["self", "bound"] (oS C CS CH CD):=by
 have S:=DE
 refine cG D S (fun vs H Q E h=>?_) (fun f cdv A outer s H vs Q E hr h=>?_)
 ·obtain ⟨d,ls,pl,b,rfl,_⟩:=h
  rfl
 obtain ⟨d,ls,pl,b,rfl,hd,hok,qe,q1⟩:=h
 obtain ⟨⟨dx,sv,hp,hpl⟩,hl,hL,hss⟩:=id hd
 refine ⟨_,(ao (aB (eT bY (hr.mono (by first | decide | omega)) NE.pass (pv 0) (aa (b6 jO (hr.mono (by first | decide | omega)) aL (aa (aQ (pv 0) rfl) (aa (cV bG (hr.mono (by first | decide | omega)) NE.pass (pv 0)) (aa (pv 1) af)))) af)))),?_⟩
 try dsimp only [aZ]
 walk_at "go"
 refine aV hp vn ?_
 walk_at "go"
 refine ⟨d.p,CH,dx,_,_,rfl,hp,SC.cl,SC.n2,lK _ _ _ _,?_⟩
 walk_at "go"
 refine aV hp f9 ?_
 walk_at "go"
 refine ⟨d,ls,pl,rfl,hd,hok,fun t H1 hst s1=>?_⟩
 walk_at "go"
 refine ⟨d.ps,t,_,d.far,d.room,d.term,d.ws,pl,_,_,b,rfl,(hss.same s1).1,hst,hok.k0,fun e=>qe e H1 s1,fun m k epl t2 v ls2 H2 hls hv ht2 s2=>?_⟩
 have hl2:ls2.length≤1:=by
  rcases hls with ⟨_,_,l,rfl⟩ | ⟨_,rfl⟩ <;> simp
 walk_at "go"
 exact gw (hd.same (s1.trans s2)) (hd.same s1) hok.len hl2 ht2 hv fun H3 hd3 f3=>q1 m k epl ls2 H3 hls hd3 ((Fr2.of (s1.trans s2)).trans f3)
theorem Dp:aq ["self"] ["self"] (aj (inClass (top 65) 13)):=by walk_at "s"
def ud (C CS CH CD:Addr):Sp:=fun vs H Q E=>∃ (d:Hd) (ls:Lns) (pl:Option (Int×Int)),vs=[.ref d.p]∧bE C CS CH H d ls pl∧(pl=none→E (.ref CD) none H)∧(∀ m k,pl=some (m,k)→Q (.int (bnd m k)) H)
theorem D7 (D:bV K CH "tell" "Hand.tell" (inClass (top 65) 13) ["self"]) (SC:HdC K CH) (NE:br (CX1 P w)) (bI:Cal P w K mg base (CX1 P w) "need_up" 1 ["place"] (eO CD)) (eY:Cal P w K mg base (CX1 P w) "bound_of" 1 ["place"] kM):bw P w K mg base (CX1 P w) CH "tell" 2 ["self"] (ud C CS CH CD):=by
 have S:=Dp
 refine cG D S (fun vs H Q E h=>?_) (fun f cdv A outer s H vs Q E hr h=>?_)
 ·obtain ⟨d,ls,pl,rfl,_⟩:=h
  rfl
 obtain ⟨d,ls,pl,rfl,⟨⟨dx,sv,hp,hpl⟩,hl,hL,hss⟩,qe,q⟩:=h
 refine ⟨_,(ak (bC (b6 bI (hr.mono (by first | decide | omega)) aL (aa (aQ (pv 0) rfl) af)))
   (ao (aB (aH eY (hr.mono (by first | decide | omega)) NE.pass (aa (aQ (pv 0) rfl) af))))),?_⟩
 try dsimp only [aZ]
 walk_at "go"
 refine ⟨d.p,CH,dx,_,_,rfl,hp,SC.cl,SC.n4,sF _ _ _ _,?_⟩
 walk_at "go"
 refine ⟨sv,pl,rfl,hpl,qe,fun hsome=>?_⟩
 walk_at "go"
 refine ⟨d.p,CH,dx,_,_,rfl,hp,SC.cl,SC.n4,sF _ _ _ _,?_⟩
 rcases hpl with ⟨rfl,rfl⟩ | ⟨t,m,k,rfl,rfl,ht⟩
 ·cases hsome
 walk_at "go"
 exact ⟨t,m,k,rfl,ht,q m k rfl⟩
theorem AH:aq ["self"] ["self"] (aj (inClass (top 65) 14)):=by walk_at "s"
def kL (C CS CH CD CA CN:Addr):Sp:=fun vs H Q E=>∃ (d:Hd) (ls:Lns) (pl:Option (Int×Int)),vs=[.ref d.p]∧bE C CS CH H d ls pl∧cY ls pl∧(pl=none→∀ H',aI H H'→E (.ref CD) none H')∧(pl.isSome=true→(nt ls).ar=none→∀ H',aI H H'→E (.ref CA) none H') ∧
 (∀ m k sl f e,pl=some (m,k)→(nt ls).ar=some (sl,f,e)→eW f m k (nt ls).hd≥e→∀ H',aI H H'→E (.ref CN) none H') ∧
 (∀ m k sl f e,pl=some (m,k)→(nt ls).ar=some (sl,f,e)→¬ eW f m k (nt ls).hd≥e→∀ tv ls2 H',H' tv=some (.tup [.int (nt ls).g,.int (eW f m k (nt ls).hd)])→((("ends" : Str)∈d.ws∧∃ l,ls2=[(l,.ends (nt ls).g (eW f m k (nt ls).hd))])∨(¬ ("ends" : Str)∈d.ws∧ls2=[]))→bE C CS CH H' d (ls++ls2) pl→Fr2 d.p d.l H H'→Q (.ref tv) H')
theorem Bx (D:bV K CH "give_back" "Hand.give_back" (inClass (top 65) 14) ["self"]) (SC:HdC K CH) (NE:br (CX1 P w)) (bY:bw P w K mg base (CX1 P w) CH "go" 1 ["self", "step"] (oV C CS CH)) (bG:bw P w K mg base (CX1 P w) CH "stand" 5 ["self"] (e9 K C CS CH)) (lY:Cal P w K mg base (CX1 P w) "giving" 2 ["settings", "stand"] (qQ K CD CA CN CS)):bw P w K mg base (CX1 P w) CH "give_back" 6 ["self"] (kL C CS CH CD CA CN):=by
 have S:=AH
 refine cG D S (fun vs H Q E h=>?_) (fun f cdv A outer s H vs Q E hr h=>?_)
 ·obtain ⟨d,ls,pl,rfl,_⟩:=h
  rfl
 obtain ⟨d,ls,pl,rfl,hd,hok,qd,qa,qn,q1⟩:=h
 obtain ⟨⟨dx,sv,hp,hpl⟩,hl,hL,hss⟩:=id hd
 refine ⟨_,(ao (aB (eT bY (hr.mono (by first | decide | omega)) NE.pass (pv 0) (aa (b6 lY (hr.mono (by first | decide | omega)) aL (aa (aQ (pv 0) rfl) (aa (cV bG (hr.mono (by first | decide | omega)) NE.pass (pv 0)) af))) af)))),?_⟩
 try dsimp only [aZ]
 walk_at "go"
 refine aV hp vn ?_
 walk_at "go"
 refine ⟨d.p,CH,dx,_,_,rfl,hp,SC.cl,SC.n2,lK _ _ _ _,?_⟩
 walk_at "go"
 refine aV hp f9 ?_
 walk_at "go"
 refine ⟨d,ls,pl,rfl,hd,hok,fun t H1 hst s1=>?_⟩
 walk_at "go"
 refine ⟨d.ps,t,_,d.far,d.room,d.term,d.ws,pl,_,_,rfl,(hss.same s1).1,hst,fun e=>qd e H1 s1,fun e1 e2=>qa e1 e2 H1 s1,fun m k sl f' e epl ear c=>qn m k sl f' e epl ear c H1 s1,fun m k sl f' e epl ear c t2 tv v ls2 H2 htv hls hv ht2 s2=>?_⟩
 have hl2:ls2.length≤1:=by
  rcases hls with ⟨_,l,rfl⟩ | ⟨_,rfl⟩ <;> simp
 walk_at "go"
 exact gw (hd.same (s1.trans s2)) (hd.same s1) hok.len hl2 ht2 hv fun H3 hd3 f3=>q1 m k sl f' e epl ear c tv ls2 H3 (GD (hd.same (s1.trans s2)) f3 _ _ htv) hls hd3 ((Fr2.of (s1.trans s2)).trans f3)
end
open PySem.W in
structure ExW (K:Frag) (mg:Str→Option Value) (x qual:Str) (C:Addr) (st:Stmt) (ps:List Str):Prop where
 dat:qu K mg x qual C st ps
 get:vU K C
 hd:hasDictIn K C=true
 ov:∃ cd,clsIn K C=some cd∧cT cd.mro∧cd.hasDict=true
 sa:findIn K (.ref C) "__setattr__" = some (some (.builtin "object.__setattr__"))
open PySem.W in
theorem ExW.put {K:Frag} {mg:Str→Option Value} {x qual f:Str} {C:Addr} {st:Stmt} {ps:List Str} (W:ExW K mg x qual C st ps) (t:takerIn K C f=some none):ng K C f:=⟨W.get,W.sa,W.ov,t⟩
open PySem.W in
theorem vC {K:Frag} {h:Heap} {mg:Str→Option Value} {x qual:Str} {CW CR f:Addr} {st:Stmt} {ps:List Str} {cbW:ClassData} {dd od an:Option Addr} {k0 k1 k2 k3 k5:Option Value} {oc kV doc pm cdv ct:Value} {osl:Array (Option Value)} (X:K.In h) (G:h.Ns mainGlobals mg)
  (a1:nsIn K mainGlobals x=some (some (.ref CW))) (g6:specialIn K (.builtin "object.__class__") "__get__" = some (some (.builtin "getset_descriptor.__get__"))) (g7:takesIn K (.builtin "object.__class__")=some true)
  (v1:findIn K (.ref CW) "__getattribute__" = some (some (.builtin "BaseException.__getattribute__"))) (v2:findIn K (.ref CW) "__getattr__" = some none) (v3:mroIn K CW (.type "BaseException")=some true) (v4:mroIn K CW (.type "object")=some true)
  (v5:findIn K (.ref CW) "__class__" = some (some (.builtin "object.__class__"))) (v8:clsIn K CW=some cbW) (r0:excIn K CR eF "ValueError.__new__" = true)
  (u1:findIn K (.ref CW) "__setattr__" = some (some (.builtin "object.__setattr__"))) (u3:K.lookup CW=some ⟨.type "type",dd,.cls cbW,#[k0,k1,k2,k3,some (.builtin "ValueError.__new__"),k5]⟩) (u4:cbW.mro = .ref CW::.ref CR::eF) (u5:cbW.hasDel=false) (u6:cbW.hasDict=true)
  (i1:findIn K (.ref CW) "__init__" = some (some (.ref f))) (i2:typeIn K (.ref f)=some (.type "function")) (i3:K.lookup f=some ⟨oc,od,.func (fnOf "__init__" qual (bK st) (bq st) (aj st) .none kV doc pm an cdv ct),osl⟩) (i4:codeIn K cdv qual=true) (i5:keepIn K (.ref f)=true) (i6:keepIn K (.ref CW)=true)
  (b:∀ (kV doc pm:Value) (an:Option Addr) (cdv ct:Value) (us:List Value),us.length=ps.length→bindArgs (fnOf "__init__" qual (bK st) (bq st) (aj st) .none kV doc pm an cdv ct) ⟨us,[]⟩=pure (ps.zip us)) (x1:hasDictIn K CW=true):ExW K mg x qual CW st ps:=
 ⟨Fp X G a1 (Ci u3 u4 u5 r0) i1 i2 i3 i4 i5 i6 b,⟨v1,v2,v3,v4,v5,g6,g7,Di v8⟩,x1,⟨cbW,v8,u4▸cT.two,u6⟩,u1⟩
def ers (CD CU CA CN CW CT:Addr):List Addr:=[CD,CU,CA,CN,CW,CT]
structure JH (K:PySem.W.Frag) (mg:Str→Option Value) (CD CU CA CN CW CT CR:Addr):Prop where
 d:mG K mg "Down" CD
 u:mG K mg "Up" CU
 a:mG K mg "NoArea" CA
 n:mG K mg "NoRoom" CN
 w:qu K mg "Wait" "Wait.__init__" CW (inClass (top 8) 0) ["self", "reading"]
 pw:ng K CW "reading"
 t:qu K mg "NoNote" "NoNote.__init__" CT (inClass (top 9) 0) ["self", "moment"]
 pt:ng K CT "moment"
 b:tO K mg "RiseError" CR
 hR:mg "RiseError" = some (.ref CR)
 hD:mg "Down" = some (.ref CD)
 hU:mg "Up" = some (.ref CU)
 hA:mg "NoArea" = some (.ref CA)
 hN:mg "NoRoom" = some (.ref CN)
 hW:mg "Wait" = some (.ref CW)
 hT:mg "NoNote" = some (.ref CT)
 et:∀ c∈ers CD CU CA CN CW CT,PySem.W.exmOne K (.ref c) (.ref CR)=some true
open PySem.W in
theorem EM {K:Frag} {h:Heap} {mg:Str→Option Value} {CD CU CA CN CW CT CR:Addr} {R:Addr→Addr→Addr→Addr→Addr→Addr→Addr→Prop} (X:K.In h) (G:h.Ns mainGlobals mg)
  (WW:ExW K mg "Wait" "Wait.__init__" CW (inClass (top 8) 0) ["self", "reading"]) (WT:ExW K mg "NoNote" "NoNote.__init__" CT (inClass (top 9) 0) ["self", "moment"]) (tw:takerIn K CW "reading" = some none) (tt:takerIn K CT "moment" = some none)
  (aD:nsIn K mainGlobals "Down" = some (some (.ref CD))) (aU:nsIn K mainGlobals "Up" = some (some (.ref CU))) (aA:nsIn K mainGlobals "NoArea" = some (some (.ref CA))) (aN:nsIn K mainGlobals "NoRoom" = some (some (.ref CN))) (aW:nsIn K mainGlobals "Wait" = some (some (.ref CW))) (aT:nsIn K mainGlobals "NoNote" = some (some (.ref CT))) (aR:nsIn K mainGlobals "RiseError" = some (some (.ref CR)))
  (d1:excIn K CD eF "ValueError.__new__" = true) (d2:findIn K (.ref CD) "__init__" = some (some (.builtin "ValueError.__init__"))) (d3:keepIn K (.ref CD)=true)
  (u1:excIn K CU eF "ValueError.__new__" = true) (u2:findIn K (.ref CU) "__init__" = some (some (.builtin "ValueError.__init__"))) (u3:keepIn K (.ref CU)=true)
  (c1:excIn K CA eF "ValueError.__new__" = true) (c2:findIn K (.ref CA) "__init__" = some (some (.builtin "ValueError.__init__"))) (c3:keepIn K (.ref CA)=true)
  (n1:excIn K CN eF "ValueError.__new__" = true) (n2:findIn K (.ref CN) "__init__" = some (some (.builtin "ValueError.__init__"))) (n3:keepIn K (.ref CN)=true)
  (r1:specialIn K (.ref CR) "__getattribute__" = some (some (.builtin "type.__getattribute__"))) (r2:readsIn K CR (.type "type")=true) (r3:findCls K (.ref CR) (.type "type") "__init__" = some (.val (.builtin "ValueError.__init__")))
  (m1:exmOne K (.ref CD) (.ref CR)=some true) (m2:exmOne K (.ref CU) (.ref CR)=some true) (m3:exmOne K (.ref CA) (.ref CR)=some true) (m4:exmOne K (.ref CN) (.ref CR)=some true) (m5:exmOne K (.ref CW) (.ref CR)=some true) (m6:exmOne K (.ref CT) (.ref CR)=some true)
  (hR:R CD CU CA CN CW CT CR):∃ CD CU CA CN CW CT CR:Addr,JH K mg CD CU CA CN CW CT CR∧R CD CU CA CN CW CT CR:=
 ⟨CD,CU,CA,CN,CW,CT,CR,⟨⟨g8 d1,d2,d3,mg_of X G aD⟩,⟨g8 u1,u2,u3,mg_of X G aU⟩,⟨g8 c1,c2,c3,mg_of X G aA⟩,⟨g8 n1,n2,n3,mg_of X G aN⟩,WW.dat,WW.put tw,WT.dat,WT.put tt,⟨mg_of X G aR,r1,r2,r3⟩,mg_of X G aR,mg_of X G aD,mg_of X G aU,mg_of X G aA,mg_of X G aN,mg_of X G aW,mg_of X G aT,fun c hc=>by
  simp only [ers,List.mem_cons,List.not_mem_nil,or_false] at hc
  rcases hc with rfl | rfl | rfl | rfl | rfl | rfl
  ·exact m1
  ·exact m2
  ·exact m3
  ·exact m4
  ·exact m5
  ·exact m6⟩,hR⟩
structure Lv (K:PySem.W.Frag) (mg:Str→Option Value) (CH:Addr):Prop where
 is_up:bV K CH "is_up" "Hand.is_up" (inClass (top 65) 1) ["self"]
 place:bV K CH "place" "Hand.place" (inClass (top 65) 2) ["self"]
 note:bV K CH "note" "Hand.note" (inClass (top 65) 3) ["self"]
 area:bV K CH "area" "Hand.area" (inClass (top 65) 4) ["self"]
 stand:bV K CH "stand" "Hand.stand" (inClass (top 65) 5) ["self"]
 go:bV K CH "go" "Hand.go" (inClass (top 65) 6) ["self", "step"]
 vB:bV K CH "fall" "Hand.fall" (inClass (top 65) 7) ["self"]
 rise:bV K CH "rise" "Hand.rise" (inClass (top 65) 8) ["self"]
 take:bV K CH "take" "Hand.take" (inClass (top 65) 9) ["self", "grant", "area"]
 write:bV K CH "write" "Hand.write" (inClass (top 65) 10) ["self", "reading"]
 make:bV K CH "make" "Hand.make" (inClass (top 65) 11) ["self", "reading"]
 mX:bV K CH "hear" "Hand.hear" (inClass (top 65) 12) ["self", "bound"]
 tell:bV K CH "tell" "Hand.tell" (inClass (top 65) 13) ["self"]
 give_back:bV K CH "give_back" "Hand.give_back" (inClass (top 65) 14) ["self"]
structure Lw (K:PySem.W.Frag) (mg:Str→Option Value):Prop where
 d_is_whole:Dat K mg "is_whole" "is_whole" (top 16) ["thing"]
 d_is_whole_from:Dat K mg "is_whole_from" "is_whole_from" (top 17) ["thing", "least"]
 d_is_side:Dat K mg "is_side" "is_side" (top 18) ["thing"]
 d_mark_of:Dat K mg "mark_of" "mark_of" (top 20) ["shape", "moment", "slot", "count"]
 d_is_span:Dat K mg "is_span" "is_span" (top 43) ["thing", "least"]
 d_is_rule:Dat K mg "is_rule" "is_rule" (top 44) ["thing"]
 d_are_rules:Dat K mg "are_rules" "are_rules" (top 45) ["thing"]
 d_has_rule:Dat K mg "has_rule" "has_rule" (top 47) ["settings", "word"]
 d_slot_of:Dat K mg "slot_of" "slot_of" (top 23) ["area"]
 d_first_of:Dat K mg "first_of" "first_of" (top 24) ["area"]
 d_end_of:Dat K mg "end_of" "end_of" (top 25) ["area"]
 d_ended_at:Dat K mg "ended_at" "ended_at" (top 26) ["area", "end"]
 d_read_on:Dat K mg "read_on" "read_on" (top 35) ["told", "line"]
 d_read_note:Dat K mg "read_note" "read_note" (top 36) ["lines"]
 d_tooks_of:Dat K mg "tooks_of" "tooks_of" (top 38) ["lines"]
 d_greatest_taken:Dat K mg "greatest_taken" "greatest_taken" (top 39) ["lines"]
 d_bound_of:Dat K mg "bound_of" "bound_of" (top 28) ["place"]
 d_raised:Dat K mg "raised" "raised" (top 29) ["place", "bound"]
 d_next_place:Dat K mg "next_place" "next_place" (top 30) ["shape", "place"]
 d_moment_at:Dat K mg "moment_at" "moment_at" (top 31) ["area", "place", "reading"]
 d_made:Dat K mg "made" "made" (top 32) ["shape", "far", "area", "place", "reading"]
 d_grant_in:Dat K mg "grant_in" "grant_in" (top 49) ["stand"]
 d_area_in:Dat K mg "area_in" "area_in" (top 50) ["stand"]
 d_held_in:Dat K mg "held_in" "held_in" (top 51) ["stand"]
 d_heard_in:Dat K mg "heard_in" "heard_in" (top 52) ["stand"]
 d_start_by:Dat K mg "start_by" "start_by" (top 53) ["note"]
 d_need_up:Dat K mg "need_up" "need_up" (top 54) ["place"]
 d_need_area:Dat K mg "need_area" "need_area" (top 55) ["area"]
 d_falling:Dat K mg "falling" "falling" (top 56) ["stand"]
 d_rising:Dat K mg "rising" "rising" (top 57) ["stand"]
 d_taking:Dat K mg "taking" "taking" (top 58) ["settings", "stand", "grant", "area"]
 d_hearing:Dat K mg "hearing" "hearing" (top 62) ["settings", "stand", "bound"]
 d_giving:Dat K mg "giving" "giving" (top 63) ["settings", "stand"]
 d_mark_and_place:Dat K mg "mark_and_place" "mark_and_place" (top 59) ["settings", "stand", "reading"]
 d_writing:Dat K mg "writing" "writing" (top 60) ["settings", "stand", "reading"]
 d_making:Dat K mg "making" "making" (top 61) ["settings", "stand", "reading"]
 d_area_of:Dat K mg "area_of" "area_of" (top 37) ["lines"]
 d__law_hand:Dat K mg "_law_hand" "_law_hand" (top 72) ["_law_script", "_law_k"]
 d__law_pick:Dat K mg "_law_pick" "_law_pick" (top 73) ["_law_hand_here", "_law_many"]
structure Mz (P:Program) (w:World) (K:PySem.W.Frag) (mg:Str→Option Value) (base:Heap) (C CS CH CD CU CA CN CW CT:Addr):Prop where
 dX:Cal P w K mg base (CX1 P w) "_law_hand" 1 ["_law_script", "_law_k"] (oU K)
 az:Cal P w K mg base (CX1 P w) "_law_pick" 11 ["_law_hand_here", "_law_many"] fR
 jh:Mak P w K mg base (CX1 P w) "Shape" C 4 ["self", "counts", "slots"] (kI C)
 eV:Mak P w K mg base (CX1 P w) "Settings" CS 4 ["self", "shape", "far", "room", "term", "rules"] (fQ CS)
 m_Hand:Mak P w K mg base (CX1 P w) "Hand" CH 5 ["self", "name", "settings", "lines"] (gX CH)
 ji:vR P w K mg base (CX1 P w) "Hand" CH 5 ["self", "name", "settings", "lines"] (gX CH)
 eN:bw P w K mg base (CX1 P w) CH "is_up" 1 ["self"] (um C CS CH)
 M_Hand_place:bw P w K mg base (CX1 P w) CH "place" 1 ["self"] (wD C CS CH)
 M_Hand_note:bw P w K mg base (CX1 P w) CH "note" 1 ["self"] (Ab C CS CH)
 gT:bw P w K mg base (CX1 P w) CH "area" 6 ["self"] (uq C CS CH)
 gS:bw P w K mg base (CX1 P w) CH "fall" 6 ["self"] (uo C CS CH CD)
 gP:bw P w K mg base (CX1 P w) CH "rise" 6 ["self"] (ug C CS CH CU)
 gO:bw P w K mg base (CX1 P w) CH "take" 6 ["self", "grant", "area"] (oQ C CS CH CD)
 gn:bw P w K mg base (CX1 P w) CH "write" 6 ["self", "reading"] (kH C CS CH CD CA CN CW)
 gQ:bw P w K mg base (CX1 P w) CH "make" 6 ["self", "reading"] (kK C CS CH CD CA CN CW CT)
 gR:bw P w K mg base (CX1 P w) CH "hear" 6 ["self", "bound"] (oS C CS CH CD)
 fk:bw P w K mg base (CX1 P w) CH "tell" 2 ["self"] (ud C CS CH CD)
 dJ:bw P w K mg base (CX1 P w) CH "give_back" 6 ["self"] (kL C CS CH CD CA CN)
section
variable {P:Program} {w:World} {K:PySem.W.Frag} {mg:Str→Option Value} {base:Heap} {C CS CH CD CU CA CN CW CT CR aR aN:Addr}
theorem ES (BT:Bt mg) (NE:br (CX1 P w)) (D:Lw K mg) (M:Lv K mg CH) (ER:JH K mg CD CU CA CN CW CT CR) (DSh:nh K mg "Shape" "Shape.__init__" C (inClass (top 19) 0) ["self", "counts", "slots"]) (SC:ShC K C) (DSt:oG K mg "Settings" "Settings.__init__" CS (inClass (top 46) 0) ["self", "shape", "far", "room", "term", "rules"]) (SS:StC K CS)
  (DHd:kj K mg "Hand" "Hand.__init__" CH (inClass (top 65) 0) ["self", "name", "settings", "lines"]) (HC:HdC K CH) (vv:GlV mg "GREATEST_SIDE" (.int 1000)) (vt:GlV mg "GREATEST_SPAN" (.int 1000000000000)) (fj:GlV mg "RULES" (.ref aR)) (hR:∀ H,SqT K H aR (jW.map V.str)) (fL:GlV mg "NOTHING" (.ref aN)) (hN:∀ H,SqT K H aN [.int 0,.non,.int 0,.int 0]):Mz P w K mg base C CS CH CD CU CA CN CW CT:=by
 have Fq:=Ba (P:=P) (w:=w) (base:=base) (CX:=CX1 P w) D.d_is_whole BT
 have Ct:=Ep D.d_is_whole_from NE Fq
 have jh:=Bf DSh SC NE (Ec D.d_is_side NE vv Ct)
 have Jh:=Ei (P:=P) (w:=w) (base:=base) (CX:=CX1 P w) D.d_mark_of SC
 have Fx:=Bg D.d_are_rules BT NE (Ed (P:=P) (w:=w) (base:=base) (CX:=CX1 P w) D.d_is_rule BT fj hR)
 have eV:=rK DSt SS BT NE fj (Ea D.d_is_span NE vt Ct) Fx
 have ig:=uV (P:=P) (w:=w) (base:=base) (CX:=CX1 P w) D.d_has_rule SS
 have jM:=lB (P:=P) (w:=w) (base:=base) (CX:=CX1 P w) D.d_slot_of
 have ir:=jX (P:=P) (w:=w) (base:=base) (CX:=CX1 P w) D.d_first_of
 have om:=nT (P:=P) (w:=w) (base:=base) (CX:=CX1 P w) D.d_end_of
 have qb:=Bh D.d_read_note NE fL hN (yq D.d_read_on BT NE om (rS D.d_ended_at NE jM ir))
 have Fy:=rQ D.d_greatest_taken BT NE (Bc (P:=P) (w:=w) (base:=base) (CX:=CX1 P w) D.d_tooks_of)
 have qf:=rT (P:=P) (w:=w) (base:=base) (CX:=CX1 P w) D.d_bound_of
 have fN:=yr (P:=P) (w:=w) (base:=base) (CX:=CX1 P w) D.d_raised BT
 have Je:=mV (P:=P) (w:=w) (base:=base) (CX:=CX1 P w) D.d_next_place SC
 have lW:=pN D.d_moment_at BT NE ir
 have vQ:=Ew (P:=P) (w:=w) (base:=base) ER.w ER.b ER.pw
 have mE:=yz (P:=P) (w:=w) (base:=base) ER.t ER.b ER.pt
 have vJ:=Ek D.d_made BT NE ER.n vQ lW om jM Jh Je
 have gg:=rR (P:=P) (w:=w) (base:=base) (CX:=CX1 P w) D.d_grant_in
 have cA:=uT (P:=P) (w:=w) (base:=base) (CX:=CX1 P w) D.d_held_in
 have iV:=rO (P:=P) (w:=w) (base:=base) (CX:=CX1 P w) D.d_heard_in
 have bS:=uZ (P:=P) (w:=w) (base:=base) (CX:=CX1 P w) D.d_area_in
 have dH:=rJ (P:=P) (w:=w) (base:=base) (CX:=CX1 P w) D.d_start_by BT
 have bI:=uQ (P:=P) (w:=w) (base:=base) D.d_need_up NE ER.d
 have cZ:=pM (P:=P) (w:=w) (base:=base) D.d_need_area NE ER.a
 have jQ:=uX D.d_falling NE bI
 have lV:=yp D.d_rising NE ER.u dH
 have lU:=yo D.d_taking NE bI ig qf fN
 have jO:=uU D.d_hearing NE bI ig iV fN
 have lY:=yy D.d_giving BT NE ER.n bI cZ bS ir om qf cA gg ig
 have GH:=Hh D.d_mark_and_place SS NE bI cZ bS vJ
 have jL:=uO D.d_writing SS NE GH bS cA lW
 have lX:=yt D.d_making NE mE GH bS cA lW ig
 have jR:=uY D.d_area_of NE qb
 obtain ⟨m_Hand,ji⟩:=Bw DHd HC BT NE qb dH
 have FY:=Bv (P:=P) (w:=w) (mg:=mg) (base:=base) (CX:=CX1 P w) (C:=C) (CS:=CS) M.is_up HC
 have FW:=Bl (P:=P) (w:=w) (mg:=mg) (base:=base) (CX:=CX1 P w) (C:=C) (CS:=CS) M.place HC
 have Jx:=Eh (P:=P) (w:=w) (mg:=mg) (base:=base) (CX:=CX1 P w) (C:=C) (CS:=CS) M.note HC BT
 have JG:=Eu (C:=C) (CS:=CS) M.area HC NE jR
 have gj:=Bd (C:=C) (CS:=CS) M.stand HC NE qb Fy
 have vS:=Ku (P:=P) (w:=w) (mg:=mg) (base:=base) (CX:=CX1 P w) (C:=C) (CS:=CS) M.go HC
 have JE:=Es M.vB HC NE vS gj jQ
 have Jw:=Ef M.rise HC NE vS gj lV
 have Ju:=D8 M.take HC NE vS gj lU
 have FU:=A9 M.write HC NE vS gj jL
 have Jy:=Ej M.make HC NE vS gj lX
 have JA:=Em M.mX HC NE vS gj jO
 have Jt:=D7 (C:=C) (CS:=CS) M.tell HC NE bI qf
 have JB:=Bx M.give_back HC NE vS gj lY
 have Jk:=En (P:=P) (w:=w) (base:=base) (CX:=CX1 P w) D.d__law_hand BT
 have Jd:=Eg (P:=P) (w:=w) (base:=base) (CX:=CX1 P w) D.d__law_pick NE
 exact ⟨Jk,Jd,jh,eV,m_Hand,ji,FY,FW,Jx,JG,JE,Jw,Ju,FU,Jy,JA,Jt,JB⟩
end
structure Gr where
 g:Addr
 ar:Addr
 n:Int
 nm:Str
 sl:Int
 f:Int
 e:Int
def qp (H:Hp) (x:Gr):Prop:=H x.g=some (.tup [.int x.n,.str x.nm,.ref x.ar])∧t9 H x.ar x.sl x.f x.e
theorem qp.ts {H H':Hp} {x:Gr} (h:qp H x) (s:cF H H'):qp H' x:=⟨s _ _ h.1,s _ _ h.2⟩
theorem qp.same {H H':Hp} {x:Gr} (h:qp H x) (s:aI H H'):qp H' x:=⟨s _ _ h.1,s _ _ h.2⟩
def grV (gs:List Gr):List V:=gs.map fun x=>.ref x.g
theorem eK (gs:List Gr):(grV gs).length=gs.length:=Nh ..
theorem jo {gs:List Gr} {i:Nat} {v:V} (h:(grV gs)[i]?=some v):∃ x,gs[i]?=some x∧v = .ref x.g:=by
 unfold grV at h
 rw [Nb] at h
 cases e:gs[i]? with
 | none=>rw [e] at h;cases h
 | some x=>rw [e] at h;cases h;exact ⟨x,rfl,rfl⟩
def di (H:Hp) (gs:List Gr):Prop:=∀ x∈gs,qp H x
theorem di.same {H H':Hp} {gs:List Gr} (h:di H gs) (s:aI H H'):di H' gs:=fun x hx=>(h x hx).same s
theorem di.ts {H H':Hp} {gs:List Gr} (h:di H gs) (s:cF H H'):di H' gs:=fun x hx=>(h x hx).ts s
end Law
namespace Law
theorem snoc_ind {α : Type} {p:List α→Prop} (nil:p []) (snoc:∀ (l:List α) (a : α),p l→p (l++[a])) (l:List α):p l:=by
 have h:∀ l:List α,p l.reverse:=fun l=>by
  induction l with
  | nil=>exact nil
  | cons a l ih=>rw [List.reverse_cons];exact snoc _ _ ih
 have:=h l.reverse
 rwa [List.reverse_reverse] at this
def eL (gs:List Gr) (s b:Int):Int:=gs.foldl (fun m x=>if x.sl=s then max m x.e else m) b
theorem ia (gs:List Gr) (x:Gr) (s b:Int):eL (gs++[x]) s b=if x.sl=s then max (eL gs s b) x.e else eL gs s b:=by
 unfold eL;rw [List.foldl_append];rfl
theorem Cm (gs:List Gr) (s:Int) {b c:Int} (h:c≤b):max (eL gs s c) b=eL gs s b:=by
 induction gs using snoc_ind with
 | nil=>show max c b=b;omega
 | snoc gs x ih=>
  rw [ia,ia]
  by_cases c:x.sl=s
  ·rw [if_pos c,if_pos c,← ih];omega
  ·rw [if_neg c,if_neg c];exact ih
theorem EH {gs:List Gr} {s b:Int} {x:Gr} (hx:x∈gs) (h:x.sl=s):x.e≤eL gs s b:=by
 induction gs using snoc_ind with
 | nil=>cases hx
 | snoc gs y ih=>
  rw [ia]
  rcases List.mem_append.mp hx with hx | hx
  ·by_cases c:y.sl=s
   ·rw [if_pos c];have:=ih hx;omega
   ·rw [if_neg c];exact ih hx
  ·rw [← List.mem_singleton.mp hx,if_pos h];omega
structure NxJ (gs:List Gr) (slots:Nat) (b:Int) (j:Nat):Prop where
 lt:j < slots
 le:∀ k:Nat,k < slots→eL gs j b≤eL gs k b
 fst:∀ k:Nat,k < j→eL gs j b < eL gs k b
def Nx (apart:Bool) (gs:List Gr) (slots:Nat) (b s f:Int):Prop:=if apart=true then ∃ j:Nat,NxJ gs slots b j∧s=j∧f=eL gs j b else s=(gs.length:Int) % slots∧f=b
end Law
namespace L4
open PySem PySem.Spec PyProof.Rows L2 L3
def DR:V→List V→Hp→VK→Prop:=fun x vs H Q=>∃ (l:Addr) (ns:List Int) (k:Int) (j:Nat),x = .ref l∧vs=[.int k]∧H l=some (.lst (ns.map V.int))∧ns.length≤1000∧ns[j]?=some k∧(∀ m,m < j→ns[m]?≠some k)∧Q (.int (j:Int)) H
def isIn (k:Int):Value→Bool
 | .int b _=>b == k
 | _=>false
theorem C8:∀ {ns:List Int} {us:List Value},Vals (ns.map V.int) us→∀ (i:Nat) (n:Int),ns[i]?=some n→∃ t,us[i]?=some (.int n t)
 | _,_,h,i,n,e=>by
  obtain ⟨u,hu,ru⟩:=h.get (x:=.int n) (by rw [Nb,e];rfl)
  obtain ⟨t,rfl⟩:=ru
  exact ⟨t,hu⟩
section
variable {X:Cx}
theorem yC:MtM X "list.index" DR:=by
 intro pins s σ H x vs v us Q I rx rv h
 obtain ⟨l,ns,k,j,rfl,rfl,hH,hz,hk,hb,q⟩:=h
 cases rx
 obtain ⟨u,rfl,ru⟩:=rv.one
 obtain ⟨tk,rfl⟩:=ru
 obtain ⟨z,its,n,r,hl,e⟩:=I.yG hH
 have hlen:ns.length=its.length:=by have:=r.length;rw [Nh] at this;exact this
 obtain ⟨hj,hje⟩:=List.getElem?_eq_some_iff.mp hk
 have at':∀ i (hi:i < its.length),∃ t,its[i] = .int (ns[i]'(by omega)) t:=fun i hi=>by
  obtain ⟨t,ht⟩:=C8 r i _ (MT (by omega:i < ns.length))
  rw [MT hi] at ht
  exact ⟨t,Nm ht⟩
 refine call_meets F.slot_list_index ⟨_,e,rfl⟩ F.entry_list_index (F.args_list_index_2 _ _) (PySem.SeqAt.list_indexAt l _ n _ _ (.int k tk) (isIn k) j (by simpa using (hlen▸hj)) (by omega) ?_ ?_) ⟨e,fun y hy=>?_,?_⟩
 ·obtain ⟨t,ht⟩:=at' j (hlen▸hj)
  simp only [List.getElem_toArray,ht,isIn,hje,beq_self_eq_true]
 ·intro m hm hlt
  obtain ⟨t,ht⟩:=at' m (by omega)
  simp only [List.getElem_toArray,ht,isIn]
  have:¬ (ns[m]'(by omega)=k):=fun z=>hb m hlt (by rw [MT (by omega),z])
  simpa using this
 ·obtain ⟨i,hi,rfl⟩:=M5 (List.mem_toArray.mp hy)
  obtain ⟨t,ht⟩:=at' i hi
  rw [ht]
  exact PySem.SeqAt.EqAt.int_int _ t k tk
 ·exact ⟨.int _,H,I.tok _,⟨_,rfl⟩,q⟩
end
end L4
namespace Law
open PySem PySem.Spec PyProof.Rows L2 L3 L4
theorem z4 {K:PySem.W.Frag} {H H':Hp} {a:Addr} {xs:List V} (e:aI H H') (h:SqT K H a xs):SqT K H' a xs:=by
 rcases h with (h | ⟨o,h⟩) | h
 ·exact .inl (.inl (e _ _ h))
 ·exact .inl (.inr ⟨o,e _ _ h⟩)
 ·exact .inr h
def StB (K:PySem.W.Frag) (C:Addr) (H:Hp) (p:Addr) (sh:V) (far room term:Int) (ws:List Str):Prop:=∃ (dx tr:Addr) (ms:List Str),H p=some (.ins C dx (stF sh far room term tr))∧SqT K H tr (ms.map V.str)∧ms.Perm ws
section
variable {P:Program} {w:World} {K:PySem.W.Frag} {mg:Str→Option Value} {base:Heap} {CX:CXT} {C aR:Addr}
theorem StB.same {H H':Hp} {p:Addr} {sh:V} {far room term:Int} {ws:List Str} (h:StB K C H p sh far room term ws) (s:aI H H'):StB K C H' p sh far room term ws:=by
 obtain ⟨dx,tr,ms,h1,h2,h3⟩:=h
 exact ⟨dx,tr,ms,s _ _ h1,z4 s h2,h3⟩
theorem rf:aq ["settings", "word"] ["settings", "word"] (aj (top 47)):=by walk_at "s"
def kX (K:PySem.W.Frag) (C:Addr):Sp:=fun vs H Q _=>∃ (p:Addr) (sh:V) (far room term:Int) (ws:List Str) (z:Str),vs=[.ref p,.str z]∧StB K C H p sh far room term ws∧Q (.bl (decide (z∈ws))) H
theorem rP (D:Dat K mg "has_rule" "has_rule" (top 47) ["settings", "word"]) (SC:StC K C):Cal P w K mg base CX "has_rule" 1 ["settings", "word"] (kX K C):=by
 have S:=rf
 walk_at "d"
 ·obtain ⟨p,sh,far,room,term,ws,z,rfl,_⟩:=h
  rfl
 obtain ⟨p,sh,far,room,term,ws,z,rfl,⟨dx,tr,ms,hp,ht,pm⟩,q⟩:=h
 refine ⟨_,(ao (aB (cJ jH (pv 1) (aQ (pv 0) rfl) (by with_unfolding_all rfl)))),?_⟩
 try dsimp only [aZ]
 walk_at "go"
 refine ⟨p,C,dx,_,_,rfl,hp,SC.cl,SC.n5,ny sh far room term tr,?_⟩
 refine B0 ht ?_
 rw [show decide (z∈ms)=decide (z∈ws) from decide_eq_decide.mpr pm.mem_iff]
 exact q
end
structure Ld where
 p:Addr
 l:Addr
 ps:Addr
 sp:Addr
 c:Int
 s:Nat
 far:Int
 room:Int
 term:Int
 ws:List Str
def ldF (ps l:Addr):List (Str×V):=[("settings",.ref ps),("lent",.ref l)]
structure LdC (K:PySem.W.Frag) (CL:Addr):Prop where
 cl:Cls K CL
 n1:aY K CL "settings"
 n2:aY K CL "lent"
theorem HK (ps l:Addr):bO "lent" (.ref l) (bO "settings" (.ref ps) [])=ldF ps l:=by
 have a1:¬ (("settings" : Str) = "lent"):=by decide +kernel
 simp only [bO,if_neg a1]
 rfl
theorem xg (ps l:Addr):(ldF ps l).lookup ("settings" : Str)=some (.ref ps):=by unfold ldF;walk_at "lk"
theorem iz (ps l:Addr):(ldF ps l).lookup ("lent" : Str)=some (.ref l):=by unfold ldF;walk_at "lk"
theorem iO {m:Str} {ps l:Addr} (a1:(m == ("settings" : Str))=false) (a2:(m == ("lent" : Str))=false):(ldF ps l).lookup m=none:=by
 unfold ldF
 rw [lk_miss a1,lk_miss a2];rfl
structure ql (K:PySem.W.Frag) (C CS:Addr) (H:Hp) (ps sp:Addr) (c:Int) (s:Nat) (far room term:Int) (ws:List Str):Prop where
 st:StB K CS H ps (.ref sp) far room term ws
 sh:∃ dx,H sp=some (.ins C dx (shF c s))
 ok:ShN c s
 n:StN far room term
theorem ql.same {K:PySem.W.Frag} {C CS:Addr} {H H':Hp} {ps sp:Addr} {c:Int} {s:Nat} {far room term:Int} {ws:List Str} (h:ql K C CS H ps sp c s far room term ws) (m:aI H H'):ql K C CS H' ps sp c s far room term ws:=
 ⟨h.st.same m,h.sh.elim fun dx e=>⟨dx,m _ _ e⟩,h.ok,h.n⟩
structure dh (gs:List Gr) (slots:Nat):Prop where
 sl:∀ x∈gs,0≤x.sl∧x.sl < slots
 len:gs.length≤400
def cM (K:PySem.W.Frag) (C CS CL:Addr) (H:Hp) (d:Ld) (gs:List Gr):Prop:=(∃ dx,H d.p=some (.ins CL dx (ldF d.ps d.l)))∧H d.l=some (.lst (grV gs))∧di H gs∧ql K C CS H d.ps d.sp d.c d.s d.far d.room d.term d.ws
theorem cM.same {K:PySem.W.Frag} {C CS CL:Addr} {H H':Hp} {d:Ld} {gs:List Gr} (h:cM K C CS CL H d gs) (m:aI H H'):cM K C CS CL H' d gs:=
 ⟨h.1.elim fun dx e=>⟨dx,m _ _ e⟩,m _ _ h.2.1,h.2.2.1.same m,h.2.2.2.same m⟩
theorem Dg {K:PySem.W.Frag} {H H':Hp} {q t:Addr} {xs ys:List V} (hq:H q=some (.lst xs)) (c:Chg q H H') (h:SqT K H t ys):SqT K H' t ys:=by
 rcases h with (h | ⟨o,h⟩) | h
 ·exact .inl (.inl (c.oth _ _ h fun z=>by rw [z,hq] at h;cases h))
 ·exact .inl (.inr ⟨o,c.oth _ _ h fun z=>by rw [z,hq] at h;cases h⟩)
 ·exact .inr h
theorem ql.chg {K:PySem.W.Frag} {C CS q:Addr} {H H':Hp} {ps sp:Addr} {c:Int} {s:Nat} {far room term:Int} {ws:List Str} {xs:List V} (h:ql K C CS H ps sp c s far room term ws) (hq:H q=some (.lst xs)) (ch:Chg q H H'):ql K C CS H' ps sp c s far room term ws:=by
 obtain ⟨⟨dx,tr,ms,h1,h2,h3⟩,⟨dy,h4⟩,h5,h6⟩:=h
 exact ⟨⟨dx,tr,ms,ch.oth _ _ h1 (fun z=>by rw [z,hq] at h1;cases h1),Dg hq ch h2,h3⟩,⟨dy,ch.oth _ _ h4 fun z=>by rw [z,hq] at h4;cases h4⟩,h5,h6⟩
theorem cM.chg {K:PySem.W.Frag} {C CS CL q:Addr} {H H':Hp} {d:Ld} {gs:List Gr} {xs:List V} (h:cM K C CS CL H d gs) (hq:H q=some (.lst xs)) (n:d.l≠q) (ch:Chg q H H'):cM K C CS CL H' d gs:=by
 obtain ⟨⟨dx,h1⟩,h2,h3,h4⟩:=h
 exact ⟨⟨dx,ch.oth _ _ h1 fun z=>by rw [z,hq] at h1;cases h1⟩,ch.oth _ _ h2 n,h3.ts ch.ts,h4.chg hq ch⟩
theorem cM.put {K:PySem.W.Frag} {C CS CL:Addr} {H H':Hp} {d:Ld} {gs gs':List Gr} (h:cM K C CS CL H d gs) (ch:Chg d.l H H') (e:H' d.l=some (.lst (grV gs'))) (g:di H' gs'):cM K C CS CL H' d gs':=by
 obtain ⟨⟨dx,h1⟩,h2,h3,h4⟩:=h
 exact ⟨⟨dx,ch.oth _ _ h1 fun z=>by rw [z,h2] at h1;cases h1⟩,e,g,h4.chg h2 ch⟩
theorem BR (gs:List Gr) (x:Gr):grV (gs++[x])=grV gs++[.ref x.g]:=by unfold grV;rw [Nj];rfl
theorem di.snoc {H:Hp} {gs:List Gr} {x:Gr} (h:di H gs) (k:qp H x):di H (gs++[x]):=fun y hy=>(List.mem_append.mp hy).elim (h y) fun z=>by rw [List.mem_singleton.mp z];exact k
def mfr (gs:List Gr) (slots:Nat) (b:Int):List Int:=(List.range slots).map fun k:Nat=>eL gs k b
theorem dc (gs:List Gr) (slots:Nat) (b:Int):(mfr gs slots b).length=slots:=by unfold mfr;rw [Nh,List.length_range]
theorem dN {gs:List Gr} {slots k:Nat} {b:Int} (h:k < slots):(mfr gs slots b)[k]?=some (eL gs k b):=by
 unfold mfr;rw [Nb,List.getElem?_range h];rfl
theorem EA {gs:List Gr} {x:Gr} {slots j:Nat} {b:Int} (hj:x.sl=j):(mfr gs slots b).set j (max (eL gs j b) x.e)=mfr (gs++[x]) slots b:=by
 refine List.ext_getElem? fun k=>?_
 by_cases hk:k < slots
 ·rw [dN hk,ia,List.getElem?_set,dc]
  by_cases e:j=k
  ·subst e
   rw [if_pos rfl,if_pos hk,if_pos hj]
  ·rw [if_neg e,dN hk,if_neg (by rw [hj];omega)]
 ·rw [List.getElem?_eq_none (by rw [Nl,dc];omega),List.getElem?_eq_none (by rw [dc];omega)]
theorem dP {H:Hp} {p:Addr} {o:HO} (h:H p=some o):Led (·=p) H H [(p,Eo o)] []:=⟨fun x hx=>by rw [List.mem_singleton.mp hx];exact ⟨_,h,rfl⟩,by simp,fun x hx=>by rw [List.mem_singleton.mp hx];exact .inl rfl,fun _ _ h _=>h,fun _ z=>(by simp at z)⟩
theorem bW {H H1:Hp} {a:Addr} (s:aI H H1) (n:H1 a=none):H a=none:=by
 cases e:H a with
 | none=>rfl
 | some o=>rw [s _ _ e] at n;cases n
theorem xr {n j:Nat} (h:j < n):ixN n (j:Int)=some j:=by
 unfold ixN
 rw [if_pos (by omega),if_pos (by omega)];rfl
theorem rep0:∀ n:Nat,(List.replicate n [V.int 0]).flatten=(mfr [] n 0).map V.int:=fun n=>by
 unfold mfr
 rw [List.map_map]
 have:(fun k:Nat=>eL ([]:List Gr) (k:Int) 0)=fun _=>0:=rfl
 rw [show (V.int ∘ fun k:Nat=>eL ([]:List Gr) (k:Int) 0)=fun _=>V.int 0 from rfl,List.map_const',List.length_range]
 induction n with
 | zero=>rfl
 | succ n ih=>rw [List.replicate_succ,List.replicate_succ,List.flatten_cons,ih];rfl
theorem zc {n:Nat} {f:Nat→Int} {M:Int} (h:∃ k,k < n∧f k=M):∃ j,j < n∧f j=M∧∀ k,k < j→f k≠M:=by
 obtain ⟨k,hk,e⟩:=h
 induction k using Nat.strongRecOn with
 | _ k ih=>
  by_cases c:∃ i,i < k∧f i=M
  ·obtain ⟨i,hi,ei⟩:=c
   exact ih i hi (by omega) ei
  ·exact ⟨k,hk,e,fun i hi z=>c ⟨i,hi,z⟩⟩
theorem k7 {n:Nat} (h:n≤1000):n < sizeLine:=M9 (Nat.lt_succ_of_le h) (by decide)
section
variable {P:Program} {w:World} {K:PySem.W.Frag} {mg:Str→Option Value} {base:Heap} {CX:CXT} {C CS CL CN:Addr}
theorem AI:aq ["slots", "grants", "moments", "grant", "slot"] ["slots", "grants"] (aj (top 67)):=by walk_at "s"
def wH (K:PySem.W.Frag):Sp:=fun vs H Q _=>∃ (s:Nat) (a:Addr) (gs:List Gr),vs=[.int s,.ref a]∧1≤s∧s≤1000∧SqL K H a (grV gs)∧di H gs∧dh gs s∧∀ m H',H m=none→H' m=some (.lst ((mfr gs s 0).map V.int))→aI H H'→Q (.ref m) H'
theorem By (D:Dat K mg "free_moments" "free_moments" (top 67) ["slots", "grants"]) (BT:Bt mg) (NE:br CX) (cK:Cal P w K mg base CX "slot_of" 1 ["area"] qS) (cQ:Cal P w K mg base CX "end_of" 1 ["area"] nM):Cal P w K mg base CX "free_moments" 2 ["slots", "grants"] (wH K):=by
 have S:=AI
 walk_at "d"
 ·obtain ⟨s,a,gs,rfl,_⟩:=h
  rfl
 obtain ⟨n,a,gs,rfl,h1,h2,hS,hG,hok,q⟩:=h
 refine ⟨_,(ak (aM (i:=2) S.nd rfl (by first | exact Or.inl rfl | exact Or.inr rfl) (aP G9 (bQ (aa ai af)) (pv 0)))
   (ak (fV PassesOwn.never rfl (b8 (pv 1)) (bu (i:=3) S.nd rfl (by first | exact Or.inl rfl | exact Or.inr rfl)) (ak (aM (i:=4) S.nd rfl (by first | exact Or.inl rfl | exact Or.inr rfl) (aH cK (hr.mono (by first | decide | omega)) NE.pass (aa (ay au (pv 3) ai (fun _ _=>rfl)) af)))
    (ao (fW (aX (j8 rfl) rfl BT.max L3.ef (aa (ay bH (pv 2) (pv 4) (fun _ _=>rfl)) (aa (aH cQ (hr.mono (by first | decide | omega)) NE.pass (aa (ay au (pv 3) ai (fun _ _=>rfl)) af)) af))) (iG (pv 2) (pv 4) set_list)))))
   (ao (aB (pv 2))))),?_⟩
 try dsimp only [aZ]
 have L:=Led.start H (fun _=>False)
 walk_at "go"
 refine ⟨l',n,[.int 0],rfl,rfl,L'.eo .head,by omega,by omega,by rw [show (Int.toNat (n:Int))=n from rfl];exact Nq (Nat.le_of_eq (Nat.one_mul n)) (Nr (k7 h2)),fun m nm=>?_⟩
 have e0:(List.replicate (Int.toNat (n:Int)) [V.int 0]).flatten=(mfr [] n 0).map V.int:=by
  rw [show (Int.toNat (n:Int))=n from rfl]
  exact rep0 n
 rw [e0]
 have sm:=L'.same.trans (b7 nm (HO.lst ((mfr [] n 0).map V.int)))
 have hm:(upd H' m (.lst ((mfr [] n 0).map V.int))) m=some (.lst ((mfr [] n 0).map V.int)):=aE
 have nmH:H m=none:=bW L'.same nm
 clear L L'
 generalize upd H' m (.lst ((mfr [] n 0).map V.int))=H1 at *
 walk_at "go"
 refine cB (sm.seq hS) ?_
 refine iP (grV gs) (fun i σ Hx=>∃ u3 u4:Option V,σ=[some (.int n),some (.ref a),some (.ref m),u3,u4]∧aI H Hx∧Hx m=some (.lst ((mfr (gs.take i) n 0).map V.int))) ⟨_,_,rfl,sm,hm⟩ (fun i σ Hx _ ⟨_,_,_,sx,_⟩=>sx.seq hS) ?_ ?_
 ·rintro i v σ HG hv ⟨u3,u4,rfl,sx,hx⟩
  obtain ⟨x,hxi,rfl⟩:=jo hv
  have hxm:=M0 hxi
  obtain ⟨s0,s1⟩:=hok.sl x hxm
  obtain ⟨j,hj⟩:=MU s0
  have hjn:j < n:=by omega
  have hgx:=(hG x hxm).same sx
  have L:=(dP hx).more (aS x.g [_,_,_]) hgx.1
  try dsimp only [bD]
  walk_at "go"
  refine ⟨x.ar,x.sl,x.f,x.e,rfl,hgx.2,?_⟩
  walk_at "go"
  rw [hj]
  refine n9 L .head (cS (by rw [Nb,dN hjn];rfl)) ?_
  walk_at "go"
  refine ⟨x.ar,x.sl,x.f,x.e,rfl,hgx.2,?_⟩
  walk_at "go"
  refine Gz (j:=j) L .head (xr (by rw [Nh,dc];exact hjn)) fun HA LA _=>?_
  have ch:=LA.chg (fun xs z=>by rw [hx] at z;cases z)
  walk_at "go"
  refine ⟨_,_,rfl,fun q o e=>ch.oth q o (sx _ _ e) (fun z=>by rw [z,nmH] at e;cases e),?_⟩
  have e1:gs.take (i+1)=gs.take i++[x]:=take_snoc hxi
  rw [e1,← EA hj,List.map_set]
  exact LA.eo .head
 ·rintro σ HG ⟨u3,u4,rfl,sx,hx⟩
  rw [eK,Ng] at hx
  walk_at "go"
  exact q m HG nmH hx sx
theorem AD:aq ["self", "settings", "grants"] ["self", "settings", "grants"] (aj (inClass (top 68) 0)):=by walk_at "s"
def AG (H:Hp) (v:V) (gs:List Gr):Prop:=(v = .non∧gs=[])∨∃ a,v = .ref a∧H a=some (.lst (grV gs))
def gW (CL:Addr):Sp:=fun vs H Q _=>∃ (p dx ps:Addr) (v:V) (gs:List Gr),vs=[.ref p,.ref ps,v]∧AG H v gs∧di H gs∧H p=some (.ins CL dx []) ∧
 ∀ (l:Addr) (H':Hp),H l=none→H' p=some (.ins CL dx (ldF ps l))→H' l=some (.lst (grV gs))→(∀ q o,H q=some o→q≠p→H' q=some o)→Q .non H'
theorem Bu (D:kj K mg "Lender" "Lender.__init__" CL (inClass (top 68) 0) ["self", "settings", "grants"]) (SC:LdC K CL) (BT:Bt mg) (NE:br CX):Mak P w K mg base CX "Lender" CL 2 ["self", "settings", "grants"] (gW CL)∧vR P w K mg base CX "Lender" CL 2 ["self", "settings", "grants"] (gW CL):=by
 have S:=AD
 walk_at "d"
 ·obtain ⟨p,dx,ps,v,gs,rfl,_⟩:=h
  rfl
 obtain ⟨p,dx,ps,v,gs,rfl,hal,hG,hp,q⟩:=h
 refine ⟨_,(ak (cU (pv 0) (pv 1) rfl)
   (ao (cU (pv 0) (eU (gy (iJ (pv 2))) (bQ af) (dm gJ rfl BT.list_ L3.iu (aa (pv 2) af))) rfl))),?_⟩
 try dsimp only [aZ]
 have k1:=c7 ("settings" : Str) (.ref ps) []
 rw [Ni] at k1
 walk_at "go"
 refine ⟨p,CL,dx,[],rfl,hp,SC.cl,SC.n1,by decide,?_⟩
 have key:=fun l=>HK ps l
 generalize bO ("settings" : Str) (.ref ps) []=fs at *
 have hpc:(upd H p (.ins CL dx fs)) p=some (.ins CL dx fs):=aE
 have oc:∀ q o,H q=some o→q≠p→(upd H p (.ins CL dx fs)) q=some o:=fun q o e z=>by rw [aF z];exact e
 have ic:∀ q,(upd H p (.ins CL dx fs)) q=none→H q=none:=fun q e=>by
  by_cases z:q=p
  ·rw [z,aE] at e;cases e
  ·rwa [aF z] at e
 have hac:AG (upd H p (.ins CL dx fs)) v gs:=by
  rcases hal with z | ⟨a,rfl,ha⟩
  ·exact .inl z
  ·exact .inr ⟨a,rfl,oc _ _ ha fun z=>by rw [z,hp] at ha;cases ha⟩
 generalize upd H p (.ins CL dx fs)=Hc at *
 have L:=Led.start Hc (fun _=>False)
 walk_at "go"
 rcases hac with ⟨rfl,rfl⟩ | ⟨a,rfl,ha⟩
 ·refine lM rfl ?_
  walk_at "go"
  have np:p≠l':=fun z=>by rw [z,n'] at hpc;cases hpc
  refine ⟨p,CL,dx,fs,rfl,L'.same _ _ hpc,SC.cl,SC.n2,by omega,?_⟩
  walk_at "go"
  exact q l' _ (ic _ n') (by rw [aE,key]) (by rw [aF (Ne.symm np)];exact L'.eo .head) fun x o e z=>by rw [aF z];exact L'.same _ _ (oc x o e z)
 ·refine bF (fun z=>nomatch z) fun _=>?_
  walk_at "go"
  refine gF L (.inl (SqL.of ha)) fun b HB nb L' sB=>?_
  have np:p≠b:=fun z=>by rw [z,nb] at hpc;cases hpc
  walk_at "go"
  refine ⟨p,CL,dx,fs,rfl,sB _ _ hpc,SC.cl,SC.n2,by omega,?_⟩
  walk_at "go"
  exact q b _ (ic _ nb) (by rw [aE,key]) (by rw [aF (Ne.symm np)];exact L'.eo .head) fun x o e z=>by rw [aF z];exact sB _ _ (oc x o e z)
theorem oJ {H:Hp} {Q:VK} {E:XK} {ps sp:Addr} {v:V} {gs:List Gr} {c:Int} {s:Nat} {far room term:Int} {ws:List Str} (ha:AG H v gs) (hG:di H gs) (hs:ql K C CS H ps sp c s far room term ws)
  (q:∀ x l H',H x=none→H l=none→cM K C CS CL H' ⟨x,l,ps,sp,c,s,far,room,term,ws⟩ gs→aI H H'→Q (.ref x) H'):Made CL (gW CL) E [.ref ps,v] H Q:=by
 intro x dx nx nd ne
 have sm0:aI H (upd (upd H dx (.own x)) x (.ins CL dx [])):=fun b o e=>by rw [aF (aG e nx),aF (aG e nd)];exact e
 have ha':AG (upd (upd H dx (.own x)) x (.ins CL dx [])) v gs:=by
  rcases ha with z | ⟨a,rfl,h⟩
  ·exact .inl z
  ·exact .inr ⟨a,rfl,sm0 _ _ h⟩
 refine ⟨x,dx,ps,v,gs,rfl,ha',hG.same sm0,aE,fun l H' nl h1 h2 h3=>⟨rfl,?_⟩⟩
 have sm:aI H H':=fun b o e=>h3 b o (sm0 _ _ e) (aG e nx)
 exact q x l H' nx (bW sm0 nl) ⟨⟨dx,h1⟩,h2,hG.same sm,hs.same sm⟩ sm
theorem uz:aq ["self"] ["self"] (aj (inClass (top 68) 1)):=by walk_at "s"
def nB (K:PySem.W.Frag) (C CS CL:Addr):Sp:=fun vs H Q _=>∃ (d:Ld) (gs:List Gr),vs=[.ref d.p]∧cM K C CS CL H d gs∧∀ b H',H b=none→H' b=some (.lst (grV gs))→aI H H'→Q (.ref b) H'
theorem uR (D:bV K CL "grants" "Lender.grants" (inClass (top 68) 1) ["self"]) (SC:LdC K CL) (BT:Bt mg):bw P w K mg base CX CL "grants" 1 ["self"] (nB K C CS CL):=by
 have S:=uz
 refine cE D S (fun vs H Q E h=>?_) (fun f cdv A outer s H vs Q E hr h=>?_)
 ·obtain ⟨d,gs,rfl,_⟩:=h
  rfl
 obtain ⟨d,gs,rfl,⟨⟨dx,hp⟩,hl,hG,hss⟩,q⟩:=h
 refine ⟨_,(ao (aB (dm gJ rfl BT.list_ L3.iu (aa (aQ (pv 0) rfl) af)))),?_⟩
 try dsimp only [aZ]
 walk_at "go"
 refine ⟨d.p,CL,dx,_,_,rfl,hp,SC.cl,SC.n2,iz _ _,?_⟩
 walk_at "go"
 refine gF (Led.start H (fun _=>False)) (.inl (SqL.of hl)) fun b HB nb L sB=>?_
 walk_at "go"
 exact q b HB nb (L.eo .head) sB
theorem ya:aq ["self"] ["self"] (aj (inClass (top 68) 2)):=by walk_at "s"
def kU (K:PySem.W.Frag) (C CS CL:Addr):Sp:=fun vs H Q _=>∃ (d:Ld) (gs:List Gr),vs=[.ref d.p]∧cM K C CS CL H d gs∧dh gs d.s∧∀ m H',H m=none→H' m=some (.lst ((mfr gs d.s 0).map V.int))→aI H H'→Q (.ref m) H'
theorem yu (D:bV K CL "moments_free" "Lender.moments_free" (inClass (top 68) 2) ["self"]) (SC:LdC K CL) (SS:StC K CS) (SH:ShC K C) (NE:br CX) (lZ:Cal P w K mg base CX "free_moments" 2 ["slots", "grants"] (wH K)):bw P w K mg base CX CL "moments_free" 3 ["self"] (kU K C CS CL):=by
 have S:=ya
 refine cE D S (fun vs H Q E h=>?_) (fun f cdv A outer s H vs Q E hr h=>?_)
 ·obtain ⟨d,gs,rfl,_⟩:=h
  rfl
 obtain ⟨d,gs,rfl,⟨⟨dx,hp⟩,hl,hG,⟨⟨dy,tr,ms,hst,_,_⟩,⟨dz,hsh⟩,hsn,_⟩⟩,hok,q⟩:=h
 refine ⟨_,(ao (aB (aH lZ (hr.mono (by first | decide | omega)) NE.pass (aa (aQ (aQ (aQ (pv 0) rfl) rfl) rfl) (aa (aQ (pv 0) rfl) af))))),?_⟩
 try dsimp only [aZ]
 walk_at "go"
 refine ⟨d.p,CL,dx,_,_,rfl,hp,SC.cl,SC.n1,xg _ _,?_⟩
 walk_at "go"
 refine ⟨d.ps,CS,dy,_,_,rfl,hst,SS.cl,SS.n1,fD _ _ _ _ _,?_⟩
 walk_at "go"
 refine ⟨d.sp,C,dz,_,_,rfl,hsh,SH.cl,SH.ns,qU _ _,?_⟩
 walk_at "go"
 refine ⟨d.p,CL,dx,_,_,rfl,hp,SC.cl,SC.n2,iz _ _,?_⟩
 walk_at "go"
 have:=hsn.s1
 have:=hsn.s2
 exact ⟨d.s,d.l,gs,rfl,by omega,by omega,SqL.of hl,hG,hok,q⟩
theorem EC {ps l:Addr}:(ldF ps l).lookup ("slot_and_first" : Str)=none:=iO (by decide +kernel) (by decide +kernel)
theorem BF {ps l:Addr}:(ldF ps l).lookup ("moments_free" : Str)=none:=iO (by decide +kernel) (by decide +kernel)
theorem uA:aq ["self", "slot"] ["self", "slot"] (aj (inClass (top 68) 3)):=by walk_at "s"
def nE (K:PySem.W.Frag) (C CS CL:Addr):Sp:=fun vs H Q _=>∃ (d:Ld) (gs:List Gr) (j:Nat),vs=[.ref d.p,.int j]∧cM K C CS CL H d gs∧dh gs d.s∧j < d.s∧∀ H',aI H H'→Q (.int (eL gs j 0)) H'
theorem uS (D:bV K CL "free_at" "Lender.free_at" (inClass (top 68) 3) ["self", "slot"]) (SC:LdC K CL) (NE:br CX) (cD:bw P w K mg base CX CL "moments_free" 3 ["self"] (kU K C CS CL)):bw P w K mg base CX CL "free_at" 4 ["self", "slot"] (nE K C CS CL):=by
 have S:=uA
 refine cE D S (fun vs H Q E h=>?_) (fun f cdv A outer s H vs Q E hr h=>?_)
 ·obtain ⟨d,gs,j,rfl,_⟩:=h
  rfl
 obtain ⟨d,gs,j,rfl,hd,hok,hj,q⟩:=h
 obtain ⟨⟨dx,hp⟩,_⟩:=id hd
 refine ⟨_,(ao (aB (ay bH (cV cD (hr.mono (by first | decide | omega)) NE.pass (pv 0)) (pv 1) (fun _ _=>rfl)))),?_⟩
 try dsimp only [aZ]
 walk_at "go"
 refine aV hp BF ?_
 walk_at "go"
 refine ⟨d,gs,rfl,hd,hok,fun m H1 nm hm s1=>?_⟩
 walk_at "go"
 refine fq (SqL.of hm) (cS (by rw [Nb,dN hj];rfl)) ?_
 exact q _ s1
theorem Ao:aq ["self", "least", "firsts", "first"] ["self", "least"] (aj (inClass (top 68) 4)):=by walk_at "s"
def wC (K:PySem.W.Frag) (C CS CL:Addr):Sp:=fun vs H Q _=>∃ (d:Ld) (gs:List Gr) (b:Int),vs=[.ref d.p,.int b]∧cM K C CS CL H d gs∧dh gs d.s∧0≤b∧∀ t x y H',Nx (decide (("apart" : Str)∈d.ws)) gs d.s b x y→H' t=some (.tup [.int x,.int y])→aI H H'→Q (.ref t) H'
theorem Be (D:bV K CL "slot_and_first" "Lender.slot_and_first" (inClass (top 68) 4) ["self", "least"]) (SC:LdC K CL) (SS:StC K CS) (SH:ShC K C) (BT:Bt mg) (NE:br CX) (cz:Cal P w K mg base CX "has_rule" 1 ["settings", "word"] (kX K CS)) (cD:bw P w K mg base CX CL "moments_free" 3 ["self"] (kU K C CS CL)):bw P w K mg base CX CL "slot_and_first" 4 ["self", "least"] (wC K C CS CL):=by
 have S:=Ao
 refine cE D S (fun vs H Q E h=>?_) (fun f cdv A outer s H vs Q E hr h=>?_)
 ·obtain ⟨d,gs,b,rfl,_⟩:=h
  rfl
 obtain ⟨d,gs,b,rfl,hd,hok,hb,q⟩:=h
 obtain ⟨⟨dx,hp⟩,hl,hG,⟨hst,⟨dz,hsh⟩,hsn,_⟩⟩:=id hd
 obtain ⟨dy,tr,ms,hst1,_,_⟩:=id hst
 have hs0:=hsn.s1
 have hs1:=hsn.s2
 refine ⟨_,(ak (bf (dj (cj (aH cz (hr.mono (by first | decide | omega)) NE.pass (aa (aQ (pv 0) rfl) (aa bB af))))) (ao (aB (bA (aa (aP c8 (aX gp rfl BT.len L3.dg (aa (aQ (pv 0) rfl) af)) (aQ (aQ (aQ (pv 0) rfl) rfl) rfl)) (aa (pv 1) af))))) aJ)
   (ak (jd (i:=2) (g:=(bD 0)) rfl S.nd rfl (by first | exact Or.inl rfl | exact Or.inr rfl) (b8 (cV cD (hr.mono (by first | decide | omega)) NE.pass (pv 0))) (eZ (own:=["moment"]) (cap:=[1]) (aj (inClass (top 68) 4)).names ["self", "least", "firsts", "first"] rfl rfl rfl (by decide +kernel)) (fun _ _ _ _=>(bu (i:=0) (show (gq ["self", "least", "firsts", "first"] ["moment"] [1]).Nodup by decide +kernel) rfl (by first | exact Or.inl rfl | exact Or.inr rfl))) (fun _ _ _ _=>eS) (fun _ _ _ _=>(aX (j8 rfl) rfl BT.max L3.ef (aa (pv 0) (aa (pv 1) af)))) (by with_unfolding_all rfl))
   (ak (aM (i:=3) S.nd rfl (by first | exact Or.inl rfl | exact Or.inr rfl) (aX (Jf rfl) rfl BT.min L3.l7 (aa (pv 2) af)))
   (ao (aB (bA (aa (ly PySem.F.plainAttrs_list PySem.F.slot_list_index PySem.F.type_list_index yC (pv 2) (aa (pv 3) af)) (aa (pv 3) af)))))))),?_⟩
 try dsimp only [aZ]
 walk_at "go"
 refine ⟨d.p,CL,dx,_,_,rfl,hp,SC.cl,SC.n1,xg _ _,?_⟩
 walk_at "go"
 refine ⟨d.ps,_,_,_,_,_, "apart",rfl,hst,?_⟩
 walk_at "go"
 unfold Nx at q
 refine B6 (fun ap=>?_) (fun ap=>?_)
 ·rw [ap] at q
  walk_at "go"
  refine aV hp BF ?_
  walk_at "go"
  refine ⟨d,gs,rfl,hd,hok,fun m H1 nm hm s1=>?_⟩
  walk_at "go"
  refine cB (SqL.of hm) ?_
  have hml:((mfr gs d.s 0).map V.int).length=d.s:=by rw [Nh,dc]
  refine dR ((mfr gs d.s 0).map V.int) (fun i ys Hx=>ys=((mfr gs d.s b).take i).map V.int∧Hx=H1) ⟨rfl,rfl⟩ (fun i ys Hx hi ⟨e,e2⟩=>⟨e2▸SqL.of hm,by
   rw [e,Nh,Nf,dc]
   exact Nr (k7 (by omega))⟩) ?_ ?_
  ·rintro i v ys H2 hv ⟨rfl,rfl⟩
   have hi:i < d.s:=by rw [← hml];exact (List.getElem?_eq_some_iff.mp hv).1
   obtain rfl:v = .int (eL gs i 0):=by
    rw [Nb,dN hi] at hv
    exact (Nm hv).symm
   try dsimp only [bD]
   walk_at "go"
   refine ⟨?_,rfl⟩
   rw [take_snoc (dN hi),Nj,Cm gs i hb];rfl
  ·rintro ys H2 ⟨rfl,rfl⟩ lf nlf
   rw [hml,List.take_of_length_le (by rw [dc];exact NB _)]
   have s2:=b7 nlf (HO.lst ((mfr gs d.s b).map V.int))
   have hlf:(upd H2 lf (.lst ((mfr gs d.s b).map V.int))) lf=some (.lst ((mfr gs d.s b).map V.int)):=aE
   generalize upd H2 lf (.lst ((mfr gs d.s b).map V.int))=H3 at *
   walk_at "go"
   refine IA (SqL.of hlf) (by rw [dc];omega) fun M hM hmin=>?_
   have L:=dP hlf
   walk_at "go"
   obtain ⟨j,hj,hjm,hjf⟩:∃ j:Nat,j < d.s∧eL gs j b=M∧∀ k:Nat,k < j→eL gs k b≠M:=zc (n:=d.s) (f:=fun k:Nat=>eL gs k b) (by
    obtain ⟨k,hk,e⟩:=M5 hM
    rw [dc] at hk
    refine ⟨k,hk,?_⟩
    have:=dN (gs:=gs) (b:=b) hk
    rw [MT (by rw [dc];exact hk),e] at this
    exact (Nm this).symm)
   have hle:∀ k:Nat,k < d.s→M≤eL gs k b:=fun k hk=>hmin _ (M0 (dN hk))
   refine ⟨lf,mfr gs d.s b,M,j,rfl,rfl,L.eo .head,by rw [dc];omega,by rw [dN hj,hjm],fun k hk=>by rw [dN (by omega)];exact fun z=>hjf k hk (Nm z),?_⟩
   walk_at "go"
   refine q _ _ _ _ ?_ (L'.tup (by walk_at "mem")) ?_
   ·rw [if_pos rfl]
    exact ⟨j,⟨hj,fun k hk=>by rw [hjm];exact hle k hk,fun k hk=>by
     have h1:=hle k (by omega)
     have h2:=hjf k hk
     rw [hjm];omega⟩,rfl,hjm.symm⟩
   ·have f1:=L'.chg (fun xs z=>by rw [hlf] at z;cases z)
    have nH:H lf=none:=bW s1 nlf
    exact fun x o e=>f1.oth x o (s2 _ _ (s1 _ _ e)) (fun z=>by rw [z,nH] at e;cases e)
 ·rw [ap] at q
  have L:=Led.start H (fun _=>False)
  walk_at "go"
  refine ⟨d.p,CL,dx,_,_,rfl,hp,SC.cl,SC.n2,iz _ _,?_⟩
  walk_at "go"
  refine dQ (SqL.of hl) ?_
  walk_at "go"
  refine ⟨d.p,CL,dx,_,_,rfl,hp,SC.cl,SC.n1,xg _ _,?_⟩
  walk_at "go"
  refine ⟨d.ps,CS,dy,_,_,rfl,hst1,SS.cl,SS.n1,fD _ _ _ _ _,?_⟩
  walk_at "go"
  refine ⟨d.sp,C,dz,_,_,rfl,hsh,SH.cl,SH.ns,qU _ _,?_⟩
  walk_at "go"
  refine q _ _ _ _ ?_ (L'.tup (by walk_at "mem")) L'.same
  rw [if_neg M8,eK]
  exact ⟨rfl,rfl⟩
abbrev iN:Int:=1000000000000000000000000000000
theorem DC:aq ["self", "hand", "least", "start", "end", "grant", "area"] ["self", "hand", "least"] (aj (inClass (top 68) 5)):=by walk_at "s"
def Ag (K:PySem.W.Frag) (C CS CL CN:Addr):Sp:=fun vs H Q E=>∃ (d:Ld) (gs:List Gr) (nm:Str) (b:Int),vs=[.ref d.p,.str nm,.int b]∧cM K C CS CL H d gs∧dh gs d.s∧0≤b ∧
 (∀ x y,Nx (decide (("apart" : Str)∈d.ws)) gs d.s b x y→iN < y+d.term→∀ H',aI H H'→E (.ref CN) none H') ∧
 (∀ x y,Nx (decide (("apart" : Str)∈d.ws)) gs d.s b x y→¬ iN < y+d.term→∀ g ar t H',cM K C CS CL H' d (gs++[⟨g,ar,gs.length+1,nm,x,y,y+d.term⟩])→H' t=some (.tup [.int (gs.length+1),.ref ar])→Chg d.l H H'→Q (.ref t) H')
theorem El (D:bV K CL "lend" "Lender.lend" (inClass (top 68) 5) ["self", "hand", "least"]) (SC:LdC K CL) (SS:StC K CS) (BT:Bt mg) (NE:br (CX1 P w)) (gK:mG K mg "NoRoom" CN) (vz:GlV mg "LAST" (.int 1000000000000000000000000000000)) (fP:bw P w K mg base (CX1 P w) CL "slot_and_first" 4 ["self", "least"] (wC K C CS CL)):bw P w K mg base (CX1 P w) CL "lend" 5 ["self", "hand", "least"] (Ag K C CS CL CN):=by
 have S:=DC
 refine cG D S (fun vs H Q E h=>?_) (fun f cdv A outer s H vs Q E hr h=>?_)
 ·obtain ⟨d,gs,nm,b,rfl,_⟩:=h
  rfl
 obtain ⟨d,gs,nm,b,rfl,hd,hok,hb,qe,q⟩:=h
 obtain ⟨⟨dx,hp⟩,hl,hG,⟨hst,⟨dz,hsh⟩,hsn,_⟩⟩:=id hd
 obtain ⟨dy,tr,ms,hst1,_,_⟩:=id hst
 have hlen:=hok.len
 refine ⟨_,(ak (aM (i:=3) S.nd rfl (by first | exact Or.inl rfl | exact Or.inr rfl) (eT fP (hr.mono (by first | decide | omega)) NE.pass (pv 0) (aa (pv 2) af)))
   (ak (aM (i:=4) S.nd rfl (by first | exact Or.inl rfl | exact Or.inr rfl) (aP bM (ay au (pv 3) ai (fun _ _=>rfl)) (aQ (aQ (pv 0) rfl) rfl)))
   (ak (bf (aK jg (pv 4) (yl vz) (aO _)) (ao (fF gK rfl aL (aa bB af))) aJ)
   (ak (aM (i:=5) S.nd rfl (by first | exact Or.inl rfl | exact Or.inr rfl) (aP bM (aX gp rfl BT.len L3.dg (aa (aQ (pv 0) rfl) af)) ai))
   (ak (aM (i:=6) S.nd rfl (by first | exact Or.inl rfl | exact Or.inr rfl) (bA (aa (ay au (pv 3) ai (fun _ _=>rfl)) (aa (ay au (pv 3) ai (fun _ _=>rfl)) (aa (pv 4) af)))))
   (ak (bC (ly PySem.F.plainAttrs_list PySem.F.slot_list_append PySem.F.type_list_append gY (aQ (pv 0) rfl) (aa (bA (aa (pv 5) (aa (pv 1) (aa (pv 6) af)))) af)))
   (ao (aB (bA (aa (pv 5) (aa (pv 6) af))))))))))),?_⟩
 try dsimp only [aZ]
 walk_at "go"
 refine aV hp EC ?_
 walk_at "go"
 refine ⟨d,gs,b,rfl,hd,hok,hb,fun t x y H1 hn ht s1=>?_⟩
 have hl1:=s1 _ _ hl
 have L:=(dP hl1).more (aS t [.int x,.int y]) ht
 walk_at "go"
 refine ⟨d.p,CL,dx,_,_,rfl,s1 _ _ hp,SC.cl,SC.n1,xg _ _,?_⟩
 walk_at "go"
 refine ⟨d.ps,CS,dy,_,_,rfl,s1 _ _ hst1,SS.cl,SS.n4,zZ _ _ _ _ _,?_⟩
 walk_at "go"
 refine bF (fun c1=>?_) (fun c1=>?_)
 ·walk_at "go"
  exact qe x y hn c1 H1 s1
 walk_at "go"
 refine ⟨d.p,CL,dx,_,_,rfl,s1 _ _ hp,SC.cl,SC.n2,iz _ _,?_⟩
 walk_at "go"
 rename_i sA
 obtain ⟨ar,ear⟩:∃ z,z=t':=⟨_,rfl⟩
 subst ear
 have hpA:=L'.fr _ _ (s1 _ _ hp) (fun z=>by have e:=s1 _ _ hp;rw [z,hl1] at e;cases e)
 refine ⟨d.p,CL,dx,_,_,rfl,hpA,SC.cl,SC.n2,iz _ _,?_⟩
 walk_at "go"
 obtain ⟨g,eg⟩:∃ z,z=t':=⟨_,rfl⟩
 subst eg
 rw [eK] at L'
 rw [eK]
 refine sI L' .head (by rw [eK];exact small1000 (by omega)) fun HA LA _=>?_
 walk_at "go"
 have ch:=L'.chg (fun xs z=>by rw [hl1] at z;cases z)
 refine q x y hn c1 g ar _ _ ((hd.same s1).put ch (by rw [BR];exact L'.eo .head) (di.snoc ((hG.same s1).ts ch.ts) ⟨L'.tup (by walk_at "mem"),L'.tup (by walk_at "mem")⟩)) (L'.tup (by walk_at "mem")) ⟨fun q o e n=>ch.oth q o (s1 _ _ e) n,fun q xs e=>ch.ts q xs (s1 _ _ e)⟩
end
section
variable {P:Program} {w:World} {K:PySem.W.Frag} {mg:Str→Option Value} {base:Heap} {CX:CXT} {C CS CL CN:Addr}
def w4:List Str:=["ahead", "ends", "once", "spoken"]
theorem Gy {p:Addr} {xs:List V} {lo hi:Option Int} {H:Hp} {Q:VK} (s:SqL K H p xs) (h:∀ b H',H b=none→H' b=some (.lst (sU xs lo hi))→aI H H'→Q (.ref b) H'):Kd K (.ref p) lo hi H Q:=
 ⟨p,xs,rfl,s,fun b nb=>h b _ nb aE (cI nb)⟩
end
end Law
namespace L4
open PySem PySem.Spec PyProof.Rows L2 L3
section
variable {td ty tx tv:TE} {σ : St} {H:Hp} {Q:VK} {D:Ends}
theorem Fb (h:∀ p,H p=none→Q (.ref p) (upd H p (.dK []))):zR σ H Q:=h
theorem B9 (h:tv σ H fun v H1=>td σ H1 fun x H2=>ty σ H2 fun y H3=>∃ a H4,x = .ref a∧wg H3 a y v H4∧D.nx σ H4):AM td ty tv D σ H:=h
end
end L4
namespace Law
open PySem PySem.Spec PyProof.Rows L2 L3 L4
structure MK (K:PySem.W.Frag) (CN CR dA dG dO dT dW:Addr):Prop where
 gN:vU K CN
 mN:PySem.W.exmOne K (.ref CN) (.ref CN)=some true
 iR:PySem.W.kitOne K (.ref CN) (.ref CR)=some true
 iT:PySem.W.kitAny K (.ref CN) ([dA,dG,dO,dT,dW].map Value.ref)=some false
theorem Hr {ps l:Addr}:(ldF ps l).lookup ("lend" : Str)=none:=iO (by decide +kernel) (by decide +kernel)
theorem BE {ps l:Addr}:(ldF ps l).lookup ("free_at" : Str)=none:=iO (by decide +kernel) (by decide +kernel)
theorem Nx.lt {apart:Bool} {gs:List Gr} {slots:Nat} {b s f:Int} (h:Nx apart gs slots b s f) (h1 : 1≤slots) : 0≤s∧s < slots:=by
 unfold Nx at h
 cases apart with
 | true=>
  rw [if_pos rfl] at h
  obtain ⟨i,k,rfl,rfl⟩:=h
  have:=k.lt
  omega
 | false=>
  rw [if_neg M8] at h
  rw [h.1]
  exact ⟨Int.emod_nonneg _ (by omega),Int.emod_lt_of_pos _ (by omega)⟩
structure Fre (gs:List Gr) (n:Int) (en:Int) (i:Nat) (x:Gr):Prop where
 n_:n=(i:Int)+1
 at_:gs[i]?=some x
 last:∀ (k:Nat) (y:Gr),i < k→gs[k]?=some y→y.sl≠x.sl
 e_:x.e=eL gs x.sl 0
 lo:x.f≤en
 hi:en < x.e
def JK (gs:List Gr) (n en:Int):Prop:=∃ i x,Fre gs n en i x
section
variable {P:Program} {w:World} {K:PySem.W.Frag} {mg:Str→Option Value} {base:Heap} {CX:CXT} {C CS CL CN:Addr}
theorem Hu {ps l:Addr}:(ldF ps l).lookup ("can_free" : Str)=none:=iO (by decide +kernel) (by decide +kernel)
theorem DJ:aq ["self", "grant", "end", "area"] ["self", "grant", "end"] (aj (inClass (top 68) 6)):=by walk_at "s"
def Ai (K:PySem.W.Frag) (C CS CL:Addr):Sp:=fun vs H Q _=>∃ (d:Ld) (gs:List Gr) (n en:Int),vs=[.ref d.p,.int n,.int en]∧cM K C CS CL H d gs∧dh gs d.s∧∀ (b:Bool) H',(b=true↔JK gs n en)→aI H H'→Q (.bl b) H'
theorem any_map {α : Type} (p : α→Bool) (xs:List α):(xs.map p).any id=xs.any p:=by rw [List.any_map];rfl
theorem xD {gs:List Gr} {i:Nat} (h:i≤gs.length):sU (grV gs) none (some (i:Int))=grV (gs.take i)∧sU (grV gs) (some (i:Int)) none=grV (gs.drop i):=by
 unfold sU grV
 constructor
 ·rw [HT.rA,HT.wL,Nh,Nat.min_eq_left h,List.drop_zero,Nat.sub_zero,List.map_take]
 ·rw [HT.rA,HT.wL,Nh,Nat.min_eq_left h,List.map_drop]
  exact List.take_of_length_le (by rw [List.length_drop,Nh];exact NB _)
theorem Et (D:bV K CL "can_free" "Lender.can_free" (inClass (top 68) 6) ["self", "grant", "end"]) (SC:LdC K CL) (BT:Bt mg) (NE:br CX) (cK:Cal P w K mg base CX "slot_of" 1 ["area"] qS) (cX:Cal P w K mg base CX "first_of" 1 ["area"] qR) (cQ:Cal P w K mg base CX "end_of" 1 ["area"] nM) (jS:bw P w K mg base CX CL "free_at" 4 ["self", "slot"] (nE K C CS CL)):bw P w K mg base CX CL "can_free" 5 ["self", "grant", "end"] (Ai K C CS CL):=by
 have S:=DJ
 refine cE D S (fun vs H Q E h=>?_) (fun f cdv A outer s H vs Q E hr h=>?_)
 ·obtain ⟨d,gs,n,en,rfl,_⟩:=h
  rfl
 obtain ⟨d,gs,n,en,rfl,hd,hok,q⟩:=h
 obtain ⟨⟨dx,hp⟩,hl,hG,_⟩:=id hd
 have h63:=hok.len
 have no:∀ (i:Nat) (x:Gr),n=(i:Int)+1→gs[i]?=some x→i < gs.length:=fun i x _ h=>(List.getElem?_eq_some_iff.mp h).1
 refine ⟨_,(ak (bf (PW.pt (wO (aK fG (pv 1) ai (aO _)) (pF (aK jg (pv 1) (aX gp rfl BT.len L3.dg (aa (aQ (pv 0) rfl) af)) (aO _))))) (ao (aB eu)) aJ)
   (ak (aM (i:=3) S.nd rfl (by first | exact Or.inl rfl | exact Or.inr rfl) (ay au (ay bH (aQ (pv 0) rfl) (aP gD (pv 1) ai) (fun _ _=>rfl)) ai (fun _ _=>rfl)))
   (ak (bf (cj (aX (sZ rfl) rfl BT.any L3.Cw (aa (fX (g:=(bD 0)) rfl (b8 (rH wJ (aQ (pv 0) rfl) (wQ (pv 1)) wR)) (eZ (own:=["later"]) (cap:=[3]) (aj (inClass (top 68) 6)).names ["self", "grant", "end", "area"] rfl rfl rfl (by decide +kernel)) (fun _ _ _ _=>(bu (i:=0) (show (gq ["self", "grant", "end", "area"] ["later"] [3]).Nodup by decide +kernel) rfl (by first | exact Or.inl rfl | exact Or.inr rfl))) (fun _ _ _ _=>eS) (fun _ _ _ _=>(cJ bZ (aH cK (hr.mono (by first | decide | omega)) NE.pass (aa (ay (g4 (K:=K) rfl) (pv 0) ai (fun _ _=>rfl)) af)) (aH cK (hr.mono (by first | decide | omega)) NE.pass (aa (pv 1) af)) (aO _)))) af))) (ao (aB eu)) aJ)
   (ak (bf (aK Gn (aH cQ (hr.mono (by first | decide | omega)) NE.pass (aa (pv 3) af)) (eT jS (hr.mono (by first | decide | omega)) NE.pass (pv 0) (aa (aH cK (hr.mono (by first | decide | omega)) NE.pass (aa (pv 3) af)) af)) (aO _)) (ao (aB eu)) aJ)
   (ao (aB (iI (cJ nR (aH cX (hr.mono (by first | decide | omega)) NE.pass (aa (pv 3) af)) (pv 2) (aO _)) (iH (cJ fG (pv 2) (aH cQ (hr.mono (by first | decide | omega)) NE.pass (aa (pv 3) af)) (aO _)))))))))),?_⟩
 try dsimp only [aZ]
 walk_at "go"
 refine bF (fun c1=>?_) (fun c1=>?_)
 ·walk_at "go"
  refine q false _ ⟨(fun z=>nomatch z),fun ⟨i,x,r⟩=>?_⟩ (aI.refl _)
  have:=r.n_;omega
 walk_at "go"
 refine ⟨d.p,CL,dx,_,_,rfl,hp,SC.cl,SC.n2,iz _ _,?_⟩
 walk_at "go"
 refine dQ (SqL.of hl) ?_
 rw [eK]
 walk_at "go"
 refine bF (fun c2=>?_) (fun c2=>?_)
 ·walk_at "go"
  refine q false _ ⟨(fun z=>nomatch z),fun ⟨i,x,r⟩=>?_⟩ (aI.refl _)
  have:=no i x r.n_ r.at_
  have:=r.n_;omega
 obtain ⟨i,rfl⟩:∃ i:Nat,n=(i:Int)+1:=by
  obtain ⟨i,e⟩:=MU (show 0≤n - 1 by omega)
  exact ⟨i,by omega⟩
 obtain ⟨x,hx⟩:∃ x,gs[i]?=some x:=⟨_,MT (by omega)⟩
 have hxm:=M0 hx
 have hgx:=hG x hxm
 have hsl:=hok.sl x hxm
 have one:∀ (j:Nat) (y:Gr),(i:Int)+1=(j:Int)+1→gs[j]?=some y→y=x∧j=i:=fun j y e h=>by
  obtain rfl:j=i:=by omega
  rw [hx] at h;cases h;exact ⟨rfl,rfl⟩
 have e1:((i:Int)+1 - 1)=(i:Int):=by omega
 have L:=((Led.start H (fun _=>False)).more (aS x.g [_,_,_]) hgx.1).more (aS x.ar [_,_,_]) hgx.2
 walk_at "go"
 refine ⟨d.p,CL,dx,_,_,rfl,hp,SC.cl,SC.n2,iz _ _,?_⟩
 walk_at "go"
 rw [e1]
 refine fq (SqL.of hl) (cS (by unfold grV;rw [Nb,hx];rfl)) ?_
 walk_at "go"
 refine ⟨d.p,CL,dx,_,_,rfl,hp,SC.cl,SC.n2,iz _ _,?_⟩
 walk_at "go"
 refine Gy (SqL.of hl) fun b1 H1 n1 eb1 s1=>?_
 rw [show ((i:Int)+1)=((i+1:Nat):Int) by omega,(xD (gs:=gs) (i:=i+1) (by omega)).2] at eb1
 walk_at "go"
 refine cB (SqL.of eb1) ?_
 refine dR (grV (gs.drop (i+1))) (fun k ys Hx=>ys=(((gs.drop (i+1)).take k).map fun y=>decide (y.sl=x.sl)).map V.bl∧Hx=H1) ⟨rfl,rfl⟩ (fun k ys Hx hk ⟨e,e2⟩=>⟨e2▸SqL.of eb1,by
  rw [e,Nh,Nh,Nf,List.length_drop]
  exact Nr (small1000 (by omega))⟩) ?_ ?_
 ·rintro k v ys H2 hv ⟨rfl,rfl⟩
  obtain ⟨y,hyk,rfl⟩:=jo hv
  have hy:=(hG y (List.mem_of_mem_drop (M0 hyk))).same s1
  have L:=(Led.start H2 (fun _=>False)).more (aS y.g [_,_,_]) hy.1
  try dsimp only [bD]
  walk_at "go"
  refine ⟨y.ar,_,_,_,rfl,hy.2,?_⟩
  walk_at "go"
  refine ⟨x.ar,_,_,_,rfl,s1 _ _ hgx.2,?_⟩
  walk_at "go"
  exact ⟨by rw [take_snoc hyk,Nj,Nj];rfl,rfl⟩
 ·rintro ys H2 ⟨rfl,rfl⟩ lc nlc
  rw [eK,Ng]
  have s2:=b7 nlc (HO.lst (((gs.drop (i+1)).map fun y=>decide (y.sl=x.sl)).map V.bl))
  have hlc:(upd H2 lc (.lst (((gs.drop (i+1)).map fun y=>decide (y.sl=x.sl)).map V.bl))) lc=some (.lst (((gs.drop (i+1)).map fun y=>decide (y.sl=x.sl)).map V.bl)):=aE
  generalize upd H2 lc (.lst (((gs.drop (i+1)).map fun y=>decide (y.sl=x.sl)).map V.bl))=H3 at *
  walk_at "go"
  refine Ca (bs:=(gs.drop (i+1)).map fun y=>decide (y.sl=x.sl)) (SqL.of hlc) ?_
  rw [any_map]
  have s12:=s1.trans s2
  walk_at "go"
  refine K8 (fun c3=>?_) (fun c3=>?_)
  ·walk_at "go"
   refine q false _ ⟨(fun z=>nomatch z),fun ⟨j,y,r⟩=>?_⟩ s12
   obtain ⟨rfl,rfl⟩:=one j y r.n_ r.at_
   obtain ⟨u,hu,hu2⟩:=List.any_eq_true.mp c3
   obtain ⟨k,hk,rfl⟩:=M5 hu
   rw [List.getElem_drop] at hu2
   exact absurd (of_decide_eq_true hu2) (r.last (j+1+k) _ (by omega) (MT _))
  ·have KL:∀ (k:Nat) (y:Gr),i < k→gs[k]?=some y→y.sl≠x.sl:=fun k y hk hy z=>by
    have:(gs.drop (i+1)).any (fun y=>decide (y.sl=x.sl))=true:=by
     refine List.any_eq_true.mpr ⟨y,?_,Np z⟩
     refine M0 (i:=k - (i+1)) ?_
     rw [List.getElem?_drop,show i+1+(k - (i+1))=k by omega];exact hy
    rw [c3] at this;cases this
   walk_at "go"
   refine ⟨x.ar,_,_,_,rfl,s12 _ _ hgx.2,?_⟩
   walk_at "go"
   refine aV (s12 _ _ hp) BE ?_
   walk_at "go"
   refine ⟨x.ar,_,_,_,rfl,s12 _ _ hgx.2,?_⟩
   walk_at "go"
   obtain ⟨j,hj⟩:=MU hsl.1
   rw [hj]
   refine ⟨d,gs,j,rfl,hd.same s12,hok,by omega,fun H4 s4=>?_⟩
   rw [← hj]
   have s14:=s12.trans s4
   walk_at "go"
   refine GC (fun c4=>?_) (fun c4=>?_)
   ·walk_at "go"
    refine ⟨x.ar,_,_,_,rfl,s14 _ _ hgx.2,?_⟩
    walk_at "go"
    by_cases c5:x.f≤en
    ·rw [if_pos (Np c5)]
     walk_at "go"
     refine ⟨x.ar,_,_,_,rfl,s14 _ _ hgx.2,?_⟩
     walk_at "go"
     refine q _ _ ⟨fun z=>⟨i,x,rfl,hx,KL,c4,c5,of_decide_eq_true z⟩,fun ⟨k,y,r⟩=>?_⟩ s14
     obtain ⟨rfl,rfl⟩:=one k y r.n_ r.at_
     exact Np r.hi
    ·rw [if_neg (by simpa using c5)]
     walk_at "go"
     refine q false _ ⟨(fun z=>nomatch z),fun ⟨k,y,r⟩=>?_⟩ s14
     obtain ⟨rfl,rfl⟩:=one k y r.n_ r.at_
     exact absurd r.lo c5
   ·walk_at "go"
    refine q false _ ⟨(fun z=>nomatch z),fun ⟨k,y,r⟩=>?_⟩ s14
    obtain ⟨rfl,rfl⟩:=one k y r.n_ r.at_
    exact absurd r.e_ c4
theorem EW (gs:List Gr) (i:Nat) (x:Gr):grV (gs.set i x)=(grV gs).set i (.ref x.g):=by unfold grV;rw [List.map_set]
theorem di.set {H:Hp} {gs:List Gr} {x:Gr} {i:Nat} (h:di H gs) (k:qp H x):di H (gs.set i x):=fun y hy=>(MQ hy).elim (h y) fun z=>z▸k
theorem DH:aq ["self", "grant", "end", "kept"] ["self", "grant", "end"] (aj (inClass (top 68) 7)):=by walk_at "s"
def Ah (K:PySem.W.Frag) (C CS CL:Addr):Sp:=fun vs H Q _=>∃ (d:Ld) (gs:List Gr) (n en:Int),vs=[.ref d.p,.int n,.int en]∧cM K C CS CL H d gs∧dh gs d.s∧(¬ JK gs n en→∀ H',aI H H'→Q (.bl false) H') ∧
 (∀ i x,Fre gs n en i x→∀ g ar H',cM K C CS CL H' d (gs.set i ⟨g,ar,n,x.nm,x.sl,x.f,en⟩)→Chg d.l H H'→Q (.bl true) H')
theorem Er (D:bV K CL "free" "Lender.free" (inClass (top 68) 7) ["self", "grant", "end"]) (SC:LdC K CL) (BT:Bt mg) (NE:br CX) (iW:Cal P w K mg base CX "ended_at" 2 ["area", "end"] oX) (jA:bw P w K mg base CX CL "can_free" 5 ["self", "grant", "end"] (Ai K C CS CL)):bw P w K mg base CX CL "free" 6 ["self", "grant", "end"] (Ah K C CS CL):=by
 have S:=DH
 refine cE D S (fun vs H Q E h=>?_) (fun f cdv A outer s H vs Q E hr h=>?_)
 ·obtain ⟨d,gs,n,en,rfl,_⟩:=h
  rfl
 obtain ⟨d,gs,n,en,rfl,hd,hok,q0,q⟩:=h
 obtain ⟨⟨dx,hp⟩,hl,hG,_⟩:=id hd
 refine ⟨_,(ak (bf (dj (cj (eT jA (hr.mono (by first | decide | omega)) NE.pass (pv 0) (aa (pv 1) (aa (pv 2) af))))) (ao (aB eu)) aJ)
   (ak (aM (i:=3) S.nd rfl (by first | exact Or.inl rfl | exact Or.inr rfl) (ay bH (aQ (pv 0) rfl) (aP gD (pv 1) ai) (fun _ _=>rfl)))
   (ak (fW (bA (aa (pv 1) (aa (ay au (pv 3) ai (fun _ _=>rfl)) (aa (aH iW (hr.mono (by first | decide | omega)) NE.pass (aa (ay au (pv 3) ai (fun _ _=>rfl)) (aa (pv 2) af))) af)))) (iG (aQ (pv 0) rfl) (aP gD (pv 1) ai) set_list))
   (ao (aB eu))))),?_⟩
 try dsimp only [aZ]
 walk_at "go"
 refine aV hp Hu ?_
 walk_at "go"
 refine ⟨d,gs,n,en,rfl,hd,hok,fun b H1 hb s1=>?_⟩
 walk_at "go"
 refine B6 (fun e=>?_) (fun e=>?_)
 ·obtain ⟨i,x,r⟩:=hb.mp e
  obtain rfl:=r.n_
  have hx:=r.at_
  have hgx:=(hG x (M0 hx)).same s1
  have hl1:=s1 _ _ hl
  have e1:((i:Int)+1 - 1)=(i:Int):=by omega
  have hi:=(List.getElem?_eq_some_iff.mp hx).1
  have L:=((dP hl1).more (aS x.g [_,_,_]) hgx.1).more (aS x.ar [_,_,_]) hgx.2
  walk_at "go"
  refine ⟨d.p,CL,dx,_,_,rfl,s1 _ _ hp,SC.cl,SC.n2,iz _ _,?_⟩
  walk_at "go"
  rw [e1]
  refine fq (SqL.of hl1) (cS (by unfold grV;rw [Nb,hx];rfl)) ?_
  walk_at "go"
  refine ⟨x.ar,x.sl,x.f,x.e,en,rfl,hgx.2,fun ar H2 har s2=>?_⟩
  have hl2:=s2 _ _ hl1
  clear L
  have L:=(dP hl2).more (aS ar [_,_,_]) har
  walk_at "go"
  obtain ⟨g,eg⟩:∃ z,z=t':=⟨_,rfl⟩
  subst eg
  have hpA:=L'.fr _ _ (s2 _ _ (s1 _ _ hp)) (fun z=>by have e:=s2 _ _ (s1 _ _ hp);rw [z,hl2] at e;cases e)
  refine ⟨d.p,CL,dx,_,_,rfl,hpA,SC.cl,SC.n2,iz _ _,?_⟩
  walk_at "go"
  rw [e1]
  refine Gz (j:=i) L' .head (xr (by rw [eK];exact hi)) fun HA LA _=>?_
  walk_at "go"
  have ch:=LA.chg (fun xs z=>by rw [hl2] at z;cases z)
  have hd2:=hd.same (s1.trans s2)
  refine q i x r g ar _ (hd2.put ch (by rw [EW];exact LA.eo .head) (di.set (hd2.2.2.1.ts ch.ts) ⟨LA.tup (by walk_at "mem"),LA.tup (by walk_at "mem")⟩)) ⟨fun q o e n=>ch.oth q o (s2 _ _ (s1 _ _ e)) n,fun q xs e=>ch.ts q xs (s2 _ _ (s1 _ _ e))⟩
 ·walk_at "go"
  exact q0 (fun z=>by rw [hb.mpr z] at e;cases e) H1 s1
end
def poF (l:Addr):List (Str×V):=[("posted",.ref l)]
structure PoC (K:PySem.W.Frag) (C:Addr):Prop where
 cl:Cls K C
 np:aY K C "posted"
def iX (C:Addr) (H:Hp) (p l:Addr) (xs:List V):Prop:=(∃ dx,H p=some (.ins C dx (poF l)))∧H l=some (.lst xs)
section
variable {P:Program} {w:World} {K:PySem.W.Frag} {mg:Str→Option Value} {base:Heap} {C CL CR:Addr}
theorem Ax:aq ["self"] ["self"] (aj (inClass (top 12) 0)):=by walk_at "s"
def uh (C:Addr):Sp:=fun vs H Q _=>∃ p dx,vs=[.ref p]∧H p=some (.ins C dx [])∧∀ l H',H l=none→H' p=some (.ins C dx (poF l))→H' l=some (.lst [])→(∀ q o,H q=some o→q≠p→H' q=some o)→Q .non H'
theorem Bm {CX:CXT} (D:nh K mg "Post" "Post.__init__" C (inClass (top 12) 0) ["self"]) (SC:PoC K C):Mak P w K mg base CX "Post" C 1 ["self"] (uh C):=by
 have S:=Ax
 walk_at "d"
 ·obtain ⟨p,dx,rfl,_⟩:=h
  rfl
 obtain ⟨p,dx,rfl,hp,q⟩:=h
 refine ⟨_,(ao (cU (pv 0) (bQ af) rfl)),?_⟩
 try dsimp only [aZ]
 have L:=Led.start H (fun _=>False)
 walk_at "go"
 have hp':=L'.same _ _ hp
 have np:p≠l':=fun z=>by rw [z,n'] at hp;cases hp
 refine ⟨p,C,dx,[],rfl,hp',SC.cl,SC.np,by decide,?_⟩
 refine q l' _ n' aE (by rw [aF (Ne.symm np)];exact L'.eo .head) fun x o h z=>by rw [aF z];exact L'.same _ _ h
theorem Av:aq ["self", "letter"] ["self", "letter"] (aj (inClass (top 12) 1)):=by walk_at "s"
def uf (C:Addr):Sp:=fun vs H Q _=>∃ (p l:Addr) (xs:List V) (v:V),vs=[.ref p,v]∧iX C H p l xs∧xs.length≤400∧∀ H',H' l=some (.lst (xs++[v]))→(∀ q o,H q=some o→q≠l→H' q=some o)→Q (.int (xs.length+1)) H'
theorem Bk {CX:CXT} (D:bV K C "send" "Post.send" (inClass (top 12) 1) ["self", "letter"]) (SC:PoC K C) (BT:Bt mg):bw P w K mg base CX C "send" 1 ["self", "letter"] (uf C):=by
 have S:=Av
 refine cE D S (fun vs H Q E h=>?_) (fun f cdv A outer s H vs Q E hr h=>?_)
 ·obtain ⟨p,l,xs,v,rfl,_⟩:=h
  rfl
 obtain ⟨p,l,xs,v,rfl,⟨⟨dx,hp⟩,hl⟩,hz,q⟩:=h
 refine ⟨_,(ak (bC (ly PySem.F.plainAttrs_list PySem.F.slot_list_append PySem.F.type_list_append gY (aQ (pv 0) rfl) (aa (pv 1) af)))
   (ao (aB (aX gp rfl BT.len L3.dg (aa (aQ (pv 0) rfl) af))))),?_⟩
 try dsimp only [aZ]
 have np:p≠l:=fun z=>by rw [z,hl] at hp;cases hp
 have L:=dP hl
 walk_at "go"
 refine ⟨p,C,dx,_,_,rfl,hp,SC.cl,SC.np,lk_hit,?_⟩
 walk_at "go"
 refine ⟨p,C,dx,_,_,rfl,L'.fr _ _ hp np,SC.cl,SC.np,lk_hit,?_⟩
 walk_at "go"
 have e:((xs++[v]).length:Int)=xs.length+1:=by rw [M6,MW];omega
 rw [e]
 exact q _ (L'.eo (by walk_at "put")) L'.fr
theorem Au:aq ["self"] ["self"] (aj (inClass (top 12) 3)):=by walk_at "s"
def ue (C:Addr):Sp:=fun vs H Q _=>∃ (p l:Addr) (xs:List V),vs=[.ref p]∧iX C H p l xs∧∀ b H',H b=none→H' b=some (.lst xs)→aI H H'→Q (.ref b) H'
theorem Bj {CX:CXT} (D:bV K C "sent" "Post.sent" (inClass (top 12) 3) ["self"]) (SC:PoC K C) (BT:Bt mg):bw P w K mg base CX C "sent" 1 ["self"] (ue C):=by
 have S:=Au
 refine cE D S (fun vs H Q E h=>?_) (fun f cdv A outer s H vs Q E hr h=>?_)
 ·obtain ⟨p,l,xs,rfl,_⟩:=h
  rfl
 obtain ⟨p,l,xs,rfl,⟨⟨dx,hp⟩,hl⟩,q⟩:=h
 refine ⟨_,(ao (aB (dm gJ rfl BT.list_ L3.iu (aa (aQ (pv 0) rfl) af)))),?_⟩
 try dsimp only [aZ]
 walk_at "go"
 refine ⟨p,C,dx,_,_,rfl,hp,SC.cl,SC.np,lk_hit,?_⟩
 walk_at "go"
 refine gF (Led.start H (fun _=>False)) (.inl (SqL.of hl)) fun b HB nb L sB=>?_
 walk_at "go"
 exact q b HB nb (L.eo .head) sB
theorem qY:aq ["self", "number"] ["self", "number"] (aj (inClass (top 10) 0)):=by walk_at "s"
theorem rM (D:qu K mg "NoLetter" "NoLetter.__init__" CL (inClass (top 10) 0) ["self", "number"]) (dZ:tO K mg "RiseError" CR) (EP:ng K CL "number"):tN P w K mg base "NoLetter" CL 1 ["self", "number"] (fS CL "number"):=by
 have S:=qY
 refine D.ok' S (fun vs H Q E h=>?_) (fun f cdv A outer s H vs Q E hr h=>?_)
 ·obtain ⟨x,v,rfl,_⟩:=h
  rfl
 obtain ⟨x,v,rfl,hx,q⟩:=h
 refine ⟨_,(ak (bC (lA dZ (aa (pv 0) (aa bB af))))
   (ao (pG (pv 0) (pv 1) rfl))),?_⟩
 try dsimp only [aZ]
 walk_at "go"
 refine lN hx D.ok ?_
 walk_at "go"
 exact vp hx EP fun d nd=>q d nd
theorem ux:aq ["self", "number"] ["self", "number"] (aj (inClass (top 12) 2)):=by walk_at "s"
def kT (C CL:Addr):Sp:=fun vs H Q E=>∃ (p l:Addr) (xs:List V) (n:Int),vs=[.ref p,.int n]∧iX C H p l xs ∧
 (∀ v,1≤n→n≤xs.length→xs[(n - 1).toNat]?=some v→Q v H)∧((n < 1∨xs.length < n)→∀ d H',aI H H'→H' d=some (.xd [("number",.int n)])→E (.ref CL) (some d) H')
theorem uP (D:bV K C "letter" "Post.letter" (inClass (top 12) 2) ["self", "number"]) (SC:PoC K C) (BT:Bt mg) (NE:br (CX1 P w)) (iY:tN P w K mg base "NoLetter" CL 1 ["self", "number"] (fS CL "number")):bw P w K mg base (CX1 P w) C "letter" 3 ["self", "number"] (kT C CL):=by
 have S:=ux
 refine cG D S (fun vs H Q E h=>?_) (fun f cdv A outer s H vs Q E hr h=>?_)
 ·obtain ⟨p,l,xs,n,rfl,_⟩:=h
  rfl
 obtain ⟨p,l,xs,n,rfl,⟨⟨dx,hp⟩,hl⟩,q1,q2⟩:=h
 refine ⟨_,(ak (bf (PW.pt (wO (aK fG (pv 1) ai (aO _)) (pF (aK jg (pv 1) (aX gp rfl BT.len L3.dg (aa (aQ (pv 0) rfl) af)) (aO _))))) (ao (jF iY (hr.mono (by first | decide | omega)) rfl aL (aa (pv 1) af))) aJ)
   (ao (aB (ay bH (aQ (pv 0) rfl) (aP gD (pv 1) ai) (fun _ _=>rfl))))),?_⟩
 try dsimp only [aZ]
 have L:=dP hl
 walk_at "go"
 refine bF (fun b1=>?_) (fun b1=>?_)
 ·walk_at "go"
  exact g5 fun d H' sm hd=>q2 (.inl b1) d H' sm hd
 walk_at "go"
 refine ⟨p,C,dx,_,_,rfl,hp,SC.cl,SC.np,lk_hit,?_⟩
 walk_at "go"
 refine bF (fun b2=>?_) (fun b2=>?_)
 ·walk_at "go"
  exact g5 fun d H' sm hd=>q2 (.inr b2) d H' sm hd
 walk_at "go"
 refine ⟨p,C,dx,_,_,rfl,hp,SC.cl,SC.np,lk_hit,?_⟩
 walk_at "go"
 obtain ⟨v,hv⟩:∃ v,xs[(n - 1).toNat]?=some v:=⟨_,MT (by omega)⟩
 refine fq (SqL.of hl) (i:=n - 1) (by have:=cS hv;rwa [show ((n - 1).toNat:Int)=n - 1 by omega] at this) ?_
 walk_at "go"
 exact q1 v (by omega) (by omega) hv
end
theorem wA:∀ {zs:List Str},(∀ z∈zs,z.length=1)→(zs.map (·.length)).sum=zs.length
 | [],_=>rfl
 | z::zs,h=>by
  rw [List.map_cons,List.sum_cons,h z M7,wA fun y hy=>h y (M3 _ hy),Nd]
  omega
theorem EG {H:Hp} {p q:Addr} {b:Int} {o:HO} (hp:bh H p b) (hq:H q=some o) (ne:p≠q):Led (fun x=>x=p∨x=q) H H [(p,bx b),(q,Eo o)] []:=
 ⟨fun x hx=>by
  rcases List.mem_cons.mp hx with rfl | hx
  ·exact hp.ob
  ·rw [List.mem_singleton.mp hx];exact ⟨o,hq,rfl⟩,by simp [ne],fun x hx=>.inl (by
  rcases List.mem_cons.mp hx with rfl | hx
  ·exact .inl rfl
  ·rw [List.mem_singleton.mp hx];exact .inr rfl),fun _ _ h _=>h,fun _ h=>by simp at h⟩
theorem zY {z:Str} {r:Int} (h0 : 0≤r) (h1:r < z.cps.toList.length):∃ c,atI z.cps.toList r=some c:=by
 obtain ⟨n,rfl⟩:=MU h0
 exact ⟨_,cS (MT (by omega))⟩
theorem join_ones:∀ l:List Nat,Txt.join ("" : Str) (l.map fun c=>(⟨#[c]⟩:Str))=⟨l.toArray⟩:=by
 intro l
 unfold Txt.join
 rw [StrLaws.glued_eq_join]
 induction l with
 | nil=>rfl
 | cons c r ih=>
  cases r with
  | nil=>rfl
  | cons d r=>
   show (⟨#[c]⟩:Str)++("" : Str)++Str.join "" (List.map (fun c=>(⟨#[c]⟩:Str)) (d::r))=_
   rw [ih,show (("" : Str))=Str.empty from rfl,Str.append_empty]
   show (⟨#[c]++(d::r).toArray⟩:Str)=⟨(c::d::r).toArray⟩
   simp
def abc:List Nat:=("abcdefghijklmnopqrstuvwxyz" : Str).cps.toList
theorem zv:abc.Nodup:=by unfold abc;decide +kernel
theorem xJ:abc.length=26:=by unfold abc;decide +kernel
theorem FN {r s:Int} (r0 : 0≤r) (r1:r < 26) (s0 : 0≤s) (s1:s < 26) (h:atI abc r=atI abc s):r=s:=by
 obtain ⟨m,rfl⟩:=MU r0
 obtain ⟨n,rfl⟩:=MU s0
 have hm:m < abc.length:=by rw [xJ];omega
 have hn:n < abc.length:=by rw [xJ];omega
 rw [cS (MT hm),cS (MT hn)] at h
 have e:=Nm h
 have nd:=List.pairwise_iff_getElem.mp zv
 rcases Nat.lt_trichotomy m n with z | z | z
 ·exact absurd e (nd m n hm hn z)
 ·rw [z]
 ·exact absurd e.symm (nd n m hn hm z)
structure NK (b:Bool) (k:Nat) (ba:Int) (m:Nat) (z:Str):Prop where
 one : 1≤z.cps.toList.length
 yes:b=true→z.cps.toList.length=m+1
 no:b=false→z.cps.toList[k]?=atI abc ((ba+5 * k+m) % 26)
theorem NK.inj {b:Bool} {k m n:Nat} {ba:Int} {z:Str} (h:NK b k ba m z) (g:NK b k ba n z) (hm:m < 10) (hn:n < 10):m=n:=by
 cases b with
 | true=>have:=h.yes rfl;have:=g.yes rfl;omega
 | false=>
  have e:=(h.no rfl).symm.trans (g.no rfl)
  have:=FN (Int.emod_nonneg _ (by decide)) (Int.emod_lt_of_pos _ (by decide)) (Int.emod_nonneg _ (by decide)) (Int.emod_lt_of_pos _ (by decide)) e
  omega
def NKs (b:Bool) (k:Nat) (ba:Int) (ns:List Str):Prop:=∀ i z,ns[i]?=some z→NK b k ba i z
theorem NKs.snoc {b:Bool} {k:Nat} {ba:Int} {ns:List Str} {z:Str} (h:NKs b k ba ns) (g:NK b k ba ns.length z):NKs b k ba (ns++[z]):=fun i y hy=>by
 by_cases c:i < ns.length
 ·rw [MP c] at hy;exact h i y hy
 ·have hi:=(List.getElem?_eq_some_iff.mp hy).1
  rw [M6,MW] at hi
  obtain rfl:i=ns.length:=by omega
  rw [MO (NB _),Nv] at hy
  cases hy;exact g
theorem NKs.nodup {b:Bool} {k:Nat} {ba:Int} {ns:List Str} (h:NKs b k ba ns) (hl:ns.length≤10):ns.Nodup:=by
 unfold List.Nodup
 rw [List.pairwise_iff_getElem]
 intro i j hi hj hij e
 have h1:=h i _ (MT hi)
 have h2:=h j _ (MT hj)
 rw [← e] at h2
 have:=h1.inj h2 (by omega) (by omega)
 omega
theorem NKs.ne {b:Bool} {k:Nat} {ba:Int} {ns:List Str} (h:NKs b k ba ns):∀ z∈ns,z≠("" : Str):=fun z hz e=>by
 obtain ⟨i,hi,rfl⟩:=M5 hz
 have:=(h i _ (MT hi)).one
 rw [e] at this
 exact absurd this (by decide +kernel)
section
variable {P:Program} {w:World} {K:PySem.W.Frag} {mg:Str→Option Value} {base:Heap} {CX:CXT}
theorem Az:aq ["_law_cell", "_law_many", "_law_letters", "_law_size", "_law_at", "_law_base", "_law_beginnings", "_law_names_here", "_law_k", "_law_name"] ["_law_cell", "_law_many"] (aj (top 75)):=by walk_at "s"
def wF:Sp:=fun vs H Q _=>∃ (p:Addr) (b many:Int),vs=[.ref p,.int many]∧bh H p b∧b≤1000000∧1≤many∧many≤10∧∀ (nq:Addr) (ns:List Str) (H':Hp),H nq=none→H' nq=some (.lst (ns.map V.str))→1≤ns.length→ns.length≤10→(ns.length:Int)=many→ns.Nodup→(∀ z∈ns,z≠("" : Str))→bh H' p (b+8192)→Oth p H H'→Q (.ref nq) H'
theorem Bq (D:Dat K mg "_law_names" "_law_names" (top 75) ["_law_cell", "_law_many"]) (BT:Bt mg) (NE:br CX) (az:Cal P w K mg base CX "_law_pick" 11 ["_law_hand_here", "_law_many"] fR):Cal P w K mg base CX "_law_names" 12 ["_law_cell", "_law_many"] wF:=by
 have S:=Az
 walk_at "d"
 ·obtain ⟨p,b,many,rfl,_⟩:=h
  rfl
 obtain ⟨p,b,many,rfl,hh,hb,m1,m2,q⟩:=h
 refine ⟨_,(ak (aM (i:=2) S.nd rfl (by first | exact Or.inl rfl | exact Or.inr rfl) bB)
   (ak (aM (i:=3) S.nd rfl (by first | exact Or.inl rfl | exact Or.inr rfl) (aP bM ai (aH az (hr.mono (by first | decide | omega)) NE.pass (aa (pv 0) (aa ai af)))))
   (ak (aM (i:=4) S.nd rfl (by first | exact Or.inl rfl | exact Or.inr rfl) (aH az (hr.mono (by first | decide | omega)) NE.pass (aa (pv 0) (aa (pv 3) af))))
   (ak (aM (i:=5) S.nd rfl (by first | exact Or.inl rfl | exact Or.inr rfl) (aH az (hr.mono (by first | decide | omega)) NE.pass (aa (pv 0) (aa ai af))))
   (ak (aM (i:=6) S.nd rfl (by first | exact Or.inl rfl | exact Or.inr rfl) (cJ bZ (aH az (hr.mono (by first | decide | omega)) NE.pass (aa (pv 0) (aa ai af))) ai (aO _)))
   (ak (aM (i:=7) S.nd rfl (by first | exact Or.inl rfl | exact Or.inr rfl) (bQ af))
   (ak (fV PassesOwn.never rfl (nQ rfl BT.range (aa (pv 1) af)) (bu (i:=8) S.nd rfl (by first | exact Or.inl rfl | exact Or.inr rfl)) (ak (aM (i:=9) S.nd rfl (by first | exact Or.inl rfl | exact Or.inr rfl) (ly PySem.F.plainAttrs_str PySem.F.slot_str_join PySem.F.type_str_join Ht bB (aa (fX (g:=(bD 0)) rfl (nQ rfl BT.range (aa (pv 3) af)) (eZ (own:=["_law_j"]) (cap:=[2,5,8,4]) (aj (top 75)).names ["_law_cell", "_law_many", "_law_letters", "_law_size", "_law_at", "_law_base", "_law_beginnings", "_law_names_here", "_law_k", "_law_name"] rfl rfl rfl (by decide +kernel)) (fun _ _ _ _=>(bu (i:=0) (show (gq ["_law_cell", "_law_many", "_law_letters", "_law_size", "_law_at", "_law_base", "_law_beginnings", "_law_names_here", "_law_k", "_law_name"] ["_law_j"] [2,5,8,4]).Nodup by decide +kernel) rfl (by first | exact Or.inl rfl | exact Or.inr rfl))) (fun _ _ _ _=>eS) (fun _ _ _ _=>(ay BL (pv 1) (aP c8 (aP bM (aP bM (pv 2) (aP dM ai (pv 0))) (aP dM (pv 3) (dm Ji rfl BT.int_ L3.Cv (aa (cJ bZ (pv 0) (pv 4) (aO _)) af)))) ai) (fun _ _=>rfl)))) af)))
    (ak (bf (cj (pv 6)) (ao (aM (i:=9) S.nd rfl (by first | exact Or.inl rfl | exact Or.inr rfl) (aP Hj (ay BL (pv 2) (pv 5) (fun _ _=>rfl)) (aP bM (pv 8) ai)))) aJ)
    (ao (bC (ly PySem.F.plainAttrs_list PySem.F.slot_list_append PySem.F.type_list_append gY (pv 7) (aa (pv 9) af)))))))
   (ak (bf (aK bZ (aH az (hr.mono (by first | decide | omega)) NE.pass (aa (pv 0) (aa ai af))) ai (aO _)) (ao (bC (G6 PySem.F.plainAttrs_list PySem.F.slot_list_reverse PySem.F.type_list_reverse vd (pv 7)))) aJ)
   (ao (aB (pv 7))))))))))),?_⟩
 try dsimp only [aZ]
 have L:=bU hh
 walk_at "go"
 refine bg L .head (by decide) (by decide) (by omega) fun sz H1 a0 a1 L _=>?_
 walk_at "go"
 refine bg L .head (by omega) (by omega) (by omega) fun at' H2 b0 b1 L _=>?_
 obtain ⟨ka,rfl⟩:=MU b0
 walk_at "go"
 refine bg L .head (by decide) (by decide) (by omega) fun ba H3 c0 c1 L _=>?_
 walk_at "go"
 refine bg L .head (by decide) (by decide) (by omega) fun be H4 d0 d1 L _=>?_
 have o4:Oth p H H4:=L.fr
 have hh4:=bx.at (L.at_ (p,bx _) (by walk_at "mem"))
 clear L
 have L:=Led.start H4 (fun _=>False)
 walk_at "go"
 have nq4:H4 l'=none:=n'
 have hq0:=L'.eo (p:=l') .head
 have s5:=L'.same
 clear L L'
 rename Hp=>H5;rename Addr=>nq
 refine B8 (fun i σ H'=>∃ (u8 u9:Option V) (ns:List Str),σ=[some (.ref p),some (.int many),some (.str "abcdefghijklmnopqrstuvwxyz"),some (.int (1+sz)),some (.int (ka:Int)),some (.int ba),some (.bl (decide (be=1))),some (.ref nq),u8,u9]∧aI H4 H'∧H' nq=some (.lst (ns.map V.str))∧ns.length=i∧NKs (decide (be=1)) ka ba ns) ⟨_,_,[],rfl,s5,hq0,rfl,fun i z h=>by simp at h⟩ ?_ ?_
 ·rintro i σ HG hi ⟨u8,u9,ns,rfl,sm,hq,hlen,hnk⟩
  have MH:i < 10:=by omega
  have Gp:∀ {H':Hp},(∀ b o,HG b=some o→¬ b=nq→H' b=some o)→aI H4 H':=fun h b o e=>h b o (sm _ _ e) (fun z=>by rw [z,nq4] at e;cases e)
  have L:=dP hq
  try dsimp only [bD]
  walk_at "go"
  refine Ff (fun j ys H'=>∃ cs:List Nat,ys=(cs.map fun c=>(⟨#[c]⟩:Str)).map V.str∧cs.length=j∧(ka < j→cs[ka]?=atI abc ((ba+5 * ka+i) % 26))∧H'=HG) ⟨[],rfl,rfl,(fun h=>absurd h (by omega)),rfl⟩ (fun j ys H' hj ⟨zs,e,hz,_,_⟩=>by rw [e,Nh,Nh,hz];exact Nr (small1000 (by omega))) ?_ ?_
  ·rintro j ys H' hj ⟨cs,rfl,hz,h1,rfl⟩
   try dsimp only [bD]
   walk_at "go"
   obtain ⟨cc,hc⟩:=zY (z:="abcdefghijklmnopqrstuvwxyz") (Int.emod_nonneg (ba+5 * (0+(j:Int))+(0+(i:Int)) * (if decide (0+(j:Int)=(ka:Int))=true then 1 else 0)) (show (26:Int)≠0 by decide)) (show _ < ((26:Nat):Int) from Int.emod_lt_of_pos _ (by decide))
   refine GB (by decide +kernel) hc ?_
   refine ⟨cs++[cc],by rw [Nj,Nj];rfl,by rw [M6,MW];omega,fun hk=>?_,rfl⟩
   by_cases c:ka < j
   ·rw [MP (by omega)];exact h1 c
   ·obtain rfl:ka=j:=by omega
    rw [MO (by omega),hz,Nv]
    rw [if_pos (Np (by omega))] at hc
    show some cc=_
    rw [← hc]
    unfold abc
    congr 2
    omega
  ·rintro ys H' ⟨cs,rfl,hz,h1,rfl⟩ lc nlc
   have M:=L.keep (b7 nlc (.lst ((cs.map fun c=>(⟨#[c]⟩:Str)).map V.str)))
   have hlc:(upd H' lc (.lst ((cs.map fun c=>(⟨#[c]⟩:Str)).map V.str))) lc=some (.lst ((cs.map fun c=>(⟨#[c]⟩:Str)).map V.str)):=aE
   generalize upd H' lc (.lst ((cs.map fun c=>(⟨#[c]⟩:Str)).map V.str))=H6 at *
   clear L
   have L:=M
   clear M
   have hcl:cs.length=(1+sz).toNat:=hz
   have hml:(ns.map V.str).length=ns.length:=Nh ..
   walk_at "go"
   refine IG (SqL.of hlc) (by rw [wA (fun z hz=>by obtain ⟨c,_,rfl⟩:=List.mem_map.mp hz;rfl),Nh];show cs.length+cs.length * 0≤16777216;omega) ?_
   walk_at "go"
   refine bF (fun e1=>?_) (fun e1=>?_)
   ·walk_at "go"
    obtain ⟨cc,hc⟩:=zY (z:="abcdefghijklmnopqrstuvwxyz") c0 (show ba < ((26:Nat):Int) from c1)
    refine GB (by decide +kernel) hc ?_
    have l1:(⟨#[cc]⟩:Str).length≤1000:=by show 1≤1000;decide
    have nk1:NK (decide (be=1)) ka ba ns.length (Txt.mul ⟨#[cc]⟩ (0+(i:Int)+1)):=by
     have e:=PyProof.Rows.mul_one_list cc (0+(i:Int)+1)
     have e':(Txt.mul ⟨#[cc]⟩ (0+(i:Int)+1)).cps.toList.length=i+1:=by rw [e];show (List.replicate (0+(i:Int)+1).toNat cc).length=_;rw [MY];omega
     exact ⟨by rw [e'];omega,fun _=>by rw [e',hlen],fun z=>by rw [Np e1] at z;cases z⟩
    walk_at "go"
    exact ⟨_,_,ns++[_],rfl,Gp L'.fr,(L'.eo (p:=nq) (by walk_at "put")).trans (by rw [Nj];rfl),by rw [M6,MW];omega,hnk.snoc nk1⟩
   ·have nk0:NK (decide (be=1)) ka ba ns.length (Txt.join ("" : Str) (cs.map fun c=>(⟨#[c]⟩:Str))):=by
     rw [join_ones]
     exact ⟨by show 1≤cs.length;omega,(fun z=>by rw [Nn e1] at z;cases z),fun _=>by show cs[ka]?=_;rw [h1 (by omega),hlen]⟩
    walk_at "go"
    exact ⟨_,_,ns++[_],rfl,Gp L'.fr,(L'.eo (p:=nq) (by walk_at "put")).trans (by rw [Nj];rfl),by rw [M6,MW];omega,hnk.snoc nk0⟩
 ·rintro σ HG ⟨u8,u9,ns,rfl,sm,hq,hlen,hnk⟩
  have hml:(ns.map V.str).length=ns.length:=Nh ..
  have npq:p≠nq:=fun z=>by
   obtain ⟨x,y,c,e,_⟩:=hh4
   rw [z,nq4] at e;cases e
  have nqH:H nq=none:=by
   cases e:H nq with
   | none=>rfl
   | some o=>rw [o4 nq o e (Ne.symm npq)] at nq4;cases nq4
  have L:=EG (hh4.same sm) hq npq
  walk_at "go"
  refine bg L .head (by decide) (by decide) (by omega) fun r7 H7 f0 f1 L _=>?_
  have Kr:∀ (x:Addr) (o:HO),H x=some o→x≠p→H7 x=some o:=fun x o e z=>L.fr x o (sm _ _ (o4 x o e z)) (fun zz=>zz.elim z (fun z2=>by rw [z2,nqH] at e;cases e))
  walk_at "go"
  refine bF (fun e1=>?_) (fun e1=>?_)
  ·walk_at "go"
   have hq7:=L.eo (p:=nq) (by walk_at "put")
   have hp7:=bx.at (L.at_ (p,bx _) (by walk_at "mem"))
   refine ⟨nq,_,rfl,rfl,hq7,?_⟩
   walk_at "go"
   refine q nq ns.reverse _ nqH (aE.trans (by rw [List.map_reverse])) (by rw [List.length_reverse];omega) (by rw [List.length_reverse];omega) (by rw [List.length_reverse];omega) (List.pairwise_reverse.mpr (List.Pairwise.imp (fun h=>Ne.symm h) (hnk.nodup (by omega)))) (fun z hz=>hnk.ne z (List.mem_reverse.mp hz)) (bh.mono (n:=b+1024+1024+1024+1024+1024) ?_ (by omega)) fun x o e z=>?_
   ·obtain ⟨x,y,c,e,r⟩:=hp7
    exact ⟨x,y,c,by rw [aF npq];exact e,r⟩
   ·rw [aF (fun z2=>by rw [z2,nqH] at e;cases e)]
    exact Kr x o e z
  ·walk_at "go"
   exact q nq ns _ nqH (L.eo (p:=nq) (by walk_at "put")) (by omega) (by omega) (by omega) (hnk.nodup (by omega)) hnk.ne ((bx.at (L.at_ (p,bx _) (by walk_at "mem"))).mono (by omega)) Kr
end
def w5:List Str:=["spoken", "once", "ends", "apart", "ahead"]
theorem zM:w5.Nodup:=by unfold w5;decide +kernel
theorem GL:∀ z∈w5,z∈jW:=by
 intro z hz
 unfold w5 at hz
 unfold jW
 simp only [List.mem_cons,List.not_mem_nil,or_false] at hz ⊢
 rcases hz with h | h | h | h | h <;> simp [h]
theorem DN {ws:List Str} (h:ws.Sublist w5):RuN ws:=⟨fun z hz=>GL z (h.subset hz),h.nodup zM⟩
theorem jz {xs:List V} {r:Int} (h0 : 0≤r) (h1:r < xs.length):∃ v,atI xs r=some v∧v∈xs:=by
 obtain ⟨n,rfl⟩:=MU h0
 have hn:n < xs.length:=by omega
 exact ⟨xs[n],cS (MT hn),List.getElem_mem hn⟩
theorem vq {K:PySem.W.Frag} {PP:Addr→Prop} {H0 H:Hp} {l l':List (Addr×Ob)} {fs:List Pr} {Q:VK} {p:Addr} {xs:List V} {r:Int} (L:Led PP H0 H l fs) (m:Put p (Eo (.lst xs)) (Eo (.lst xs)) l l') (h0 : 0≤r) (h1:r < xs.length) (h:∀ v∈xs,Q v H):DQ K (.ref p) (.int r) H Q:=by
 obtain ⟨v,e,hm⟩:=jz h0 h1
 exact n9 L m e (h v hm)
section
variable {P:Program} {w:World} {K:PySem.W.Frag} {mg:Str→Option Value} {base:Heap} {CX:CXT} {C CS CL CN:Addr}
theorem AA:aq ["_law_cell", "_law_sound", "_law_wide", "_law_far", "_law_room", "_law_term", "_law_rules"] ["_law_cell", "_law_sound"] (aj (top 76)):=by walk_at "s"
def z9 (C CS:Addr):Sp:=fun vs H Q _=>∃ (p:Addr) (b:Int) (so:Bool),vs=[.ref p,.bl so]∧bh H p b∧b≤1000000∧∀ (ps sp:Addr) (c s far room term:Int) (ws:List Str) (H':Hp),kC C CS H' ps sp c s far room term ws→StN far room term→(so=true→ws=w5)→Oth p H H'→Q (.ref ps) H'
theorem Br (D:Dat K mg "_law_settings" "_law_settings" (top 76) ["_law_cell", "_law_sound"]) (BT:Bt mg) (NE:br CX) (az:Cal P w K mg base CX "_law_pick" 11 ["_law_hand_here", "_law_many"] fR)
  (jh:Mak P w K mg base CX "Shape" C 4 ["self", "counts", "slots"] (kI C)) (eV:Mak P w K mg base CX "Settings" CS 4 ["self", "shape", "far", "room", "term", "rules"] (fQ CS)):Cal P w K mg base CX "_law_settings" 12 ["_law_cell", "_law_sound"] (z9 C CS):=by
 have S:=AA
 walk_at "d"
 ·obtain ⟨p,b,so,rfl,_⟩:=h
  rfl
 obtain ⟨p,b,so,rfl,hh,hb,q⟩:=h
 refine ⟨_,(@ak _ _ _ _ _ (@aM _ _ 2 _ _ _ _ S.nd rfl (by first | exact Or.inl rfl | exact Or.inr rfl) (@bQ _ _ _ _ (@aa _ _ _ _ _ (@aP _ _ _ _ _ _ _ _ (@bM _) (@ai _ _ _ _) (@aH _ _ _ _ _ _ _ _ _ _ _ _ az (hr.mono (by first | decide | omega)) NE.pass (@aa _ _ _ _ _ (@pv _ 0 _ _ (by rfl) (by first | exact Or.inl rfl | exact Or.inr (Or.inl rfl) | exact Or.inr (Or.inr rfl)) (by decide) (by decide)) (@aa _ _ _ _ _ (@ai _ _ _ _) (@af _) (by rfl)) (by rfl)) (by rfl) (by decide) (by rfl) (by rfl))) (@aa _ _ _ _ _ (@aP _ _ _ _ _ _ _ _ (@bM _) (@ai _ _ _ _) (@aH _ _ _ _ _ _ _ _ _ _ _ _ az (hr.mono (by first | decide | omega)) NE.pass (@aa _ _ _ _ _ (@pv _ 0 _ _ (by rfl) (by first | exact Or.inl rfl | exact Or.inr (Or.inl rfl) | exact Or.inr (Or.inr rfl)) (by decide) (by decide)) (@aa _ _ _ _ _ (@ai _ _ _ _) (@af _) (by rfl)) (by rfl)) (by rfl) (by decide) (by rfl) (by rfl))) (@af _) (by rfl)) (by rfl))) (by rfl) (by first | exact .inl rfl | exact .inr rfl | assumption)) (@ak _ _ _ _ _ (@bf _ _ _ _ _ _ _ _ (@aK _ _ _ _ _ _ _ _ (@bZ _) (@aH _ _ _ _ _ _ _ _ _ _ _ _ az (hr.mono (by first | decide | omega)) NE.pass (@aa _ _ _ _ _ (@pv _ 0 _ _ (by rfl) (by first | exact Or.inl rfl | exact Or.inr (Or.inl rfl) | exact Or.inr (Or.inr rfl)) (by decide) (by decide)) (@aa _ _ _ _ _ (@ai _ _ _ _) (@af _) (by rfl)) (by rfl)) (by rfl) (by decide) (by rfl) (by rfl)) (@ai _ _ _ _) (@aO _ _ (by decide) (by decide))) (@ao _ _ _ (@aM _ _ 2 _ _ _ _ S.nd rfl (by first | exact Or.inl rfl | exact Or.inr rfl) (@bQ _ _ _ _ (@aa _ _ _ _ _ (@aP _ _ _ _ _ _ _ _ (@bM _) (@ai _ _ _ _) (@aH _ _ _ _ _ _ _ _ _ _ _ _ az (hr.mono (by first | decide | omega)) NE.pass (@aa _ _ _ _ _ (@pv _ 0 _ _ (by rfl) (by first | exact Or.inl rfl | exact Or.inr (Or.inl rfl) | exact Or.inr (Or.inr rfl)) (by decide) (by decide)) (@aa _ _ _ _ _ (@ai _ _ _ _) (@af _) (by rfl)) (by rfl)) (by rfl) (by decide) (by rfl) (by rfl))) (@aa _ _ _ _ _ (@aP _ _ _ _ _ _ _ _ (@bM _) (@ai _ _ _ _) (@aH _ _ _ _ _ _ _ _ _ _ _ _ az (hr.mono (by first | decide | omega)) NE.pass (@aa _ _ _ _ _ (@pv _ 0 _ _ (by rfl) (by first | exact Or.inl rfl | exact Or.inr (Or.inl rfl) | exact Or.inr (Or.inr rfl)) (by decide) (by decide)) (@aa _ _ _ _ _ (@ai _ _ _ _) (@af _) (by rfl)) (by rfl)) (by rfl) (by decide) (by rfl) (by rfl))) (@af _) (by rfl)) (by rfl))) (by rfl) (by first | exact .inl rfl | exact .inr rfl | assumption))) (@aJ _)) (@ak _ _ _ _ _ (@aM _ _ 3 _ _ _ _ S.nd rfl (by first | exact Or.inl rfl | exact Or.inr rfl) (@ay _ _ _ _ _ _ _ (@bH _) (@bQ _ _ _ _ (@aa _ _ _ _ _ (@ai _ _ _ _) (@aa _ _ _ _ _ (@ai _ _ _ _) (@aa _ _ _ _ _ (@ai _ _ _ _) (@aa _ _ _ _ _ (@ai _ _ _ _) (@aa _ _ _ _ _ (@ai _ _ _ _) (@aa _ _ _ _ _ (@ai _ _ _ _) (@aa _ _ _ _ _ (@aP _ _ _ _ _ _ _ _ (@iK _) (@ai _ _ _ _) (@ai _ _ _ _)) (@af _) (by rfl)) (by rfl)) (by rfl)) (by rfl)) (by rfl)) (by rfl)) (by rfl))) (@aH _ _ _ _ _ _ _ _ _ _ _ _ az (hr.mono (by first | decide | omega)) NE.pass (@aa _ _ _ _ _ (@pv _ 0 _ _ (by rfl) (by first | exact Or.inl rfl | exact Or.inr (Or.inl rfl) | exact Or.inr (Or.inr rfl)) (by decide) (by decide)) (@aa _ _ _ _ _ (@ai _ _ _ _) (@af _) (by rfl)) (by rfl)) (by rfl) (by decide) (by rfl) (by rfl)) (fun _ _=>rfl)) (by rfl) (by first | exact .inl rfl | exact .inr rfl | assumption)) (@ak _ _ _ _ _ (@aM _ _ 4 _ _ _ _ S.nd rfl (by first | exact Or.inl rfl | exact Or.inr rfl) (@ay _ _ _ _ _ _ _ (@bH _) (@bQ _ _ _ _ (@aa _ _ _ _ _ (@ai _ _ _ _) (@aa _ _ _ _ _ (@ai _ _ _ _) (@aa _ _ _ _ _ (@ai _ _ _ _) (@aa _ _ _ _ _ (@ai _ _ _ _) (@aa _ _ _ _ _ (@ai _ _ _ _) (@aa _ _ _ _ _ (@aP _ _ _ _ _ _ _ _ (@iK _) (@ai _ _ _ _) (@ai _ _ _ _)) (@af _) (by rfl)) (by rfl)) (by rfl)) (by rfl)) (by rfl)) (by rfl))) (@aH _ _ _ _ _ _ _ _ _ _ _ _ az (hr.mono (by first | decide | omega)) NE.pass (@aa _ _ _ _ _ (@pv _ 0 _ _ (by rfl) (by first | exact Or.inl rfl | exact Or.inr (Or.inl rfl) | exact Or.inr (Or.inr rfl)) (by decide) (by decide)) (@aa _ _ _ _ _ (@ai _ _ _ _) (@af _) (by rfl)) (by rfl)) (by rfl) (by decide) (by rfl) (by rfl)) (fun _ _=>rfl)) (by rfl) (by first | exact .inl rfl | exact .inr rfl | assumption)) (@ak _ _ _ _ _ (@aM _ _ 5 _ _ _ _ S.nd rfl (by first | exact Or.inl rfl | exact Or.inr rfl) (@ay _ _ _ _ _ _ _ (@bH _) (@bQ _ _ _ _ (@aa _ _ _ _ _ (@ai _ _ _ _) (@aa _ _ _ _ _ (@ai _ _ _ _) (@aa _ _ _ _ _ (@ai _ _ _ _) (@aa _ _ _ _ _ (@ai _ _ _ _) (@aa _ _ _ _ _ (@ai _ _ _ _) (@aa _ _ _ _ _ (@ai _ _ _ _) (@aa _ _ _ _ _ (@aP _ _ _ _ _ _ _ _ (@iK _) (@ai _ _ _ _) (@ai _ _ _ _)) (@af _) (by rfl)) (by rfl)) (by rfl)) (by rfl)) (by rfl)) (by rfl)) (by rfl))) (@aH _ _ _ _ _ _ _ _ _ _ _ _ az (hr.mono (by first | decide | omega)) NE.pass (@aa _ _ _ _ _ (@pv _ 0 _ _ (by rfl) (by first | exact Or.inl rfl | exact Or.inr (Or.inl rfl) | exact Or.inr (Or.inr rfl)) (by decide) (by decide)) (@aa _ _ _ _ _ (@ai _ _ _ _) (@af _) (by rfl)) (by rfl)) (by rfl) (by decide) (by rfl) (by rfl)) (fun _ _=>rfl)) (by rfl) (by first | exact .inl rfl | exact .inr rfl | assumption)) (@ak _ _ _ _ _ (@aM _ _ 6 _ _ _ _ S.nd rfl (by first | exact Or.inl rfl | exact Or.inr rfl) (@bQ _ _ _ _ (@aa _ _ _ _ _ (@bB _ _ _ _) (@aa _ _ _ _ _ (@bB _ _ _ _) (@aa _ _ _ _ _ (@bB _ _ _ _) (@aa _ _ _ _ _ (@bB _ _ _ _) (@aa _ _ _ _ _ (@bB _ _ _ _) (@af _) (by rfl)) (by rfl)) (by rfl)) (by rfl)) (by rfl))) (by rfl) (by first | exact .inl rfl | exact .inr rfl | assumption)) (@ak _ _ _ _ _ (@bf _ _ _ _ _ _ _ _ (@dj _ _ _ _ (@cj _ _ _ (@pv _ 1 _ _ (by rfl) (by first | exact Or.inl rfl | exact Or.inr (Or.inl rfl) | exact Or.inr (Or.inr rfl)) (by decide) (by decide)) (by intro _;rfl))) (@ao _ _ _ (@jd _ _ _ _ _ _ _ _ _ _ (bD 0) _ _ 6 _ _ _ rfl S.nd rfl (by first | exact Or.inl rfl | exact Or.inr rfl) (@b8 _ _ _ _ (@pv _ 6 _ _ (by rfl) (by first | exact Or.inl rfl | exact Or.inr (Or.inl rfl) | exact Or.inr (Or.inr rfl)) (by decide) (by decide))) (@eZ _ _ ["_law_word"] [0] (aj (top 76)).names ["_law_cell", "_law_sound", "_law_wide", "_law_far", "_law_room", "_law_term", "_law_rules"] rfl rfl rfl (by decide +kernel)) (fun _ _ _ _=>(@bu _ _ 0 _ (show (gq ["_law_cell", "_law_sound", "_law_wide", "_law_far", "_law_room", "_law_term", "_law_rules"] ["_law_word"] [0]).Nodup by decide +kernel) rfl (by first | exact Or.inl rfl | exact Or.inr rfl) (by first | exact .inl rfl | exact .inr rfl | assumption))) (fun _ _ _ _=>(@je _ _ _ (@aK _ _ _ _ _ _ _ _ (@jg _) (@aH _ _ _ _ _ _ _ _ _ _ _ _ az (hr.mono (by first | decide | omega)) NE.pass (@aa _ _ _ _ _ (@pv _ 1 _ _ (by rfl) (by first | exact Or.inl rfl | exact Or.inr (Or.inl rfl) | exact Or.inr (Or.inr rfl)) (by decide) (by decide)) (@aa _ _ _ _ _ (@ai _ _ _ _) (@af _) (by rfl)) (by rfl)) (by rfl) (by decide) (by rfl) (by rfl)) (@ai _ _ _ _) (@aO _ _ (by decide) (by decide))))) (fun _ _ _ _=>(@pv _ 0 _ _ (by rfl) (by first | exact Or.inl rfl | exact Or.inr (Or.inl rfl) | exact Or.inr (Or.inr rfl)) (by decide) (by decide))) (by with_unfolding_all rfl) (by first | exact .inl rfl | exact .inr rfl | assumption) (by intro _;rfl))) (@aJ _)) (@ao _ _ _ (@aB _ _ _ _ (@Gm _ _ _ _ _ _ _ _ _ _ _ _ _ eV (hr.mono (by first | decide | omega)) NE.pass (@aa _ _ _ _ _ (@Gm _ _ _ _ _ _ _ _ _ _ _ _ _ jh (hr.mono (by first | decide | omega)) NE.pass (@aa _ _ _ _ _ (@ay _ _ _ _ _ _ _ (@bH _) (@pv _ 2 _ _ (by rfl) (by first | exact Or.inl rfl | exact Or.inr (Or.inl rfl) | exact Or.inr (Or.inr rfl)) (by decide) (by decide)) (@ai _ _ _ _) (fun _ _=>rfl)) (@aa _ _ _ _ _ (@ay _ _ _ _ _ _ _ (@bH _) (@pv _ 2 _ _ (by rfl) (by first | exact Or.inl rfl | exact Or.inr (Or.inl rfl) | exact Or.inr (Or.inr rfl)) (by decide) (by decide)) (@ai _ _ _ _) (fun _ _=>rfl)) (@af _) (by rfl)) (by rfl)) (by rfl) (by decide) (by rfl) (by rfl)) (@aa _ _ _ _ _ (@pv _ 3 _ _ (by rfl) (by first | exact Or.inl rfl | exact Or.inr (Or.inl rfl) | exact Or.inr (Or.inr rfl)) (by decide) (by decide)) (@aa _ _ _ _ _ (@pv _ 4 _ _ (by rfl) (by first | exact Or.inl rfl | exact Or.inr (Or.inl rfl) | exact Or.inr (Or.inr rfl)) (by decide) (by decide)) (@aa _ _ _ _ _ (@pv _ 5 _ _ (by rfl) (by first | exact Or.inl rfl | exact Or.inr (Or.inl rfl) | exact Or.inr (Or.inr rfl)) (by decide) (by decide)) (@aa _ _ _ _ _ (@pv _ 6 _ _ (by rfl) (by first | exact Or.inl rfl | exact Or.inr (Or.inl rfl) | exact Or.inr (Or.inr rfl)) (by decide) (by decide)) (@af _) (by rfl)) (by rfl)) (by rfl)) (by rfl)) (by rfl)) (by rfl) (by decide) (by rfl) (by rfl))))))))))),?_⟩
 try dsimp only [aZ]
 have L:=bU hh
 walk_at "go"
 refine bg L .head (by decide) (by decide) (by omega) fun r1 H1 a0 a1 L _=>?_
 walk_at "go"
 refine bg L .head (by decide) (by decide) (by omega) fun r2 H2 b0 b1 L _=>?_
 walk_at "one"
 try dsimp only [bD]
 have o2:Oth p H H':=L'.fr
 have h2:=bx.at (L'.at_ (p,bx _) (by walk_at "mem"))
 have hw2:=L'.eo (p:=l') (by walk_at "put")
 clear L
 refine cR (fun σ Hx=>∃ (lw:Addr) (x y:Int),σ=[some (.ref p),some (.bl so),some (.ref lw),none,none,none,none]∧bh Hx p (b+6144)∧Hx lw=some (.lst [.int x,.int y])∧lw≠p∧1≤x∧x≤1000∧1≤y∧y≤1000∧Oth p H Hx) (fun nx kk=>?_) ?_
 ·have nlp:l'≠p:=fun z=>by obtain ⟨u,v,y,e,_⟩:=h2;rw [← z,hw2] at e;have hl:=L'.nd;rw [List.map_cons,List.map_cons,z] at hl;exact absurd hl (by simp)
  clear L'
  have L:=bU h2
  walk_at "go"
  refine bg L .head (by decide) (by decide) (by omega) fun r3 H3 c0 c1 L _=>?_
  walk_at "go"
  refine bF (fun z=>?_) (fun z=>?_)
  ·walk_at "go"
   refine bg L .head (by decide) (by decide) (by omega) fun r4 H4 d0 d1 L _=>?_
   walk_at "go"
   refine bg L .head (by decide) (by decide) (by omega) fun r5 H5 e0 e1 L _=>?_
   walk_at "go"
   have h5:=bx.at (L.at_ (p,bx _) (by walk_at "mem"))
   exact kk _ _ ⟨_,_,_,rfl,(bx.at (L'.at_ (p,bx _) (by walk_at "mem"))).mono (by omega),L'.eo (by walk_at "put"),(fun z=>by obtain ⟨u,v,y,e,_⟩:=h5;rw [← z,n'] at e;cases e),by omega,by omega,by omega,by omega,o2.trans L'.fr⟩
  ·walk_at "go"
   exact kk _ _ ⟨_,_,_,rfl,(bx.at (L.at_ (p,bx _) (by walk_at "mem"))).mono (by omega),L.fr _ _ hw2 nlp,nlp,by omega,by omega,by omega,by omega,o2.trans L.fr⟩
 clear L'
 rintro σ H3 ⟨lw,x,y,rfl,h3,hlw,nlw,x0,x1,y0,y1,o3⟩
 have L:=bU h3
 walk_at "go"
 refine bg L' (by walk_at "put") (by decide) (by decide) (by omega) fun r6 H4 c0 c1 L _=>?_
 walk_at "go"
 refine vq L .head c0 (by simp only [Nd,Ni];omega) fun v hv=>?_
 obtain ⟨fa,rfl,f0,f1⟩:∃ n:Int,v = .int n∧0≤n∧n≤1000000000000:=by
  simp only [List.mem_cons,List.not_mem_nil,or_false] at hv
  rcases hv with rfl | rfl | rfl | rfl | rfl | rfl | rfl <;> exact ⟨_,rfl,by decide,by decide⟩
 have o4:=o3.trans L.fr
 have Ma:=L.fr _ _ hlw nlw
 have h4:=(bx.at (L.at_ (p,bx _) (by walk_at "mem"))).mono (show _≤b+8192 by omega)
 clear L L'
 have L:=bU h4
 walk_at "go"
 refine bg L' (by walk_at "put") (by decide) (by decide) (by omega) fun r7 H5 d0 d1 L _=>?_
 walk_at "go"
 refine vq L .head d0 (by simp only [Nd,Ni];omega) fun v hv=>?_
 obtain ⟨ro,rfl,g0,g1⟩:∃ n:Int,v = .int n∧1≤n∧n≤1000000000000:=by
  simp only [List.mem_cons,List.not_mem_nil,or_false] at hv
  rcases hv with rfl | rfl | rfl | rfl | rfl | rfl <;> exact ⟨_,rfl,by decide,by decide⟩
 have o5:=o4.trans L.fr
 have L8:=L.fr _ _ Ma nlw
 have h5:=(bx.at (L.at_ (p,bx _) (by walk_at "mem"))).mono (show _≤b+10240 by omega)
 clear L L'
 have L:=bU h5
 walk_at "go"
 refine bg L' (by walk_at "put") (by decide) (by decide) (by omega) fun r8 H6 e0 e1 L _=>?_
 walk_at "go"
 refine vq L .head e0 (by simp only [Nd,Ni];omega) fun v hv=>?_
 obtain ⟨te,rfl,t0,t1⟩:∃ n:Int,v = .int n∧1≤n∧n≤1000000000000:=by
  simp only [List.mem_cons,List.not_mem_nil,or_false] at hv
  rcases hv with rfl | rfl | rfl | rfl | rfl | rfl | rfl <;> exact ⟨_,rfl,by decide,by decide⟩
 have o6:=o5.trans L.fr
 have L7:=L.fr _ _ L8 nlw
 have h6:=(bx.at (L.at_ (p,bx _) (by walk_at "mem"))).mono (show _≤b+12288 by omega)
 clear L L'
 have shN:ShN x y:=⟨by omega,by omega,by omega,by omega⟩
 have stN:StN fa ro te:=⟨by omega,by omega,by omega,by omega,by omega,by omega⟩
 have L:=Led.start H6 (fun _=>False)
 walk_at "one"
 try dsimp only [bD]
 refine g_seq ?_
 walk_at "one"
 obtain ⟨lr,elr⟩:∃ z,z=l':=⟨_,rfl⟩
 subst elr
 have hlr:=L'.eo (p:=lr) (by walk_at "put")
 have s7:=L'.same
 obtain ⟨H7,eH7⟩:∃ z,z=H':=⟨_,rfl⟩
 subst eH7
 have nlr:lr≠p:=fun z=>by obtain ⟨u,v,y,e,_⟩:=h6;rw [← z,n'] at e;cases e
 have h7:=h6.same s7
 clear L L'
 try dsimp only [bD]
 refine cR (fun σ Hx=>∃ (lr2:Addr) (ws:List Str),σ=[some (.ref p),some (.bl so),some (.ref lw),some (.int fa),some (.int ro),some (.int te),some (.ref lr2)]∧Hx lr2=some (.lst (ws.map V.str))∧ws.Sublist w5∧(so=true→ws=w5)∧Oth p H7 Hx) (fun nx kk=>?_) ?_
 ·cases so with
  | true=>
   walk_at "go"
   exact kk _ _ ⟨_,w5,rfl,hlr,List.Sublist.refl _,(fun _=>rfl),Oth.refl _ _⟩
  | false=>
   walk_at "go"
   refine cB (SqL.of hlr) ?_
   refine dR (w5.map V.str) (fun i ys Hx=>∃ ws:List Str,ys=ws.map V.str∧ws.Sublist (w5.take i)∧bh Hx p (b+12288+1024 * (i:Int))∧Oth p H7 Hx) ⟨[],rfl,List.Sublist.refl _,h7.mono (by omega),Oth.refl _ _⟩ (fun i ys Hx hi ⟨ws,e,hs,_,o⟩=>⟨SqL.of (o _ _ hlr nlr),by
    rw [e,Nh]
    have:=hs.length_le
    rw [Nf] at this
    exact Nr (small1000 (by have:w5.length=5:=rfl;omega))⟩) ?_ ?_
   ·rintro i v ys Hx hv ⟨ws,rfl,hs,hx,o⟩
    rw [Nb] at hv
    cases hw:w5[i]? with
    | none=>rw [hw] at hv;cases hv
    | some wo=>
     rw [hw] at hv
     cases Nm hv
     have hi5:i < 5:=(List.getElem?_eq_some_iff.mp hw).1
     have hl1:(ws++[wo]).Sublist (w5.take (i+1)):=by rw [take_snoc hw];exact hs.append (List.Sublist.refl _)
     have hl2:ws.Sublist (w5.take (i+1)):=by rw [take_snoc hw];exact hs.trans (List.sublist_append_left _ _)
     have L:=bU hx
     try dsimp only [bD]
     walk_at "go"
     refine bg L .head (by decide) (by decide) (by omega) fun r9 H8 b1 b2 L _=>?_
     have h8:=(bx.at (L.at_ (p,bx _) (by walk_at "mem"))).mono (show _≤b+12288+1024 * ((i+1:Nat):Int) by omega)
     have o8:=o.trans L.fr
     walk_at "go"
     refine bF (fun z=>?_) (fun z=>?_)
     ·walk_at "go"
      exact ⟨ws++[wo],by rw [Nj];rfl,hl1,h8,o8⟩
     ·exact ⟨ws,rfl,hl2,h8,o8⟩
   ·rintro ys Hx ⟨ws,rfl,hs,hx,o⟩ lc nlc
    rw [show (w5.map V.str).length=5 from rfl] at hs
    exact kk _ _ ⟨lc,ws,rfl,aE,hs,(fun z=>nomatch z),fun q o' e z=>by rw [aF (aG (o q o' e z) nlc)];exact o q o' e z⟩
 rintro σ H8 ⟨lr2,ws,rfl,hl2,hsu,hso,o8⟩
 have KJ:=o8 _ _ (s7 _ _ L7) nlw
 have o68:Oth p H H8:=fun q o e z=>o8 _ _ (s7 _ _ (o6 q o e z)) z
 have L:=Led.start H8 (fun _=>False)
 walk_at "go"
 refine fq (SqL.of KJ) rfl ?_
 walk_at "go"
 refine fq (SqL.of KJ) rfl ?_
 walk_at "go"
 refine xO L shN fun sp H9 nsp L s9=>?_
 walk_at "go"
 refine oH (PP:=fun _=>False) (H0:=H9) (l:=[]) (fs:=[]) stN (s9 _ _ hl2) (DN hsu) fun x' H10 nx10 hst s10=>?_
 obtain ⟨o,eo,dx,rfl⟩:=L.at_ (sp,CC C x y) (by walk_at "mem")
 walk_at "go"
 exact q x' sp x y fa ro te ws _ ⟨hst,⟨dx,s10 _ _ eo⟩,shN⟩ stN hso fun q o e z=>s10 _ _ (s9 _ _ (o68 q o e z))
end
theorem pV {nm:Str} {ps l:Addr} {sv:V}:(hdF nm ps l sv).lookup ("is_up" : Str)=none:=d7 (by decide +kernel) (by decide +kernel) (by decide +kernel) (by decide +kernel)
theorem Ig {nm:Str} {ps l:Addr} {sv:V}:(hdF nm ps l sv).lookup ("area" : Str)=none:=d7 (by decide +kernel) (by decide +kernel) (by decide +kernel) (by decide +kernel)
theorem Ie {nm:Str} {ps l:Addr} {sv:V}:(hdF nm ps l sv).lookup ("fall" : Str)=none:=d7 (by decide +kernel) (by decide +kernel) (by decide +kernel) (by decide +kernel)
theorem Ia {nm:Str} {ps l:Addr} {sv:V}:(hdF nm ps l sv).lookup ("rise" : Str)=none:=d7 (by decide +kernel) (by decide +kernel) (by decide +kernel) (by decide +kernel)
theorem HX {nm:Str} {ps l:Addr} {sv:V}:(hdF nm ps l sv).lookup ("take" : Str)=none:=d7 (by decide +kernel) (by decide +kernel) (by decide +kernel) (by decide +kernel)
theorem ET {nm:Str} {ps l:Addr} {sv:V}:(hdF nm ps l sv).lookup ("write" : Str)=none:=d7 (by decide +kernel) (by decide +kernel) (by decide +kernel) (by decide +kernel)
theorem Ib {nm:Str} {ps l:Addr} {sv:V}:(hdF nm ps l sv).lookup ("make" : Str)=none:=d7 (by decide +kernel) (by decide +kernel) (by decide +kernel) (by decide +kernel)
theorem Ic {nm:Str} {ps l:Addr} {sv:V}:(hdF nm ps l sv).lookup ("hear" : Str)=none:=d7 (by decide +kernel) (by decide +kernel) (by decide +kernel) (by decide +kernel)
theorem BQ {nm:Str} {ps l:Addr} {sv:V}:(hdF nm ps l sv).lookup ("tell" : Str)=none:=d7 (by decide +kernel) (by decide +kernel) (by decide +kernel) (by decide +kernel)
theorem EU {nm:Str} {ps l:Addr} {sv:V}:(hdF nm ps l sv).lookup ("give_back" : Str)=none:=d7 (by decide +kernel) (by decide +kernel) (by decide +kernel) (by decide +kernel)
section
variable {C CS CH:Addr} {H H':Hp} {d:Hd} {ls:Lns} {pl:Option (Int×Int)} {p:Addr} {b:Int}
theorem bE.nl (h:bE C CS CH H d ls pl) (hh:bh H p b):d.l≠p:=fun z=>by
 obtain ⟨_,hl,_⟩:=h
 obtain ⟨x,y,u,e,_⟩:=hh
 rw [z,e] at hl
 injection hl with hl
 injection hl with hl
 cases ls with
 | nil=>cases hl
 | cons x ls=>injection hl with hl _;cases hl
theorem bE.np (h:bE C CS CH H d ls pl) (hh:bh H p b):d.p≠p:=fun z=>by
 obtain ⟨⟨dx,sv,hp,_⟩,_⟩:=h
 obtain ⟨x,y,u,e,_⟩:=hh
 rw [z,e] at hp
 cases hp
theorem bE.oth (h:bE C CS CH H d ls pl) (hh:bh H p b) (o:Oth p H H'):bE C CS CH H' d ls pl:=by
 have nl:=h.nl hh
 obtain ⟨⟨dx,sv,hp,hpl⟩,hl,hL,⟨dy,tr,ms,h1,h2,pm⟩,⟨dz,h3⟩,hn⟩:=h
 obtain ⟨x,y,z,e,_⟩:=hh
 have ne:∀ q u,H q=some u→(∀ xs,u≠.lst xs)→q≠p:=fun q u h1 h2 z=>by rw [z,e] at h1;cases h1;exact h2 _ rfl
 have ts:cF H H':=fun q xs h=>o q _ h (ne _ _ h fun _ z=>nomatch z)
 exact ⟨⟨dx,sv,o _ _ hp (ne _ _ hp fun _ z=>nomatch z),hpl.ts ts⟩,o _ _ hl nl,hL.ts ts,⟨dy,tr,ms,o _ _ h1 (ne _ _ h1 fun _ z=>nomatch z),ts _ _ h2,pm⟩,⟨dz,o _ _ h3 (ne _ _ h3 fun _ z=>nomatch z)⟩,hn⟩
theorem yV {x:Addr×Ln} (h:er ls) (g:tL x.2):er (ls++[x]):=fun y hy=>(List.mem_append.mp hy).elim (h y) fun z=>by rw [List.mem_singleton.mp z];exact g
theorem cY.any (h:cY ls pl) {pl':Option (Int×Int)} (k0:∀ m k,pl'=some (m,k)→0≤k):cY ls pl':=⟨h.good,k0,h.len⟩
theorem cY.snoc {x:Addr×Ln} (h:cY ls pl) (hl:ls.length≤397) (g:tL x.2) {pl':Option (Int×Int)} (k0:∀ m k,pl'=some (m,k)→0≤k):cY (ls++[x]) pl':=⟨yV h.good g,k0,by rw [M6,MW];omega⟩
theorem xo {m k:Int} (h : 0≤k):∀ m' k',some (m,k)=some (m',k')→0≤k':=fun _ _ e=>by cases e;exact h
theorem pC {m k b:Int} (h : 0≤k):∀ m' k',some (cN m k b)=some (m',k')→0≤k':=fun _ _ e=>by
 unfold cN at e
 cases e
 split <;> omega
theorem Kv {c m f r k:Int} (h : 0≤k):∀ m' k',some (nxP c m f r k)=some (m',k')→0≤k':=fun _ _ e=>by
 unfold nxP cnt at e
 cases e
 split <;> split <;> omega
theorem LH (h:er ls) {x:Int×Int×Int} (e:(nt ls).ar=some x) : 1≤(nt ls).g:=(lP Bp h).yes (by show (nt ls).ar.isSome=true;rw [e];rfl)
theorem jJ {e:Hd} {ls':Lns} {pl':Option (Int×Int)} (k:bE C CS CH H e ls' pl') (f:Fr2 e.p e.l H H'):cF H H':=fun q xs h=>by
 obtain ⟨⟨dx,sv,hp,_⟩,hl,_⟩:=k
 exact f q _ h (fun z=>by rw [z,hp] at h;cases h) (fun z=>by rw [z,hl] at h;cases h)
theorem bE.fr2 {e:Hd} {ls':Lns} {pl':Option (Int×Int)} (h:bE C CS CH H d ls pl) (k:bE C CS CH H e ls' pl') (n1:d.p≠e.p) (n2:d.l≠e.l) (f:Fr2 e.p e.l H H'):bE C CS CH H' d ls pl:=by
 have ts:=jJ k f
 obtain ⟨⟨dx,sv,hp,hpl⟩,hl,hL,⟨dy,tr,ms,h1,h2,pm⟩,⟨dz,h3⟩,hn⟩:=h
 obtain ⟨⟨dx',sv',hp',_⟩,hl',_⟩:=k
 have s1:¬ (("shape" : Str) = "name"):=by decide +kernel
 have s2:¬ (("counts" : Str) = "name"):=by decide +kernel
 refine ⟨⟨dx,sv,f _ _ hp n1 (fun z=>by rw [z,hl'] at hp;cases hp),hpl.ts ts⟩,f _ _ hl (fun z=>by rw [z,hp'] at hl;cases hl) n2,hL.ts ts,⟨dy,tr,ms,f _ _ h1 (fun z=>?_) (fun z=>by rw [z,hl'] at h1;cases h1),ts _ _ h2,pm⟩,⟨dz,f _ _ h3 (fun z=>?_) (fun z=>by rw [z,hl'] at h3;cases h3)⟩,hn⟩
 ·rw [z,hp'] at h1
  injection h1 with h1
  injection h1 with _ _ h1
  unfold hdF stF at h1
  injection h1 with h1 _
  injection h1 with h1 _
  exact s1 h1.symm
 ·rw [z,hp'] at h3
  injection h3 with h3
  injection h3 with _ _ h3
  unfold hdF shF at h3
  injection h3 with h3 _
  injection h3 with h3 _
  exact s2 h3.symm
end
inductive Op where
 | take (gr sl f e:Int)
 | mX (b:Int)
 | write (r:Int)
 | make (r:Int)
 | vB
 | rise
 | give
inductive Ou where
 | err (j:Nat)
 | non
 | bl (b:Bool)
 | int (n:Int)
 | pr (a b:Int)
abbrev Rs:=Ou×List Ln×Option (Int×Int)
def opF (d:Hd) (n:Nt) (g:Int) (pl:Option (Int×Int)):Op→Rs
 | .vB=>match pl with
  | none=>(.err 0,[],none)
  | some _=>(.non,[],none)
 | .rise=>match pl with
  | none=>(.non,[],some (max n.hd n.hr,0))
  | some p=>(.err 1,[],some p)
 | .take gr sl f e=>match pl with
  | none=>(.err 0,[],none)
  | some (m,k)=>if ("once" : Str)∈d.ws∧gr≤g then (.bl false,[],some (m,k)) else (.bl true,[.took gr sl f e],some (cN m k (bnd m k)))
 | .mX b=>match pl with
  | none=>(.err 0,[],none)
  | some (m,k)=>(.non,if ("spoken" : Str)∈d.ws∧n.hr < b then [.heard b] else [],some (cN m k b))
 | .write r=>match pl with
  | none=>(.err 0,[],none)
  | some (m,k)=>match n.ar with
   | none=>(.err 2,[],some (m,k))
   | some (_,f,e)=>if e≤due m f r then (.err 3,[],some (m,k)) else if r+d.far < due m f r then (.err 4,[],some (m,k)) else (.int (max n.hd (due m f r+d.room)),if n.hd < due m f r+d.room then [.held (due m f r+d.room)] else [],some (m,k))
 | .make r=>match pl with
  | none=>(.err 0,[],none)
  | some (m,k)=>match n.ar with
   | none=>(.err 2,[],some (m,k))
   | some (sl,f,e)=>if e≤due m f r then (.err 3,[],some (m,k)) else if r+d.far < due m f r then (.err 4,[],some (m,k)) else if ("ahead" : Str)∈d.ws∧n.hd≤due m f r then (.err 5,[],some (m,k)) else (.int (mk d.c d.s (due m f r) sl (cnt m f r k)),[],some (nxP d.c m f r k))
 | .give=>match pl with
  | none=>(.err 0,[],none)
  | some (m,k)=>match n.ar with
   | none=>(.err 2,[],some (m,k))
   | some (_,f,e)=>if eW f m k n.hd≥e then (.err 3,[],some (m,k)) else (.pr n.g (eW f m k n.hd),if ("ends" : Str)∈d.ws then [.ends n.g (eW f m k n.hd)] else [],some (m,k))
def zw (H:Hp) (v:V):Ou→Prop
 | .err _=>False
 | .non=>v = .non
 | .bl b=>v = .bl b
 | .int n=>v = .int n
 | .pr a b=>∃ t,v = .ref t∧H t=some (.tup [.int a,.int b])
theorem zw.ts {H H':Hp} {v:V} {o:Ou} (h:zw H v o) (s:cF H H'):zw H' v o:=by
 cases o with
 | err j=>exact h
 | non=>exact h
 | bl b=>exact h
 | int n=>exact h
 | pr a b=>obtain ⟨t,e,h⟩:=h;exact ⟨t,e,s _ _ h⟩
def ouD:Ou→Dt
 | .err _=>.non
 | .non=>.non
 | .bl b=>.bl b
 | .int n=>.int n
 | .pr a b=>.tup [.int a,.int b]
theorem zw.at {K:PySem.W.Frag} {H:Hp} {v:V} {o:Ou} (h:zw H v o):At K H v (ouD o):=by
 cases o with
 | err j=>exact h.elim
 | non=>rw [show v = .non from h];exact .non
 | bl b=>rw [show v = .bl b from h];exact .bl _
 | int n=>rw [show v = .int n from h];exact .int _
 | pr a b=>obtain ⟨t,rfl,h⟩:=h;exact .tup (SqT.of h) (.cons (.int _) (.cons (.int _) .nil))
def Mt (H:Hp):Option Addr→Prop
 | none=>True
 | some d=>∃ fs,H d=some (.xd fs)
section
variable {P:Program} {w:World} {K:PySem.W.Frag} {mg:Str→Option Value} {base:Heap} {C CS CH CD CU CA CN CW CT CR:Addr} {d:Hd} {ls:Lns} {pl:Option (Int×Int)} {H:Hp} {Q:VK} {E:XK}
def AfH (C CS CH:Addr) (d:Hd) (ls:Lns) (pl:Option (Int×Int)) (op:Op) (H:Hp) (Q:VK):Prop:=∀ v o ls2 pl2 H',opF d (nt ls) (gmx ls) pl op=(o,ls2.map (·.2),pl2)→zw H' v o→bE C CS CH H' d (ls++ls2) pl2→cY (ls++ls2) pl2→ls2.length≤1→Fr2 d.p d.l H H'→Q v H'
def AfE (cs:List Addr) (d:Hd) (ls:Lns) (pl:Option (Int×Int)) (op:Op) (H:Hp) (E:XK):Prop:=∀ (j:Nat) (c:Addr) (dx:Option Addr) (H':Hp),cs[j]?=some c→opF d (nt ls) (gmx ls) pl op=(.err j,[],pl)→aI H H'→Mt H' dx→E (.ref c) dx H'
theorem FJ {C CS CH:Addr} {H:Hp} {d:Hd} {ls:Lns} {pl:Option (Int×Int)} (h:bE C CS CH H d ls pl):bE C CS CH H d (ls++[]) pl:=by rw [Nk];exact h
theorem ok0 {ls:Lns} {pl pl':Option (Int×Int)} (h:cY ls pl) (k0:∀ m k,pl'=some (m,k)→0≤k):cY (ls++[]) pl':=by rw [Nk];exact h.any k0
theorem xN {gr sl f e:Int} {a:Addr} (hd:bE C CS CH H d ls pl) (hok:cY ls pl) (hl:ls.length≤397) (hg : 1≤gr) (ha:H a=some (.tup [.int sl,.int f,.int e])) (qe:AfE (ers CD CU CA CN CW CT) d ls pl (.take gr sl f e) H E) (q:AfH C CS CH d ls pl (.take gr sl f e) H Q):oQ C CS CH CD [.ref d.p,.int gr,.ref a] H Q E:=
 ⟨d,ls,pl,gr,sl,f,e,a,rfl,hd,hok,ha,fun z H' s=>qe 0 CD none H' rfl (by subst z;rfl) s trivial,
  fun m k z c1 c2 H' h f'=>q (.bl false) (.bl false) [] pl H' (by subst z;simp only [opF];rw [if_pos ⟨c1,c2⟩];rfl) rfl (FJ h) (ok0 hok hok.k0) (NC _) f',
  fun m k z c l H' h f'=>q (.bl true) (.bl true) [(l,.took gr sl f e)] _ H' (by subst z;simp only [opF];rw [if_neg c];rfl) rfl h (hok.snoc (x:=(l,Ln.took gr sl f e)) hl hg (pC (hok.k0 m k z))) (NB 1) f'⟩
theorem xQ {b:Int} (hd:bE C CS CH H d ls pl) (hok:cY ls pl) (hl:ls.length≤397) (qe:AfE (ers CD CU CA CN CW CT) d ls pl (.mX b) H E) (q:AfH C CS CH d ls pl (.mX b) H Q):oS C CS CH CD [.ref d.p,.int b] H Q E:=
 ⟨d,ls,pl,b,rfl,hd,hok,fun z H' s=>qe 0 CD none H' rfl (by subst z;rfl) s trivial,fun m k z ls2 H' hs h f'=>by
  rcases hs with ⟨c1,c2,l,rfl⟩ | ⟨c,rfl⟩
  ·exact q .non .non _ _ H' (by subst z;simp only [opF];rw [if_pos ⟨c1,c2⟩];rfl) rfl h (hok.snoc (x:=(l,Ln.heard b)) hl trivial (pC (hok.k0 m k z))) (NB 1) f'
  ·exact q .non .non _ _ H' (by subst z;simp only [opF];rw [if_neg c];rfl) rfl h (ok0 hok (pC (hok.k0 m k z))) (NC _) f'⟩
theorem wj {r:Int} {op:Op} (hop:op = .write r∨op = .make r) (qe:AfE (ers CD CU CA CN CW CT) d ls pl op H E):∀ H',aI H H'→MkE CD CA CN CW H' pl (nt ls) d.far r E:=fun H' s=>
 ⟨fun z=>qe 0 CD none H' rfl (by subst z;rcases hop with rfl | rfl <;> rfl) s trivial,
  fun z y=>qe 2 CA none H' rfl (by cases pl with | none=>cases z | some p=>rcases hop with rfl | rfl <;> (simp only [opF];rw [y])) s trivial,
  fun m k sl f e z y c=>qe 3 CN none H' rfl (by subst z;rcases hop with rfl | rfl <;> (simp only [opF];rw [y];dsimp only;rw [if_pos c])) s trivial,
  fun m k sl f e z y c1 c2 dd H2 s2 hd=>qe 4 CW (some dd) H2 rfl (by subst z;rcases hop with rfl | rfl <;> (simp only [opF];rw [y];dsimp only;rw [if_neg c1,if_pos c2])) (s.trans s2) ⟨_,hd⟩⟩
theorem tZ {r:Int} (hd:bE C CS CH H d ls pl) (hok:cY ls pl) (hl:ls.length≤397) (qe:AfE (ers CD CU CA CN CW CT) d ls pl (.write r) H E) (q:AfH C CS CH d ls pl (.write r) H Q):kH C CS CH CD CA CN CW [.ref d.p,.int r] H Q E:=
 ⟨d,ls,pl,r,rfl,hd,hok,wj (.inl rfl) qe,fun m k sl f e z y c1 c2 ls2 H' hs h f'=>by
  rcases hs with ⟨c,l,rfl⟩ | ⟨c,rfl⟩
  ·exact q _ (.int (max (nt ls).hd (due m f r+d.room))) _ _ H' (by subst z;simp only [opF];rw [y];dsimp only;rw [if_neg c1,if_neg c2,if_pos c];rfl) rfl h (hok.snoc (x:=(l,Ln.held (due m f r+d.room))) hl trivial hok.k0) (NB 1) f'
  ·exact q _ (.int (max (nt ls).hd (due m f r+d.room))) _ _ H' (by subst z;simp only [opF];rw [y];dsimp only;rw [if_neg c1,if_neg c2,if_neg c];rfl) rfl h (ok0 hok hok.k0) (NC _) f'⟩
theorem xP {r:Int} (hd:bE C CS CH H d ls pl) (hok:cY ls pl) (qe:AfE (ers CD CU CA CN CW CT) d ls pl (.make r) H E) (q:AfH C CS CH d ls pl (.make r) H Q):kK C CS CH CD CA CN CW CT [.ref d.p,.int r] H Q E:=
 ⟨d,ls,pl,r,rfl,hd,hok,wj (.inr rfl) qe,
  fun m k sl f e z y c1 c2 a1 a2 dd H' s hx=>qe 5 CT (some dd) H' rfl (by subst z;simp only [opF];rw [y];dsimp only;rw [if_neg c1,if_neg c2,if_pos ⟨a1,a2⟩]) s ⟨_,hx⟩,
  fun m k sl f e z y c1 c2 a H' h f'=>q _ (.int (mk d.c d.s (due m f r) sl (cnt m f r k))) [] _ H' (by subst z;simp only [opF];rw [y];dsimp only;rw [if_neg c1,if_neg c2,if_neg a];rfl) rfl (FJ h) (ok0 hok (Kv (hok.k0 m k z))) (NC _) f'⟩
theorem xR (hd:bE C CS CH H d ls pl) (hok:cY ls pl) (hl:ls.length≤397) (qe:AfE (ers CD CU CA CN CW CT) d ls pl .give H E) (q:AfH C CS CH d ls pl .give H Q):kL C CS CH CD CA CN [.ref d.p] H Q E:=
 ⟨d,ls,pl,rfl,hd,hok,fun z H' s=>qe 0 CD none H' rfl (by subst z;rfl) s trivial,
  fun z y H' s=>qe 2 CA none H' rfl (by cases pl with | none=>cases z | some p=>(simp only [opF];rw [y])) s trivial,
  fun m k sl f e z y c H' s=>qe 3 CN none H' rfl (by subst z;simp only [opF];rw [y];dsimp only;rw [if_pos c]) s trivial,
  fun m k sl f e z y c tv ls2 H' ht hs h f'=>by
  rcases hs with ⟨c1,l,rfl⟩ | ⟨c1,rfl⟩
  ·exact q _ (.pr (nt ls).g (eW f m k (nt ls).hd)) _ _ H' (by subst z;simp only [opF];rw [y];dsimp only;rw [if_neg c,if_pos c1];rfl) ⟨tv,rfl,ht⟩ h (hok.snoc (x:=(l,Ln.ends (nt ls).g (eW f m k (nt ls).hd))) hl (LH hok.good y) hok.k0) (NB 1) f'
  ·exact q _ (.pr (nt ls).g (eW f m k (nt ls).hd)) _ _ H' (by subst z;simp only [opF];rw [y];dsimp only;rw [if_neg c,if_neg c1];rfl) ⟨tv,rfl,ht⟩ h (ok0 hok hok.k0) (NC _) f'⟩
end
inductive Lt where
 | ask (nm:Str) (r:Int)
 | back (nm:Str) (n e:Int)
 | news (a nm:Str) (b:Int)
 | grant (nm:Str) (n sl f e:Int)
def kE (H:Hp) (t:Addr):Lt→Prop
 | .ask nm r=>0≤r∧H t=some (.tup [.str "ask",.str nm,.int r])
 | .back nm n e=>H t=some (.tup [.str "back",.str nm,.int n,.int e])
 | .news a nm b=>H t=some (.tup [.str "news",.str a,.str nm,.int b])
 | .grant nm n sl f e=>1≤n∧∃ ar,H t=some (.tup [.str "grant",.str nm,.int n,.ref ar])∧H ar=some (.tup [.int sl,.int f,.int e])
theorem kE.ts {H H':Hp} {t:Addr} {x:Lt} (h:kE H t x) (s:cF H H'):kE H' t x:=by
 cases x with
 | ask nm r=>exact ⟨h.1,s _ _ h.2⟩
 | back nm n e=>exact s _ _ h
 | news a nm b=>exact s _ _ h
 | grant nm n sl f e=>obtain ⟨h1,ar,h2,h3⟩:=h;exact ⟨h1,ar,s _ _ h2,s _ _ h3⟩
abbrev Lts:=List (Addr×Lt)
def ltV (ts:Lts):List V:=ts.map fun x=>V.ref x.1
def tK (H:Hp) (ts:Lts):Prop:=∀ x∈ts,kE H x.1 x.2
theorem tK.ts {H H':Hp} {ts:Lts} (h:tK H ts) (s:cF H H'):tK H' ts:=fun x hx=>(h x hx).ts s
theorem fZ (ts:Lts):(ltV ts).length=ts.length:=Nh ..
theorem BG (ts:Lts) (x:Addr×Lt):ltV (ts++[x])=ltV ts++[.ref x.1]:=by unfold ltV;rw [Nj];rfl
theorem HE {ts:Lts} {j:Nat} {x:Addr×Lt} (h:ts[j]?=some x):(ltV ts)[j]?=some (.ref x.1):=by unfold ltV;rw [Nb,h];rfl
theorem EE {ts:Lts} {j:Nat} {v:V} (h:(ltV ts)[j]?=some v):∃ x,ts[j]?=some x∧v = .ref x.1:=by
 unfold ltV at h
 rw [Nb] at h
 cases e:ts[j]? with
 | none=>rw [e] at h;cases h
 | some x=>rw [e] at h;cases h;exact ⟨x,rfl,rfl⟩
theorem old_ne {H:Hp} {p q:Addr} {o:HO} (h:H q=some o) (n:H p=none):q≠p:=fun z=>by rw [z,n] at h;cases h
theorem jn {H:Hp} {p:Addr} {b:Int} (h:bh H p b):∃ zs,H p=some (.lst zs):=by
 obtain ⟨x,y,z,e,_⟩:=h;exact ⟨_,e⟩
theorem dB {H H':Hp} {p:Addr} {b:Int} (h:bh H p b) (k:∀ o,H p=some o→H' p=some o):bh H' p b:=by
 obtain ⟨x,y,z,e,r⟩:=h;exact ⟨x,y,z,k _ e,r⟩
theorem pB {H:Hp} {p q:Addr} {b:Int} {α : Type} {xs:List α} {f : α→Addr} (hh:bh H p b) (h:H q=some (.lst (xs.map fun x=>V.ref (f x)))):q≠p:=fun z=>by
 obtain ⟨x,y,u,e,_⟩:=hh
 rw [z,e] at h
 injection h with h
 injection h with h
 cases xs with
 | nil=>cases h
 | cons x xs=>injection h with h _;cases h
theorem ie {H H':Hp} {q:Addr} {xs:List V} (hq:H q=some (.lst xs)) (o:Oth q H H'):Chg q H H':=⟨o,fun t ys e=>o _ _ e (fun z=>by rw [z,hq] at e;cases e)⟩
theorem iX.chg {CP:Addr} {Hx Hy:Hp} {p l q:Addr} {xs ys:List V} (h:iX CP Hx p l xs) (hq:Hx q=some (.lst ys)) (n:l≠q) (c:Oth q Hx Hy):iX CP Hy p l xs:=⟨h.1.elim fun dx e=>⟨dx,c _ _ e fun z=>by rw [z,hq] at e;cases e⟩,c _ _ h.2 n⟩
theorem iX.same {CP:Addr} {Hx Hy:Hp} {p l:Addr} {xs:List V} (h:iX CP Hx p l xs) (s:aI Hx Hy):iX CP Hy p l xs:=⟨h.1.elim fun dx e=>⟨dx,s _ _ e⟩,s _ _ h.2⟩
theorem bE.Jb {C CS CH q:Addr} {H H':Hp} {d:Hd} {ls:Lns} {pl:Option (Int×Int)} {xs:List V} (h:bE C CS CH H d ls pl) (hq:H q=some (.lst xs)) (n:d.l≠q) (o:Oth q H H'):bE C CS CH H' d ls pl:=by
 obtain ⟨⟨dx,sv,hp,hpl⟩,hl,hL,⟨dy,tr,ms,h1,h2,pm⟩,⟨dz,h3⟩,hn⟩:=h
 have ne:∀ q' u,H q'=some u→(∀ xs,u≠.lst xs)→q'≠q:=fun q' u h1 h2 z=>by rw [z,hq] at h1;cases h1;exact h2 _ rfl
 have ts:cF H H':=fun q xs h=>o q _ h (ne _ _ h fun _ z=>nomatch z)
 exact ⟨⟨dx,sv,o _ _ hp (ne _ _ hp fun _ z=>nomatch z),hpl.ts ts⟩,o _ _ hl n,hL.ts ts,⟨dy,tr,ms,o _ _ h1 (ne _ _ h1 fun _ z=>nomatch z),ts _ _ h2,pm⟩,⟨dz,o _ _ h3 (ne _ _ h3 fun _ z=>nomatch z)⟩,hn⟩
theorem pS {H:Hp} {p q:Addr} {C D dx dy:Addr} {a b:Str} {v w:V} {fs gs:List (Str×V)} (h:H p=some (.ins C dx ((a,v)::fs))) (k:H q=some (.ins D dy ((b,w)::gs))) (n:a≠b):p≠q:=fun z=>by
 rw [z,k] at h
 injection h with h
 injection h with _ _ h
 injection h with h _
 injection h with h _
 exact n h.symm
structure Hs where
 d:Hd
 ls:Lns
 pl:Option (Int×Int)
structure Ev (K:PySem.W.Frag) (C CS CH CL CP:Addr) (H0 H:Hp) (hs:List Hs) (d:Ld) (gs:List Gr) (pp lp:Addr) (ts:Lts):Prop where
 sm:aI H0 H
 hd:∀ x∈hs,bE C CS CH H x.d x.ls x.pl
 ok:∀ x∈hs,cY x.ls x.pl
 ne:hs.Pairwise fun x y=>x.d.p≠y.d.p∧x.d.l≠y.d.l
 hl:∀ x∈hs,x.d.l≠d.l∧x.d.l≠lp
 hn:∀ x∈hs,H0 x.d.p=none∧H0 x.d.l=none
 ld:cM K C CS CL H d gs
 gk:dh gs d.s
 ln:H0 d.l=none
 po:iX CP H pp lp (ltV ts)
 lt:tK H ts
 pn:H0 lp=none
 dl:d.l≠lp
section
variable {K:PySem.W.Frag} {C CS CH CL CP:Addr} {H0 H H':Hp} {hs:List Hs} {d:Ld} {gs:List Gr} {pp lp:Addr} {ts:Lts}
theorem Ev.same (I:Ev K C CS CH CL CP H0 H hs d gs pp lp ts) (s:aI H H'):Ev K C CS CH CL CP H0 H' hs d gs pp lp ts:=
 ⟨I.sm.trans s,fun x hx=>(I.hd x hx).same s,I.ok,I.ne,I.hl,I.hn,I.ld.same s,I.gk,I.ln,I.po.same s,I.lt.ts (cu s),I.pn,I.dl⟩
theorem Ev.rest {H1:Hp} (I:Ev K C CS CH CL CP H0 H hs d gs pp lp ts) (s:aI H1 H0):Ev K C CS CH CL CP H1 H hs d gs pp lp ts:=
 ⟨s.trans I.sm,I.hd,I.ok,I.ne,I.hl,fun x hx=>⟨bW s (I.hn x hx).1,bW s (I.hn x hx).2⟩,I.ld,I.gk,bW s I.ln,I.po,I.lt,bW s I.pn,I.dl⟩
theorem Ev.oth {p:Addr} {b:Int} (I:Ev K C CS CH CL CP H0 H hs d gs pp lp ts) (hh:bh H p b) (n:H0 p=none) (o:Oth p H H'):Ev K C CS CH CL CP H0 H' hs d gs pp lp ts:=by
 obtain ⟨zs,hp⟩:=jn hh
 have ch:=ie hp o
 exact ⟨fun q u e=>o q u (I.sm _ _ e) (aG e n),fun x hx=>(I.hd x hx).oth hh o,I.ok,I.ne,I.hl,I.hn,I.ld.chg hp (pB hh I.ld.2.1) ch,I.gk,I.ln,I.po.chg hp (pB hh I.po.2) o,I.lt.ts ch.ts,I.pn,I.dl⟩
theorem cM.nep {x:Hd} {ls:Lns} {pl:Option (Int×Int)} (h:cM K C CS CL H d gs) (k:bE C CS CH H x ls pl):d.p≠x.p∧d.ps≠x.p∧d.sp≠x.p:=by
 obtain ⟨⟨dx,h1⟩,_,_,⟨⟨dy,tr,ms,h2,_⟩,⟨dz,h3⟩,_⟩⟩:=h
 obtain ⟨⟨dw,sv,hp,_⟩,_⟩:=k
 unfold ldF at h1
 unfold stF at h2
 unfold shF at h3
 unfold hdF at hp
 exact ⟨pS h1 hp (by decide +kernel),pS h2 hp (by decide +kernel),pS h3 hp (by decide +kernel)⟩
theorem cM.fr2 {x:Hd} {ls:Lns} {pl:Option (Int×Int)} (h:cM K C CS CL H d gs) (k:bE C CS CH H x ls pl) (n:d.l≠x.l) (f:Fr2 x.p x.l H H'):cM K C CS CL H' d gs:=by
 obtain ⟨n1,n2,n3⟩:=h.nep k
 have ts:=jJ k f
 have kl:=k.2.1
 obtain ⟨⟨dw,sv,kp,_⟩,_⟩:=id k
 obtain ⟨⟨dx,h1⟩,hl,hG,⟨⟨dy,tr,ms,h2,h4,pm⟩,⟨dz,h3⟩,ok,nn⟩⟩:=h
 have st:SqT K H' tr (ms.map V.str):=by
  rcases h4 with (h | ⟨o,h⟩) | h
  ·exact .inl (.inl (ts _ _ h))
  ·exact .inl (.inr ⟨o,f _ _ h (fun z=>by rw [z,kp] at h;cases h) (fun z=>by rw [z,kl] at h;cases h)⟩)
  ·exact .inr h
 exact ⟨⟨dx,f _ _ h1 n1 (fun z=>by rw [z,kl] at h1;cases h1)⟩,f _ _ hl (fun z=>by rw [z,kp] at hl;cases hl) n,hG.ts ts,⟨⟨dy,tr,ms,f _ _ h2 n2 (fun z=>by rw [z,kl] at h2;cases h2),st,pm⟩,⟨dz,f _ _ h3 n3 (fun z=>by rw [z,kl] at h3;cases h3)⟩,ok,nn⟩⟩
theorem iX.fr2 {x:Hd} {ls:Lns} {pl:Option (Int×Int)} {xs:List V} (h:iX CP H pp lp xs) (k:bE C CS CH H x ls pl) (n:lp≠x.l) (f:Fr2 x.p x.l H H'):iX CP H' pp lp xs:=by
 obtain ⟨⟨dx,h1⟩,h2⟩:=h
 have kl:=k.2.1
 obtain ⟨⟨dw,sv,kp,_⟩,_⟩:=id k
 have n1:pp≠x.p:=by
  unfold poF at h1
  unfold hdF at kp
  exact pS h1 kp (by decide +kernel)
 exact ⟨⟨dx,f _ _ h1 n1 (fun z=>by rw [z,kl] at h1;cases h1)⟩,f _ _ h2 (fun z=>by rw [z,kp] at h2;cases h2) n⟩
theorem AZ {α : Type} {R : α→α→Prop} {y : α}:∀ {xs:List α} {i:Nat} {x : α},xs[i]?=some x→xs.Pairwise R→(∀ z,R z x→R z y)→(∀ z,R x z→R y z)→(xs.set i y).Pairwise R
 | [],i,x,h,_,_,_=>by simp at h
 | a::xs,0,x,h,p,h1,h2=>by
  cases h
  rw [List.set_cons_zero]
  rw [List.pairwise_cons] at p ⊢
  exact ⟨fun z hz=>h2 z (p.1 z hz),p.2⟩
 | a::xs,i+1,x,h,p,h1,h2=>by
  rw [List.set_cons_succ]
  rw [List.pairwise_cons] at p ⊢
  refine ⟨fun z hz=>?_,AZ (by simpa using h) p.2 h1 h2⟩
  rcases MQ hz with hz | rfl
  ·exact p.1 z hz
  ·exact h1 a (p.1 x (M0 (by simpa using h)))
theorem Kn {hs:List Hs} (p:hs.Pairwise fun x y=>x.d.p≠y.d.p∧x.d.l≠y.d.l) {i j:Nat} {x y:Hs} (hx:hs[i]?=some x) (hy:hs[j]?=some y) (n:i≠j):y.d.p≠x.d.p∧y.d.l≠x.d.l:=by
 obtain ⟨hi,rfl⟩:=List.getElem?_eq_some_iff.mp hx
 obtain ⟨hj,rfl⟩:=List.getElem?_eq_some_iff.mp hy
 rw [List.pairwise_iff_getElem] at p
 rcases Nat.lt_or_gt_of_ne n with z | z
 ·have:=p i j hi hj z;exact ⟨Ne.symm this.1,Ne.symm this.2⟩
 ·exact p j i hj hi z
theorem Ev.step {i:Nat} {x:Hs} {ls':Lns} {pl':Option (Int×Int)} (I:Ev K C CS CH CL CP H0 H hs d gs pp lp ts) (hi:hs[i]?=some x) (f:Fr2 x.d.p x.d.l H H') (h:bE C CS CH H' x.d ls' pl') (k:cY ls' pl'):Ev K C CS CH CL CP H0 H' (hs.set i ⟨x.d,ls',pl'⟩) d gs pp lp ts:=by
 have hx:=M0 hi
 have kx:=I.hd x hx
 obtain ⟨n1,n2⟩:=I.hn x hx
 obtain ⟨n3,n4⟩:=I.hl x hx
 refine ⟨fun q u e=>f q u (I.sm _ _ e) (aG e n1) (aG e n2),fun y hy=>?_,fun y hy=>?_,AZ hi I.ne (fun _ h=>h) (fun _ h=>h),fun y hy=>?_,fun y hy=>?_,I.ld.fr2 kx (Ne.symm n3) f,I.gk,I.ln,I.po.fr2 kx (Ne.symm n4) f,I.lt.ts (jJ kx f),I.pn,I.dl⟩
 ·obtain ⟨j,hj,rfl⟩:=M5 hy
  have hj':=hj
  rw [Nl] at hj'
  by_cases c:i=j
  ·subst c;rw [List.getElem_set_self];exact h
  ·rw [List.getElem_set_ne c]
   have hy':hs[j]?=some hs[j]:=MT hj'
   obtain ⟨m1,m2⟩:=Kn I.ne hi hy' c
   exact (I.hd _ (List.getElem_mem hj')).fr2 kx m1 m2 f
 ·rcases MQ hy with hy | rfl
  ·exact I.ok y hy
  ·exact k
 ·rcases MQ hy with hy | rfl
  ·exact I.hl y hy
  ·exact ⟨n3,n4⟩
 ·rcases MQ hy with hy | rfl
  ·exact I.hn y hy
  ·exact ⟨n1,n2⟩
theorem Ev.lend {gs':List Gr} (I:Ev K C CS CH CL CP H0 H hs d gs pp lp ts) (c:Chg d.l H H') (h:cM K C CS CL H' d gs') (k:dh gs' d.s):Ev K C CS CH CL CP H0 H' hs d gs' pp lp ts:=
 have hq:=I.ld.2.1
 ⟨fun q u e=>c.oth q u (I.sm _ _ e) (aG e I.ln),fun x hx=>(I.hd x hx).Jb hq (I.hl x hx).1 c.oth,I.ok,I.ne,I.hl,I.hn,h,k,I.ln,I.po.chg hq (Ne.symm I.dl) c.oth,I.lt.ts c.ts,I.pn,I.dl⟩
theorem Ev.send {t:Addr} {y:Lt} (I:Ev K C CS CH CL CP H0 H hs d gs pp lp ts) (o:Oth lp H H') (e:H' lp=some (.lst (ltV ts++[.ref t]))) (h:kE H t y):Ev K C CS CH CL CP H0 H' hs d gs pp lp (ts++[(t,y)]):=by
 have hq:=I.po.2
 have c:=ie hq o
 refine ⟨fun q u e=>o q u (I.sm _ _ e) (aG e I.pn),fun x hx=>(I.hd x hx).Jb hq (I.hl x hx).2 o,I.ok,I.ne,I.hl,I.hn,I.ld.chg hq I.dl c,I.gk,I.ln,?_,fun x hx=>?_,I.pn,I.dl⟩
 ·obtain ⟨dx,e1⟩:=I.po.1
  exact ⟨⟨dx,o _ _ e1 fun z=>by rw [z,hq] at e1;cases e1⟩,by rw [BG];exact e⟩
 ·rcases List.mem_append.mp hx with hx | hx
  ·exact (I.lt x hx).ts c.ts
  ·rw [List.mem_singleton.mp hx];exact h.ts c.ts
def Sep (hs:List Hs) (d:Ld) (lp q:Addr):Prop:=(∀ x∈hs,q≠x.d.p∧q≠x.d.l)∧q≠d.l∧q≠lp
theorem Ev.sep {q:Addr} (I:Ev K C CS CH CL CP H0 H hs d gs pp lp ts) (n:H q=none):Sep hs d lp q:=
 ⟨fun x hx=>by
  have k:=I.hd x hx
  obtain ⟨⟨dw,sv,kp,_⟩,_⟩:=id k
  exact ⟨Ne.symm (old_ne kp n),Ne.symm (old_ne k.2.1 n)⟩,Ne.symm (old_ne I.ld.2.1 n),Ne.symm (old_ne I.po.2 n)⟩
theorem Sep.set {q:Addr} {i:Nat} {x:Hs} {ls':Lns} {pl':Option (Int×Int)} (h:Sep hs d lp q) (hi:hs[i]?=some x):Sep (hs.set i ⟨x.d,ls',pl'⟩) d lp q:=
 ⟨fun y hy=>by
  rcases MQ hy with hy | rfl
  ·exact h.1 y hy
  ·exact h.1 x (M0 hi),h.2⟩
end
theorem Eb {gs:List Gr} {s:Nat} {X:Gr} (h:dh gs s) (hl:gs.length≤399) (hX : 0≤X.sl∧X.sl < s):dh (gs++[X]) s:=⟨fun z hz=>(List.mem_append.mp hz).elim (h.sl z) (fun e=>by rw [List.mem_singleton.mp e];exact hX),by rw [M6,MW];omega⟩
theorem Hf {gs:List Gr} {s i:Nat} {X:Gr} (h:dh gs s) (hX : 0≤X.sl∧X.sl < s):dh (gs.set i X) s:=⟨fun z hz=>(MQ hz).elim (h.sl z) (fun e=>by rw [e];exact hX),by rw [Nl];exact h.len⟩
theorem ED {ps l:Addr}:(ldF ps l).lookup ("free" : Str)=none:=iO (by decide +kernel) (by decide +kernel)
def AfL (K:PySem.W.Frag) (C CS CL:Addr) (d:Ld) (gs:List Gr) (nm:Str) (r:Int) (H:Hp) (Q:Addr→Hp→Prop):Prop:=∀ x y,Nx (decide (("apart" : Str)∈d.ws)) gs d.s r x y→¬ iN < y+d.term→∀ g ar t2 H',cM K C CS CL H' d (gs++[⟨g,ar,gs.length+1,nm,x,y,y+d.term⟩])→dh (gs++[⟨g,ar,gs.length+1,nm,x,y,y+d.term⟩]) d.s→H' t2=some (.tup [.str "grant",.str nm,.int (gs.length+1),.ref ar])→Chg d.l H H'→Q t2 H'
def NoL (d:Ld) (gs:List Gr) (r:Int) (CN:Addr) (H:Hp) (E:XK):Prop:=∀ x y,Nx (decide (("apart" : Str)∈d.ws)) gs d.s r x y→iN < y+d.term→∀ H',aI H H'→E (.ref CN) none H'
def AfF (K:PySem.W.Frag) (C CS CL:Addr) (d:Ld) (gs:List Gr) (n en:Int) (H:Hp) (Q:VK):Prop:=∀ i x,Fre gs n en i x→∀ g ar H',cM K C CS CL H' d (gs.set i ⟨g,ar,n,x.nm,x.sl,x.f,en⟩)→dh (gs.set i ⟨g,ar,n,x.nm,x.sl,x.f,en⟩) d.s→Chg d.l H H'→Q (.bl true) H'
def CaR (K:PySem.W.Frag) (C CS CH CL CD CU CA CN CW CT:Addr) (hv lv:V) (H:Hp) (Q:VK) (E:XK):Lt→Prop
 | .ask nm r=>∃ d gs,lv = .ref d.p∧cM K C CS CL H d gs∧dh gs d.s∧gs.length≤399∧NoL d gs r CN H E∧AfL K C CS CL d gs nm r H (fun t=>Q (.ref t))
 | .back nm n en=>∃ d gs,lv = .ref d.p∧cM K C CS CL H d gs∧dh gs d.s∧(¬ JK gs n en→∀ H',aI H H'→Q (.bl false) H')∧AfF K C CS CL d gs n en H Q
 | .news a nm b=>∃ d ls pl,hv = .ref d.p∧bE C CS CH H d ls pl∧cY ls pl∧ls.length≤397∧AfE (ers CD CU CA CN CW CT) d ls pl (.mX b) H E∧AfH C CS CH d ls pl (.mX b) H Q
 | .grant nm n sl f e=>∃ d ls pl,hv = .ref d.p∧bE C CS CH H d ls pl∧cY ls pl∧ls.length≤397∧AfE (ers CD CU CA CN CW CT) d ls pl (.take n sl f e) H E∧AfH C CS CH d ls pl (.take n sl f e) H Q
theorem cM.slots {K:PySem.W.Frag} {C CS CL:Addr} {H:Hp} {d:Ld} {gs:List Gr} (h:cM K C CS CL H d gs) : 1≤d.s:=by have:=h.2.2.2.ok.s1;omega
section
variable {P:Program} {w:World} {K:PySem.W.Frag} {mg:Str→Option Value} {base:Heap} {C CS CH CL CD CU CA CN CW CT CP CE:Addr}
theorem AK:aq ["self", "number", "hand", "lender", "letter", "lent"] ["self", "number", "hand", "lender"] (aj (inClass (top 12) 4)):=by walk_at "s"
def wI (K:PySem.W.Frag) (C CS CH CL CD CU CA CN CW CT CP CE:Addr):Sp:=fun vs H Q E=>∃ (pp lp:Addr) (ts:Lts) (n:Int) (hv lv:V),vs=[.ref pp,.int n,hv,lv]∧iX CP H pp lp (ltV ts) ∧
 ((n < 1∨ts.length < n)→∀ dd H',aI H H'→H' dd=some (.xd [("number",.int n)])→E (.ref CE) (some dd) H') ∧
 (∀ (j:Nat) (t:Addr) (x:Lt),n=(j:Int)+1→ts[j]?=some (t,x)→kE H t x∧CaR K C CS CH CL CD CU CA CN CW CT hv lv H Q E x)
theorem BA (D:bV K CP "carry" "Post.carry" (inClass (top 12) 4) ["self", "number", "hand", "lender"]) (BT:Bt mg) (NE:br (CX1 P w)) (fC:bw P w K mg base (CX1 P w) CP "letter" 3 ["self", "number"] (kT CP CE)) (m8:bw P w K mg base (CX1 P w) CL "lend" 5 ["self", "hand", "least"] (Ag K C CS CL CN)) (m9:bw P w K mg base (CX1 P w) CL "free" 6 ["self", "grant", "end"] (Ah K C CS CL))
  (gO:bw P w K mg base (CX1 P w) CH "take" 6 ["self", "grant", "area"] (oQ C CS CH CD)) (gR:bw P w K mg base (CX1 P w) CH "hear" 6 ["self", "bound"] (oS C CS CH CD)):bw P w K mg base (CX1 P w) CP "carry" 7 ["self", "number", "hand", "lender"] (wI K C CS CH CL CD CU CA CN CW CT CP CE):=by
 have S:=AK
 refine cG D S (fun vs H Q E h=>?_) (fun f cdv A outer s H vs Q E hr h=>?_)
 ·obtain ⟨pp,lp,ts,n,hv,lv,rfl,_⟩:=h
  rfl
 obtain ⟨pp,lp,ts,n,hv,lv,rfl,hpo,q0,q⟩:=h
 refine ⟨_,(ak (aM (i:=4) S.nd rfl (by first | exact Or.inl rfl | exact Or.inr rfl) (gC fC (hr.mono (by first | decide | omega)) aL (pv 0) (aa (pv 1) af)))
   (ak (bf (aK bZ (ay au (pv 4) ai (fun _ _=>rfl)) bB (aO _)) (ak (aM (i:=5) S.nd rfl (by first | exact Or.inl rfl | exact Or.inr rfl) (gC m8 (hr.mono (by first | decide | omega)) aL (pv 3) (aa (ay au (pv 4) ai (fun _ _=>rfl)) (aa (ay au (pv 4) ai (fun _ _=>rfl)) af))))
    (ao (aB (bA (aa bB (aa (ay au (pv 4) ai (fun _ _=>rfl)) (aa (ay au (pv 5) ai (fun _ _=>rfl)) (aa (ay au (pv 5) ai (fun _ _=>rfl)) af)))))))) aJ)
   (ak (bf (aK bZ (ay au (pv 4) ai (fun _ _=>rfl)) bB (aO _)) (ao (aB (gC gO (hr.mono (by first | decide | omega)) aL (pv 2) (aa (ay au (pv 4) ai (fun _ _=>rfl)) (aa (ay au (pv 4) ai (fun _ _=>rfl)) af))))) aJ)
   (ak (bf (aK bZ (ay au (pv 4) ai (fun _ _=>rfl)) bB (aO _)) (ao (aB (eT m9 (hr.mono (by first | decide | omega)) NE.pass (pv 3) (aa (ay au (pv 4) ai (fun _ _=>rfl)) (aa (ay au (pv 4) ai (fun _ _=>rfl)) af))))) aJ)
   (ao (aB (gC gR (hr.mono (by first | decide | omega)) aL (pv 2) (aa (ay au (pv 4) ai (fun _ _=>rfl)) af)))))))),?_⟩
 try dsimp only [aZ]
 obtain ⟨⟨dx,hp1⟩,hp2⟩:=id hpo
 walk_at "go"
 refine aV hp1 (lk_miss (by decide +kernel)) ?_
 walk_at "go"
 refine ⟨pp,lp,_,_,rfl,hpo,fun v h1 h2 hv0=>?_,fun z dd H' sm hd=>q0 (by rw [fZ] at z;exact z) dd H' sm hd⟩
 obtain ⟨⟨t,x⟩,hj,rfl⟩:=EE hv0
 obtain ⟨hx,qq⟩:=q _ t x (show n=(((n - 1).toNat:Nat):Int)+1 by omega) hj
 clear q q0
 cases x with
 | ask nm r=>
  obtain ⟨d,gs,rfl,hd,hok,h62,qe,q⟩:=qq
  obtain ⟨⟨dy,hld⟩,_⟩:=id hd
  obtain ⟨r0,ht⟩:=hx
  have L:=(Led.start H (fun _=>False)).more (aS t [_,_,_]) ht
  walk_at "go"
  refine aV hld Hr ?_
  walk_at "go"
  refine ⟨d,gs,nm,r,rfl,hd,hok,r0,fun x y hn c1 H1 s1=>qe x y hn c1 H1 s1,fun x y hn c1 g ar t2 H1 hd1 ht2 c2=>?_⟩
  have L:=((Led.start H1 (fun _=>False)).more (aS t2 [_,_]) ht2).more (aS t [_,_,_]) (c2.ts _ _ ht)
  walk_at "go"
  exact q x y hn c1 g ar _ _ (hd1.same L'.same) (Eb hok h62 (hn.lt hd.slots)) (L'.tup (by walk_at "mem")) (c2.same L'.same)
 | back nm n en=>
  obtain ⟨d,gs,rfl,hd,hok,qn,q⟩:=qq
  obtain ⟨⟨dy,hld⟩,_⟩:=id hd
  have ht:H t=some (.tup [.str "back",.str nm,.int n,.int en]):=hx
  have L:=(Led.start H (fun _=>False)).more (aS t [_,_,_,_]) ht
  walk_at "go"
  refine dD (by decide +kernel) ?_
  walk_at "go"
  refine dD (by decide +kernel) ?_
  walk_at "go"
  refine aV hld ED ?_
  walk_at "go"
  refine ⟨d,gs,n,en,rfl,hd,hok,fun no H1 s1=>qn no H1 s1,fun i x fre g ar H1 hd1 c1=>q i x fre g ar H1 hd1 (Hf hok (hok.sl x (M0 fre.at_))) c1⟩
 | news a nm b=>
  obtain ⟨d,ls,pl,rfl,hd,hok,hl,qe,q⟩:=qq
  obtain ⟨⟨dy,sv,hp,_⟩,_⟩:=id hd
  have ht:H t=some (.tup [.str "news",.str a,.str nm,.int b]):=hx
  have L:=(Led.start H (fun _=>False)).more (aS t [_,_,_,_]) ht
  walk_at "go"
  refine dD (by decide +kernel) ?_
  walk_at "go"
  refine dD (by decide +kernel) ?_
  walk_at "go"
  refine dD (by decide +kernel) ?_
  walk_at "go"
  refine aV hp Ic ?_
  walk_at "go"
  exact xQ hd hok hl qe q
 | grant nm n sl f e=>
  obtain ⟨d,ls,pl,rfl,hd,hok,hl,qe,q⟩:=qq
  obtain ⟨⟨dy,sv,hp,_⟩,_⟩:=id hd
  obtain ⟨hn,a,ht,ha⟩:=hx
  have L:=(Led.start H (fun _=>False)).more (aS t [_,_,_,_]) ht
  walk_at "go"
  refine dD (by decide +kernel) ?_
  walk_at "go"
  refine aV hp HX ?_
  walk_at "go"
  exact xN hd hok hl hn ha qe q
end
end Law
namespace L4
open PySem PySem.Spec PyProof.Rows L2 L3
theorem xT (t:SetTable) (n:Nat):(t.orStandIn n).led=t.led:=by unfold SetTable.orStandIn;split <;> rfl
theorem EI (t:SetTable) (es:Array (Int×Value)) (h:Int) (x:Value):(layNew t es h x).2.1.led=t.led:=by
 unfold layNew
 cases t.freeSlot h with
 | none=>rfl
 | some p=>exact xT _ _
theorem yh (t:SetTable) (es:Array (Int×Value)) (n:Nat):(relayAll t es n).2.1.led=t.led∧(t.plain=false→(relayAll t es n).2.1.plain=false):=by
 unfold relayAll
 cases hr:t.relaid (es.map (·.1)) n with
 | none=>exact ⟨rfl,fun _=>rfl⟩
 | some p=>
  obtain ⟨t',order⟩:=p
  have e:t'.led=t.led∧t'.plain=t.plain:=by
   unfold SetTable.relaid SetTable.laid at hr
   cases hc:SetTable.layClean (SetTable.sizeAbove n - 1) (es.map (·.1)) with
   | none=>rw [hc] at hr;cases hr
   | some ow=>
    rw [hc] at hr
    cases hr
    exact ⟨rfl,rfl⟩
  dsimp only
  split
  ·exact ⟨e.1,fun z=>e.2.trans z⟩
  ·exact ⟨rfl,fun _=>rfl⟩
section
variable {prog:Program} {w:World} {A:Around} {E:Value→Shared→Prop} {s:Shared} {R:Result→Shared→Prop} {I S:Addr} {fp wr:List Addr} {G:Array GenState→Array GenState→Prop} {P:Nat→Value→Prop} {St:Nat→Shared→Prop} {xs:List Str}
theorem qV (a:Value) {Q1:Value→Shared→Prop} (h:Q1 (.ref s.heap.objs.size) { s with heap:=s.heap.push { cls:=.type "set",dict:=none,data:=.set #[] 0 (.fresh 0 0 (!w.params.followText "set-order")) } }) :
  codeAny (model prog w) A (.call (.builtin "set.__new__") ⟨[.type "set",a],[]⟩) (wants Q1 E) s:=by
 refine codeAny_of_tree ?_
 show wpAny _ A.in1 (do checkBuiltinCall "set.__new__" ⟨[.type "set",a],[]⟩;again (.builtin "set.__new__" ⟨[.type "set",a],[]⟩)) _ _ s
 refine wpAny_bind (wpAny_of_eq (F.newCall_set_1 a) (wpAny_pure ⟨plainId_quiet F.plain_set_new _,codeAny_builtin F.entry_set_new ?_⟩))
 rw [Around.under_plainId F.plain_set_new _]
 unfold Builtin.«set.__new__» Builtin.Frozenset.newClass
 have hsub:=sub_set_self
 obtain ⟨hp,g,d,tk,os⟩:=s
 dsimp only
 wp_walk
 refine wpAny_askSetting (wpAny_pure ?_)
 dsimp only
 simp only [newObj]
 refine wpAny_bind (wpAny_alloc (wpAny_pure ?_))
 exact wpAny_pure h
end
def Asc (l:List Nat):Prop:=l.Pairwise (· < ·)
theorem Asc.lt {xs:Array Nat} (h:Asc xs.toList) {i j:Nat} (hij:i < j) (hj:j < xs.size):xs[i]'(by omega) < xs[j]:=by
 have:=List.pairwise_iff_getElem.mp h i j (by rw [Array.length_toList];omega) (by rw [Array.length_toList];exact hj) hij
 simpa using this
theorem l8 {xs:Array Nat} {j:Nat} (ha:Asc xs.toList):∀ (fuel lo hi:Nat),hi - lo≤fuel→lo≤hi→hi≤xs.size→(∀ i (h:i < xs.size),i < lo→xs[i] < j)→(∀ i (h:i < xs.size),hi≤i→j≤xs[i]) →
  SetTable.below.go xs j fuel lo hi≤xs.size∧(∀ i (h:i < xs.size),i < SetTable.below.go xs j fuel lo hi→xs[i] < j)∧(∀ i (h:i < xs.size),SetTable.below.go xs j fuel lo hi≤i→j≤xs[i])
 | 0,lo,hi,hf,hl,hs,h1,h2=>by
  obtain rfl:lo=hi:=by omega
  exact ⟨hs,h1,h2⟩
 | fuel+1,lo,hi,hf,hl,hs,h1,h2=>by
  unfold SetTable.below.go
  by_cases c:lo < hi
  ·rw [if_pos c]
   have hm:(lo+hi) / 2 < xs.size:=by omega
   dsimp only
   rw [Array.getD_eq_getD_getElem?,Array.getElem?_eq_getElem hm,Option.getD_some]
   by_cases d:xs[(lo+hi) / 2] < j
   ·rw [if_pos d]
    refine l8 ha fuel _ hi (by omega) (by omega) hs (fun i h hx=>?_) h2
    by_cases e:i=(lo+hi) / 2
    ·subst e;exact d
    ·exact Nat.lt_trans (ha.lt (show i < (lo+hi) / 2 by omega) hm) d
   ·rw [if_neg d]
    refine l8 ha fuel lo _ (by omega) (by omega) (by omega) h1 (fun i h hx=>?_)
    by_cases e:i=(lo+hi) / 2
    ·subst e;omega
    ·have:=ha.lt (show (lo+hi) / 2 < i by omega) h
     omega
  ·rw [if_neg c]
   obtain rfl:lo=hi:=by omega
   exact ⟨hs,h1,h2⟩
theorem Cy {xs:Array Nat} (ha:Asc xs.toList) (j:Nat):SetTable.below xs j≤xs.size∧(∀ i (h:i < xs.size),i < SetTable.below xs j→xs[i] < j)∧(∀ i (h:i < xs.size),SetTable.below xs j≤i→j≤xs[i]):=
 l8 ha xs.size 0 xs.size (by omega) (NC _) (NB _) (fun i h z=>by omega) (fun i h z=>by omega)
theorem sD {α : Type} (xs:Array α) (p:Nat) (x : α):(SetTable.insertAt xs p x).toList=xs.toList.take p++x::xs.toList.drop p:=by
 unfold SetTable.insertAt
 simp [List.take_of_length_le]
def CQ (xs:Array Nat) (j:Nat):Prop:=xs[SetTable.below xs j]?≠some j
theorem vO {xs:Array Nat} (ha:Asc xs.toList) {j:Nat} (hf:CQ xs j):Asc (SetTable.insertAt xs (SetTable.below xs j) j).toList:=by
 obtain ⟨h0,h1,h2⟩:=Cy ha j
 have hp:∀ x∈xs.toList.take (SetTable.below xs j),x < j:=fun x hx=>by
  obtain ⟨i,hi,e⟩:=M5 hx
  rw [Nf,Array.length_toList] at hi
  rw [List.getElem_take,Array.getElem_toList] at e
  rw [← e]
  exact h1 i (by omega) (by omega)
 have hq:∀ x∈xs.toList.drop (SetTable.below xs j),j < x:=fun x hx=>by
  obtain ⟨i,hi,e⟩:=M5 hx
  rw [List.length_drop,Array.length_toList] at hi
  rw [List.getElem_drop,Array.getElem_toList] at e
  rw [← e]
  have hb:SetTable.below xs j < xs.size:=by omega
  have b0:=h2 _ hb (NB _)
  have b1:xs[SetTable.below xs j]≠j:=fun z=>hf (by rw [Array.getElem?_eq_getElem hb,z])
  by_cases c:i=0
  ·subst c
   simp only [Nat.add_zero]
   omega
  ·have:=ha.lt (show SetTable.below xs j < SetTable.below xs j+i by omega) (by omega)
   omega
 rw [sD]
 unfold Asc
 rw [M4]
 refine ⟨ha.sublist (List.take_sublist _ _),List.pairwise_cons.mpr ⟨hq,ha.sublist (List.drop_sublist _ _)⟩,fun a h b h'=>?_⟩
 rcases List.mem_cons.mp h' with rfl | h'
 ·exact hp a h
 ·exact Nat.lt_trans (hp a h) (hq b h')
theorem nN {t:SetTable} {j:Nat} (h:∀ i,t.slot j≠.live i):CQ t.place j:=fun e=>by
 unfold SetTable.slot at h
 dsimp only at h
 rw [e,if_pos (by simp)] at h
 exact h _ rfl
theorem iF {t:SetTable} {f:Nat→Int} {h:Int}:∀ (fuel:Nat) (p:SetTable.Probe) (j:Nat) (d:Option Nat),(∀ k,p.dummy=some k→CQ t.place k)→SetTable.probe.go t f h fuel p=some (.empty j d)→CQ t.place (d.getD j)
 | 0,p,j,d,_,e=>by unfold SetTable.probe.go at e;cases e
 | fuel+1,p,j,d,hp,e=>by
  unfold SetTable.probe.go at e
  have adv:∀ q:SetTable.Probe,(t.advance q).dummy=q.dummy:=fun q=>by unfold SetTable.advance;split <;> rfl
  cases hs:t.slot p.j with
  | empty=>
   rw [hs] at e
   cases e
   cases hd:p.dummy with
   | none=>exact nN fun i z=>by rw [Option.getD_none,hs] at z;cases z
   | some k=>exact hp k hd
  | dummy=>
   rw [hs] at e
   refine iF fuel _ j d (fun k hk=>?_) e
   rw [adv] at hk
   cases hk
   exact nN fun i z=>by rw [hs] at z;cases z
  | live i=>
   rw [hs] at e
   dsimp only at e
   split at e
   ·cases e
   ·exact iF fuel _ j d (fun k hk=>hp k (by rw [adv] at hk;exact hk)) e
theorem yZ {t:SetTable} {h:Int} {j:Nat} {b:Bool} (e:t.freeSlot h=some (j,b)):CQ t.place j:=by
 unfold SetTable.freeSlot at e
 split at e
 ·rename_i j' d' hq
  cases e
  exact iF _ _ _ _ (fun k hk=>by cases hk) hq
 ·cases e
theorem iw (n:Nat):Asc (Array.range n).toList:=by
 rw [Array.toList_range]
 exact List.pairwise_lt_range
theorem FH {t:SetTable} {es:Array (Int×Value)} {h:Int} {x:Value} (ha:Asc t.place.toList):Asc (layNew t es h x).2.1.place.toList:=by
 unfold layNew
 cases hs:t.freeSlot h with
 | none=>exact iw _
 | some p=>
  obtain ⟨j,b⟩:=p
  dsimp only
  unfold SetTable.orStandIn
  split
  ·exact vO ha (yZ hs)
  ·exact iw _
theorem zq (t:SetTable) (es:Array (Int×Value)) (n:Nat):Asc (relayAll t es n).2.1.place.toList:=by
 unfold relayAll
 cases hr:t.relaid (es.map (·.1)) n with
 | none=>exact iw _
 | some p=>
  obtain ⟨t',order⟩:=p
  have e:Asc t'.place.toList:=by
   unfold SetTable.relaid SetTable.laid at hr
   cases hc:SetTable.layClean (SetTable.sizeAbove n - 1) (es.map (·.1)) with
   | none=>rw [hc] at hr;cases hr
   | some ow=>
    rw [hc] at hr
    cases hr
    dsimp only
    unfold Asc
    rw [List.pairwise_map]
    refine List.Pairwise.filterMap _ (R:=(· < ·)) (fun a b hab x hx y hy=>?_) List.pairwise_lt_range
    simp only [Option.mem_def,Option.map_eq_some_iff] at hx hy
    obtain ⟨_,_,rfl⟩:=hx
    obtain ⟨_,_,rfl⟩:=hy
    exact hab
  dsimp only
  split
  ·exact e
  ·exact iw _
def mC (h:Heap) (a:Addr) (led:Bool):Prop:=∃ o es ep t,h.get? a=some o∧o.data = .set es ep t∧t.led=led∧Asc t.place.toList
theorem nP {h h':Heap} {a:Addr} {led:Bool} (x:mC h a led) (k:∀ o,h.get? a=some o→h'.get? a=some o):mC h' a led:=let ⟨o,es,ep,t,ho,r⟩:=x;⟨o,es,ep,t,k o ho,r⟩
def bR:List Int→List Int→List Int
 | acc,[]=>acc
 | acc,x::xs=>bR (if x∈acc then acc else acc++[x]) xs
theorem mw:∀ (xs ys acc:List Int),bR acc (xs++ys)=bR (bR acc xs) ys
 | [],_,_=>rfl
 | x::xs,ys,acc=>mw xs ys _
theorem kh {xs:List Int} {i:Nat} {x:Int} (h:xs[i]?=some x):bR [] (xs.take (i+1))=if x∈bR [] (xs.take i) then bR [] (xs.take i) else bR [] (xs.take i)++[x]:=by
 rw [List.take_add_one,h,mw];rfl
theorem mq:∀ (xs acc:List Int),(bR acc xs).length≤acc.length+xs.length
 | [],acc=>by simp [bR]
 | x::xs,acc=>by
  have:=mq xs (if x∈acc then acc else acc++[x])
  show (bR (if x∈acc then acc else acc++[x]) xs).length≤_
  by_cases c:x∈acc
  ·rw [if_pos c] at this ⊢;rw [Nd];omega
  ·rw [if_neg c,M6,MW] at this;rw [if_neg c,Nd];omega
theorem lg {prog:Program} {w:World} {S:Addr} {h h':Heap} {f:Int→Bool} {c:Nat} (hS:h.SetOf (intKind prog w) S f c) (k:∀ o,h.get? S=some o→h'.get? S=some o):h'.SetOf (intKind prog w) S f c:=by
 obtain ⟨o,es,ep,t,ho,r⟩:=hS
 exact ⟨o,es,ep,t,k o ho,r⟩
section
variable {prog:Program} {w:World} {A:Around} {E:Value→Shared→Prop} {s:Shared}
theorem nv {h:Heap} {a:Addr} {o:Obj} {es es':Array (Int×Value)} {ep:Nat} {t t':SetTable} {led:Bool} (ho:h.get? a=some o) (hd:o.data = .set es ep t) (hl:t'.led=led) (hp:Asc t'.place.toList):mC (h.update a (Obj.putSet es' t')) a led:=by
 refine ⟨_,es',ep+1,t',Heap.get?_update_self (Obj.putSet es' t') ho (by rw [putSet_of es' t' hd];rfl),?_,hl,hp⟩
 rw [putSet_of es' t' hd]
theorem oE {g:Bool→Sem Unit} (hg:∀ (b:Bool) (s1:Shared) (Q':Unit→Shared→Prop),Q' () s1→wpAny (model prog w) A (g b) Q' E s1) {a:Addr} {o:Obj} {es es1:Array (Int×Value)} {ep:Nat} {t t2:SetTable} {S':Int→Bool} {led wasDummy:Bool} {R:Option Bool→Shared→Prop} (ho:s.heap.get? a=some o) (hex:o.ExactSet) (hd:o.data = .set es ep t)
  (hel1:ElemsOf (intKind prog w) es1.toList) (hmem1:∀ k',S' k'=true↔∃ e∈es1.toList,(intKind prog w).is k' e.2=true) (hb1:es1.size < scanBound) (hf2:t2.fits es1.size=true) (hl:t2.led=led) (hp:Asc t2.place.toList)
  (h:∀ h',Heap.SameBut a s.heap h'→h'.SetOf (intKind prog w) a S' es1.size→mC h' a led→R (some true) { s with heap:=h' }) :
  wpAny (model prog w) A (do
    storeSet a es1 t2
    if (!wasDummy && t2.tooFull)=true then do
      g (relayAll t2 es1 (SetTable.grown es1.size)).2.2
      storeSet a (relayAll t2 es1 (SetTable.grown es1.size)).1 (relayAll t2 es1 (SetTable.grown es1.size)).2.1
      pure (some true)
     else pure (some true)) R E s:=by
 refine wpAny_bind (wpAny_storeSet_of ho hd ?_ (fits_of_scanBound hb1))
 obtain ⟨ho1,hS1⟩:=SetOf_store (knd:=intKind prog w) ho hex hd hel1 hmem1 hb1 hf2
 have sb1:=Heap.SameBut.update s.heap a (Obj.putSet es1 t2)
 split
 ·have pp:=relayAll_perm t2 es1 (SetTable.grown es1.size)
  have ff:=relayAll_fits t2 es1 (SetTable.grown es1.size)
  have ll:=yh t2 es1 (SetTable.grown es1.size)
  have la:=zq t2 es1 (SetTable.grown es1.size)
  generalize relayAll t2 es1 (SetTable.grown es1.size)=r at pp ff ll la ⊢
  obtain ⟨es2,t3,gv⟩:=r
  dsimp only at pp ff ll la ⊢
  have hz:es2.size=es1.size:=by rw [← Array.length_toList,pp.length_eq,Array.length_toList]
  have hb2:es2.size < scanBound:=by rw [hz];exact hb1
  refine wpAny_bind (hg _ _ _ (wpAny_bind (wpAny_storeSet_of ho1 rfl ?_ (fits_of_scanBound hb2))))
  have hS2:=(SetOf_store (knd:=intKind prog w) (S':=S') ho1 hex rfl (hel1.perm pp) (fun k'=>(hmem1 k').trans ⟨fun ⟨e,he,q⟩=>⟨e,pp.mem_iff.mpr he,q⟩,fun ⟨e,he,q⟩=>⟨e,pp.mem_iff.mp he,q⟩⟩) hb2 ff).2
  rw [hz] at hS2
  exact wpAny_pure (h _ (sb1.trans (Heap.SameBut.update _ a _)) hS2 (nv ho1 rfl (ll.1.trans hl) la))
 ·exact wpAny_pure (h _ sb1 hS1 (nv ho hd hl hp))
theorem add_int {a:Addr} {S:Int→Bool} {n:Nat} {x:Int} {tk:Tok} {led:Bool} {Q:Bool→Shared→Prop} (hS:s.heap.SetOf (intKind prog w) a S n) (hL:mC s.heap a led) (hroom:n+1 < scanBound)
  (h:∀ h',Heap.SameBut a s.heap h'→h'.SetOf (intKind prog w) a (fun k'=>S k' || decide (k'=x)) (if S x then n else n+1)→mC h' a led→Q (!S x) { s with heap:=h' }) :
  wpAny (model prog w) A (setAddHashed a (.int x tk) ((intKind prog w).hash x)) Q E s:=by
 have hkey:(intKind prog w).is x (.int x tk)=true:=intKind_is _ _ _ _
 have hsc:(Value.int x tk).scannable=true:=rfl
 obtain ⟨o,es,ep,t,ho,hex,hd,hel,hmem,hb,hf,hn⟩:=id hS
 obtain ⟨htl,hta⟩:t.led=led∧Asc t.place.toList:=by
  obtain ⟨o',es',ep',t',ho',hd',hl⟩:=hL
  rw [ho] at ho';cases ho'
  rw [hd] at hd';cases hd'
  exact hl
 unfold setAddHashed setAddHashedIn
 refine wpAny_holding (wpAny_bind (wpAny_setState_of ho hd hf ?_))
 dsimp only
 rw [byScan_of hsc hb hel,if_pos rfl]
 unfold setAddByScan
 refine wpAny_bind (wpAny_bind (wpAny_rule (wpAny_bind (wpAny_setScan_of hkey ho hd hf hel ?_))))
 cases hr:List.findIdx? (fun e=>(intKind prog w).is x e.2) es.toList with
 | some j=>
  obtain ⟨hj,hpj,_⟩:=List.findIdx?_eq_some_iff_getElem.mp hr
  have hSk:S x=true:=(hmem x).mpr ⟨es.toList[j],List.getElem_mem hj,hpj⟩
  refine wpAny_pure (wpAny_pure ?_)
  have:=h s.heap (Heap.SameBut.refl a s.heap) (SetOf_congr hS (fun k'=>?_) (by rw [hSk];rfl)) hL
  ·rw [hSk] at this;exact this
  ·by_cases e:k'=x
   ·rw [e,hSk];rfl
   ·rw [Nn e,Bool.or_false]
 | none=>
  have hSk:S x=false:=by
   cases hk:S x with
   | false=>rfl
   | true=>
    obtain ⟨e,he,hp⟩:=(hmem x).mp hk
    have:=List.findIdx?_eq_none_iff.mp hr e he
    rw [hp] at this;cases this
  have n8:=layNew_perm t es ((intKind prog w).hash x) (.int x tk)
  have xw:=layNew_fits t es ((intKind prog w).hash x) (.int x tk)
  have EL:=EI t es ((intKind prog w).hash x) (.int x tk)
  have hasc:=FH (es:=es) (h:=(intKind prog w).hash x) (x:=.int x tk) hta
  dsimp only
  generalize hL1:layNew t es ((intKind prog w).hash x) (.int x tk)=L1 at n8 xw EL hasc ⊢
  obtain ⟨es1,t1,wasDummy,gave⟩:=L1
  dsimp only at n8 xw EL hasc ⊢
  rw [Array.toList_push] at n8
  have hel1:=(hel.push hkey hsc).perm n8
  have hmem1:∀ k',(S k' || decide (k'=x))=true↔∃ e∈es1.toList,(intKind prog w).is k' e.2=true:=mem_push_iff hkey hmem n8
  have hsz1:es1.size=n+1:=by rw [← Array.length_toList,n8.length_eq,M6,Array.length_toList,hn];rfl
  have hb1:es1.size < scanBound:=by rw [hsz1];exact hroom
  have hend:∀ h',Heap.SameBut a s.heap h'→h'.SetOf (intKind prog w) a (fun k'=>S k' || decide (k'=x)) es1.size→mC h' a led→Q true { s with heap:=h' }:=fun h' q1 q2 q3=>by
   have:=h h' q1
   rw [hSk,← hsz1] at this
   exact this q2 q3
  have hgw:∀ (b:Bool) (s1:Shared) (Q':Unit→Shared→Prop),Q' () s1→wpAny (model prog w) A (match b with | true=>rule "set.scan.the-table-gave-way" | false=>pure ()) Q' E s1:=fun b s1 Q' hq=>by cases b <;> first | exact wpAny_pure hq | exact wpAny_rule hq
  refine wpAny_bind (hgw _ _ _ ?_)
  split
  ·refine wpAny_bind ?_
   rw [hashByValue_scannable 8 hsc]
   refine wpAny_pure ?_
   rw [show plainKind (Value.int x tk)=true from rfl,if_pos rfl]
   exact oE (t2:=t1) hgw ho hex hd hel1 hmem1 hb1 xw (EL.trans htl) hasc fun h' q1 q2 q3=>wpAny_pure (hend h' q1 q2 q3)
  ·refine wpAny_bind (wpAny_pure ?_)
   rw [if_pos rfl]
   exact oE (t2:=t1) hgw ho hex hd hel1 hmem1 hb1 xw (EL.trans htl) hasc fun h' q1 q2 q3=>wpAny_pure (hend h' q1 q2 q3)
end
section
variable {prog:Program} {w:World} {A:Around} {E:Value→Shared→Prop} {s:Shared} {R:Result→Shared→Prop} {I S:Addr} {fp wr:List Addr} {G:Array GenState→Array GenState→Prop} {P:Nat→Value→Prop} {St:Nat→Shared→Prop} {xs:List Int}
theorem Dm {led:Bool} (W:WalksS prog w A.in1 I fp wr G xs.length P St) (hSf:S∉fp) (hval:∀ i v,P i v→∃ x t,xs[i]?=some x∧v = .int x t) (hb:xs.length+1 < scanBound) :
  ∀ (r i:Nat) (s:Shared),xs.length - i=r→i≤xs.length→St i s→s.heap.SetOf (intKind prog w) S (fun k=>decide (k∈bR [] (xs.take i))) (bR [] (xs.take i)).length→mC s.heap S led →
   (∀ s',Moved (S::wr) G s s'→s'.heap.SetOf (intKind prog w) S (fun k=>decide (k∈bR [] xs)) (bR [] xs).length→mC s'.heap S led→R (.ok (.ret .none)) s') →
   codeAny (model prog w) A (.builtin "set.update.loop" ⟨[.ref S,.ref I],[]⟩) R s:=by
 have hSw:S∉wr:=fun h=>hSf (W.sub _ h)
 have up:∀ b∈wr,b∈S::wr:=fun b hb=>M3 _ hb
 intro r
 induction r with
 | zero=>
  intro i s hr hi st hS hL k
  obtain rfl:i=xs.length:=by omega
  rw [Ng] at hS
  refine codeAny_builtin F.entry_set_update_loop ?_
  rw [Around.under_plainId F.plain_set_update_loop _]
  show wpAny _ A.in1 (pyNext (.ref I) >>= _) _ _ s
  refine wpAny_bind (W.done s _ _ st fun s' hm=>?_)
  exact wpAny_pure (k s' (hm.mono up) (lg hS fun o e=>hm.heap S o hSw e) (nP hL fun o e=>hm.heap S o hSw e))
 | succ r ih=>
  intro i s hr hi st hS hL k
  have hlt:i < xs.length:=by omega
  refine codeAny_builtin F.entry_set_update_loop ?_
  rw [Around.under_plainId F.plain_set_update_loop _]
  show wpAny _ A.in1 (pyNext (.ref I) >>= _) _ _ s
  refine wpAny_bind (W.item i s _ _ hlt st fun v s1 hP st1 hm=>?_)
  obtain ⟨x,t,hx,rfl⟩:=hval i v hP
  have hS1:=lg hS fun o e=>hm.heap S o hSw e
  have hL1:=nP hL fun o e=>hm.heap S o hSw e
  have hl:=mq (xs.take i) []
  rw [Nf] at hl
  show wpAny _ A.in1 (holding [Value.int x t] (setAdd S (.int x t)) >>= _) _ _ s1
  refine wpAny_bind (wpAny_holding ?_)
  unfold setAdd
  refine wpAny_holding (wpAny_bind ((intKind prog w).pyHash (k:=x) (intKind_is _ _ _ _) ?_))
  refine add_int (s:={ s1 with toks:=s1.toks+1 }) hS1 hL1 (by simp at hl;omega) fun h2 same hS2 hL2=>?_
  have hS3:h2.SetOf (intKind prog w) S (fun k=>decide (k∈bR [] (xs.take (i+1)))) (bR [] (xs.take (i+1))).length:=by
   refine SetOf_congr hS2 (fun k'=>?_) ?_
   ·rw [kh hx]
    by_cases c:x∈bR [] (xs.take i)
    ·rw [if_pos c]
     by_cases e:k'=x
     ·subst e;simp [c]
     ·simp [e]
    ·rw [if_neg c];simp [List.mem_append]
   ·rw [kh hx]
    by_cases c:x∈bR [] (xs.take i)
    ·rw [if_pos c,if_pos (Np c)]
    ·rw [if_neg c,if_neg (by rw [Nn c];exact M8),M6,MW]
  refine wpAny_pure ⟨plainId_quiet F.plain_set_update_loop _,ih (i+1) _ (by omega) hlt (W.frame _ s1 _ _ st1 (ND _) fun b hb o e=>?_) hS3 hL2 fun s' hm' hS' hL'=>?_⟩
  ·rw [same.2 b (fun h:b=S=>hSf (by rw [← h];exact hb))];exact e
  ·refine k s' (Moved.trans W.gtrans ((hm.mono up).then_heap (ND _) fun b o hb e=>?_) hm') hS' hL'
   rw [same.2 b (fun h:b=S=>hb (by rw [h];exact M7))];exact e
end
structure Mu (xs ms:List Int):Prop where
 lt:ms.Pairwise (· < ·)
 mem:∀ x,x∈ms↔x∈xs
section
variable {prog:Program} {w:World} {A:Around} {E:Value→Shared→Prop} {s:Shared} {R:Result→Shared→Prop} {I S:Addr} {fp wr:List Addr} {G:Array GenState→Array GenState→Prop} {P:Nat→Value→Prop} {St:Nat→Shared→Prop} {xs:List Int}
set_option maxRecDepth 100000 in
set_option maxHeartbeats 3200000 in
theorem xU {l:Addr} {items:Array Value} {Q:Value→Shared→Prop} (hh:A.handled=none) (hl:s.heap.IsList l items) (hn:items.size=xs.length) (hi:∀ (i:Nat) (v:Value),items[i]?=some v→∃ x t,xs[i]?=some x∧v=Value.int x t) (hb:xs.length+1 < scanBound)
  (h:∀ (h':Heap) (tk:Nat),h'.SetOf (intKind prog w) s.heap.objs.size (fun k=>decide (k∈bR [] xs)) (bR [] xs).length→mC h' s.heap.objs.size (!w.params.followText "set-order")→(∀ b o,s.heap.get? b=some o→h'.get? b=some o)→Q (.ref s.heap.objs.size) { s with heap:=h',toks:=tk }) :
  wpAny (model prog w) A (call (.type "set") [.ref l]) Q E s:=by
 obtain ⟨c,tl,hmro⟩:=F.called_set.mro
 have hmade:=F.called_set.made
 have hsub:=F.called_set.sub
 have h1:=F.called_set.notType
 have h2:=F.called_set.canCreate
 have hct:=F.typeCall_set_1 (.ref l)
 refine wpAny_call (codeAny_of_tree ?_)
 show wpAny _ _ (callAny (.type "set") _) _ _ _
 refine wpAny_pure ⟨Code.quiet_builtin _ (by decide +kernel),codeAny_builtin F.entry_type_call ?_⟩
 rw [Around.under_plain (weight_type_call_type "set" [.ref l] []) rfl]
 repeat (any_goals (first | assumption | wp_step))
 refine codeAny_mono (qV (.ref l) (E:=E) (Q1:=fun obj s₁=>∃ led:Bool,led=(!w.params.followText "set-order")∧obj = .ref s.heap.objs.size∧s₁={ s with heap:=s.heap.push { cls:=.type "set",dict:=none,data:=.set #[] 0 (.fresh 0 0 led) } }) ⟨_,rfl,rfl,rfl⟩) fun r s₁ hr=>?_
 rcases r with e | fl
 ·exact hr
 cases fl with
 | ret obj=>
  obtain ⟨led,eled,rfl,rfl⟩:=hr
  generalize ho:({ cls:=.type "set",dict:=none,data:=.set #[] 0 (.fresh 0 0 led) }:Obj)=so at *
  have hS:(s.heap.push so).get? s.heap.objs.size=some so:=Heap.get?_push_size _ (by rw [← ho];rfl)
  have hT:Shared.TypeIs { s with heap:=s.heap.push so } (.ref s.heap.objs.size) "set" := ⟨_,hS,by rw [← ho]⟩
  have hli:=F.called_set.init.lookup
  have hbi:=F.called_set.init.bind (.ref s.heap.objs.size)
  repeat (any_goals (first | assumption | wp_step))
  refine codeAny_mono (codeAny_call_builtin (R:=wants (fun r s₂=>r = .none∧∃ h' tk,s₂={ s with heap:=h',toks:=tk }∧h'.SetOf (intKind prog w) s.heap.objs.size (fun k=>decide (k∈bR [] xs)) (bR [] xs).length∧mC h' s.heap.objs.size led∧∀ b o,s.heap.get? b=some o→h'.get? b=some o) E) F.called_set.init.plain F.entry_set_init (check_set_init_1 hT ?_)) fun r₂ s₂ hr₂=>?_
  ·have hlS:l < s.heap.objs.size:=by obtain ⟨_,e,_⟩:=hl;exact Heap.lt_size e
   subst ho
   have hl1:=hl.push { cls:=.type "set",dict:=none,data:=.set #[] 0 (.fresh 0 0 led) }
   obtain ⟨⟨lc,ld,ldat,lsl⟩,e1,e2,nl,e3⟩:=id hl1
   simp only at e2 e3
   subst e2 e3
   have LU:=F.sub_list_set
   have LV:=F.sub_list_frozenset
   have hne:(Value.type "list" == Value.type "dict")=false:=by decide
   unfold Builtin.«set.__init__» noKeywords Builtin.Frozenset.updateFrom
   generalize hPI:pyIter=PI
   wp_walk
   subst hPI
   refine wpAny_pyIter_list hl1 ?_
   refine wpAny_bind (wpAny_runValue ?_)
   have hsz:(s.heap.push { cls:=.type "set",dict:=none,data:=.set #[] 0 (.fresh 0 0 led) }).objs.size=s.heap.objs.size+1:=Heap.size_push ..
   have W:=(Walks.list (prog:=prog) (w:=w) (A:=A.in1.in1.in1) (by simp [hh]) (s.heap.push { cls:=.type "set",dict:=none,data:=.set #[] 0 (.fresh 0 0 led) }).objs.size l (by rw [hsz];exact Nu (Nat.lt_succ_of_lt hlS)) items).toS
   rw [hn] at W
   refine Dm (led:=led) (xs:=xs) W (by rw [hsz];simp only [List.mem_cons,List.not_mem_nil,or_false,not_or];exact ⟨Nu (Nat.lt_succ_self _),Nat.ne_of_gt hlS⟩) (fun i v hv=>hi i v hv) hb _ 0 _ rfl (NC _) ⟨⟨_,Heap.get?_push_size _ rfl,rfl,rfl⟩,hl1.push _⟩ ?_ ⟨_,_,_,_,Heap.get?_push_of_some _ hS,rfl,rfl,List.Pairwise.nil⟩ fun s' hm hS' hL'=>?_
   ·exact SetOf_congr ((setObjOf_fresh (knd:=intKind prog w) led).setOf (Heap.get?_push_of_some _ hS) (by unfold scanBound;decide)) (fun _=>rfl) rfl
   ·obtain ⟨h',g',d',tk',os'⟩:=s'
    obtain rfl:g'=s.gens:=hm.gens
    obtain rfl:d'=s.drawn:=hm.drawn
    obtain rfl:os'=s.os:=hm.os
    refine wpAny_pure (wpAny_pure ⟨rfl,h',tk',rfl,hS',hL',fun b o e=>?_⟩)
    have hb1:=Heap.lt_size e
    exact hm.heap b o (by rw [hsz];simp only [List.mem_cons,List.not_mem_nil,or_false,not_or];exact ⟨Nu hb1,Nu (Nat.lt_succ_of_lt hb1)⟩) (Heap.get?_push_of_some _ (Heap.get?_push_of_some _ e))
  ·rcases r₂ with e | fl₂
   ·exact hr₂
   cases fl₂ with
   | ret r=>
    obtain ⟨rfl,h',tk,rfl,hS',hL',hk'⟩:=hr₂
    repeat (any_goals (first | assumption | wp_step))
    exact h _ _ hS' (eled▸hL') hk'
   | _=>exact hr₂.elim
 | _=>exact hr.elim
end
def rG (K:PySem.W.Frag) (x:V) (H:Hp) (Q:VK):Prop:=∃ (a:Addr) (xs:List Int),x = .ref a∧SqL K H a (xs.map V.int)∧xs.length≤1000∧Q (.int (((bR [] xs).length:Nat):Int)) H
def qG (K:PySem.W.Frag) (te:TE):TE:=fun σ H Q=>te σ H fun x H1=>rG K x H1 Q
section
variable {X:Cx} {e:Expr} {te:TE} {p p2 pos pos2:Pos}
theorem uM (hc:X.calm=true) (hg:Gl X "len") (hg2:Gl X "set") (hm:X.mg "len" = none) (hm2:X.mg "set" = none) (he:PE X e te) (hs1:starEach [.Call (.Name "set" p2) [e] [] pos2] X.env=[(false,eval (.Call (.Name "set" p2) [e] [] pos2) X.env)]:=by rfl) (hs2:starEach [e] X.env=[(false,eval e X.env)]:=by rfl) :
  PE X (.Call (.Name "len" p) [.Call (.Name "set" p2) [e] [] pos2] [] pos) (qG X.K te):=by
 intro pins s σ H Q I h
 refine wpAny_Call_Name_kw (fm I hg hm L3.dg ?_)
 refine PyProof.Rows.callWith_builtin1 ?_ (by rw [hs1];rfl) (by rfl)
 rw [hs1]
 show wpAny (model X.prog X.w) X.A (spliced ((false,eval (.Call (.Name "set" p2) [e] [] pos2) X.env)::[])) _ X.xe s
 refine Calls.spliced_cons (wpAny_Call_Name_kw (fm I hg2 hm2 L3.Cu ?_))
 refine PyProof.Rows.callWith_type1 ?_ (by rw [hs2];rfl) (by rfl)
 rw [hs2]
 show wpAny (model X.prog X.w) X.A (spliced ((false,eval e X.env)::[])) _ X.xe s
 refine Calls.spliced_cons (thn (he pins s σ H _ I h) fun u s1 ⟨x,H1,I1,r1,q1⟩=>Calls.spliced_nil ?_)
 obtain ⟨a,xs,rfl,hq,h1000,q⟩:=q1
 cases r1
 obtain ⟨its,rv,pl,hz⟩:=I1.list hq
 have hlen:its.length=xs.length:=by rw [← rv.length,Nh]
 have hsb:xs.length+1 < scanBound:=by unfold scanBound;omega
 refine xU (I.ok.hd hc) pl.isList (by rw [Na];exact hlen) (fun i v hv=>?_) hsb fun h' tk hS _ hk=>?_
 ·have hv':its[i]?=some v:=by simpa using hv
  have hi:i < xs.length:=by
   have:=(List.getElem?_eq_some_iff.mp hv').1
   omega
  obtain ⟨u,hu,ru⟩:=rv.get (i:=i) (x:=V.int xs[i]) (by rw [Nb,MT hi];rfl)
  rw [hv'] at hu
  cases hu
  obtain ⟨t,rfl⟩:=ru
  exact ⟨_,t,MT hi,rfl⟩
 ·have I2:=I1.kept (t':=tk) hk
  refine Calls.spliced_nil ?_
  obtain ⟨o,es,ep,t,ho,hex,hd,_,_,hb,hf,hn⟩:=hS
  have h63:(es.size:Int) < 2 ^ 63:=by unfold scanBound at hb;omega
  exact call_len_set ho hex hd hf h63 ⟨.int es.size,H1,I2.tok _,⟨_,rfl⟩,by rw [hn];exact q⟩
end
theorem yY {K:PySem.W.Frag} {te:TE} {σ : St} {H:Hp} {Q:VK} (h:te σ H fun x H1=>rG K x H1 Q):qG K te σ H Q:=h
theorem ki:∀ (xs acc:List Int),xs.Nodup→(∀ x∈xs,x∉acc)→(bR acc xs).length=acc.length+xs.length
 | [],acc,_,_=>rfl
 | x::xs,acc,h,k=>by
  rw [List.nodup_cons] at h
  have e:bR acc (x::xs)=bR (acc++[x]) xs:=by
   show bR (if x∈acc then acc else acc++[x]) xs=_
   rw [if_neg (k x M7)]
  rw [e,ki xs (acc++[x]) h.2 (fun y hy z=>(List.mem_append.mp z).elim (k y (M3 _ hy)) fun z=>h.1 (by rw [← List.mem_singleton.mp z];exact hy)),M6,MW,Nd]
  omega
end L4
namespace Law
open PySem PySem.Spec PyProof.Rows L2 L3 L4
theorem set_same {α : Type} {xs:List α} {i:Nat} {x : α} (h:xs[i]?=some x):xs.set i x=xs:=by
 refine List.ext_getElem? fun k=>?_
 rw [List.getElem?_set]
 split
 ·rename_i e
  subst e
  rw [if_pos (List.getElem?_eq_some_iff.mp h).1]
  exact h.symm
 ·rfl
theorem kO (ls:Lns) (x:Addr×Ln):nt (ls++[x])=(nt ls).step x.2:=by
 unfold nt j7
 rw [List.foldl_append];rfl
theorem jq (ls:Lns) (x:Addr×Ln):gmx (ls++[x])=if isT x then max (gmx ls) (gOf x) else gmx ls:=by
 unfold gmx gts
 rw [List.filter_append,Nj,List.foldl_append,List.filter_cons]
 by_cases h:isT x=true
 ·rw [if_pos h,if_pos h];rfl
 ·rw [if_neg h,if_neg h];rfl
theorem ls0 {ls2:Lns} (h:([]:List Ln)=ls2.map (·.2)):ls2=[]:=List.map_eq_nil_iff.mp h.symm
theorem ls1 {ls2:Lns} {x:Ln} (h:[x]=ls2.map (·.2)):∃ a,ls2=[(a,x)]:=by
 cases ls2 with
 | nil=>cases h
 | cons y ys=>
  rw [List.map_cons] at h
  injection h with h1 h2
  cases ls0 h2
  exact ⟨y.1,by rw [h1]⟩
structure Mr where
 v:Int
 nm:Str
 g:Int
 mo:Int
 sl:Int
 k:Int
def Apt (gs:List Gr):Prop:=gs.Pairwise fun x y=>x.sl=y.sl→x.e≤y.f
theorem Apt.snoc {gs:List Gr} {X:Gr} (h:Apt gs) (k:∀ g∈gs,g.sl=X.sl→g.e≤X.f):Apt (gs++[X]):=by
 unfold Apt at *
 rw [M4]
 exact ⟨h,List.pairwise_singleton _ _,fun a ha b hb=>by rw [List.mem_singleton.mp hb];exact k a ha⟩
theorem Apt.at_ {gs:List Gr} (h:Apt gs) {i j:Nat} {x y:Gr} (hx:gs[i]?=some x) (hy:gs[j]?=some y) (l:i < j):x.sl=y.sl→x.e≤y.f:=by
 obtain ⟨hi,rfl⟩:=List.getElem?_eq_some_iff.mp hx
 obtain ⟨hj,rfl⟩:=List.getElem?_eq_some_iff.mp hy
 exact (List.pairwise_iff_getElem.mp h) i j hi hj l
theorem Apt.of {gs:List Gr} (h:∀ (i j:Nat) (x y:Gr),gs[i]?=some x→gs[j]?=some y→i < j→x.sl=y.sl→x.e≤y.f):Apt gs:=by
 unfold Apt
 rw [List.pairwise_iff_getElem]
 exact fun i j hi hj l=>h i j _ _ (MT hi) (MT hj) l
theorem Nx.after {gs:List Gr} {s:Nat} {b x y:Int} (h:Nx true gs s b x y) {g:Gr} (hg:g∈gs) (e:g.sl=x):g.e≤y:=by
 unfold Nx at h
 rw [if_pos rfl] at h
 obtain ⟨j,_,rfl,rfl⟩:=h
 exact EH hg e
def GrN (gs:List Gr) (n:Int) (x:Gr):Prop:=∃ i:Nat,n=(i:Int)+1∧gs[i]?=some x
theorem GrN.inj {gs:List Gr} {n:Int} {x y:Gr} (h:GrN gs n x) (k:GrN gs n y):x=y:=by
 obtain ⟨i,e,h⟩:=h
 obtain ⟨j,e',k⟩:=k
 obtain rfl:i=j:=by omega
 rw [h] at k;exact Nm k
theorem GrN.app {gs:List Gr} {n:Int} {x X:Gr} (h:GrN gs n x):GrN (gs++[X]) n x:=by
 obtain ⟨i,e,h⟩:=h
 exact ⟨i,e,by rw [MP (List.getElem?_eq_some_iff.mp h).1];exact h⟩
theorem GrN.back {gs:List Gr} {n:Int} {x X:Gr} (h:GrN (gs++[X]) n x):GrN gs n x∨(n=gs.length+1∧x=X):=by
 obtain ⟨i,e,h⟩:=h
 by_cases c:i < gs.length
 ·rw [MP c] at h;exact .inl ⟨i,e,h⟩
 ·have hi:=(List.getElem?_eq_some_iff.mp h).1
  rw [M6,MW] at hi
  obtain rfl:i=gs.length:=by omega
  rw [MO (NB _),Nv] at h
  cases h;exact .inr ⟨e,rfl⟩
structure HZ (c:Int) (gs:List Gr) (ms:List Mr) (y:Hs):Prop where
 gle:(nt y.ls).g≤gmx y.ls
 ar:∀ sl f e,(nt y.ls).ar=some (sl,f,e)→∃ x,GrN gs (nt y.ls).g x∧x.nm=y.d.nm∧x.sl=sl∧x.f=f∧e≤x.e
 mks:∀ m∈ms,m.nm=y.d.nm→m.mo < (nt y.ls).hd∧∀ pm pk,y.pl=some (pm,pk)→m.mo < pm∨(m.mo=pm∧m.k < pk∧m.g=(nt y.ls).g)
 pk:∀ pm pk,y.pl=some (pm,pk)→(0≤pk∧pk < c)∧0≤pm
 hd0 : 0≤(nt y.ls).hd
def LZ (hs:List Hs) (gs:List Gr) (ms:List Mr):Lt→Prop
 | .ask nm r=>0≤r∧∃ y∈hs,y.d.nm=nm
 | .news _ nm _=>∃ y∈hs,y.d.nm=nm
 | .grant nm n sl f e=>(∃ y∈hs,y.d.nm=nm)∧∃ x,GrN gs n x∧x.nm=nm∧x.sl=sl∧x.f=f∧(x.e=e∨∀ y∈hs,y.d.nm=nm→n≤gmx y.ls)
 | .back nm n en=>(∀ y∈hs,y.d.nm=nm→n≤gmx y.ls∧((nt y.ls).g=n→∀ sl f e,(nt y.ls).ar=some (sl,f,e)→e≤en))∧(∃ x,GrN gs n x∧x.nm=nm)∧∀ m∈ms,m.nm=nm→m.g=n→m.mo < en
structure MZ (c:Int) (s:Nat) (gs:List Gr) (m:Mr):Prop where
 eq:m.v=mk c s m.mo m.sl m.k
 sl : 0≤m.sl∧m.sl < s
 k : 0≤m.k∧m.k < c
 m0 : 0≤m.mo
 gr:∃ x,GrN gs m.g x∧x.nm=m.nm∧x.sl=m.sl∧x.f≤m.mo∧m.mo < x.e
structure Zi (c:Int) (s:Nat) (hs:List Hs) (gs:List Gr) (lt:List Lt) (ms:List Mr):Prop where
 num:∀ (i:Nat) (x:Gr),gs[i]?=some x→x.n=(i:Int)+1
 apt:Apt gs
 gsl:∀ x∈gs,(0≤x.sl∧x.sl < s)∧x.e≤iN
 gnm:∀ x∈gs,∃ y∈hs,y.d.nm=x.nm
 hnd:∀ y∈hs,HZ c gs ms y
 ltz:∀ x∈lt,LZ hs gs ms x
 msz:∀ m∈ms,MZ c s gs m
 mnm:∀ m∈ms,∃ y∈hs,y.d.nm=m.nm
 nod:(hs.map (·.d.nm)).Nodup
 ris:ms.Pairwise fun a b=>a.nm=b.nm→a.v < b.v
section
variable {c:Int} {s:Nat} {hs:List Hs} {gs:List Gr} {lt:List Lt} {ms:List Mr}
theorem Zi.one (Z:Zi c s hs gs lt ms) {j:Nat} {y z:Hs} (hy:hs[j]?=some y) (hz:z∈hs) (e:z.d.nm=y.d.nm):z=y:=by
 obtain ⟨k,hk,rfl⟩:=M5 hz
 obtain ⟨hj,rfl⟩:=List.getElem?_eq_some_iff.mp hy
 have nd:=Z.nod
 unfold List.Nodup at nd
 rw [List.pairwise_iff_getElem] at nd
 rcases Nat.lt_trichotomy k j with c | c | c
 ·exact absurd (by rw [List.getElem_map,List.getElem_map];exact e) (nd k j (by rw [Nh];exact hk) (by rw [Nh];exact hj) c)
 ·subst c;rfl
 ·exact absurd (by rw [List.getElem_map,List.getElem_map];exact e.symm) (nd j k (by rw [Nh];exact hj) (by rw [Nh];exact hk) c)
theorem Zi.hand (Z:Zi c s hs gs lt ms) {j:Nat} {y:Hs} (hy:hs[j]?=some y) {ls':Lns} {pl':Option (Int×Int)} (h1:gmx y.ls≤gmx ls') (h2:HZ c gs ms ⟨y.d,ls',pl'⟩) (h3:∀ n en,n≤gmx y.ls→((nt y.ls).g=n→∀ sl f e,(nt y.ls).ar=some (sl,f,e)→e≤en)→(nt ls').g=n→∀ sl f e,(nt ls').ar=some (sl,f,e)→e≤en):Zi c s (hs.set j ⟨y.d,ls',pl'⟩) gs lt ms:=by
 have hj:=(List.getElem?_eq_some_iff.mp hy).1
 have nms:(hs.set j ⟨y.d,ls',pl'⟩).map (·.d.nm)=hs.map (·.d.nm):=by
  rw [List.map_set]
  exact set_same (by rw [Nb,hy];rfl)
 have ex:∀ {nm:Str},(∃ z∈hs,z.d.nm=nm)→∃ z∈hs.set j ⟨y.d,ls',pl'⟩,z.d.nm=nm:=fun {nm} ⟨z,hz,e⟩=>by
  have:nm∈(hs.set j ⟨y.d,ls',pl'⟩).map (·.d.nm):=by rw [nms];exact List.mem_map.mpr ⟨z,hz,e⟩
  obtain ⟨w,hw,e⟩:=List.mem_map.mp this
  exact ⟨w,hw,e⟩
 refine ⟨Z.num,Z.apt,Z.gsl,fun x hx=>ex (Z.gnm x hx),fun z hz=>?_,fun x hx=>?_,Z.msz,fun m hm=>ex (Z.mnm m hm),by rw [nms];exact Z.nod,Z.ris⟩
 ·rcases MQ hz with hz | rfl
  ·exact Z.hnd z hz
  ·exact h2
 ·have hl:=Z.ltz x hx
  cases x with
  | ask nm r=>exact ⟨hl.1,ex hl.2⟩
  | news a nm b=>exact ex hl
  | grant nm n sl f e=>
   obtain ⟨h0,x,hg,e1,e2,e3,e4⟩:=hl
   refine ⟨ex h0,x,hg,e1,e2,e3,e4.imp id fun k z hz en=>?_⟩
   rcases MQ hz with hz | rfl
   ·exact k z hz en
   ·exact Nz (k y (M0 hy) en) h1
  | back nm n en=>
   obtain ⟨k1,k2,k3⟩:=hl
   refine ⟨fun z hz ez=>?_,k2,k3⟩
   rcases MQ hz with hz | rfl
   ·exact k1 z hz ez
   ·obtain ⟨a,b⟩:=k1 y (M0 hy) ez
    exact ⟨Nz a h1,h3 n en a b⟩
theorem Zi.send (Z:Zi c s hs gs lt ms) {x:Lt} (h:LZ hs gs ms x):Zi c s hs gs (lt++[x]) ms:=
 ⟨Z.num,Z.apt,Z.gsl,Z.gnm,Z.hnd,fun y hy=>(List.mem_append.mp hy).elim (Z.ltz y) fun z=>by rw [List.mem_singleton.mp z];exact h,Z.msz,Z.mnm,Z.nod,Z.ris⟩
theorem Zi.lend (Z:Zi c s hs gs lt ms) {nm:Str} {r x y term:Int} {g ar:Addr} (hn:Nx true gs s r x y) (ht:¬ iN < y+term) (hs1 : 1≤s) (hnm:∃ z∈hs,z.d.nm=nm):Zi c s hs (gs++[⟨g,ar,gs.length+1,nm,x,y,y+term⟩]) (lt++[.grant nm (gs.length+1) x y (y+term)]) ms:=by
 have up:∀ {n:Int} {z:Gr},GrN gs n z→GrN (gs++[⟨g,ar,gs.length+1,nm,x,y,y+term⟩]) n z:=fun h=>h.app
 have lz:∀ z∈lt,LZ hs (gs++[⟨g,ar,gs.length+1,nm,x,y,y+term⟩]) ms z:=fun z hz=>by
  have hl:=Z.ltz z hz
  cases z with
  | ask nm r=>exact hl
  | news a nm b=>exact hl
  | grant nm n sl f e=>
   obtain ⟨h0,x,hg,e1,e2,e3,e4⟩:=hl
   exact ⟨h0,x,up hg,e1,e2,e3,e4⟩
  | back nm' n en=>
   obtain ⟨k1,⟨x,k2,e⟩,k3⟩:=hl
   exact ⟨k1,⟨x,up k2,e⟩,k3⟩
 refine Zi.send (lt:=lt) ⟨fun i z hz=>?_,Z.apt.snoc fun z hz e=>hn.after hz e,fun z hz=>?_,fun z hz=>?_,fun z hz=>?_,lz,fun m hm=>?_,Z.mnm,Z.nod,Z.ris⟩ ⟨hnm,_,⟨gs.length,rfl,by rw [MO (NB _),Nv];rfl⟩,rfl,rfl,rfl,.inl rfl⟩
 ·by_cases c:i < gs.length
  ·rw [MP c] at hz;exact Z.num i z hz
  ·have hi:=(List.getElem?_eq_some_iff.mp hz).1
   rw [M6,MW] at hi
   obtain rfl:i=gs.length:=by omega
   rw [MO (NB _),Nv] at hz
   cases hz;rfl
 ·rcases List.mem_append.mp hz with hz | hz
  ·exact Z.gsl z hz
  ·rw [List.mem_singleton.mp hz];exact ⟨hn.lt hs1,Int.not_lt.mp ht⟩
 ·rcases List.mem_append.mp hz with hz | hz
  ·exact Z.gnm z hz
  ·rw [List.mem_singleton.mp hz];exact hnm
 ·have h:=Z.hnd z hz
  exact ⟨h.gle,fun sl f e he=>(h.ar sl f e he).elim fun x k=>⟨x,up k.1,k.2⟩,h.mks,h.pk,h.hd0⟩
 ·have h:=Z.msz m hm
  exact ⟨h.eq,h.sl,h.k,h.m0,h.gr.elim fun x k=>⟨x,up k.1,k.2⟩⟩
theorem Zi.free (Z:Zi c s hs gs lt ms) {nm:Str} {n en:Int} {i:Nat} {x:Gr} {g ar:Addr} (hl:Lt.back nm n en∈lt) (r:Fre gs n en i x):Zi c s hs (gs.set i ⟨g,ar,n,x.nm,x.sl,x.f,en⟩) lt ms:=by
 obtain ⟨k1,⟨x',k2,e2⟩,k3⟩:=Z.ltz _ hl
 have hx:GrN gs n x:=⟨i,r.n_,r.at_⟩
 obtain rfl:=hx.inj k2
 have hi:=(List.getElem?_eq_some_iff.mp r.at_).1
 -- what a grant becomes
 have up:∀ {n':Int} {z:Gr},GrN gs n' z→∃ z',GrN (gs.set i ⟨g,ar,n,x.nm,x.sl,x.f,en⟩) n' z'∧z'.nm=z.nm∧z'.sl=z.sl∧z'.f=z.f∧((n'=n∧z'.e=en)∨(n'≠n∧z'.e=z.e)):=fun {n' z} ⟨k,ek,hk⟩=>by
  by_cases c:i=k
  ·subst c
   have hxx:=r.at_
   rw [hxx] at hk
   cases hk
   exact ⟨_,⟨i,ek,MV hi⟩,rfl,rfl,rfl,.inl ⟨by rw [ek,r.n_],rfl⟩⟩
  ·exact ⟨z,⟨k,ek,by rw [List.getElem?_set_ne c];exact hk⟩,rfl,rfl,rfl,.inr ⟨by have:=r.n_;omega,rfl⟩⟩
 have dn:∀ (k:Nat) (z:Gr),(gs.set i ⟨g,ar,n,x.nm,x.sl,x.f,en⟩)[k]?=some z→∃ w,gs[k]?=some w∧z.nm=w.nm∧z.sl=w.sl∧z.f=w.f∧z.e≤w.e∧z.n=(k:Int)+1:=fun k z hz=>by
  rw [List.getElem?_set] at hz
  split at hz
  ·rename_i c
   subst c
   cases hz
   exact ⟨x,r.at_,rfl,rfl,rfl,Int.le_of_lt r.hi,r.n_⟩
  ·exact ⟨z,hz,rfl,rfl,rfl,NF _,Z.num k z hz⟩
 have mem:∀ z∈gs.set i ⟨g,ar,n,x.nm,x.sl,x.f,en⟩,∃ w∈gs,z.nm=w.nm∧z.sl=w.sl∧z.e≤w.e:=fun z hz=>by
  obtain ⟨k,hk,rfl⟩:=M5 hz
  obtain ⟨w,hw,e1,e2,_,e3,_⟩:=dn k _ (MT hk)
  exact ⟨w,M0 hw,e1,e2,e3⟩
 refine ⟨fun k z hz=>(dn k z hz).elim fun w h=>h.2.2.2.2.2,Apt.of fun a b y z hy hz l es=>?_,fun z hz=>?_,fun z hz=>?_,fun z hz=>?_,fun z hz=>?_,fun m hm=>?_,Z.mnm,Z.nod,Z.ris⟩
 ·obtain ⟨v,hv,_,v2,v3,v4,_⟩:=dn a y hy
  obtain ⟨w,hw,_,w2,w3,w4,_⟩:=dn b z hz
  have:=Z.apt.at_ hv hw l (by rw [← v2,← w2];exact es)
  omega
 ·obtain ⟨w,hw,_,e,e'⟩:=mem z hz
  rw [e];exact ⟨(Z.gsl w hw).1,Nz e' (Z.gsl w hw).2⟩
 ·obtain ⟨w,hw,e,_⟩:=mem z hz
  rw [e];exact Z.gnm w hw
 ·have h:=Z.hnd z hz
  refine ⟨h.gle,fun sl f e he=>?_,h.mks,h.pk,h.hd0⟩
  obtain ⟨w,hw,a1,a2,a3,a4⟩:=h.ar sl f e he
  obtain ⟨w',hw',b1,b2,b3,b4⟩:=up hw
  refine ⟨w',hw',by rw [b1,a1],by rw [b2,a2],by rw [b3,a3],?_⟩
  rcases b4 with ⟨b4,b5⟩ | ⟨_,b5⟩
  ·rw [b5]
   have:w=x:=(b4▸hw).inj hx
   exact (k1 z hz (by rw [← a1,this,e2])).2 b4 sl f e he
  ·rw [b5];exact a4
 ·have hl':=Z.ltz z hz
  cases z with
  | ask nm r=>exact hl'
  | news a nm b=>exact hl'
  | grant nm' n' sl f e=>
   obtain ⟨h0,w,hw,a1,a2,a3,a4⟩:=hl'
   obtain ⟨w',hw',b1,b2,b3,b4⟩:=up hw
   refine ⟨h0,w',hw',by rw [b1,a1],by rw [b2,a2],by rw [b3,a3],?_⟩
   rcases b4 with ⟨b4,b5⟩ | ⟨_,b5⟩
   ·subst b4
    have:w=x:=hw.inj hx
    exact .inr fun y hy ey=>(k1 y hy (by rw [ey,← a1,this,e2])).1
   ·rw [b5];exact a4
  | back nm' n' en'=>
   obtain ⟨q1,⟨w,hw,a1⟩,q3⟩:=hl'
   obtain ⟨w',hw',b1,_⟩:=up hw
   exact ⟨q1,⟨w',hw',by rw [b1,a1]⟩,q3⟩
 ·have h:=Z.msz m hm
  obtain ⟨w,hw,a1,a2,a3,a4⟩:=h.gr
  obtain ⟨w',hw',b1,b2,b3,b4⟩:=up hw
  refine ⟨h.eq,h.sl,h.k,h.m0,w',hw',by rw [b1,a1],by rw [b2,a2],by rw [b3];exact a3,?_⟩
  rcases b4 with ⟨b4,b5⟩ | ⟨_,b5⟩
  ·rw [b5]
   have:w=x:=(b4▸hw).inj hx
   exact k3 m hm (by rw [← a1,this,e2]) b4
  ·rw [b5];exact a4
structure Snd (d:Hd) (c:Int):Prop where
 sp:("spoken" : Str)∈d.ws
 on:("once" : Str)∈d.ws
 en:("ends" : Str)∈d.ws
 ah:("ahead" : Str)∈d.ws
 c:d.c=c
 c1 : 1≤d.c
theorem rF {m k b:Int}:m≤(cN m k b).1∧((cN m k b).1=m→(cN m k b).2=k∨m < b):=by
 unfold cN
 dsimp only
 constructor
 ·split <;> omega
 ·intro h
  split at h
  ·exact .inr (by assumption)
  ·exact .inl (by split <;> simp_all)
theorem HZ.pl {y:Hs} (h:HZ c gs ms y) {pl':Option (Int×Int)} (h1:∀ pm pk,pl'=some (pm,pk)→(0≤pk∧pk < c)∧0≤pm) (h2:∀ m∈ms,m.nm=y.d.nm→∀ pm pk,pl'=some (pm,pk)→m.mo < pm∨(m.mo=pm∧m.k < pk∧m.g=(nt y.ls).g)):HZ c gs ms ⟨y.d,y.ls,pl'⟩:=
 ⟨h.gle,h.ar,fun m hm e=>⟨(h.mks m hm e).1,h2 m hm e⟩,h1,h.hd0⟩
theorem AR {m0 k0 m k b g g':Int} (h:m0 < m∨(m0=m∧k0 < k∧g=g')):m0 < (cN m k b).1∨(m0=(cN m k b).1∧k0 < (cN m k b).2∧g=g'):=by
 unfold cN
 dsimp only
 split
 ·rcases h with h | h <;> exact .inl (by omega)
 ·exact h
theorem rE {m k b c:Int} (h : 0≤k∧k < c) (c1 : 1≤c) : 0≤(cN m k b).2∧(cN m k b).2 < c:=by
 unfold cN
 dsimp only
 split <;> omega
variable {j:Nat} {y:Hs} {o:Ou} {ls2:Lns} {pl2:Option (Int×Int)}
theorem Zi.vB (Z:Zi c s hs gs lt ms) (hy:hs[j]?=some y):Zi c s (hs.set j ⟨y.d,y.ls,none⟩) gs lt ms:=
 Z.hand hy (NF _) ((Z.hnd y (M0 hy)).pl (fun _ _ z=>nomatch z) fun _ _ _ _ _ z=>nomatch z) fun _ _ _ h=>h
theorem Zi.rise (Z:Zi c s hs gs lt ms) (hy:hs[j]?=some y) (c1 : 1≤c):Zi c s (hs.set j ⟨y.d,y.ls,some (max (nt y.ls).hd (nt y.ls).hr,0)⟩) gs lt ms:=by
 have h:=Z.hnd y (M0 hy)
 refine Z.hand hy (NF _) (h.pl (fun pm pk e=>by have:=h.hd0;cases e;omega) fun m hm e pm pk z=>?_) fun _ _ _ h=>h
 cases z
 have:=(h.mks m hm e).1
 exact .inl (by omega)
theorem Zi.mX (Z:Zi c s hs gs lt ms) (hy:hs[j]?=some y) (c1 : 1≤c) {b:Int} (eo:opF y.d (nt y.ls) (gmx y.ls) y.pl (.mX b)=(o,ls2.map (·.2),pl2)):Zi c s (hs.set j ⟨y.d,y.ls++ls2,pl2⟩) gs lt ms:=by
 have h:=Z.hnd y (M0 hy)
 cases hp:y.pl with
 | none=>
  rw [hp] at eo
  simp only [opF] at eo
  injection eo with e1 e2
  injection e2 with e2 e3
  cases ls0 e2
  subst e3
  rw [Nk]
  exact Z.vB hy
 | some p=>
  obtain ⟨m,k⟩:=p
  rw [hp] at eo
  simp only [opF] at eo
  injection eo with e1 e2
  injection e2 with e2 e3
  subst e3
  have key:HZ c gs ms ⟨y.d,y.ls,some (cN m k b)⟩:=h.pl (fun pm pk e=>by
   have:=rE (m:=m) (b:=b) (h.pk m k hp).1 c1
   have h0:=(h.pk m k hp).2
   have h9:=(rF (m:=m) (k:=k) (b:=b)).1
   cases e;exact ⟨this,Nz h0 h9⟩) fun m0 hm e pm pk z=>by
    have:=AR (b:=b) ((h.mks m0 hm e).2 m k hp)
    cases z;exact this
  split at e2
  ·obtain ⟨a,rfl⟩:=ls1 e2
   have n1:nt (y.ls++[(a,Ln.heard b)])=(nt y.ls).step (.heard b):=kO _ _
   have g1:gmx (y.ls++[(a,Ln.heard b)])=gmx y.ls:=by rw [jq];rfl
   refine Z.hand hy (by rw [g1];exact NF _) ⟨by rw [n1,g1];exact key.gle,by rw [n1];exact key.ar,by rw [n1];exact key.mks,key.pk,by rw [n1];exact key.hd0⟩ ?_
   rw [n1]
   exact fun _ _ _ h=>h
  ·cases ls0 e2
   rw [Nk]
   exact Z.hand hy (NF _) key fun _ _ _ h=>h
theorem Zi.keep (Z:Zi c s hs gs lt ms) (hy:hs[j]?=some y):Zi c s (hs.set j ⟨y.d,y.ls,y.pl⟩) gs lt ms:=by
 rw [show (⟨y.d,y.ls,y.pl⟩:Hs)=y from rfl,set_same hy];exact Z
theorem Zi.take (Z:Zi c s hs gs lt ms) (hy:hs[j]?=some y) (c1 : 1≤c) (S:Snd y.d c) {n sl f e:Int} (hl:Lt.grant y.d.nm n sl f e∈lt) (eo:opF y.d (nt y.ls) (gmx y.ls) y.pl (.take n sl f e)=(o,ls2.map (·.2),pl2)):Zi c s (hs.set j ⟨y.d,y.ls++ls2,pl2⟩) gs lt ms:=by
 have hym:=M0 hy
 have h:=Z.hnd y hym
 cases hp:y.pl with
 | none=>
  rw [hp] at eo
  simp only [opF] at eo
  injection eo with e1 e2
  injection e2 with e2 e3
  cases ls0 e2
  subst e3
  rw [Nk]
  exact Z.vB hy
 | some p=>
  obtain ⟨m,k⟩:=p
  rw [hp] at eo
  simp only [opF] at eo
  split at eo
  ·injection eo with e1 e2
   injection e2 with e2 e3
   cases ls0 e2
   subst e3
   rw [Nk,← hp]
   exact Z.keep hy
  ·rename_i hc
   have hn:gmx y.ls < n:=by
    have:¬ n≤gmx y.ls:=fun z=>hc ⟨S.on,z⟩
    omega
   injection eo with e1 e2
   injection e2 with e2 e3
   obtain ⟨a,rfl⟩:=ls1 e2
   subst e3
   have n1:nt (y.ls++[(a,Ln.took n sl f e)])=(nt y.ls).step (.took n sl f e):=kO _ _
   have g1:gmx (y.ls++[(a,Ln.took n sl f e)])=max (gmx y.ls) n:=by rw [jq];rfl
   obtain ⟨_,x,hg,a1,a2,a3,a4⟩:=Z.ltz _ hl
   have hxe:x.e=e:=a4.resolve_right fun z=>by have:=z y hym rfl;omega
   refine Z.hand hy (by rw [g1];omega) ⟨by rw [n1,g1];show n≤_;omega,fun sl' f' e' he=>?_,fun m0 hm em=>⟨?_,fun pm pk z=>?_⟩,fun pm pk z=>?_,by rw [n1];exact h.hd0⟩ fun n' en h1 h2 h3 sl' f' e' he=>?_
   ·rw [n1] at he ⊢
    cases he
    exact ⟨x,hg,a1,a2,a3,by omega⟩
   ·rw [n1];exact (h.mks m0 hm em).1
   ·refine .inl ?_
    have h0:=(h.mks m0 hm em).2 m k hp
    have hk:=(Z.msz m0 hm).k
    have z':cN m k (bnd m k)=(pm,pk):=Nm z
    unfold cN bnd at z'
    injection z' with z1 z2
    by_cases ck:k=0
    ·rw [if_pos ck] at z1
     rw [if_neg (Int.lt_irrefl _)] at z1
     rcases h0 with h0 | h0 <;> omega
    ·rw [if_neg ck,if_pos (by omega)] at z1
     rcases h0 with h0 | h0 <;> omega
   ·have:=rE (m:=m) (b:=bnd m k) (h.pk m k hp).1 c1
    have h0:=(h.pk m k hp).2
    have h9:=(rF (m:=m) (k:=k) (b:=bnd m k)).1
    cases z;exact ⟨this,Nz h0 h9⟩
   ·rw [n1] at h3
    have:n=n':=h3
    omega
theorem Zi.write (Z:Zi c s hs gs lt ms) (hy:hs[j]?=some y) {r:Int} (eo:opF y.d (nt y.ls) (gmx y.ls) y.pl (.write r)=(o,ls2.map (·.2),pl2)):Zi c s (hs.set j ⟨y.d,y.ls++ls2,pl2⟩) gs lt ms:=by
 have h:=Z.hnd y (M0 hy)
 have same:ls2=[]→pl2=y.pl→Zi c s (hs.set j ⟨y.d,y.ls++ls2,pl2⟩) gs lt ms:=fun e1 e2=>by
  subst e1 e2
  rw [Nk]
  exact Z.keep hy
 cases hp:y.pl with
 | none=>
  rw [hp] at eo
  simp only [opF] at eo
  injection eo with e1 e2
  injection e2 with e2 e3
  exact same (ls0 e2) (by rw [hp,e3])
 | some p=>
  obtain ⟨m,k⟩:=p
  rw [hp] at eo
  simp only [opF] at eo
  cases ha:(nt y.ls).ar with
  | none=>
   rw [ha] at eo
   injection eo with e1 e2
   injection e2 with e2 e3
   exact same (ls0 e2) (by rw [hp,e3])
  | some x=>
   obtain ⟨sl,f,e⟩:=x
   rw [ha] at eo
   dsimp only at eo
   split at eo
   ·injection eo with e1 e2
    injection e2 with e2 e3
    exact same (ls0 e2) (by rw [hp,e3])
   ·split at eo
    ·injection eo with e1 e2
     injection e2 with e2 e3
     exact same (ls0 e2) (by rw [hp,e3])
    ·injection eo with e1 e2
     injection e2 with e2 e3
     split at e2
     ·obtain ⟨a,rfl⟩:=ls1 e2
      have n1:nt (y.ls++[(a,Ln.held (due m f r+y.d.room))])=(nt y.ls).step (.held (due m f r+y.d.room)):=kO _ _
      have g1:gmx (y.ls++[(a,Ln.held (due m f r+y.d.room))])=gmx y.ls:=by rw [jq];rfl
      have ep:pl2=y.pl:=by rw [hp,e3]
      subst ep
      refine Z.hand hy (by rw [g1];exact NF _) ⟨by rw [n1,g1];exact h.gle,by rw [n1];exact h.ar,fun m0 hm em=>⟨?_,by rw [n1];exact (h.mks m0 hm em).2⟩,h.pk,?_⟩ (by rw [n1];exact fun _ _ _ h=>h)
      rotate_left
      ·rw [n1]
       have:=h.hd0
       show 0≤max (nt y.ls).hd (due m f r+y.d.room)
       omega
      rw [n1]
      have:=(h.mks m0 hm em).1
      show m0.mo < max (nt y.ls).hd (due m f r+y.d.room)
      omega
     ·exact same (ls0 e2) (by rw [hp,e3])
theorem Zi.give (Z:Zi c s hs gs lt ms) (hy:hs[j]?=some y) (S:Snd y.d c) {g en:Int} (eo:opF y.d (nt y.ls) (gmx y.ls) y.pl .give=(.pr g en,ls2.map (·.2),pl2)):Zi c s (hs.set j ⟨y.d,y.ls++ls2,pl2⟩) gs (lt++[.back y.d.nm g en]) ms:=by
 have hym:=M0 hy
 have h:=Z.hnd y hym
 cases hp:y.pl with
 | none=>
  rw [hp] at eo
  simp only [opF] at eo
  injection eo with e1 _
  cases e1
 | some p=>
  obtain ⟨m,k⟩:=p
  rw [hp] at eo
  simp only [opF] at eo
  cases ha:(nt y.ls).ar with
  | none=>
   rw [ha] at eo
   injection eo with e1 _
   cases e1
  | some x=>
   obtain ⟨sl,f,e⟩:=x
   rw [ha] at eo
   dsimp only at eo
   split at eo
   ·injection eo with e1 _
    cases e1
   ·rename_i hge
    injection eo with e1 e2
    injection e2 with e2 e3
    injection e1 with eg een
    rw [if_pos S.en] at e2
    obtain ⟨a,rfl⟩:=ls1 e2
    have ep:pl2=y.pl:=by rw [hp,e3]
    subst ep
    rw [een] at hge
    rw [een,eg]
    have hhd:(nt y.ls).hd≤en:=by rw [← een];unfold eW;omega
    have n1:nt (y.ls++[(a,Ln.ends g en)])=⟨(nt y.ls).g,some (sl,f,min e en),(nt y.ls).hd,(nt y.ls).hr⟩:=by
     rw [kO,jD,if_pos eg.symm,ha];rfl
    have g1:gmx (y.ls++[(a,Ln.ends g en)])=gmx y.ls:=by rw [jq];rfl
    obtain ⟨x,hg,a1,a2,a3,a4⟩:=h.ar sl f e ha
    have Z1:Zi c s (hs.set j ⟨y.d,y.ls++[(a,Ln.ends g en)],y.pl⟩) gs lt ms:=by
     refine Z.hand hy (by rw [g1];exact NF _) ⟨by rw [n1,g1];exact h.gle,fun sl' f' e' he=>?_,by rw [n1];exact h.mks,h.pk,by rw [n1];exact h.hd0⟩ fun n' en' h1 h2 h3 sl' f' e' he=>?_
     ·rw [n1] at he ⊢
      cases he
      exact ⟨x,hg,a1,a2,a3,by omega⟩
     ·rw [n1] at h3 he
      cases he
      have:=h2 h3 sl f e ha
      omega
    refine Z1.send ⟨fun z hz ez=>?_,⟨x,by rw [← eg];exact hg,a1⟩,fun m0 hm em _=>?_⟩
    ·have hy':(hs.set j ⟨y.d,y.ls++[(a,Ln.ends g en)],y.pl⟩)[j]?=some ⟨y.d,y.ls++[(a,Ln.ends g en)],y.pl⟩:=MV (List.getElem?_eq_some_iff.mp hy).1
     rw [Z1.one hy' hz ez]
     refine ⟨by rw [g1,← eg];exact h.gle,fun _ sl' f' e' he=>?_⟩
     rw [n1] at he
     cases he
     omega
    ·have:=(h.mks m0 hm em).1
     omega
theorem BC {c s mo sl k mo' sl' k':Int} (h:mo < mo') (s1:sl < s) (s0 : 0≤sl') (k1:k < c) (k0 : 0≤k') (hs : 0≤s) (hc : 0≤c):mk c s mo sl k < mk c s mo' sl' k':=by
 unfold mk
 have h1:(mo+1) * s≤mo' * s:=Int.mul_le_mul_of_nonneg_right (by omega) hs
 rw [Int.add_mul,Int.one_mul] at h1
 have h2:(mo * s+sl+1) * c≤(mo' * s+sl') * c:=Int.mul_le_mul_of_nonneg_right (by omega) hc
 rw [Int.add_mul,Int.one_mul] at h2
 omega
theorem mk_inj {c s mo sl k mo' sl' k':Int} (e:mk c s mo sl k=mk c s mo' sl' k') (a : 0≤sl∧sl < s) (a' : 0≤sl'∧sl' < s) (b : 0≤k∧k < c) (b' : 0≤k'∧k' < c):mo=mo'∧sl=sl':=by
 rcases Int.lt_trichotomy mo mo' with z | z | z
 ·have:=BC (c:=c) (s:=s) (k:=k) (k':=k') z a.2 a'.1 b.2 b'.1 (by omega) (by omega);omega
 ·refine ⟨z,?_⟩
  subst z
  unfold mk at e
  rcases Int.lt_trichotomy sl sl' with w | w | w
  ·have h2:(mo * s+sl+1) * c≤(mo * s+sl') * c:=Int.mul_le_mul_of_nonneg_right (by omega) (by omega)
   rw [Int.add_mul,Int.one_mul] at h2
   omega
  ·exact w
  ·have h2:(mo * s+sl'+1) * c≤(mo * s+sl) * c:=Int.mul_le_mul_of_nonneg_right (by omega) (by omega)
   rw [Int.add_mul,Int.one_mul] at h2
   omega
 ·have:=BC (c:=c) (s:=s) (k:=k') (k':=k) z a'.2 a.1 b'.2 b.1 (by omega) (by omega);omega
theorem Zi.make (Z:Zi c s hs gs lt ms) (hy:hs[j]?=some y) (c1 : 1≤c) (S:Snd y.d c) (ds:y.d.s=s) {r M:Int} (eo:opF y.d (nt y.ls) (gmx y.ls) y.pl (.make r)=(.int M,ls2.map (·.2),pl2)):∃ g mo sl k,Zi c s (hs.set j ⟨y.d,y.ls++ls2,pl2⟩) gs lt (ms++[⟨M,y.d.nm,g,mo,sl,k⟩]):=by
 have hym:=M0 hy
 have h:=Z.hnd y hym
 cases hp:y.pl with
 | none=>
  rw [hp] at eo
  simp only [opF] at eo
  injection eo with e1 _
  cases e1
 | some p=>
  obtain ⟨m,k⟩:=p
  rw [hp] at eo
  simp only [opF] at eo
  cases ha:(nt y.ls).ar with
  | none=>
   rw [ha] at eo
   injection eo with e1 _
   cases e1
  | some x=>
   obtain ⟨sl,f,e⟩:=x
   rw [ha] at eo
   dsimp only at eo
   split at eo
   ·injection eo with e1 _
    cases e1
   ·rename_i he
    split at eo
    ·injection eo with e1 _
     cases e1
    ·split at eo
     ·injection eo with e1 _
      cases e1
     ·rename_i hah
      injection eo with e1 e2
      injection e2 with e2 e3
      injection e1 with eM
      cases ls0 e2
      subst e3
      rw [Nk]
      have hdl:due m f r < (nt y.ls).hd:=by
       have:¬ (nt y.ls).hd≤due m f r:=fun z=>hah ⟨S.ah,z⟩
       omega
      have hdf:f≤due m f r:=by unfold due;omega
      have hdm:m≤due m f r:=by unfold due;omega
      obtain ⟨x,hg,a1,a2,a3,a4⟩:=h.ar sl f e ha
      have hxm:x∈gs:=by obtain ⟨i,_,hi⟩:=hg;exact M0 hi
      have hsl:=(Z.gsl x hxm).1
      rw [a2] at hsl
      have hpk:=(h.pk m k hp).1
      have hm0:=(h.pk m k hp).2
      have hcn : 0≤cnt m f r k∧cnt m f r k < c:=by
       unfold cnt
       split <;> omega
      have hcc:=S.c
      -- the new place lies behind the mark
      have hnx:∀ pm pk,nxP y.d.c m f r k=(pm,pk)→((0≤pk∧pk < c)∧0≤pm)∧((pm=due m f r∧pk=cnt m f r k+1)∨pm=due m f r+1):=fun pm pk z=>by
       unfold nxP at z
       injection z with z1 z2
       by_cases cc:cnt m f r k+1=y.d.c
       ·rw [if_pos cc] at z1 z2
        exact ⟨by omega,.inr z1.symm⟩
       ·rw [if_neg cc] at z1 z2
        exact ⟨by omega,.inl ⟨z1.symm,z2.symm⟩⟩
      have old:∀ m0∈ms,m0.nm=y.d.nm→m0.mo < due m f r∨(m0.mo=due m f r∧due m f r=m∧m0.k < k∧m0.g=(nt y.ls).g):=fun m0 hm em=>by
       rcases (h.mks m0 hm em).2 m k hp with z | ⟨z1,z2,z3⟩
       ·exact .inl (by omega)
       ·by_cases cd:due m f r=m
        ·exact .inr ⟨by omega,cd,z2,z3⟩
        ·exact .inl (by omega)
      have nms:(hs.set j ⟨y.d,y.ls,some (nxP y.d.c m f r k)⟩).map (·.d.nm)=hs.map (·.d.nm):=by
       rw [List.map_set]
       exact set_same (by rw [Nb,hy];rfl)
      have Z1:Zi c s (hs.set j ⟨y.d,y.ls,some (nxP y.d.c m f r k)⟩) gs lt ms:=by
       refine Z.hand hy (NF _) (h.pl (fun pm pk z=>(hnx pm pk (Nm z)).1) fun m0 hm em pm pk z=>?_) fun _ _ _ h=>h
       have h1:=(hnx pm pk (Nm z)).2
       rcases old m0 hm em with w | ⟨w1,w2,w3,w4⟩
       ·exact .inl (by omega)
       ·rcases h1 with ⟨v1,v2⟩ | v1
        ·refine .inr ⟨by omega,?_,w4⟩
         rw [v2]
         unfold cnt
         rw [if_pos w2]
         omega
        ·exact .inl (by omega)
      have hy':(hs.set j ⟨y.d,y.ls,some (nxP y.d.c m f r k)⟩)[j]?=some ⟨y.d,y.ls,some (nxP y.d.c m f r k)⟩:=MV (List.getElem?_eq_some_iff.mp hy).1
      refine ⟨(nt y.ls).g,due m f r,sl,cnt m f r k,⟨Z1.num,Z1.apt,Z1.gsl,Z1.gnm,fun z hz=>?_,fun z hz=>?_,fun m0 hm=>?_,fun m0 hm=>?_,Z1.nod,?_⟩⟩
      ·have hz':=Z1.hnd z hz
       refine ⟨hz'.gle,hz'.ar,fun m0 hm em=>?_,hz'.pk,hz'.hd0⟩
       rcases List.mem_append.mp hm with hm | hm
       ·exact hz'.mks m0 hm em
       ·rw [List.mem_singleton.mp hm] at em ⊢
        rw [Z1.one hy' hz em.symm]
        refine ⟨hdl,fun pm pk zz=>?_⟩
        rcases (hnx pm pk (Nm zz)).2 with ⟨v1,v2⟩ | v1
        ·exact .inr ⟨by show due m f r=pm;omega,by show cnt m f r k < pk;omega,rfl⟩
        ·exact .inl (by show due m f r < pm;omega)
      ·have hl:=Z1.ltz z hz
       cases z with
       | ask nm r=>exact hl
       | news a nm b=>exact hl
       | grant nm n sl f e=>exact hl
       | back nm n en=>
        obtain ⟨k1,k2,k3⟩:=hl
        refine ⟨k1,k2,fun m0 hm em eg=>?_⟩
        rcases List.mem_append.mp hm with hm | hm
        ·exact k3 m0 hm em eg
        ·rw [List.mem_singleton.mp hm] at em eg ⊢
         have:=(k1 _ (M0 hy') em).2 eg sl f e ha
         show due m f r < en
         omega
      ·rcases List.mem_append.mp hm with hm | hm
       ·exact Z.msz m0 hm
       ·rw [List.mem_singleton.mp hm]
        exact ⟨by show M=Law.mk c s _ _ _;rw [← eM,hcc,ds],hsl,hcn,by show 0≤due m f r;omega,x,hg,a1,a2,by show x.f≤due m f r;omega,by show due m f r < x.e;omega⟩
      ·rcases List.mem_append.mp hm with hm | hm
       ·exact Z1.mnm m0 hm
       ·rw [List.mem_singleton.mp hm]
        exact ⟨_,M0 hy',rfl⟩
      ·rw [M4]
       refine ⟨Z.ris,List.pairwise_singleton _ _,fun a ham b hb eab=>?_⟩
       rw [List.mem_singleton.mp hb] at eab ⊢
       have hz:=Z.msz a ham
       show a.v < M
       rw [hz.eq,← eM,hcc,ds]
       rcases old a ham eab with w | ⟨w1,w2,w3,w4⟩
       ·exact BC w hz.sl.2 hsl.1 hz.k.2 hcn.1 (by omega) (by omega)
       ·obtain ⟨x',hg',b1,b2,_⟩:=hz.gr
        rw [w4] at hg'
        have exx:=hg.inj hg'
        rw [w1,← b2,← exx,a2]
        unfold Law.mk cnt
        rw [if_pos w2]
        omega
theorem Zi.apart (Z:Zi c s hs gs lt ms):(ms.map (·.v)).Nodup:=by
 unfold List.Nodup
 rw [List.pairwise_map]
 refine List.Pairwise.imp_of_mem (fun {a b} ha hb hr e=>?_) Z.ris
 by_cases en:a.nm=b.nm
 ·have:=hr en;omega
 ·have za:=Z.msz a ha
  have zb:=Z.msz b hb
  obtain ⟨em,es⟩:=mk_inj (by rw [← za.eq,← zb.eq];exact e) za.sl zb.sl za.k zb.k
  obtain ⟨x,⟨i,_,hi⟩,x1,x2,x3,x4⟩:=za.gr
  obtain ⟨x',⟨i',_,hi'⟩,y1,y2,y3,y4⟩:=zb.gr
  rcases Nat.lt_trichotomy i i' with l | l | l
  ·have:=Z.apt.at_ hi hi' l (by rw [x2,y2,es]);omega
  ·subst l
   rw [hi] at hi'
   cases hi'
   exact en (by rw [← x1,← y1])
  ·have:=Z.apt.at_ hi' hi l (by rw [x2,y2,es]);omega
end
def JM:Lt→Str
 | .grant nm _ _ _ _=>nm
 | .news _ nm _=>nm
 | _ => ""
def dkv (D:List Hd):List (Key×V):=D.map fun d=>(Sum.inr d.nm,.ref d.p)
structure Mv (H:Hp) (D:List Hd) (ml hd:Addr) (mt:List Addr) (ms:List Mr):Prop where
 hm:H ml=some (.lst (mt.map V.ref))
 len:mt.length=ms.length
 mz:∀ (i:Nat) (t:Addr) (m:Mr),mt[i]?=some t→ms[i]?=some m→H t=some (.tup [.int m.v,.str m.nm])
 hh:H hd=some (.dK (dkv D))
theorem Mv.keep {H H':Hp} {D:List Hd} {ml hd:Addr} {mt:List Addr} {ms:List Mr} (M:Mv H D ml hd mt ms) (k1:∀ o,H ml=some o→H' ml=some o) (k2:∀ o,H hd=some o→H' hd=some o) (ts:cF H H'):Mv H' D ml hd mt ms:=⟨k1 _ M.hm,M.len,fun i t m h1 h2=>ts _ _ (M.mz i t m h1 h2),k2 _ M.hh⟩
structure Wv (K:PySem.W.Frag) (C CS CH CL CP:Addr) (H0 H:Hp) (D:List Hd) (d:Ld) (pp lp ml hd:Addr) (hs:List Hs) (gs:List Gr) (ts:Lts) (ms:List Mr) (mt:List Addr) (n:Nat):Prop where
 ev:Ev K C CS CH CL CP H0 H hs d gs pp lp ts
 ed:hs.map (·.d)=D
 zi:Zi d.c d.s hs gs (ts.map (·.2)) ms
 gl:gs.length≤n
 tl:ts.length≤n
 ll:∀ y∈hs,y.ls.length≤n
 nl:ms.length≤n
 mv:Mv H D ml hd mt ms
 sp:Sep hs d lp ml
 mn:H0 ml=none
 sn:∀ y∈hs,Snd y.d d.c∧y.d.s=d.s
 ap:("apart" : Str)∈d.ws
section
variable {K:PySem.W.Frag} {C CS CH CL CP:Addr} {H0 H H':Hp} {D:List Hd} {d:Ld} {pp lp ml hd:Addr} {hs:List Hs} {gs:List Gr} {ts:Lts} {ms:List Mr} {mt:List Addr} {n:Nat}
theorem Wv.same (W:Wv K C CS CH CL CP H0 H D d pp lp ml hd hs gs ts ms mt n) (s:aI H H'):Wv K C CS CH CL CP H0 H' D d pp lp ml hd hs gs ts ms mt n:={ W with ev:=W.ev.same s,mv:=W.mv.keep (fun _ e=>s _ _ e) (fun _ e=>s _ _ e) (cu s) }
theorem Wv.mono (W:Wv K C CS CH CL CP H0 H D d pp lp ml hd hs gs ts ms mt n) {n':Nat} (h:n≤n'):Wv K C CS CH CL CP H0 H D d pp lp ml hd hs gs ts ms mt n':={ W with gl:=Nq W.gl h,tl:=Nq W.tl h,ll:=fun y hy=>Nq (W.ll y hy) h,nl:=Nq W.nl h }
theorem Wv.oth {p:Addr} {b:Int} (W:Wv K C CS CH CL CP H0 H D d pp lp ml hd hs gs ts ms mt n) (hh:bh H p b) (np:H0 p=none) (o:Oth p H H'):Wv K C CS CH CL CP H0 H' D d pp lp ml hd hs gs ts ms mt n:=by
 obtain ⟨zs,hp⟩:=jn hh
 refine { W with ev:=W.ev.oth hh np o,mv:=W.mv.keep (fun _ e=>o _ _ e (pB (f:=id) hh W.mv.hm)) (fun _ e=>o _ _ e fun z=>?_) (ie hp o).ts }
 have:=W.mv.hh
 rw [z,hp] at this;cases this
theorem Wv.hdp (W:Wv K C CS CH CL CP H0 H D d pp lp ml hd hs gs ts ms mt n):Sep hs d lp hd:=by
 have hh:=W.mv.hh
 refine ⟨fun y hy=>?_,fun z=>?_,fun z=>?_⟩
 ·have k:=W.ev.hd y hy
  obtain ⟨⟨dw,sv,kp,_⟩,kl,_⟩:=id k
  exact ⟨(fun z=>by rw [z,kp] at hh;cases hh),(fun z=>by rw [z,kl] at hh;cases hh)⟩
 ·have:=W.ev.ld.2.1
  rw [z,this] at hh;cases hh
 ·have:=W.ev.po.2
  rw [z,this] at hh;cases hh
theorem vc {hs:List Hs} {j:Nat} {y:Hs} {ls:Lns} {pl:Option (Int×Int)} (hy:hs[j]?=some y):(hs.set j ⟨y.d,ls,pl⟩).map (·.d)=hs.map (·.d):=by
 rw [List.map_set]
 exact set_same (by rw [Nb,hy];rfl)
theorem Wv.step {j:Nat} {y:Hs} {ls2:Lns} {pl2:Option (Int×Int)} (W:Wv K C CS CH CL CP H0 H D d pp lp ml hd hs gs ts ms mt n) (hy:hs[j]?=some y) (f:Fr2 y.d.p y.d.l H H') (h:bE C CS CH H' y.d (y.ls++ls2) pl2) (k:cY (y.ls++ls2) pl2) (hl:ls2.length≤1) (Z:Zi d.c d.s (hs.set j ⟨y.d,y.ls++ls2,pl2⟩) gs (ts.map (·.2)) ms):Wv K C CS CH CL CP H0 H' D d pp lp ml hd (hs.set j ⟨y.d,y.ls++ls2,pl2⟩) gs ts ms mt (n+1):=by
 have hym:=M0 hy
 have k1:=W.sp.1 y hym
 have k2:=W.hdp.1 y hym
 refine ⟨W.ev.step hy f h k,by rw [vc hy,W.ed],Z,Nc W.gl,Nc W.tl,fun z hz=>?_,Nc W.nl,W.mv.keep (fun _ e=>f _ _ e k1.1 k1.2) (fun _ e=>f _ _ e k2.1 k2.2) (jJ (W.ev.hd y hym) f),W.sp.set hy,W.mn,fun z hz=>?_,W.ap⟩
 ·rcases MQ hz with hz | rfl
  ·exact Nc (W.ll z hz)
  ·have:=W.ll y hym
   show (y.ls++ls2).length≤n+1
   rw [M6];omega
 ·rcases MQ hz with hz | rfl
  ·exact W.sn z hz
  ·exact W.sn y hym
theorem Wv.send {t:Addr} {x:Lt} (W:Wv K C CS CH CL CP H0 H D d pp lp ml hd hs gs ts ms mt n) (o:Oth lp H H') (e:H' lp=some (.lst (ltV ts++[.ref t]))) (h:kE H t x) (Z:Zi d.c d.s hs gs (ts.map (·.2)++[x]) ms):Wv K C CS CH CL CP H0 H' D d pp lp ml hd hs gs (ts++[(t,x)]) ms mt (n+1):=
 ⟨W.ev.send o e h,W.ed,by rw [Nj];exact Z,Nc W.gl,by rw [M6,MW];exact Nat.succ_le_succ W.tl,fun y hy=>Nc (W.ll y hy),Nc W.nl,W.mv.keep (fun _ e=>o _ _ e W.sp.2.2) (fun _ e=>o _ _ e W.hdp.2.2) (ie W.ev.po.2 o).ts,W.sp,W.mn,W.sn,W.ap⟩
theorem Wv.lend {gs':List Gr} (W:Wv K C CS CH CL CP H0 H D d pp lp ml hd hs gs ts ms mt n) (c:Chg d.l H H') (h:cM K C CS CL H' d gs') (k:dh gs' d.s) (hl:gs'.length≤gs.length+1) (Z:Zi d.c d.s hs gs' (ts.map (·.2)) ms):Wv K C CS CH CL CP H0 H' D d pp lp ml hd hs gs' ts ms mt (n+1):=
 ⟨W.ev.lend c h k,W.ed,Z,Nq hl (Nat.succ_le_succ W.gl),Nc W.tl,fun y hy=>Nc (W.ll y hy),Nc W.nl,W.mv.keep (fun _ e=>c.oth _ _ e W.sp.2.1) (fun _ e=>c.oth _ _ e W.hdp.2.1) c.ts,W.sp,W.mn,W.sn,W.ap⟩
end
section
variable {P:Program} {w:World} {K:PySem.W.Frag} {mg:Str→Option Value} {base:Heap} {C CS CH CL CD CU CA CN CW CT CP CE CR:Addr}
theorem A6 {l:Addr}:(poF l).lookup ("sent" : Str)=none:=lk_miss (by decide +kernel)
theorem A7 {l:Addr}:(poF l).lookup ("letter" : Str)=none:=lk_miss (by decide +kernel)
theorem pK {l:Addr}:(poF l).lookup ("send" : Str)=none:=lk_miss (by decide +kernel)
theorem D5 {l:Addr}:(poF l).lookup ("carry" : Str)=none:=lk_miss (by decide +kernel)
theorem yc:aq ["_law_cell", "_law_last", "_law_way"] ["_law_cell", "_law_last"] (aj (top 77)):=by walk_at "s"
def qO:Sp:=fun vs H Q _=>∃ (p:Addr) (b la:Int),vs=[.ref p,.int la]∧bh H p b∧b≤1000000∧0≤la∧la≤10 ^ 40∧∀ (v:Int) (H':Hp),bh H' p (b+4096)→Oth p H H'→Q (.int v) H'
theorem yw (D:Dat K mg "_law_clock" "_law_clock" (top 77) ["_law_cell", "_law_last"]) (BT:Bt mg) (NE:br (CX1 P w)) (az:Cal P w K mg base (CX1 P w) "_law_pick" 11 ["_law_hand_here", "_law_many"] fR):Cal P w K mg base (CX1 P w) "_law_clock" 12 ["_law_cell", "_law_last"] qO:=by
 have S:=yc
 walk_at "d"
 ·obtain ⟨p,b,la,rfl,_⟩:=h
  rfl
 obtain ⟨p,b,la,rfl,hh,hb,l0,l1,q⟩:=h
 refine ⟨_,(ak (aM (i:=2) S.nd rfl (by first | exact Or.inl rfl | exact Or.inr rfl) (aH az (hr.mono (by first | decide | omega)) NE.pass (aa (pv 0) (aa ai af))))
   (ak (bf (aK fG (pv 2) ai (aO _)) (ao (aB (aP bM (pv 1) (aH az (hr.mono (by first | decide | omega)) NE.pass (aa (pv 0) (aa ai af)))))) aJ)
   (ak (bf (aK fG (pv 2) ai (aO _)) (ao (aB (aX (j8 rfl) rfl BT.max L3.ef (aa ai (aa (aP gD (pv 1) (aH az (hr.mono (by first | decide | omega)) NE.pass (aa (pv 0) (aa ai af)))) af))))) aJ)
   (ak (bf (aK bZ (pv 2) ai (aO _)) (ao (aB (aH az (hr.mono (by first | decide | omega)) NE.pass (aa (pv 0) (aa (aP bM (pv 1) ai) af))))) aJ)
   (ao (aB (aP bM (pv 1) (aH az (hr.mono (by first | decide | omega)) NE.pass (aa (pv 0) (aa (ay bH (bQ (aa ai (aa ai (aa (aP iK ai ai) af)))) (aH az (hr.mono (by first | decide | omega)) NE.pass (aa (pv 0) (aa ai af))) (fun _ _=>rfl)) af)))))))))),?_⟩
 try dsimp only [aZ]
 have L:=bU hh
 walk_at "go"
 refine bg L .head (by decide) (by decide) (by omega) fun r1 H1 a0 a1 L _=>?_
 walk_at "go"
 refine bF (fun c=>?_) (fun c=>?_)
 ·walk_at "go"
  refine bg L .head (by decide) (by decide) (by omega) fun r2 H2 b0 b1 L _=>?_
  walk_at "go"
  exact q _ _ ((bx.at (L.at_ (p,bx _) (by walk_at "mem"))).mono (by omega)) L.fr
 walk_at "go"
 refine bF (fun c=>?_) (fun c=>?_)
 ·walk_at "go"
  refine bg L .head (by decide) (by decide) (by omega) fun r2 H2 b0 b1 L _=>?_
  walk_at "go"
  exact q _ _ ((bx.at (L.at_ (p,bx _) (by walk_at "mem"))).mono (by omega)) L.fr
 walk_at "go"
 refine bF (fun c=>?_) (fun c=>?_)
 ·walk_at "go"
  refine bg L .head (by omega) (Nz (show la+2≤10 ^ 41 by omega) (by decide)) (by omega) fun r2 H2 b0 b1 L _=>?_
  walk_at "go"
  exact q _ _ ((bx.at (L.at_ (p,bx _) (by walk_at "mem"))).mono (by omega)) L.fr
 walk_at "go"
 refine bg L' (by walk_at "put") (by decide) (by decide) (by omega) fun r2 H2 b0 b1 L _=>?_
 walk_at "go"
 obtain ⟨v,e,hm⟩:=jz (xs:=[V.int 30,V.int 1000,V.int (10 ^ Int.toNat 13)]) b0 (by simp only [Nd,Ni];omega)
 refine n9 L .head e ?_
 obtain ⟨nn,rfl,n0,n1⟩:∃ nn:Int,v = .int nn∧0 < nn∧nn≤10 ^ 50:=by
  simp only [List.mem_cons,List.not_mem_nil,or_false] at hm
  rcases hm with rfl | rfl | rfl <;> exact ⟨_,rfl,by decide,by decide⟩
 walk_at "go"
 refine bg L (by walk_at "put") n0 n1 (by omega) fun r3 H3 d0 d1 L _=>?_
 walk_at "go"
 exact q _ _ ((bx.at (L.at_ (p,bx _) (by walk_at "mem"))).mono (by omega)) L.fr
end
section
variable {K:PySem.W.Frag} {C CS CH CL CP:Addr} {H0 H H1 H2 H3:Hp} {D:List Hd} {d:Ld} {pp lp ml hd:Addr} {hs:List Hs} {gs:List Gr} {ts:Lts} {ms:List Mr} {mt:List Addr} {n:Nat}
theorem Wv.give {j:Nat} {y:Hs} {ls2:Lns} {pl2:Option (Int×Int)} {t:Addr} {x:Lt} (W:Wv K C CS CH CL CP H0 H D d pp lp ml hd hs gs ts ms mt n) (hy:hs[j]?=some y) (f:Fr2 y.d.p y.d.l H H1) (h:bE C CS CH H1 y.d (y.ls++ls2) pl2) (k:cY (y.ls++ls2) pl2) (hl:ls2.length≤1) (s:aI H1 H2) (o:Oth lp H2 H3) (e:H3 lp=some (.lst (ltV ts++[.ref t]))) (ht:kE H2 t x) (Z:Zi d.c d.s (hs.set j ⟨y.d,y.ls++ls2,pl2⟩) gs (ts.map (·.2)++[x]) ms):Wv K C CS CH CL CP H0 H3 D d pp lp ml hd (hs.set j ⟨y.d,y.ls++ls2,pl2⟩) gs (ts++[(t,x)]) ms mt (n+1):=by
 have hym:=M0 hy
 have k1:=W.sp.1 y hym
 have k2:=W.hdp.1 y hym
 have ev2:=(W.ev.step hy f h k).same s
 refine ⟨ev2.send o e ht,by rw [vc hy,W.ed],by rw [Nj];exact Z,Nc W.gl,by rw [M6,MW];exact Nat.succ_le_succ W.tl,fun z hz=>?_,Nc W.nl,W.mv.keep (fun _ e=>o _ _ (s _ _ (f _ _ e k1.1 k1.2)) W.sp.2.2) (fun _ e=>o _ _ (s _ _ (f _ _ e k2.1 k2.2)) W.hdp.2.2) (((jJ (W.ev.hd y hym) f).trans (cu s)).trans (ie ev2.po.2 o).ts),W.sp.set hy,W.mn,fun z hz=>?_,W.ap⟩
 ·rcases MQ hz with hz | rfl
  ·exact Nc (W.ll z hz)
  ·have:=W.ll y hym
   show (y.ls++ls2).length≤n+1
   rw [M6];omega
 ·rcases MQ hz with hz | rfl
  ·exact W.sn z hz
  ·exact W.sn y hym
theorem Wv.KC {gs':List Gr} {t:Addr} {x:Lt} (W:Wv K C CS CH CL CP H0 H D d pp lp ml hd hs gs ts ms mt n) (c:Chg d.l H H1) (h:cM K C CS CL H1 d gs') (k:dh gs' d.s) (hl:gs'.length≤gs.length+1) (s:aI H1 H2) (o:Oth lp H2 H3) (e:H3 lp=some (.lst (ltV ts++[.ref t]))) (ht:kE H2 t x) (Z:Zi d.c d.s hs gs' (ts.map (·.2)++[x]) ms):Wv K C CS CH CL CP H0 H3 D d pp lp ml hd hs gs' (ts++[(t,x)]) ms mt (n+1):=
 have ev2:=(W.ev.lend c h k).same s
 ⟨ev2.send o e ht,W.ed,by rw [Nj];exact Z,Nq hl (Nat.succ_le_succ W.gl),by rw [M6,MW];exact Nat.succ_le_succ W.tl,fun y hy=>Nc (W.ll y hy),Nc W.nl,W.mv.keep (fun _ e=>o _ _ (s _ _ (c.oth _ _ e W.sp.2.1)) W.sp.2.2) (fun _ e=>o _ _ (s _ _ (c.oth _ _ e W.hdp.2.1)) W.hdp.2.2) ((c.ts.trans (cu s)).trans (ie ev2.po.2 o).ts),W.sp,W.mn,W.sn,W.ap⟩
end
section
variable {P:Program} {w:World} {K:PySem.W.Frag} {mg:Str→Option Value} {base:Heap} {C CS CH CL CD CU CA CN CW CT CP CE CR:Addr}
theorem yW {d:Hd} {n:Nt} {g:Int} {pl pl2:Option (Int×Int)} {o:Ou} {ls2:List Ln} (eo:opF d n g pl .give=(o,ls2,pl2)):(∃ j,o = .err j)∨∃ a b,o = .pr a b:=by
 cases pl with
 | none=>simp only [opF] at eo;injection eo with e _;exact .inl ⟨_,e.symm⟩
 | some p=>
  obtain ⟨m,k⟩:=p
  simp only [opF] at eo
  cases ha:n.ar with
  | none=>rw [ha] at eo;injection eo with e _;exact .inl ⟨_,e.symm⟩
  | some x=>
   obtain ⟨sl,f,e⟩:=x
   rw [ha] at eo
   dsimp only at eo
   split at eo
   ·injection eo with e _;exact .inl ⟨_,e.symm⟩
   ·injection eo with e _;exact .inr ⟨_,_,e.symm⟩
theorem yE {d:Hd} {n:Nt} {g r:Int} {pl pl2:Option (Int×Int)} {o:Ou} {ls2:List Ln} (eo:opF d n g pl (.make r)=(o,ls2,pl2)):(∃ j,o = .err j)∨∃ a,o = .int a∧ls2=[]:=by
 cases pl with
 | none=>simp only [opF] at eo;injection eo with e _;exact .inl ⟨_,e.symm⟩
 | some p=>
  obtain ⟨m,k⟩:=p
  simp only [opF] at eo
  cases ha:n.ar with
  | none=>rw [ha] at eo;injection eo with e _;exact .inl ⟨_,e.symm⟩
  | some x=>
   obtain ⟨sl,f,e⟩:=x
   rw [ha] at eo
   dsimp only at eo
   split at eo
   ·injection eo with e _;exact .inl ⟨_,e.symm⟩
   ·split at eo
    ·injection eo with e _;exact .inl ⟨_,e.symm⟩
    ·split at eo
     ·injection eo with e _;exact .inl ⟨_,e.symm⟩
     ·injection eo with e e'
      injection e' with e' _
      exact .inr ⟨_,e.symm,e'.symm⟩
def Jq (K:PySem.W.Frag) (C CS CH CL CP:Addr) (H0:Hp) (D:List Hd) (d:Ld) (pp lp ml hd:Addr) (n:Nat) (Q:VK):Prop:=∀ v hs gs ts ms mt H',Wv K C CS CH CL CP H0 H' D d pp lp ml hd hs gs ts ms mt n→Q v H'
def Jr (K:PySem.W.Frag) (C CS CH CL CP:Addr) (cs:List Addr) (H0:Hp) (D:List Hd) (d:Ld) (pp lp ml hd:Addr) (n:Nat) (E:XK):Prop:=∀ c dx hs gs ts ms mt H',c∈cs→Wv K C CS CH CL CP H0 H' D d pp lp ml hd hs gs ts ms mt n→E (.ref c) dx H'
theorem AB:aq ["_law_post", "_law_hand_here", "_law_other", "_law_way", "_law_grant", "_law_end"] ["_law_post", "_law_hand_here", "_law_other", "_law_way"] (aj (top 79)):=by walk_at "s"
def wG (K:PySem.W.Frag) (C CS CH CL CP:Addr) (cs:List Addr):Sp:=fun vs H Q E=>∃ (H0:Hp) (D:List Hd) (d:Ld) (pp lp ml hd:Addr) (hs:List Hs) (gs:List Gr) (ts:Lts) (ms:List Mr) (mt:List Addr) (n j:Nat) (y:Hs) (ot:Str) (wy:Int),vs=[.ref pp,.ref y.d.p,.str ot,.int wy]∧Wv K C CS CH CL CP H0 H D d pp lp ml hd hs gs ts ms mt n∧hs[j]?=some y∧(∃ z∈hs,z.d.nm=ot)∧n≤90∧Jq K C CS CH CL CP H0 D d pp lp ml hd (n+1) Q∧Jr K C CS CH CL CP cs H0 D d pp lp ml hd (n+1) E
theorem Bs (D:Dat K mg "_law_sent" "_law_sent" (top 79) ["_law_post", "_law_hand_here", "_law_other", "_law_way"]) (BT:Bt mg) (NE:br (CX1 P w)) (HC:HdC K CH) (dY:bw P w K mg base (CX1 P w) CP "send" 1 ["self", "letter"] (uf CP)) (fk:bw P w K mg base (CX1 P w) CH "tell" 2 ["self"] (ud C CS CH CD)) (dJ:bw P w K mg base (CX1 P w) CH "give_back" 6 ["self"] (kL C CS CH CD CA CN)):Cal P w K mg base (CX1 P w) "_law_sent" 8 ["_law_post", "_law_hand_here", "_law_other", "_law_way"] (wG K C CS CH CL CP (ers CD CU CA CN CW CT)):=by
 have S:=AB
 refine D.okR S (fun vs H Q E h=>?_) (fun f cdv A outer s H vs Q E hr h=>?_)
 ·obtain ⟨H0,D,d,pp,lp,ml,hd,hs,gs,ts,ms,mt,n,j,y,ot,wy,rfl,_⟩:=h
  rfl
 obtain ⟨H0,DD,d,pp,lp,ml,hd,hs,gs,ts,ms,mt,n,j,y,ot,wy,rfl,W,hy,hot,hn,q,qe⟩:=h
 have hym:=M0 hy
 have hdy:=W.ev.hd y hym
 have vm:=W.ev.ok y hym
 obtain ⟨⟨dx,sv,hp,_⟩,_⟩:=id hdy
 obtain ⟨⟨dp,hpo⟩,_⟩:=id W.ev.po
 have eD:∀ H',aI H H'→E (.ref CD) none H':=fun H' s=>qe CD none hs gs ts ms mt H' (by unfold ers;simp) ((W.same s).mono (ND _))
 have b0:∀ m k,y.pl=some (m,k)→0≤m→0≤bnd m k:=fun m k _ h=>by unfold bnd;split <;> omega
 refine ⟨_,(ao (bf (aK bZ (pv 3) ai (aO _)) (ao (bC (eT dY (hr.mono (by first | decide | omega)) NE.pass (pv 0) (aa (bA (aa bB (aa (aQ (pv 1) rfl) (aa (jf fk (hr.mono (by first | decide | omega)) aL (pv 1)) af)))) af)))) (ao (bf (aK bZ (pv 3) ai (aO _)) (ao (bC (eT dY (hr.mono (by first | decide | omega)) NE.pass (pv 0) (aa (bA (aa bB (aa (aQ (pv 1) rfl) (aa (pv 2) (aa (jf fk (hr.mono (by first | decide | omega)) aL (pv 1)) af))))) af)))) (ak (fW (jf dJ (hr.mono (by first | decide | omega)) aL (pv 1)) (gB rfl (bL (bu (i:=4) S.nd rfl (by first | exact Or.inl rfl | exact Or.inr rfl)) (bL (bu (i:=5) S.nd rfl (by first | exact Or.inl rfl | exact Or.inr rfl)) fh))))
     (ao (bC (eT dY (hr.mono (by first | decide | omega)) NE.pass (pv 0) (aa (bA (aa bB (aa (aQ (pv 1) rfl) (aa (pv 4) (aa (pv 5) af))))) af))))))))),?_⟩
 try dsimp only [aZ]
 walk_at "go"
 refine bF (fun c0=>?_) (fun c0=>?_)
 ·have L:=Led.start H (fun _=>False)
  walk_at "go"
  refine aV hpo pK ?_
  walk_at "go"
  refine ⟨y.d.p,CH,dx,_,_,rfl,hp,HC.cl,HC.n1,sG _ _ _ _,?_⟩
  walk_at "go"
  refine aV hp BQ ?_
  walk_at "go"
  refine ⟨y.d,y.ls,y.pl,rfl,hdy,fun _=>eD _ (aI.refl _),fun m k epl=>?_⟩
  walk_at "go"
  have W2:=W.same L'.same
  refine ⟨pp,lp,_,_,rfl,W2.ev.po,by rw [fZ];have:=W.tl;omega,fun H3 e3 o3=>?_⟩
  have hb0:=b0 m k epl ((W.zi.hnd y hym).pk m k epl).2
  have W3:=W2.send (x:=.ask y.d.nm (bnd m k)) o3 e3 ⟨hb0,L'.tup (by walk_at "mem")⟩ (W.zi.send ⟨hb0,y,hym,rfl⟩)
  walk_at "go"
  exact q _ _ _ _ _ _ _ W3
 walk_at "go"
 refine bF (fun c1=>?_) (fun c1=>?_)
 ·have L:=Led.start H (fun _=>False)
  walk_at "go"
  refine aV hpo pK ?_
  walk_at "go"
  refine ⟨y.d.p,CH,dx,_,_,rfl,hp,HC.cl,HC.n1,sG _ _ _ _,?_⟩
  walk_at "go"
  refine aV hp BQ ?_
  walk_at "go"
  refine ⟨y.d,y.ls,y.pl,rfl,hdy,fun _=>eD _ (aI.refl _),fun m k epl=>?_⟩
  walk_at "go"
  have W2:=W.same L'.same
  refine ⟨pp,lp,_,_,rfl,W2.ev.po,by rw [fZ];have:=W.tl;omega,fun H3 e3 o3=>?_⟩
  have W3:=W2.send (x:=.news y.d.nm ot (bnd m k)) o3 e3 (L'.tup (by walk_at "mem")) (W.zi.send hot)
  walk_at "go"
  exact q _ _ _ _ _ _ _ W3
 ·walk_at "go"
  refine aV hp EU ?_
  walk_at "go"
  refine xR (CU:=CU) (CW:=CW) (CT:=CT) hdy vm (by have:=W.ll y hym;omega) (fun j0 c dx H1 hj0 ho s1 hx=>qe c dx hs gs ts ms mt H1 (M0 hj0) ((W.same s1).mono (ND _))) (fun v o ls2 pl2 H1 ho hv hd1 hok1 hl1 f1=>?_)
  rcases yW ho with ⟨jj,rfl⟩ | ⟨g,en,rfl⟩
  ·exact hv.elim
  obtain ⟨tv,rfl,htv⟩:=hv
  have ev1:=W.ev.step hy f1 hd1 hok1
  obtain ⟨⟨dp1,hpo1⟩,_⟩:=id ev1.po
  obtain ⟨⟨dx1,sv1,hp1,_⟩,_⟩:=id hd1
  have L:=(Led.start H1 (fun _=>False)).more (aS tv [_,_]) htv
  walk_at "go"
  refine aV hpo1 pK ?_
  walk_at "go"
  refine ⟨y.d.p,CH,dx1,_,_,rfl,hp1,HC.cl,HC.n1,sG _ _ _ _,?_⟩
  walk_at "go"
  refine ⟨pp,lp,_,_,rfl,(ev1.same L'.same).po,by rw [fZ];have:=W.tl;omega,fun H3 e3 o3=>?_⟩
  have W3:=W.give hy f1 hd1 hok1 hl1 L'.same o3 e3 (x:=.back y.d.nm g en) (L'.tup (by walk_at "mem")) (W.zi.give hy (W.sn y hym).1 ho)
  walk_at "go"
  exact q _ _ _ _ _ _ _ W3
end
theorem Fd {td ty:TE} {σ : St} {H:Hp} {Q:VK} (h:td σ H fun x H1=>∃ a,x = .ref a∧IsD H1 a∧ty σ H1 fun y H2=>∃ o,mP H2 a y o∧Q (o.getD .non) H2):zS td ty σ H Q:=h
theorem sP {nm:Str}:∀ {D:List Hd},jC (dkv D) (Sum.inr nm)=(D.find? fun d=>decide (d.nm=nm)).map fun d=>V.ref d.p
 | []=>rfl
 | d::D=>by
  rw [List.find?_cons]
  by_cases c:d.nm=nm
  ·rw [Np c]
   exact iZ (p:=(Sum.inr d.nm,V.ref d.p)) (r:=dkv D) (by rw [c])
  ·rw [Nn c]
   exact (i0 (p:=(Sum.inr d.nm,V.ref d.p)) (r:=dkv D) (fun z=>c (Sum.inr.inj z))).trans sP
theorem lS {hs:List Hs} {nm:Str} (h:∃ y∈hs,y.d.nm=nm):∃ (j:Nat) (y:Hs),hs[j]?=some y∧y.d.nm=nm∧jC (dkv (hs.map (·.d))) (Sum.inr nm)=some (.ref y.d.p):=by
 rw [sP]
 cases e:(hs.map (·.d)).find? fun d=>decide (d.nm=nm) with
 | none=>
  obtain ⟨y,hy,en⟩:=h
  have:=List.find?_eq_none.mp e y.d (List.mem_map.mpr ⟨y,hy,rfl⟩)
  rw [Np en] at this
  exact absurd rfl this
 | some d0=>
  have h1:=List.find?_some e
  have h2:=List.mem_of_find?_eq_some e
  obtain ⟨y,hy,rfl⟩:=List.mem_map.mp h2
  obtain ⟨j,hj,rfl⟩:=M5 hy
  exact ⟨j,_,MT hj,of_decide_eq_true h1,rfl⟩
section
variable {P:Program} {w:World} {K:PySem.W.Frag} {mg:Str→Option Value} {base:Heap} {C CS CH CL CD CU CA CN CW CT CP CE CR:Addr}
theorem uE:aq ["letter"] ["letter"] (aj (top 70)):=by walk_at "s"
def nJ:Sp:=fun vs H Q _=>∃ (t:Addr) (x:Lt),vs=[.ref t]∧kE H t x∧Q (.str (JM x)) H
theorem uW {CX:CXT} (D:Dat K mg "for_whom" "for_whom" (top 70) ["letter"]):Cal P w K mg base CX "for_whom" 1 ["letter"] nJ:=by
 have S:=uE
 walk_at "d"
 ·obtain ⟨t,x,rfl,_⟩:=h
  rfl
 obtain ⟨t,x,rfl,hx,q⟩:=h
 refine ⟨_,(ak (bf (aK bZ (ay au (pv 0) ai (fun _ _=>rfl)) bB (aO _)) (ao (aB (ay au (pv 0) ai (fun _ _=>rfl)))) aJ)
   (ak (bf (aK bZ (ay au (pv 0) ai (fun _ _=>rfl)) bB (aO _)) (ao (aB (ay au (pv 0) ai (fun _ _=>rfl)))) aJ)
   (ao (aB bB)))),?_⟩
 try dsimp only [aZ]
 cases x with
 | ask nm r=>
  have L:=(Led.start H (fun _=>False)).more (aS t [_,_,_]) hx.2
  walk_at "go"
  refine dD (by decide +kernel) ?_
  walk_at "go"
  refine dD (by decide +kernel) ?_
  walk_at "go"
  exact q
 | back nm n e=>
  have L:=(Led.start H (fun _=>False)).more (aS t [_,_,_,_]) (show H t=_ from hx)
  walk_at "go"
  refine dD (by decide +kernel) ?_
  walk_at "go"
  refine dD (by decide +kernel) ?_
  walk_at "go"
  exact q
 | news a nm b=>
  have L:=(Led.start H (fun _=>False)).more (aS t [_,_,_,_]) (show H t=_ from hx)
  walk_at "go"
  refine dD (by decide +kernel) ?_
  walk_at "go"
  exact q
 | grant nm n sl f e=>
  obtain ⟨_,ar,ht,_⟩:=hx
  have L:=(Led.start H (fun _=>False)).more (aS t [_,_,_,_]) ht
  walk_at "go"
  exact q
theorem qZ:aq ["_law_post", "_law_hands", "_law_lender", "_law_cell", "_law_many", "_law_number", "_law_whom", "_law_told"] ["_law_post", "_law_hands", "_law_lender", "_law_cell"] (aj (top 78)):=by walk_at "s"
def kW (K:PySem.W.Frag) (C CS CH CL CP:Addr) (cs:List Addr):Sp:=fun vs H Q E=>∃ (H0:Hp) (D:List Hd) (d:Ld) (pp lp ml hd p:Addr) (b:Int) (hs:List Hs) (gs:List Gr) (ts:Lts) (ms:List Mr) (mt:List Addr) (n:Nat),vs=[.ref pp,.ref hd,.ref d.p,.ref p]∧Wv K C CS CH CL CP H0 H D d pp lp ml hd hs gs ts ms mt n∧1≤ts.length∧n≤60∧bh H p b∧b≤1000000∧H0 p=none∧Jq K C CS CH CL CP H0 D d pp lp ml hd (n+1) Q∧Jr K C CS CH CL CP cs H0 D d pp lp ml hd (n+1) E
theorem rN (D:Dat K mg "_law_carried" "_law_carried" (top 78) ["_law_post", "_law_hands", "_law_lender", "_law_cell"]) (BT:Bt mg) (NE:br (CX1 P w)) (gM:bw P w K mg base (CX1 P w) CP "sent" 1 ["self"] (ue CP)) (dY:bw P w K mg base (CX1 P w) CP "send" 1 ["self", "letter"] (uf CP)) (fC:bw P w K mg base (CX1 P w) CP "letter" 3 ["self", "number"] (kT CP CE)) (qo:bw P w K mg base (CX1 P w) CP "carry" 7 ["self", "number", "hand", "lender"] (wI K C CS CH CL CD CU CA CN CW CT CP CE)) (vL:Cal P w K mg base (CX1 P w) "for_whom" 1 ["letter"] nJ) (az:Cal P w K mg base (CX1 P w) "_law_pick" 11 ["_law_hand_here", "_law_many"] fR):Cal P w K mg base (CX1 P w) "_law_carried" 12 ["_law_post", "_law_hands", "_law_lender", "_law_cell"] (kW K C CS CH CL CP (ers CD CU CA CN CW CT)):=by
 have S:=qZ
 refine D.okR S (fun vs H Q E h=>?_) (fun f cdv A outer s H vs Q E hr h=>?_)
 ·obtain ⟨H0,D,d,pp,lp,ml,hd,p,b,hs,gs,ts,ms,mt,n,rfl,_⟩:=h
  rfl
 obtain ⟨H0,DD,d,pp,lp,ml,hd,p,b,hs,gs,ts,ms,mt,n,rfl,W,t1,hn,hh,hb,np,q,qe⟩:=h
 obtain ⟨⟨dp,hpo⟩,_⟩:=id W.ev.po
 refine ⟨_,(ak (aM (i:=4) S.nd rfl (by first | exact Or.inl rfl | exact Or.inr rfl) (aX gp rfl BT.len L3.dg (aa (cV gM (hr.mono (by first | decide | omega)) NE.pass (pv 0)) af)))
   (ak (aM (i:=5) S.nd rfl (by first | exact Or.inl rfl | exact Or.inr rfl) (aP gD (pv 4) (aH az (hr.mono (by first | decide | omega)) NE.pass (aa (pv 3) (aa (aX (xG rfl) rfl BT.min L3.l7 (aa (pv 4) (aa ai af))) af)))))
   (ak (bf (aK bZ (aH az (hr.mono (by first | decide | omega)) NE.pass (aa (pv 3) (aa ai af))) ai (aO _)) (ao (aM (i:=5) S.nd rfl (by first | exact Or.inl rfl | exact Or.inr rfl) (aP bM ai (aH az (hr.mono (by first | decide | omega)) NE.pass (aa (pv 3) (aa (pv 4) af)))))) aJ)
   (ak (aM (i:=6) S.nd rfl (by first | exact Or.inl rfl | exact Or.inr rfl) (aH vL (hr.mono (by first | decide | omega)) NE.pass (aa (gC fC (hr.mono (by first | decide | omega)) aL (pv 0) (aa (pv 5) af)) af)))
   (ak (aM (i:=7) S.nd rfl (by first | exact Or.inl rfl | exact Or.inr rfl) (gC qo (hr.mono (by first | decide | omega)) aL (pv 0) (aa (pv 5) (aa (A4 (xu hr) (pv 1) (pv 6) ⟨rfl,rfl,rfl,rfl⟩) (aa (pv 2) af)))))
   (ao (bf (cj (pI BT.isinstance BT.tuple_ L3.l6 (pv 7))) (ao (bC (eT dY (hr.mono (by first | decide | omega)) NE.pass (pv 0) (aa (pv 7) af)))) aJ))))))),?_⟩
 try dsimp only [aZ]
 walk_at "go"
 refine aV hpo A6 ?_
 walk_at "go"
 refine ⟨pp,lp,_,rfl,W.ev.po,fun b1 H1 n1 e1 s1=>?_⟩
 walk_at "go"
 refine dQ (SqL.of e1) ?_
 rw [fZ]
 have W1:=W.same s1
 have h1:bh H1 p _:=dB hh fun o e=>s1 _ _ e
 have L:=bU h1
 walk_at "go"
 refine bg L .head (by omega) (Nz (show min (ts.length:Int) 3≤3 by omega) (by decide)) (by omega) fun r1 H2 a0 a1 L _=>?_
 have W2:=W1.oth h1 np L.fr
 have h2:=bx.at (L.at_ (p,bx _) (by walk_at "mem"))
 clear L
 walk_at "one"
 try dsimp only [bD]
 refine cR (fun σ Hz=>∃ (k:Nat) (u5 u6:Option V),σ=[some (.ref pp),some (.ref hd),some (.ref d.p),some (.ref p),some (.int ts.length),some (.int ((k:Int)+1)),u5,u6]∧k < ts.length∧Wv K C CS CH CL CP H0 Hz DD d pp lp ml hd hs gs ts ms mt n) (fun nx kk=>?_) ?_
 ·have L:=bU h2
  walk_at "go"
  refine bg L .head (by decide) (by decide) (by omega) fun r2 H3 b0 b1 L _=>?_
  have W3:=W2.oth h2 np L.fr
  have h3:=bx.at (L.at_ (p,bx _) (by walk_at "mem"))
  clear L
  walk_at "go"
  refine bF (fun c=>?_) (fun c=>?_)
  ·have L:=bU h3
   walk_at "go"
   refine bg L .head (by omega) (Nz (show (ts.length:Int)≤100 by have:=W.tl;omega) (by decide)) (by omega) fun r3 H4 c0 c1 L _=>?_
   have W4:=W3.oth h3 np L.fr
   clear L
   obtain ⟨k,rfl⟩:=MU c0
   walk_at "go"
   rw [show (1+(k:Int))=(k:Int)+1 by omega]
   exact kk _ _ ⟨k,_,_,rfl,by omega,W4⟩
  ·obtain ⟨k,ek⟩:∃ k:Nat,(ts.length:Int) - r1=(k:Int)+1:=by
    obtain ⟨k,e⟩:=MU (show 0≤(ts.length:Int) - r1 - 1 by omega)
    exact ⟨k,by omega⟩
   walk_at "go"
   rw [ek]
   exact kk _ _ ⟨k,_,_,rfl,by omega,W3⟩
 rintro σ H3 ⟨k,u5,u6,rfl,hk,W3⟩
 obtain ⟨⟨dp3,hpo3⟩,_⟩:=id W3.ev.po
 obtain ⟨⟨t,x⟩,hx⟩:∃ z,ts[k]?=some z:=⟨_,MT hk⟩
 have hxm:=M0 hx
 have hxl:=W3.ev.lt _ hxm
 have hlz:=W.zi.ltz x (List.mem_map.mpr ⟨_,hxm,rfl⟩)
 walk_at "go"
 refine aV hpo3 A7 ?_
 walk_at "go"
 refine ⟨pp,lp,_,_,rfl,W3.ev.po,fun v h1 h2 hv=>?_,fun z=>absurd z (by rw [fZ];omega)⟩
 obtain rfl:v = .ref t:=by
  rw [show (((k:Int)+1 - 1).toNat)=k by omega,HE hx] at hv
  exact (Nm hv).symm
 walk_at "go"
 refine ⟨t,x,rfl,hxl,?_⟩
 have hdk:=W3.mv.hh
 have hsm:=W3.ev.ld.slots
 have hc1 : 1≤d.c:=W3.ev.ld.2.2.2.ok.c1
 have hgl:=W.gl
 walk_at "go"
 refine aV hpo3 D5 ?_
 walk_at "go"
 refine Fd ?_
 walk_at "go"
 refine ⟨hd,rfl,.inl ⟨_,.inl hdk⟩,?_⟩
 walk_at "go"
 refine ⟨_,mP.k (k:=Sum.inr (JM x)) hdk,?_⟩
 walk_at "go"
 refine ⟨pp,lp,ts,_,_,.ref d.p,rfl,W3.ev.po,fun z=>absurd z (by omega),fun j' t' x' hj' hx'=>?_⟩
 obtain rfl:k=j':=by omega
 rw [hx] at hx'
 cases hx'
 refine ⟨hxl,?_⟩
 cases x with
 | ask nm r=>
  refine ⟨d,gs,rfl,W3.ev.ld,W3.ev.gk,by omega,fun a b' hnx c1 H4 s4=>qe CN none hs gs ts ms mt H4 (by unfold ers;simp) ((W3.same s4).mono (ND _)),fun a b' hnx c1 g ar t2 H4 hd4 gk4 ht2 c4=>?_⟩
  rw [Np W3.ap] at hnx
  have hX:=hd4.2.2.1 _ (MX _ M7)
  have ev4:=W3.ev.lend c4 hd4 gk4
  obtain ⟨⟨dp4,hpo4⟩,_⟩:=id ev4.po
  walk_at "go"
  refine gG (.tup ht2) rfl ?_
  walk_at "go"
  refine aV hpo4 pK ?_
  walk_at "go"
  refine ⟨pp,lp,_,_,rfl,ev4.po,by rw [fZ];have:=W.tl;omega,fun H5 e5 o5=>?_⟩
  have W5:=W3.KC c4 hd4 gk4 (by rw [M6];exact NB _) (aI.refl _) o5 e5 (x:=.grant nm (gs.length+1) a b' (b'+d.term)) ⟨by omega,ar,ht2,hX.2⟩ (W.zi.lend hnx c1 hsm hlz.2)
  walk_at "go"
  exact q _ _ _ _ _ _ _ W5
 | back nm n0 en=>
  refine ⟨d,gs,rfl,W3.ev.ld,W3.ev.gk,fun no H4 s4=>?_,fun i x r g ar H4 hd4 gk4 c4=>?_⟩
  ·walk_at "go"
   refine gG (.bl _) rfl ?_
   walk_at "go"
   exact q _ _ _ _ _ _ _ ((W3.same s4).mono (ND _))
  ·walk_at "go"
   refine gG (.bl _) rfl ?_
   walk_at "go"
   exact q _ _ _ _ _ _ _ (W3.lend c4 hd4 gk4 (by rw [Nl];exact ND _) (W.zi.free (List.mem_map.mpr ⟨_,hxm,rfl⟩) r))
 | news a nm b'=>
  obtain ⟨j,y,hy,hnm,hlk⟩:=lS hlz
  rw [W.ed] at hlk
  have hym:=M0 hy
  refine ⟨y.d,y.ls,y.pl,congrArg (fun o:Option V=>o.getD V.non) hlk,W3.ev.hd y hym,W3.ev.ok y hym,by have:=W.ll y hym;omega,fun j0 c dx H4 hj0 ho s4 _=>qe c dx hs gs ts ms mt H4 (M0 hj0) ((W3.same s4).mono (ND _)),fun v o ls2 pl2 H4 ho hv hd4 hok4 hl4 f4=>?_⟩
  have W4:=W3.step hy f4 hd4 hok4 hl4 (W.zi.mX hy hc1 ho)
  obtain rfl:v = .non:=by
   cases hp:y.pl with
   | none=>rw [hp] at ho;injection ho with ho _;rw [← ho] at hv;exact hv.elim
   | some p=>rw [hp] at ho;injection ho with ho _;rw [← ho] at hv;exact hv
  walk_at "go"
  refine gG .non rfl ?_
  walk_at "go"
  exact q _ _ _ _ _ _ _ W4
 | grant nm n0 sl f e=>
  obtain ⟨j,y,hy,hnm,hlk⟩:=lS hlz.1
  rw [W.ed] at hlk
  have hym:=M0 hy
  subst hnm
  refine ⟨y.d,y.ls,y.pl,congrArg (fun o:Option V=>o.getD V.non) hlk,W3.ev.hd y hym,W3.ev.ok y hym,by have:=W.ll y hym;omega,fun j0 c dx H4 hj0 ho s4 _=>qe c dx hs gs ts ms mt H4 (M0 hj0) ((W3.same s4).mono (ND _)),fun v o ls2 pl2 H4 ho hv hd4 hok4 hl4 f4=>?_⟩
  have W4:=W3.step hy f4 hd4 hok4 hl4 (W.zi.take hy hc1 (W.sn y hym).1 (List.mem_map.mpr ⟨_,hxm,rfl⟩) ho)
  obtain ⟨bb,rfl⟩:∃ bb,v = .bl bb:=by
   cases hp:y.pl with
   | none=>rw [hp] at ho;injection ho with ho _;rw [← ho] at hv;exact hv.elim
   | some p=>
    obtain ⟨m,k⟩:=p
    rw [hp] at ho
    simp only [opF] at ho
    split at ho
    ·injection ho with ho _;rw [← ho] at hv;exact ⟨_,hv⟩
    ·injection ho with ho _;rw [← ho] at hv;exact ⟨_,hv⟩
  walk_at "go"
  refine gG (.bl _) rfl ?_
  walk_at "go"
  exact q _ _ _ _ _ _ _ W4
end
def ltD:Lt→Dt
 | .ask nm r=>.tup [.str "ask",.str nm,.int r]
 | .back nm n e=>.tup [.str "back",.str nm,.int n,.int e]
 | .news a nm b=>.tup [.str "news",.str a,.str nm,.int b]
 | .grant nm n sl f e=>.tup [.str "grant",.str nm,.int n,.tup [.int sl,.int f,.int e]]
theorem kE.at {K:PySem.W.Frag} {H:Hp} {t:Addr} {x:Lt} (h:kE H t x):At K H (.ref t) (ltD x):=by
 cases x with
 | ask nm r=>exact .tup (SqT.of h.2) (.cons (.str _) (.cons (.str _) (.cons (.int _) .nil)))
 | back nm n e=>exact .tup (SqT.of (show H t=_ from h)) (.cons (.str _) (.cons (.str _) (.cons (.int _) (.cons (.int _) .nil))))
 | news a nm b=>exact .tup (SqT.of (show H t=_ from h)) (.cons (.str _) (.cons (.str _) (.cons (.str _) (.cons (.int _) .nil))))
 | grant nm n sl f e=>
  obtain ⟨_,ar,h2,h3⟩:=h
  exact .tup (SqT.of h2) (.cons (.str _) (.cons (.str _) (.cons (.int _) (.cons (.tup (SqT.of h3) (.cons (.int _) (.cons (.int _) (.cons (.int _) .nil)))) .nil))))
theorem w6 {K:PySem.W.Frag} {H:Hp}:∀ {ts:Lts},tK H ts→Ats K H (ltV ts) (ts.map fun x=>ltD x.2)
 | [],_=>.nil
 | x::ts,h=>.cons (h x M7).at (w6 fun y hy=>h y (M3 _ hy))
theorem wZ:∀ (ts:Lts),deps (ts.map fun x=>ltD x.2)≤2
 | []=>by simp [deps]
 | (a,x)::ts=>by
  have:=wZ ts
  have hd:dep (ltD x)≤2:=by cases x <;> simp [ltD,dep,deps]
  simp only [List.map_cons,deps];omega
section
variable {K:PySem.W.Frag} {C CS CH CL CP:Addr} {H0 H H1 H2 H3:Hp} {D:List Hd} {d:Ld} {pp lp ml hd:Addr} {hs:List Hs} {gs:List Gr} {ts:Lts} {ms:List Mr} {mt:List Addr} {n:Nat}
theorem Ev.lst {q:Addr} {xs:List V} (I:Ev K C CS CH CL CP H0 H hs d gs pp lp ts) (hq:H q=some (.lst xs)) (s:Sep hs d lp q) (nn:H0 q=none) (c:Chg q H H1):Ev K C CS CH CL CP H0 H1 hs d gs pp lp ts:=
 ⟨fun b u e=>c.oth b u (I.sm _ _ e) (aG e nn),fun x hx=>(I.hd x hx).Jb hq (Ne.symm (s.1 x hx).2) c.oth,I.ok,I.ne,I.hl,I.hn,I.ld.chg hq (Ne.symm s.2.1) c,I.gk,I.ln,I.po.chg hq (Ne.symm s.2.2) c.oth,I.lt.ts c.ts,I.pn,I.dl⟩
theorem Wv.make {j:Nat} {y:Hs} {pl2:Option (Int×Int)} {t:Addr} {x:Mr} (W:Wv K C CS CH CL CP H0 H D d pp lp ml hd hs gs ts ms mt n) (hnl:ms.length+1≤n) (hy:hs[j]?=some y) (f:Fr2 y.d.p y.d.l H H1) (h:bE C CS CH H1 y.d y.ls pl2) (k:cY y.ls pl2) (s:aI H1 H2) (ht:H2 t=some (.tup [.int x.v,.str x.nm])) (c:Chg ml H2 H3) (e:H3 ml=some (.lst (mt.map V.ref++[.ref t]))) (Z:Zi d.c d.s (hs.set j ⟨y.d,y.ls,pl2⟩) gs (ts.map (·.2)) (ms++[x])):Wv K C CS CH CL CP H0 H3 D d pp lp ml hd (hs.set j ⟨y.d,y.ls,pl2⟩) gs ts (ms++[x]) (mt++[t]) n:=by
 have hym:=M0 hy
 have k1:=W.sp.1 y hym
 have k2:=W.hdp.1 y hym
 have ev2:=(W.ev.step hy f h k).same s
 have hm2:=s _ _ (f _ _ W.mv.hm k1.1 k1.2)
 have hh2:=s _ _ (f _ _ W.mv.hh k2.1 k2.2)
 have ts3:cF H H3:=((jJ (W.ev.hd y hym) f).trans (cu s)).trans c.ts
 refine ⟨ev2.lst hm2 (W.sp.set hy) W.mn c,by rw [vc hy,W.ed],Z,W.gl,W.tl,fun z hz=>?_,by rw [M6,MW];exact hnl,⟨by rw [Nj];exact e,by rw [M6,M6,W.mv.len];rfl,fun i t' m h1 h2=>?_,c.oth _ _ hh2 fun z=>by rw [z,hm2] at hh2;cases hh2⟩,W.sp.set hy,W.mn,fun z hz=>?_,W.ap⟩
 ·rcases MQ hz with hz | rfl
  ·exact W.ll z hz
  ·exact W.ll y hym
 ·by_cases ci:i < mt.length
  ·rw [MP ci] at h1
   rw [MP (by rw [← W.mv.len];exact ci)] at h2
   exact ts3 _ _ (W.mv.mz i t' m h1 h2)
  ·have hi:=(List.getElem?_eq_some_iff.mp h1).1
   rw [M6,MW] at hi
   obtain rfl:i=mt.length:=by omega
   rw [MO (NB _),Nv] at h1
   rw [W.mv.len,MO (NB _),Nv] at h2
   cases h1
   cases h2
   exact c.ts _ _ ht
 ·rcases MQ hz with hz | rfl
  ·exact W.sn z hz
  ·exact W.sn y hym
end
section
variable {P:Program} {w:World} {K:PySem.W.Frag} {mg:Str→Option Value} {base:Heap} {C CS CH CL CD CU CA CN CW CT CP CE CR:Addr}
theorem Fc {td ty:TE} {σ : St} {H:Hp} {Q:VK} (h:td σ H fun x H1=>ty σ H1 fun y H2=>∃ a v,x = .ref a∧mP H2 a y (some v)∧Q v H2):F8 td ty σ H Q:=h
theorem yb:aq ["_law_post", "_law_hands", "_law_lender", "_law_names_here", "_law_cell", "_law_marks", "_law_last", "_law_way", "_law_hand_here", "_law_reading"] ["_law_post", "_law_hands", "_law_lender", "_law_names_here", "_law_cell", "_law_marks", "_law_last"] (aj (top 80)):=by walk_at "s"
def qN (K:PySem.W.Frag) (C CS CH CL CP:Addr) (cs:List Addr):Sp:=fun vs H Q E=>∃ (H0:Hp) (D:List Hd) (d:Ld) (pp lp ml hd nq p:Addr) (la:Int) (hs:List Hs) (gs:List Gr) (ts:Lts) (ms:List Mr) (mt:List Addr) (n:Nat),vs=[.ref pp,.ref hd,.ref d.p,.ref nq,.ref p,.ref ml,.int la]∧Wv K C CS CH CL CP H0 H D d pp lp ml hd hs gs ts ms mt n∧H0 nq=some (.lst ((D.map (·.nm)).map V.str))∧1≤D.length∧D.length≤10∧n≤60∧bh H p 0∧H0 p=none∧0≤la∧la≤10 ^ 40∧Jq K C CS CH CL CP H0 D d pp lp ml hd (n+1) Q∧Jr K C CS CH CL CP cs H0 D d pp lp ml hd (n+1) E
theorem yv (D:Dat K mg "_law_deed" "_law_deed" (top 80) ["_law_post", "_law_hands", "_law_lender", "_law_names_here", "_law_cell", "_law_marks", "_law_last"]) (BT:Bt mg) (NE:br (CX1 P w)) (HC:HdC K CH) (az:Cal P w K mg base (CX1 P w) "_law_pick" 11 ["_law_hand_here", "_law_many"] fR) (qh:Cal P w K mg base (CX1 P w) "_law_clock" 12 ["_law_cell", "_law_last"] qO) (l5:Cal P w K mg base (CX1 P w) "_law_carried" 12 ["_law_post", "_law_hands", "_law_lender", "_law_cell"] (kW K C CS CH CL CP (ers CD CU CA CN CW CT))) (j9:Cal P w K mg base (CX1 P w) "_law_sent" 8 ["_law_post", "_law_hand_here", "_law_other", "_law_way"] (wG K C CS CH CL CP (ers CD CU CA CN CW CT))) (gM:bw P w K mg base (CX1 P w) CP "sent" 1 ["self"] (ue CP)) (gT:bw P w K mg base (CX1 P w) CH "area" 6 ["self"] (uq C CS CH))
  (eN:bw P w K mg base (CX1 P w) CH "is_up" 1 ["self"] (um C CS CH)) (gS:bw P w K mg base (CX1 P w) CH "fall" 6 ["self"] (uo C CS CH CD)) (gP:bw P w K mg base (CX1 P w) CH "rise" 6 ["self"] (ug C CS CH CU)) (gn:bw P w K mg base (CX1 P w) CH "write" 6 ["self", "reading"] (kH C CS CH CD CA CN CW)) (gQ:bw P w K mg base (CX1 P w) CH "make" 6 ["self", "reading"] (kK C CS CH CD CA CN CW CT)):Cal P w K mg base (CX1 P w) "_law_deed" 13 ["_law_post", "_law_hands", "_law_lender", "_law_names_here", "_law_cell", "_law_marks", "_law_last"] (qN K C CS CH CL CP (ers CD CU CA CN CW CT)):=by
 have S:=yb
 refine D.okR S (fun vs H Q E h=>?_) (fun f cdv A outer s H vs Q E hr h=>?_)
 ·obtain ⟨H0,D,d,pp,lp,ml,hd,nq,p,la,hs,gs,ts,ms,mt,n,rfl,_⟩:=h
  rfl
 obtain ⟨H0,DD,d,pp,lp,ml,hd,nq,p,la,hs,gs,ts,ms,mt,n,rfl,W,hnq,d1,d10,hn,hh,np,l0,l1,q,qe⟩:=h
 have hsl:hs.length=DD.length:=by have:=congrArg List.length W.ed;rwa [Nh] at this
 refine ⟨_,(ak (aM (i:=7) S.nd rfl (by first | exact Or.inl rfl | exact Or.inr rfl) (aH az (hr.mono (by first | decide | omega)) NE.pass (aa (pv 4) (aa ai af))))
   (ak (aM (i:=8) S.nd rfl (by first | exact Or.inl rfl | exact Or.inr rfl) (D0 (xu hr) (pv 1) (ay bH (pv 3) (aH az (hr.mono (by first | decide | omega)) NE.pass (aa (pv 4) (aa (aX gp rfl BT.len L3.dg (aa (pv 3) af)) af))) (fun _ _=>rfl)) (fun _ _=>rfl)))
   (ao (bf (PW.pt (iE (aK (uN (hr.mono (NC _))) (cV gM (hr.mono (by first | decide | omega)) NE.pass (pv 0)) (bQ af) (aO _)) (fU (aK fG (pv 7) ai (aO _))))) (ao (bC (b6 l5 (hr.mono (by first | decide | omega)) aL (aa (pv 0) (aa (pv 1) (aa (pv 2) (aa (pv 4) af))))))) (ao (bf (PW.pt (wO (aK fG (pv 7) ai (aO _)) (pF (gy (iJ (cV gT (hr.mono (by first | decide | omega)) NE.pass (pv 8))))))) (ao (bC (b6 j9 (hr.mono (by first | decide | omega)) aL (aa (pv 0) (aa (pv 8) (aa (ay bH (pv 3) (aH az (hr.mono (by first | decide | omega)) NE.pass (aa (pv 4) (aa (aX gp rfl BT.len L3.dg (aa (pv 3) af)) af))) (fun _ _=>rfl)) (aa (ay bH (bQ (aa ai (aa ai (aa ai af)))) (aP c8 (pv 7) ai) (fun _ _=>rfl)) af))))))) (ao (bf (aK fG (pv 7) ai (aO _)) (ak (aM (i:=9) S.nd rfl (by first | exact Or.inl rfl | exact Or.inr rfl) (aH qh (hr.mono (by first | decide | omega)) NE.pass (aa (pv 4) (aa (pv 6) af))))
      (ak (bf (aK jg (aH az (hr.mono (by first | decide | omega)) NE.pass (aa (pv 4) (aa ai af))) ai (aO _)) (ao (bC (gC gn (hr.mono (by first | decide | omega)) aL (pv 8) (aa (pv 9) af)))) aJ)
      (ao (bC (ly PySem.F.plainAttrs_list PySem.F.slot_list_append PySem.F.type_list_append gY (pv 5) (aa (bA (aa (gC gQ (hr.mono (by first | decide | omega)) aL (pv 8) (aa (pv 9) af)) (aa (aQ (pv 8) rfl) af))) af)))))) (ao (bf (aK bZ (pv 7) ai (aO _)) (ao (bC (b6 j9 (hr.mono (by first | decide | omega)) aL (aa (pv 0) (aa (pv 8) (aa (aQ (pv 8) rfl) (aa ai af))))))) (ao (bf (PW.pt (iE (cj (cV eN (hr.mono (by first | decide | omega)) NE.pass (pv 8))) (fU (aK fG (pv 7) ai (aO _))))) (ao (bC (jf gS (hr.mono (by first | decide | omega)) aL (pv 8)))) (ao (bf (dj (cj (cV eN (hr.mono (by first | decide | omega)) NE.pass (pv 8)))) (ao (bC (jf gP (hr.mono (by first | decide | omega)) aL (pv 8)))) aJ)))))))))))))),?_⟩
 try dsimp only [aZ]
 have L:=bU hh
 walk_at "go"
 refine bg L .head (by decide) (by decide) (by omega) fun wy H1 a0 a1 L _=>?_
 have W1:=W.oth hh np L.fr
 have h1:=bx.at (L.at_ (p,bx _) (by walk_at "mem"))
 clear L
 have LX:=W1.ev.sm _ _ hnq
 have dnl:((DD.map (·.nm)).map V.str).length=DD.length:=by rw [Nh,Nh]
 have nmA:∀ k:Nat,k < DD.length→∃ z,atI ((DD.map (·.nm)).map V.str) (k:Int)=some (.str z)∧∃ y∈hs,y.d.nm=z:=fun k hk=>by
  have hk':k < hs.length:=by omega
  refine ⟨DD[k].nm,cS (by rw [Nb,Nb,MT hk];rfl),hs[k],List.getElem_mem hk',?_⟩
  have:(hs.map (·.d))[k]?=DD[k]?:=by rw [W.ed]
  rw [Nb,MT hk',MT hk] at this
  have:=Nm this
  rw [← this]
 have L:=bU h1
 walk_at "go"
 refine Fc ?_
 walk_at "go"
 refine dQ (SqL.of LX) ?_
 rw [dnl]
 walk_at "go"
 refine bg L .head (by omega) (Nz (show (DD.length:Int)≤10 by omega) (by decide)) (by omega) fun r2 H2 b0 b1 L _=>?_
 have W2:=W1.oth h1 np L.fr
 have h2:=bx.at (L.at_ (p,bx _) (by walk_at "mem"))
 clear L
 have LW:=W2.ev.sm _ _ hnq
 obtain ⟨k2,rfl⟩:=MU b0
 obtain ⟨z2,hz2,hzy⟩:=nmA k2 (by omega)
 obtain ⟨j,y,hy,hynm,hlk⟩:=lS hzy
 rw [W.ed] at hlk
 have hym:=M0 hy
 walk_at "go"
 refine fq (SqL.of LW) hz2 ?_
 refine ⟨hd,.ref y.d.p,rfl,?_,?_⟩
 ·have:=mP.k (k:=Sum.inr z2) W2.mv.hh
  rw [hlk] at this
  exact this
 obtain ⟨⟨dp2,hpo2⟩,_⟩:=id W2.ev.po
 have hc1 : 1≤d.c:=W2.ev.ld.2.2.2.ok.c1
 have hly:=W.ll y hym
 walk_at "go"
 refine aV hpo2 A6 ?_
 walk_at "go"
 refine ⟨pp,lp,_,rfl,W2.ev.po,fun b3 H3 nb3 hb3 s3=>?_⟩
 have W3:=W2.same s3
 have h3:bh H3 p _:=dB h2 fun o e=>s3 _ _ e
 have L:=Led.start H3 (fun _=>False)
 walk_at "go"
 have s34:=L'.same
 have hl4:=L'.eo (p:=l') (by walk_at "put")
 have W4:=W3.same s34
 have h4:bh H' p _:=dB h3 fun o e=>s34 _ _ e
 obtain ⟨H4,eH4⟩:∃ z,z=H':=⟨_,rfl⟩
 subst eH4
 clear L L'
 refine GA (e:=.lst []) (.lst (SqL.of (s34 _ _ hb3)) (w6 W4.ev.lt)) (.lst (SqL.of hl4) .nil) (by have:=wZ ts;simp only [dep];omega) ?_
 obtain ⟨bz,ebz⟩:∃ bz,bz = !eqD (.lst (ts.map fun x=>ltD x.2)) (.lst []):=⟨_,rfl⟩
 rw [← ebz]
 have hbz:bz=true→1≤ts.length:=fun z=>by
  cases ts with
  | nil=>rw [ebz] at z;cases z
  | cons x ts=>simp
 by_cases c9:bz=true∧wy < 9
 ·rw [c9.1]
  walk_at "go"
  exact ⟨H0,DD,d,pp,lp,ml,hd,p,_,hs,gs,ts,ms,mt,n,rfl,W4,hbz c9.1,hn,h4,by decide,np,fun v hs gs ts ms mt H' w=>by walk_at "go";exact q _ _ _ _ _ _ _ w,qe⟩
 have hdy:=W4.ev.hd y hym
 have vm:=W4.ev.ok y hym
 obtain ⟨⟨dxy,svy,hpy,_⟩,_⟩:=id hdy
 cases bz
 case' true=>
  walk_at "go"
  refine dD (fun z=>c9 ⟨rfl,z⟩) ?_
 all_goals
  walk_at "go"
  refine bF (fun c12=>?_) (fun c12=>?_)
  ·have W5:=W4
   have h5:=h4
   have L:=bU h5
   walk_at "go"
   refine dQ (SqL.of (W5.ev.sm _ _ hnq)) ?_
   rw [dnl]
   walk_at "go"
   refine bg L .head (by omega) (Nz (show (DD.length:Int)≤10 by omega) (by decide)) (by omega) fun r6 H6 e0 e1 L _=>?_
   have W6:=W5.oth h5 np L.fr
   clear L
   obtain ⟨k6,rfl⟩:=MU e0
   obtain ⟨z6,hz6,hzy6⟩:=nmA k6 (by omega)
   walk_at "go"
   refine fq (SqL.of (W6.ev.sm _ _ hnq)) hz6 ?_
   have L:=Led.start H6 (fun _=>False)
   walk_at "go"
   obtain ⟨v7,ev7,hm7⟩:=jz (xs:=[V.int 0,V.int 0,V.int 1]) (r:=wy % 3) (Int.emod_nonneg _ (by decide)) (by simp only [Nd,Ni];omega)
   refine n9 L' .head ev7 ?_
   obtain ⟨w7,rfl⟩:∃ w7:Int,v7 = .int w7:=by
    simp only [List.mem_cons,List.not_mem_nil,or_false] at hm7
    rcases hm7 with rfl | rfl | rfl <;> exact ⟨_,rfl⟩
   have W7:=W6.same L'.same
   clear L L'
   walk_at "go"
   exact ⟨H0,DD,d,pp,lp,ml,hd,hs,gs,ts,ms,mt,n,j,y,z6,w7,rfl,W7,hy,hzy6,by omega,fun v hs gs ts ms mt H' w=>by walk_at "go";exact q _ _ _ _ _ _ _ w,qe⟩
  walk_at "go"
  refine aV hpy Ig ?_
  walk_at "go"
  refine ⟨y.d,y.ls,y.pl,rfl,hdy,vm.good,fun v H5 hv s5=>?_⟩
  have W5:=W4.same s5
  have h5:bh H5 p _:=dB h4 fun o e=>s5 _ _ e
  rcases hv with ⟨_,rfl⟩ | ⟨ta,sl,f,e,har,rfl,hta⟩
  ·walk_at "go"
   have L:=bU h5
   walk_at "go"
   refine dQ (SqL.of (W5.ev.sm _ _ hnq)) ?_
   rw [dnl]
   walk_at "go"
   refine bg L .head (by omega) (Nz (show (DD.length:Int)≤10 by omega) (by decide)) (by omega) fun r6 H6 e0 e1 L _=>?_
   have W6:=W5.oth h5 np L.fr
   clear L
   obtain ⟨k6,rfl⟩:=MU e0
   obtain ⟨z6,hz6,hzy6⟩:=nmA k6 (by omega)
   walk_at "go"
   refine fq (SqL.of (W6.ev.sm _ _ hnq)) hz6 ?_
   have L:=Led.start H6 (fun _=>False)
   walk_at "go"
   obtain ⟨v7,ev7,hm7⟩:=jz (xs:=[V.int 0,V.int 0,V.int 1]) (r:=wy % 3) (Int.emod_nonneg _ (by decide)) (by simp only [Nd,Ni];omega)
   refine n9 L' .head ev7 ?_
   obtain ⟨w7,rfl⟩:∃ w7:Int,v7 = .int w7:=by
    simp only [List.mem_cons,List.not_mem_nil,or_false] at hm7
    rcases hm7 with rfl | rfl | rfl <;> exact ⟨_,rfl⟩
   have W7:=W6.same L'.same
   clear L L'
   walk_at "go"
   exact ⟨H0,DD,d,pp,lp,ml,hd,hs,gs,ts,ms,mt,n,j,y,z6,w7,rfl,W7,hy,hzy6,by omega,fun v hs gs ts ms mt H' w=>by walk_at "go";exact q _ _ _ _ _ _ _ w,qe⟩
  walk_at "go"
  refine bF (fun z=>nomatch z) fun _=>?_
  have hd5:=hdy.same s5
  obtain ⟨⟨dx5,sv5,hp5,_⟩,_⟩:=id hd5
  walk_at "go"
  refine bF (fun c19=>?_) (fun c19=>?_)
  ·walk_at "go"
   refine ⟨p,_,la,rfl,h5,by decide,l0,l1,fun rd H6 h6 o6=>?_⟩
   have W6:=W5.oth h5 np o6
   walk_at "one"
   try dsimp only [bD]
   refine cR (fun σ Hz=>∃ (hs7:List Hs) (y7:Hs),σ=[some (.ref pp),some (.ref hd),some (.ref d.p),some (.ref nq),some (.ref p),some (.ref ml),some (.int la),some (.int wy),some (.ref y.d.p),some (.int rd)]∧Wv K C CS CH CL CP H0 Hz DD d pp lp ml hd hs7 gs ts ms mt (n+1)∧hs7[j]?=some y7∧y7.d=y.d) (fun nx kk=>?_) ?_
   ·have L:=bU h6
    walk_at "go"
    refine bg L .head (by decide) (by decide) (by omega) fun r7 H7 g0 g1 L _=>?_
    have W7:=W6.oth h6 np L.fr
    clear L
    have hd7:=W7.ev.hd y hym
    obtain ⟨⟨dx7,sv7,hp7,_⟩,_⟩:=id hd7
    walk_at "go"
    refine bF (fun c=>?_) (fun c=>?_)
    ·walk_at "go"
     refine aV hp7 ET ?_
     walk_at "go"
     refine tZ (CU:=CU) (CT:=CT) hd7 (W7.ev.ok y hym) (by omega) (fun j0 c dx H8 hj0 ho s8 hx=>qe c dx hs gs ts ms mt H8 (M0 hj0) ((W7.same s8).mono (ND _))) (fun v o ls2 pl2 H8 ho hv hd8 hok8 hl8 f8=>?_)
     have W8:=W7.step hy f8 hd8 hok8 hl8 (W.zi.write hy ho)
     walk_at "go"
     exact kk _ _ ⟨_,_,rfl,W8,MV (List.getElem?_eq_some_iff.mp hy).1,rfl⟩
    ·walk_at "go"
     exact kk _ _ ⟨hs,y,rfl,W7.mono (ND _),hy,rfl⟩
   rintro σ H7 ⟨hs7,y7,rfl,W7,hy7,ed7⟩
   have BN:=M0 hy7
   have hd7:=W7.ev.hd y7 BN
   have KI:=W7.mv.hm
   have LY:mt.length≤61:=by rw [W7.mv.len];have:=W7.nl;omega
   rw [← ed7]
   obtain ⟨⟨dx7,sv7,hp7,_⟩,_⟩:=id hd7
   have L:=dP KI
   walk_at "go"
   clear L
   refine aV hp7 Ib ?_
   walk_at "go"
   refine xP (CU:=CU) hd7 (W7.ev.ok y7 BN) (fun j0 c dx H8 hj0 ho s8 hx=>qe c dx _ _ _ _ _ H8 (M0 hj0) (W7.same s8)) (fun v o ls3 pl3 H8 ho hv hd8 hok8 hl8 f8=>?_)
   rcases yE ho with ⟨jj,rfl⟩ | ⟨M,rfl,e3⟩
   ·exact hv.elim
   cases ls0 e3.symm
   obtain rfl:v = .int M:=hv
   obtain ⟨g9,mo9,sl9,k9,Z9⟩:=W7.zi.make hy7 hc1 (W7.sn y7 BN).1 (W7.sn y7 BN).2 ho
   rw [Nk] at hd8 hok8 Z9
   obtain ⟨⟨dx8,sv8,hp8,_⟩,_⟩:=id hd8
   have k8:=W7.sp.1 y7 BN
   have L6:=f8 _ _ KI k8.1 k8.2
   walk_at "go"
   refine ⟨y7.d.p,CH,dx8,_,_,rfl,hp8,HC.cl,HC.n1,sG _ _ _ _,?_⟩
   have L:=dP L6
   walk_at "go"
   rename_i Ha La sa ca
   have W9:=W7.make (x:=⟨M,y7.d.nm,g9,mo9,sl9,k9⟩) (by have:=W.nl;omega) hy7 f8 hd8 hok8 sa (La.tup (by walk_at "mem")) ca (L'.eo (by walk_at "put")) Z9
   exact q _ _ _ _ _ _ _ W9
  ·walk_at "go"
   refine bF (fun c=>?_) (fun c=>?_)
   ·walk_at "go"
    refine ⟨y.d.p,CH,dx5,_,_,rfl,hp5,HC.cl,HC.n1,sG _ _ _ _,?_⟩
    walk_at "go"
    exact ⟨H0,DD,d,pp,lp,ml,hd,hs,gs,ts,ms,mt,n,j,y,y.d.nm,2,rfl,W5,hy,⟨y,hym,rfl⟩,by omega,fun v hs gs ts ms mt H' w=>by walk_at "go";exact q _ _ _ _ _ _ _ w,qe⟩
   ·walk_at "go"
    refine aV hp5 pV ?_
    walk_at "go"
    refine ⟨y.d,y.ls,y.pl,rfl,hd5,?_⟩
    cases hpl:y.pl with
    | none=>
     walk_at "go"
     rw [if_neg (show ¬ ((none:Option (Int×Int)).isSome=true) from M8)]
     walk_at "go"
     refine aV hp5 pV ?_
     walk_at "go"
     refine ⟨y.d,y.ls,y.pl,rfl,hd5,?_⟩
     rw [hpl]
     walk_at "go"
     rw [if_pos (show (!(none:Option (Int×Int)).isSome)=true from rfl)]
     walk_at "go"
     refine aV hp5 Ia ?_
     walk_at "go"
     refine ⟨y.d,y.ls,y.pl,rfl,hd5,vm,fun z=>(by rw [hpl] at z;cases z),fun _ H6 hd6 f6=>?_⟩
     have W6:=W5.step (ls2:=[]) hy f6 (FJ hd6) (ok0 vm (xo (NF 0))) (NC _) (by rw [Nk];exact W.zi.rise hy hc1)
     walk_at "go"
     exact q _ _ _ _ _ _ _ W6
    | some m=>
     walk_at "go"
     rw [if_pos (show (some m).isSome=true from rfl)]
     walk_at "go"
     refine bF (fun c22=>?_) (fun c22=>?_)
     ·walk_at "go"
      refine aV hp5 Ie ?_
      walk_at "go"
      refine ⟨y.d,y.ls,y.pl,rfl,hd5,vm,fun z=>(by rw [hpl] at z;cases z),fun _ H6 hd6 f6=>?_⟩
      have W6:=W5.step (ls2:=[]) hy f6 (FJ hd6) (ok0 vm (fun _ _ z=>nomatch z)) (NC _) (by rw [Nk];exact W.zi.vB hy)
      walk_at "go"
      exact q _ _ _ _ _ _ _ W6
     ·walk_at "go"
      refine aV hp5 pV ?_
      walk_at "go"
      refine ⟨y.d,y.ls,y.pl,rfl,hd5,?_⟩
      rw [hpl]
      walk_at "go"
      rw [if_neg (show ¬ ((!(some m).isSome)=true) from M8)]
      walk_at "go"
      exact q _ _ _ _ _ _ _ (W5.mono (ND _))
end
theorem sd {c s mo sl k:Int} (a : 0≤sl∧sl < s) (b : 0≤k∧k < c):mk c s mo sl k / c / s=mo∧mk c s mo sl k / c % s=sl∧mk c s mo sl k % c=k:=by
 unfold mk
 have h1:((mo * s+sl) * c+k) / c=mo * s+sl:=by
  rw [Int.add_comm,Int.add_mul_ediv_right _ _ (by omega),Int.ediv_eq_zero_of_lt b.1 b.2,Int.zero_add]
 have h2:((mo * s+sl) * c+k) % c=k:=by
  rw [Int.add_comm,Int.add_mul_emod_self_right,Int.emod_eq_of_lt b.1 b.2]
 refine ⟨?_,?_,h2⟩
 ·rw [h1,Int.add_comm,Int.add_mul_ediv_right _ _ (by omega),Int.ediv_eq_zero_of_lt a.1 a.2,Int.zero_add]
 ·rw [h1,Int.add_comm,Int.add_mul_emod_self_right,Int.emod_eq_of_lt a.1 a.2]
theorem yF {ps l:Addr}:(ldF ps l).lookup ("grants" : Str)=none:=iO (by decide +kernel) (by decide +kernel)
section
variable {P:Program} {w:World} {K:PySem.W.Frag} {mg:Str→Option Value} {base:Heap} {C CS CH CL CD CU CA CN CW CT CP CE CR:Addr}
theorem yd:aq ["_law_lender", "_law_marks", "_law_shape", "_law_grants", "_law_number", "_law_name", "_law_area", "_law_other", "_law_beside", "_law_place", "_law_mark", "_law_moment", "_law_slot", "_law_count", "_law_areas"] ["_law_lender", "_law_marks", "_law_shape"] (aj (top 81)):=by walk_at "s"
def qP (K:PySem.W.Frag) (C CS CH CL CP:Addr):Sp:=fun vs H Q _=>∃ (H0:Hp) (D:List Hd) (d:Ld) (pp lp ml hd:Addr) (hs:List Hs) (gs:List Gr) (ts:Lts) (ms:List Mr) (mt:List Addr) (n:Nat),vs=[.ref d.p,.ref ml,.ref d.sp]∧Wv K C CS CH CL CP H0 H D d pp lp ml hd hs gs ts ms mt n∧n≤62∧∀ H',Q (.bl true) H'
theorem yx (D:Dat K mg "_law_areas_good" "_law_areas_good" (top 81) ["_law_lender", "_law_marks", "_law_shape"]) (BT:Bt mg) (NE:br (CX1 P w)) (kD:bw P w K mg base (CX1 P w) CL "grants" 1 ["self"] (nB K C CS CL)) (iU:Cal P w K mg base (CX1 P w) "parts_of" 1 ["shape", "mark"] (oR C)):Cal P w K mg base (CX1 P w) "_law_areas_good" 2 ["_law_lender", "_law_marks", "_law_shape"] (qP K C CS CH CL CP):=by
 have S:=yd
 walk_at "d"
 ·obtain ⟨H0,D,d,pp,lp,ml,hd,hs,gs,ts,ms,mt,n,rfl,_⟩:=h
  rfl
 obtain ⟨H0,DD,d,pp,lp,ml,hd,hs,gs,ts,ms,mt,n,rfl,W,hn,q⟩:=h
 obtain ⟨⟨dy,hld⟩,_⟩:=id W.ev.ld
 refine ⟨_,(ak (aM (i:=3) S.nd rfl (by first | exact Or.inl rfl | exact Or.inr rfl) (cV kD (hr.mono (by first | decide | omega)) NE.pass (pv 0)))
   (ak (fV PassesOwn.never rfl (b8 (pv 3)) (gB rfl (bL (bu (i:=4) S.nd rfl (by first | exact Or.inl rfl | exact Or.inr rfl)) (bL (bu (i:=5) S.nd rfl (by first | exact Or.inl rfl | exact Or.inr rfl)) (bL (bu (i:=6) S.nd rfl (by first | exact Or.inl rfl | exact Or.inr rfl)) fh)))) (ao (fV PassesOwn.never rfl (b8 (rH wJ (pv 3) wR (wQ (aP gD (pv 4) ai)))) (gB rfl (bL (bu (i:=7) S.nd rfl (by first | exact Or.inl rfl | exact Or.inr rfl)) (bL (bu (i:=8) S.nd rfl (by first | exact Or.inl rfl | exact Or.inr rfl)) (bL (bu (i:=9) S.nd rfl (by first | exact Or.inl rfl | exact Or.inr rfl)) fh)))) (ao (bf (PW.pt (iE (aK bZ (ay au (pv 6) ai (fun _ _=>rfl)) (ay au (pv 9) ai (fun _ _=>rfl)) (aO _)) (fU (aK fG (aX (j8 rfl) rfl BT.max L3.ef (aa (ay au (pv 6) ai (fun _ _=>rfl)) (aa (ay au (pv 9) ai (fun _ _=>rfl)) af))) (aX (xG rfl) rfl BT.min L3.l7 (aa (ay au (pv 6) ai (fun _ _=>rfl)) (aa (ay au (pv 9) ai (fun _ _=>rfl)) af))) (aO _))))) (ao (aB eu)) aJ)))))
   (ak (fV PassesOwn.never rfl (b8 (pv 1)) (gB rfl (bL (bu (i:=10) S.nd rfl (by first | exact Or.inl rfl | exact Or.inr rfl)) (bL (bu (i:=5) S.nd rfl (by first | exact Or.inl rfl | exact Or.inr rfl)) fh))) (ak (fW (aH iU (hr.mono (by first | decide | omega)) NE.pass (aa (pv 2) (aa (pv 10) af))) (gB rfl (bL (bu (i:=11) S.nd rfl (by first | exact Or.inl rfl | exact Or.inr rfl)) (bL (bu (i:=12) S.nd rfl (by first | exact Or.inl rfl | exact Or.inr rfl)) (bL (bu (i:=13) S.nd rfl (by first | exact Or.inl rfl | exact Or.inr rfl)) fh)))))
    (ak (jd (i:=14) (g:=(Cb K 3 (jr (bD 0) (jr (bD 1) (jr (bD 2) Cc))))) rfl S.nd rfl (by first | exact Or.inl rfl | exact Or.inr rfl) (b8 (pv 3)) (eZ (own:=["_law_number", "_law_beside", "_law_area"]) (cap:=[5,12]) (aj (top 81)).names ["_law_lender", "_law_marks", "_law_shape", "_law_grants", "_law_number", "_law_name", "_law_area", "_law_other", "_law_beside", "_law_place", "_law_mark", "_law_moment", "_law_slot", "_law_count", "_law_areas"] rfl rfl rfl (by decide +kernel)) (fun _ _ _ _=>(gB rfl (bL (bu (i:=0) (show (gq ["_law_lender", "_law_marks", "_law_shape", "_law_grants", "_law_number", "_law_name", "_law_area", "_law_other", "_law_beside", "_law_place", "_law_mark", "_law_moment", "_law_slot", "_law_count", "_law_areas"] ["_law_number", "_law_beside", "_law_area"] [5,12]).Nodup by decide +kernel) rfl (by first | exact Or.inl rfl | exact Or.inr rfl)) (bL (bu (i:=1) (show (gq ["_law_lender", "_law_marks", "_law_shape", "_law_grants", "_law_number", "_law_name", "_law_area", "_law_other", "_law_beside", "_law_place", "_law_mark", "_law_moment", "_law_slot", "_law_count", "_law_areas"] ["_law_number", "_law_beside", "_law_area"] [5,12]).Nodup by decide +kernel) rfl (by first | exact Or.inl rfl | exact Or.inr rfl)) (bL (bu (i:=2) (show (gq ["_law_lender", "_law_marks", "_law_shape", "_law_grants", "_law_number", "_law_name", "_law_area", "_law_other", "_law_beside", "_law_place", "_law_mark", "_law_moment", "_law_slot", "_law_count", "_law_areas"] ["_law_number", "_law_beside", "_law_area"] [5,12]).Nodup by decide +kernel) rfl (by first | exact Or.inl rfl | exact Or.inr rfl)) fh))))) (fun _ _ _ _=>je (PW.pt (iE (aK bZ (pv 1) (pv 3) (aO _)) (fU (aK bZ (ay (g4 (K:=K) rfl) (pv 2) ai (fun _ _=>rfl)) (pv 4) (aO _)))))) (fun _ _ _ _=>(pv 2)) (by with_unfolding_all rfl))
    (ao (bf (dj (cj (aX (sZ rfl) rfl BT.any L3.Cw (aa (fX (g:=(bD 0)) rfl (b8 (pv 14)) (eZ (own:=["_law_area"]) (cap:=[11]) (aj (top 81)).names ["_law_lender", "_law_marks", "_law_shape", "_law_grants", "_law_number", "_law_name", "_law_area", "_law_other", "_law_beside", "_law_place", "_law_mark", "_law_moment", "_law_slot", "_law_count", "_law_areas"] rfl rfl rfl (by decide +kernel)) (fun _ _ _ _=>(bu (i:=0) (show (gq ["_law_lender", "_law_marks", "_law_shape", "_law_grants", "_law_number", "_law_name", "_law_area", "_law_other", "_law_beside", "_law_place", "_law_mark", "_law_moment", "_law_slot", "_law_count", "_law_areas"] ["_law_area"] [11]).Nodup by decide +kernel) rfl (by first | exact Or.inl rfl | exact Or.inr rfl))) (fun _ _ _ _=>eS) (fun _ _ _ _=>(A5 nR fG (ay (g4 (K:=K) rfl) (pv 0) ai (fun _ _=>rfl)) (pv 1) (ay (g4 (K:=K) rfl) (pv 0) ai (fun _ _=>rfl))))) af)))) (ao (aB eu)) aJ)))))
   (ao (aB eu))))),?_⟩
 try dsimp only [aZ]
 walk_at "go"
 refine aV hld yF ?_
 walk_at "go"
 refine ⟨d,gs,rfl,W.ev.ld,fun b1 H1 n1 e1 s1=>?_⟩
 have W1:=W.same s1
 have hG:=W1.ev.ld.2.2.1
 walk_at "go"
 refine cB (SqL.of e1) ?_
 refine iP (grV gs) (fun i σ Hx=>∃ u4 u5 u6 u7 u8 u9:Option V,σ=[some (.ref d.p),some (.ref ml),some (.ref d.sp),some (.ref b1),u4,u5,u6,u7,u8,u9,none,none,none,none,none]∧aI H1 Hx) ⟨_,_,_,_,_,_,rfl,aI.refl _⟩ (fun i σ Hx _ ⟨_,_,_,_,_,_,_,sx⟩=>SqL.of (sx _ _ e1)) ?_ ?_
 ·rintro i v σ Hx hv ⟨u4,u5,u6,u7,u8,u9,rfl,sx⟩
  obtain ⟨x,hxi,rfl⟩:=jo hv
  have hin:=(List.getElem?_eq_some_iff.mp hxi).1
  have hgx:=(hG x (M0 hxi)).same sx
  have hxn:=W.zi.num i x hxi
  have L:=((Led.start Hx (fun _=>False)).more (aS x.g [_,_,_]) hgx.1).more (aS x.ar [_,_,_]) hgx.2
  try dsimp only [bD]
  walk_at "go"
  refine Gy (SqL.of (sx _ _ e1)) fun b2 H2 nb2 hb2 s2=>?_
  rw [show x.n - 1=((i:Nat):Int) by omega,(xD (Nr hin)).1] at hb2
  have sx2:=sx.trans s2
  clear L
  walk_at "go"
  refine cB (SqL.of hb2) ?_
  refine iP (grV (gs.take i)) (fun k σ Hz=>∃ u7 u8 u9:Option V,σ=[some (.ref d.p),some (.ref ml),some (.ref d.sp),some (.ref b1),some (.int x.n),some (.str x.nm),some (.ref x.ar),u7,u8,u9,none,none,none,none,none]∧aI H2 Hz) ⟨_,_,_,rfl,aI.refl _⟩ (fun k σ Hz _ ⟨_,_,_,_,sz⟩=>SqL.of (sz _ _ hb2)) ?_ ?_
  ·rintro k v σ Hz hv ⟨u7,u8,u9,rfl,sz⟩
   obtain ⟨z,hzk,rfl⟩:=jo hv
   have hki:k < i:=by
    have:=(List.getElem?_eq_some_iff.mp hzk).1
    rw [Nf] at this;omega
   have hzk':gs[k]?=some z:=by rw [List.getElem?_take] at hzk;rw [if_pos hki] at hzk;exact hzk
   have hgz:=((hG z (M0 hzk')).same sx2).same sz
   have Me:=(hgx.same s2).same sz
   have hap:=W.zi.apt.at_ hzk' hxi hki
   have L:=((Led.start Hz (fun _=>False)).more (aS x.ar [_,_,_]) Me.2).more (aS z.ar [_,_,_]) hgz.2
   have L:=L.more (aS z.g [_,_,_]) hgz.1
   try dsimp only [bD]
   walk_at "go"
   refine bF (fun c1=>?_) (fun c1=>?_)
   ·walk_at "go"
    exact ⟨_,_,_,rfl,sz⟩
   ·walk_at "go"
    exact ⟨_,_,_,rfl,sz⟩
  ·rintro σ Hz ⟨u7,u8,u9,rfl,sz⟩
   exact ⟨_,_,_,_,_,_,rfl,sx2.trans sz⟩
 ·rintro σ Hx ⟨u4,u5,u6,u7,u8,u9,rfl,sx⟩
  have Wx:=W1.same sx
  have hGx:=hG.same sx
  walk_at "go"
  refine cB (SqL.of Wx.mv.hm) ?_
  refine iP (mt.map V.ref) (fun i σ Hz=>∃ u4 u5 u6 u7 u8 u9 u10 u11 u12 u13 u14:Option V,σ=[some (.ref d.p),some (.ref ml),some (.ref d.sp),some (.ref b1),u4,u5,u6,u7,u8,u9,u10,u11,u12,u13,u14]∧aI Hx Hz) ⟨_,_,_,_,_,_,_,_,_,_,_,rfl,aI.refl _⟩ (fun i σ Hz _ ⟨_,_,_,_,_,_,_,_,_,_,_,_,sz⟩=>SqL.of (sz _ _ Wx.mv.hm)) ?_ ?_
  ·rintro i v σ Hz hv ⟨u4,u5,u6,u7,u8,u9,u10,u11,u12,u13,u14,rfl,sz⟩
   rw [Nb] at hv
   cases ht:mt[i]? with
   | none=>rw [ht] at hv;cases hv
   | some t=>
    rw [ht] at hv
    cases Nm hv
    have hi:=(List.getElem?_eq_some_iff.mp ht).1
    obtain ⟨m,hm⟩:∃ m,ms[i]?=some m:=⟨_,MT (by rw [← W.mv.len];exact hi)⟩
    have htz:=sz _ _ (Wx.mv.mz i t m ht hm)
    have hz:=W.zi.msz m (M0 hm)
    obtain ⟨g0,hg0,x1,x2,x3,x4⟩:=hz.gr
    obtain ⟨q1,q2,q3⟩:=sd (mo:=m.mo) hz.sl hz.k
    rw [← hz.eq] at q1 q2 q3
    have hv0 : 0≤m.v:=by
     rw [hz.eq]
     unfold mk
     have a1 : 0≤m.mo * (d.s:Int):=Int.mul_nonneg hz.m0 (by omega)
     have a2 : 0≤(m.mo * (d.s:Int)+m.sl) * d.c:=Int.mul_nonneg (by have:=hz.sl.1;omega) (by have:=hz.k;omega)
     have:=hz.k.1
     omega
    have hsh:=(Wx.same sz).ev.ld.2.2.2
    have L:=(Led.start Hz (fun _=>False)).more (aS t [_,_]) htz
    try dsimp only [bD]
    walk_at "go"
    refine ⟨d.sp,d.c,d.s,m.v,rfl,hsh.ok,hsh.sh,hv0,fun t2 H2 nt2 ht2 s2=>?_⟩
    rw [q1,q2,q3] at ht2
    have sz2:=sz.trans s2
    clear L
    have L:=(Led.start H2 (fun _=>False)).more (aS t2 [_,_,_]) ht2
    walk_at "go"
    clear L
    have hG2:=(hGx.same sz2)
    have hb2:=sz2 _ _ (sx _ _ e1)
    refine cB (SqL.of hb2) ?_
    refine dR (grV gs) (fun k ys Hw=>ys=((gs.take k).filter fun x=>decide (x.nm=m.nm) && decide (x.sl=m.sl)).map (fun x=>V.ref x.ar)∧Hw=H2) ⟨rfl,rfl⟩ (fun k ys Hw hk ⟨e,e2⟩=>⟨e2▸SqL.of hb2,by
     rw [e,Nh]
     have:=List.length_filter_le (fun x:Gr=>decide (x.nm=m.nm) && decide (x.sl=m.sl)) (gs.take k)
     rw [Nf] at this
     have:=W.gl
     exact Nr (small1000 (by omega))⟩) ?_ ?_
    ·rintro k v ys Hw hv ⟨rfl,rfl⟩
     obtain ⟨x,hxk,rfl⟩:=jo hv
     have hgx:=hG2 x (M0 hxk)
     have L:=((Led.start Hw (fun _=>False)).more (aS x.g [_,_,_]) hgx.1).more (aS x.ar [_,_,_]) hgx.2
     try dsimp only [bD]
     walk_at "go"
     refine bF (fun c1=>?_) (fun c1=>?_)
     ·walk_at "go"
      refine bF (fun c2=>?_) (fun c2=>?_)
      ·walk_at "go"
       exact ⟨by rw [pX hxk (by rw [Np c1,Np c2];rfl),Nj];rfl,rfl⟩
      ·exact ⟨by rw [pY hxk (by rw [Nn c2,Bool.and_false])],rfl⟩
     ·exact ⟨by rw [pY hxk (by rw [Nn c1,Bool.false_and])],rfl⟩
    rintro ys Hw ⟨rfl,rfl⟩ la nla
    rw [eK,Ng]
    obtain ⟨fl,efl⟩:∃ fl,fl=gs.filter fun x=>decide (x.nm=m.nm) && decide (x.sl=m.sl):=⟨_,rfl⟩
    rw [← efl]
    have hfl:∀ x∈fl,x∈gs:=fun x hx=>by rw [efl] at hx;exact (List.mem_filter.mp hx).1
    have MI:fl.length≤62:=by
     have:=List.length_filter_le (fun x:Gr=>decide (x.nm=m.nm) && decide (x.sl=m.sl)) gs
     rw [← efl] at this
     have:=W.gl;omega
    have Mf:g0∈fl:=by
     rw [efl,List.mem_filter]
     obtain ⟨_,_,h0⟩:=hg0
     exact ⟨M0 h0,by rw [Np x1,Np x2];rfl⟩
    have s3:=b7 nla (HO.lst (fl.map (fun x=>V.ref x.ar)))
    have hla:(upd Hw la (.lst (fl.map (fun x=>V.ref x.ar)))) la=some (.lst (fl.map (fun x=>V.ref x.ar))):=aE
    generalize upd Hw la (.lst (fl.map (fun x=>V.ref x.ar)))=H3 at *
    walk_at "go"
    refine cB (SqL.of hla) ?_
    refine dR (fl.map (fun x=>V.ref x.ar)) (fun k ys Hv=>ys=((fl.take k).map fun x=>decide (x.f≤m.mo∧m.mo < x.e)).map V.bl∧Hv=H3) ⟨rfl,rfl⟩ (fun k ys Hv hk ⟨e,e2⟩=>⟨e2▸SqL.of hla,by
     rw [e,Nh,Nh,Nf]
     exact Nr (small1000 (by omega))⟩) ?_ ?_
    ·rintro k v ys Hv hv ⟨rfl,rfl⟩
     rw [Nb] at hv
     cases hx:fl[k]? with
     | none=>rw [hx] at hv;cases hv
     | some x=>
      rw [hx] at hv
      cases Nm hv
      have hgx:=(hG2 x (hfl x (M0 hx))).same s3
      have L:=(Led.start Hv (fun _=>False)).more (aS x.ar [_,_,_]) hgx.2
      have sn:∀ b:Bool,b=decide (x.f≤m.mo∧m.mo < x.e)→List.map V.bl ((fl.take k).map fun x=>decide (x.f≤m.mo∧m.mo < x.e))++[V.bl b]=List.map V.bl ((fl.take (k+1)).map fun x=>decide (x.f≤m.mo∧m.mo < x.e)):=fun b hb=>by
       rw [take_snoc hx,Nj,Nj,hb];rfl
      try dsimp only [bD]
      walk_at "go"
      refine bF (fun c1=>?_) (fun c1=>?_)
      ·walk_at "go"
       exact ⟨sn _ (decide_eq_decide.mpr ⟨fun z=>⟨c1,z⟩,fun z=>z.2⟩),rfl⟩
      ·exact ⟨sn _ (Nn (fun z=>c1 z.1)).symm,rfl⟩
    ·rintro ys Hv ⟨rfl,rfl⟩ lb nlb
     rw [Nh,Ng]
     have s4:=b7 nlb (HO.lst ((fl.map fun x=>decide (x.f≤m.mo∧m.mo < x.e)).map V.bl))
     have hlb:(upd Hv lb (.lst ((fl.map fun x=>decide (x.f≤m.mo∧m.mo < x.e)).map V.bl))) lb=some (.lst ((fl.map fun x=>decide (x.f≤m.mo∧m.mo < x.e)).map V.bl)):=aE
     generalize upd Hv lb (.lst ((fl.map fun x=>decide (x.f≤m.mo∧m.mo < x.e)).map V.bl))=H4 at *
     walk_at "go"
     refine Ca (bs:=fl.map fun x=>decide (x.f≤m.mo∧m.mo < x.e)) (SqL.of hlb) ?_
     rw [show (fl.map fun x=>decide (x.f≤m.mo∧m.mo < x.e)).any id=true from List.any_eq_true.mpr ⟨true,List.mem_map.mpr ⟨g0,Mf,Np ⟨x3,x4⟩⟩,rfl⟩]
     walk_at "go"
     exact ⟨_,_,_,_,_,_,_,_,_,_,_,rfl,(sz2.trans s3).trans s4⟩
  ·rintro σ Hz ⟨u4,u5,u6,u7,u8,u9,u10,u11,u12,u13,u14,rfl,sz⟩
   walk_at "go"
   exact q _
end
end Law
namespace LS
open PySem PySem.W PyProof.Rows
theorem nW:∀ (f n r:Nat),r≤1→minRun' f n r≤n+r
 | 0,n,r,_=>Nat.le_of_eq rfl
 | f+1,n,r,h=>by
  rw [minRun'_succ]
  by_cases c:n < 64
  ·rw [if_pos c];exact NB _
  ·rw [if_neg c]
   have:=nW f (n / 2) (max r (n % 2)) (by omega)
   omega
section
variable {prog:Program} {w:World} {A:Around} {E:Value→Shared→Prop} {κ : SortKind} {it:Array Keyed}
theorem AN {n:Nat} {Q:Unit→SortSt→Shared→Prop} {G:Shared→Prop} {s:Shared} (h2 : 2≤n)
  (hG:∀ st' s',arrOf st'=(List.toArray (List.range n)).map (kas_item it)→failedOf st'=none→G s'→Q () st' s') (h:(kas_count n (List.toArray (List.range n))).kasWp (kas_cmp prog w A κ it) (fun r s'=>r=(n,List.toArray (List.range n))∧G s') s) :
  kasC (model prog w) A E sortRuns' Q (kas_st κ it (List.toArray (List.range n))) s:=by
 obtain ⟨r,rfl⟩:∃ r,n=r+2:=⟨n - 2,by omega⟩
 have hrs:(List.toArray (List.range (r+2))).size=r+2:=by simp
 rw [sortRuns'_eq]
 refine kasC_bind (kasC_get ?_)
 dsimp only
 have hsz:(arrOf (kas_st κ it (List.toArray (List.range (r+2))))).size=r+2:=by
  show ((List.toArray (List.range (r+2))).map (kas_item it)).size=_
  rw [Array.size_map,hrs]
 have hmr:minRun' (r+2) (r+2) 0≤r+2:=nW _ _ 0 (by omega)
 simp only [hsz]
 generalize minRun' (r+2) (r+2) 0=mr at *
 refine kasC_bind (kasC_range ?_)
 show kasC _ _ _ (forIn (0 :: 1::List.range' 2 r) _ _) _ _ _
 refine kasC_cons ?_
 dsimp only
 rw [if_neg (by omega)]
 simp only [Nat.sub_zero,Nat.zero_add]
 refine kasC_bind (kas_count_ (by omega) (by rw [hrs];exact NB _) (fun m p' s' hm1 hm2 hp hg=>?_) h)
 obtain ⟨e,hg⟩:=hg
 cases e
 dsimp only
 rw [if_neg (by omega)]
 refine kasC_bind (kasC_get ?_)
 rw [show (pendingOf (kas_st κ it (List.toArray (List.range (r+2))))).back?=none from rfl]
 dsimp only
 refine kasC_bind (kasC_modify (kasC_pure ?_))
 show kasC _ _ _ (forIn (1::List.range' 2 r) _ _) _ _ _
 refine kasC_cons ?_
 dsimp only
 rw [if_pos (NB _)]
 refine kasC_pure ?_
 dsimp only
 refine kasC_bind (kasC_range ?_)
 show kasC _ _ _ (forIn (0 :: 1::List.range' 2 r) _ _) _ _ _
 refine kasC_cons ?_
 refine kasC_bind (kasC_get ?_)
 rw [if_pos (show (pendingOf (setPending (kas_st κ it (List.toArray (List.range (r+2)))) ((pendingOf (kas_st κ it (List.toArray (List.range (r+2))))).push (0,r+2,0)))).size≤1 from NB 1)]
 refine kasC_pure ?_
 dsimp only
 exact kasC_pure (hG _ _ rfl rfl hg)
end
section
variable {prog:Program} {w:World} {A:Around} {E:Value→Shared→Prop} {s:Shared} {κ : SortKind} {vs:List Value}
theorem DM {Q:SortSt→Shared→Prop} {G:Shared→Prop} (h2 : 2≤vs.length)
  (hG:∀ st' s',arrOf st'=(List.toArray (List.range vs.length)).map (kas_item (vs.toArray.zip vs.toArray))→failedOf st'=none→G s'→Q st' s') (h:(kas_count vs.length (List.toArray (List.range vs.length))).kasWp (kas_ask prog w A κ vs) (fun r s'=>r=(vs.length,List.toArray (List.range vs.length))∧G s') s) :
  wpAny (model prog w) A ((sortRuns').run (SortSt.mk' κ (vs.toArray.zip vs.toArray) #[] 7 none)) (fun r s'=>Q r.2 s') E s:=by
 rw [kat_ask_eq rfl] at h
 have run:=AN (E:=E) (Q:=fun _ st' s'=>Q st' s') h2 hG h
 have est:SortSt.mk' κ (vs.toArray.zip vs.toArray) #[] 7 none=kas_st κ (vs.toArray.zip vs.toArray) (List.toArray (List.range vs.length)):=by
  have e:=kas_range (vs.toArray.zip vs.toArray)
  rw [show (vs.toArray.zip vs.toArray).size=vs.length by simp] at e
  show SortSt.mk' κ (vs.toArray.zip vs.toArray) #[] 7 none=SortSt.mk' κ ((List.toArray (List.range vs.length)).map (kas_item (vs.toArray.zip vs.toArray))) #[] 7 none
  rw [e]
 rw [est]
 exact run
theorem FI {f:Nat→Int} {n:Nat} {cmp:Nat→Nat→(Bool→Shared→Prop)→Shared→Prop} {p:Array Nat} (P:Pm n p) (A:C4 n f cmp s) (h0 : 0 < n) (u:Up f p n) {Q:Nat→Shared→Prop} (h:Q n s):(kas_asc p (n - 1) 1).kasWp cmp Q s:=
 CB P A h0 (n - 1) 1 (NB 1) (fun i j hij hj=>by rw [show i=j by omega];exact NF _) fun m' h1 h2 _ h3=>by
  rcases h3 with h3 | h3
  ·rw [show m'=n by omega];exact h
  ·by_cases hm:m'=n
   ·rw [hm];exact h
   ·have:=u (m' - 1) m' (by omega) (by omega)
    omega
theorem sr {f:Nat→Int} {a:Addr} {n:Nat} {P:PySem.Fin→Shared→Prop} (ho:s.heap.get? a=some (seqObj "list" vs.toArray n)) (hz:vs.length≤1000) (up:∀ i j,i≤j→j < vs.length→f i≤f j)
  (hk:∀ h',(∀ b o,b≠a→s.heap.get? b=some o→h'.get? b=some o)→2≤vs.length→∃ κ,(∀ Q:SortKind→Shared→Prop,Q κ { s with heap:=h' }→wpAny (model prog w) A (keyKind' vs.toArray) Q E { s with heap:=h' })∧C4 vs.length f (kas_ask prog w A κ vs) { s with heap:=h' })
  (h:P (.done (.ret .none)) { s with heap:=sortedHeap s.heap a vs (List.toArray ((List.toArray (List.range vs.length)).toList.map fun i=>vs.getD i Value.none)) }) :
  wpAny (model prog w) A (Builtin.«list.sort» ⟨[.ref a],[]⟩) P E s:=by
 rw [list_sort_plain]
 have ha:a < s.heap.objs.size:=Heap.lt_size ho
 have hz1:vs.toArray.size≤sizeLine:=by rw [Na,sizeLine_eq];omega
 refine wpAny_bind (listItems_at ho rfl ?_)
 refine wpAny_bind (listUpdate_at ho rfl ?_ hz1 (NC _))
 obtain ⟨e1,ho1⟩:∃ e1,(s.heap.update a (Obj.mapSeq fun _=>(#[]:Array Value))).get? a=some (seqObj "list" #[] e1):=⟨_,get?_update_seq ho (fun _=>#[])⟩
 refine wpAny_bind (seqEpoch_at ho1 rfl ?_)
 refine wpAny_bind (wpAny_newTuple ?_ (by show vs.length≤_;rw [sizeLine_eq];omega))
 refine wpAny_bind (wpAny_newList ?_ (NC _))
 refine wpAny_holding ?_
 have KD:∀ b o,b≠a→s.heap.get? b=some o→(((s.heap.update a (Obj.mapSeq fun _=>(#[]:Array Value))).push (seqObj "tuple" vs.toArray 0)).push (seqObj "list" #[] 0)).get? b=some o:=fun b o hb q=>by
  refine Heap.get?_push_of_some _ (Heap.get?_push_of_some _ ?_)
  rw [Heap.get?_update_ne _ _ _ _ hb];exact q
 have ho6:(((s.heap.update a (Obj.mapSeq fun _=>(#[]:Array Value))).push (seqObj "tuple" vs.toArray 0)).push (seqObj "list" #[] 0)).get? a=some (seqObj "list" #[] e1):=
  Heap.get?_push_of_some _ (Heap.get?_push_of_some _ ho1)
 show wpAny (model prog w) A _ P E { s with heap:=((s.heap.update a (Obj.mapSeq fun _=>(#[]:Array Value))).push (seqObj "tuple" vs.toArray 0)).push (seqObj "list" #[] 0) }
 dsimp only
 by_cases h2:vs.toArray.size < 2
 ·rw [if_pos h2,if_pos h2]
  refine wpAny_bind (wpAny_pure ?_)
  rw [StateT.run_pure]
  refine wpAny_bind (wpAny_pure ?_)
  dsimp only
  have h2':vs.length < 2:=by simpa using h2
  have e:(arrOf (SortSt.mk' general' (vs.toArray.zip vs.toArray) #[] 7 none)).map (·.2)=List.toArray ((List.toArray (List.range vs.length)).toList.map fun i=>vs.getD i Value.none):=by
   refine kat_snds rfl ?_
   have e:=kas_range (vs.toArray.zip vs.toArray)
   rw [show (vs.toArray.zip vs.toArray).size=vs.length by simp] at e
   exact e.symm
  refine wpAny_bind (seqEpoch_at ho6 rfl ?_)
  rw [e]
  refine wpAny_bind (listUpdate_at ho6 rfl ?_ (NC _) (by simp only [Na,Nh,List.length_range];rw [sizeLine_eq];omega))
  simp only [bne_self_eq_false,Bool.false_eq_true,if_false]
  exact wpAny_pure h
 ·rw [if_neg h2,if_neg h2]
  have h2' : 2≤vs.length:=by
   have:=h2
   rw [Na] at this
   omega
  obtain ⟨κ,hκ,ask⟩:=hk _ KD h2'
  refine wpAny_bind (hκ _ ?_)
  have pm:Pm vs.length (List.toArray (List.range vs.length)):=⟨by simp,by simp⟩
  have ky:∀ i,i < vs.length→Ky f (List.toArray (List.range vs.length)) i=f i:=fun i hi=>by
   unfold Ky
   rw [getD_eq,List.getElem?_toArray,List.getElem?_range hi];rfl
  refine wpAny_bind (wpAny_mono (DM (Q:=fun st' s'=>s'={ s with heap:=((s.heap.update a (Obj.mapSeq fun _=>(#[]:Array Value))).push (seqObj "tuple" vs.toArray 0)).push (seqObj "list" #[] 0) }∧arrOf st'=(List.toArray (List.range vs.length)).map (kas_item (vs.toArray.zip vs.toArray))∧failedOf st'=none)
   (G:=fun s'=>s'={ s with heap:=((s.heap.update a (Obj.mapSeq fun _=>(#[]:Array Value))).push (seqObj "tuple" vs.toArray 0)).push (seqObj "list" #[] 0) })
   h2' (fun st' s' a2 a3 a4=>⟨a4,a2,a3⟩) ?_) ?_ fun _ _ e=>e)
  ·unfold kas_count
   rw [KasT.kasWp_bind]
   refine FI pm ask (by omega) (fun i j hij hj=>by rw [ky i (by omega),ky j hj];exact up i j hij hj) ?_
   rw [if_pos (beq_self_eq_true _)]
   exact ⟨rfl,rfl⟩
  rintro ⟨⟨⟩,st'⟩ s' ⟨rfl,har,hf⟩
  dsimp only
  rw [kat_snds rfl har]
  refine wpAny_bind (seqEpoch_at ho6 rfl ?_)
  refine wpAny_bind (listUpdate_at ho6 rfl ?_ (NC _) (by simp only [Na,Nh,List.length_range];rw [sizeLine_eq];omega))
  rw [hf]
  simp only [bne_self_eq_false,Bool.false_eq_true,if_false]
  exact wpAny_pure h
theorem Aj {f:Nat→Int} {l:Addr} {Q:Value→Shared→Prop} (hl:s.heap.IsList l vs.toArray) (hz:vs.length≤1000) (up:∀ i j,i≤j→j < vs.length→f i≤f j)
  (hk:∀ h' A' (E':Value→Shared→Prop),(∀ b o,s.heap.get? b=some o→h'.get? b=some o)→2≤vs.length→∃ κ,(∀ Q:SortKind→Shared→Prop,Q κ { s with heap:=h' }→wpAny (model prog w) A' (keyKind' vs.toArray) Q E' { s with heap:=h' })∧C4 vs.length f (kas_ask prog w A' κ vs) { s with heap:=h' })
  (h:Q (.ref (s.heap.objs.size+1)) { s with heap:=sortedAll s.heap vs (List.toArray ((List.toArray (List.range vs.length)).toList.map fun i=>vs.getD i Value.none)) }) :
  wpAny (model prog w) A (call (.builtin "sorted") [.ref l]) Q E s:=by
 refine Calls.call_function_entry kind_sorted plain_sorted entry_sorted (args_sorted1 _) ?_
 unfold Builtin.«sorted»
 refine wpAny_bind (m:=checkCount "sorted" 1 1 _) (wpAny_pure ?_)
 refine wpAny_bind (collect_list hl ?_ (by rw [sizeLine_eq];omega))
 refine wpAny_bind (wpAny_newList ?_ (by rw [sizeLine_eq];omega))
 have hsz:((s.heap.push (seqObj "list" #[] 0)).update s.heap.objs.size (Obj.mapSeq (· ++ vs.toArray))).objs.size=s.heap.objs.size+1:=by
  rw [Heap.size_update,size_push']
 have hoL:(((s.heap.push (seqObj "list" #[] 0)).update s.heap.objs.size (Obj.mapSeq (· ++ vs.toArray))).push (seqObj "list" vs.toArray 0)).get? (s.heap.objs.size+1)=some (seqObj "list" vs.toArray 0):=by
  rw [← hsz];exact Heap.get?_push_size _ rfl
 have keep:∀ b o,s.heap.get? b=some o→(((s.heap.push (seqObj "list" #[] 0)).update s.heap.objs.size (Obj.mapSeq (· ++ vs.toArray))).push (seqObj "list" vs.toArray 0)).get? b=some o:=fun b o q=>by
  have hlt:b < s.heap.objs.size:=Heap.lt_size q
  rw [Heap.get?_push_ne _ _ _ (by rw [hsz];exact Nu (Nat.lt_succ_of_lt hlt)),Heap.get?_update_ne _ _ _ _ (Nu hlt),Heap.get?_push_ne _ _ _ (Nu hlt)]
  exact q
 show wpAny _ _ _ _ _ { s with heap:=((s.heap.push (seqObj "list" #[] 0)).update s.heap.objs.size (Obj.mapSeq (· ++ vs.toArray))).push (seqObj "list" vs.toArray 0) }
 rw [hsz]
 refine wpAny_bind (wpAny_holding (wpAny_call_entry slot_list_sort ⟨_,hoL,rfl⟩ entry_list_sort (sr (f:=f)
  (s:={ s with heap:=((s.heap.push (seqObj "list" #[] 0)).update s.heap.objs.size (Obj.mapSeq (· ++ vs.toArray))).push (seqObj "list" vs.toArray 0) })
  hoL hz up (fun h' k=>hk h' _ _ fun b o q=>k b o (Nu (Nat.lt_succ_of_lt (Heap.lt_size q))) (keep b o q)) ⟨_,rfl,?_⟩) (args_list_sort _)))
 exact wpAny_pure ⟨_,rfl,h⟩
theorem pR:∀ {vs:List Value} {ns:List Int},IntsAre vs ns→∀ i,i < vs.length→∃ t,vs.getD i Value.none = .int (ns.getD i 0) t
 | _,_,.nil,i,h=>by simp at h
 | _,_,.cons n t r,0,_=>⟨t,rfl⟩
 | _,_,.cons n t r,i+1,h=>by
  obtain ⟨t',e⟩:=pR r i (by simpa using h)
  exact ⟨t',by simpa using e⟩
theorem range_getD (vs:List Value):((List.toArray (List.range vs.length)).toList.map fun i=>vs.getD i Value.none)=vs:=by
 apply List.ext_getElem?
 intro i
 rw [Nb]
 by_cases h:i < vs.length
 ·simp [h]
 ·simp [h]
theorem yL:∀ {vs:List Value} {ns:List Int},IntsAre vs ns→2≤vs.length→keyKind' vs.toArray=pure oneType'
 | [],_,_,h2=>by simp at h2
 | [_],_,_,h2=>by simp at h2
 | _::_::_,_,hi,_=>keyKind_ints hi
theorem ur {l:Addr} {ns:List Int} {Q:Value→Shared→Prop} (hl:s.heap.IsList l vs.toArray) (hi:IntsAre vs ns) (hz:vs.length≤1000) (up:ns.Pairwise (·≤·))
  (h:Q (.ref (s.heap.objs.size+1)) { s with heap:=sortedAll s.heap vs (List.toArray vs) }):wpAny (model prog w) A (call (.builtin "sorted") [.ref l]) Q E s:=by
 have hlen:vs.length=ns.length:=hi.length
 have up':∀ i j,i≤j→j < vs.length→ns.getD i 0≤ns.getD j 0:=fun i j hij hj=>by
  by_cases e:i=j
  ·rw [e];exact NF _
  ·have:=List.pairwise_iff_getElem.mp up i j (by omega) (by omega) (by omega)
   simpa [List.getD_eq_getElem?_getD,MT (show i < ns.length by omega),MT (show j < ns.length by omega)] using this
 have ka:∀ (s':Shared) (A':Around),C4 vs.length (fun i=>ns.getD i 0) (kas_ask prog w A' oneType' vs) s':=by
  intro s' A' i j C hi' hj hc
  obtain ⟨t,e⟩:=pR hi i hi'
  obtain ⟨u,e2⟩:=pR hi j hj
  unfold kas_ask
  rw [e,e2,keyLt'_oneType]
  exact oneLt_int hc
 have kk:∀ (s':Shared) (A':Around) (E':Value→Shared→Prop),2≤vs.length→∀ Q:SortKind→Shared→Prop,Q oneType' s'→wpAny (model prog w) A' (keyKind' vs.toArray) Q E' s':=by
  intro s' A' E' h2 Q hq
  rw [yL hi h2]
  exact wpAny_pure hq
 have h':Q (.ref (s.heap.objs.size+1)) { s with heap:=sortedAll s.heap vs (List.toArray ((List.toArray (List.range vs.length)).toList.map fun i=>vs.getD i Value.none)) }:=by
  rw [range_getD];exact h
 exact Aj (f:=fun i=>ns.getD i 0) hl hz up' (fun h' A' E' keep h2=>Exists.intro oneType' (And.intro (kk _ A' E' h2) (ka _ A'))) h'
end
end LS
namespace L4
open PySem PySem.Spec PyProof.Rows L2 L3
def AV (K:PySem.W.Frag):RL:=fun xs H Q=>∃ (p:Addr) (ns:List Int),xs=[.ref p]∧SqL K H p (ns.map V.int)∧ns.length≤1000∧ns.Pairwise (·≤·)∧∀ (l:Addr),H l=none→Q (.ref l) (upd H l (.lst (ns.map V.int)))
section
variable {X:Cx}
theorem Fw:cH X (.builtin "sorted") (AV X.K):=by
 intro pins s σ H xs us Q I r h
 obtain ⟨p,ns,rfl,hq,hz0,up,q⟩:=h
 obtain ⟨u,rfl,rx⟩:=vals1 r
 cases rx
 obtain ⟨its,rv,pl,hz⟩:=I.list hq
 have hl:its.length=ns.length:=by rw [← rv.length,Nh]
 refine LS.ur pl.isList (ints_of rv) (by omega) up ?_
 obtain ⟨e,he⟩:=sortedAll_at s.heap its its.toArray
 have hz2:(ns.map V.int).length≤sizeLine:=hz
 refine ⟨.ref (s.heap.objs.size+1),_,I.laid (a:=s.heap.objs.size+1) (o:=.lst (ns.map V.int)) (t':=s.toks) (fun b o hb=>sortedAll_old hb) (ND _) ⟨hz2,its,e,rv,?_⟩,rfl,q _ (I.hok.fresh (ND _))⟩
 rw [he]
end
section
variable {K:PySem.W.Frag} {H:Hp} {Q:VK} {p:Addr} {P:Addr→Prop} {H0:Hp} {l:List (Addr×Ob)} {fs:List Pr}
theorem EY {ns:List Int} (L:Led P H0 H l fs) (s:SqL K H p (ns.map V.int)) (hl:ns.length≤1000) (up:ns.Pairwise (·≤·)) (h:∀ (b:Addr) (H':Hp),H b=none→Led P H0 H' ((b,Eo (.lst (ns.map V.int)))::l) fs→aI H H'→Q (.ref b) H'):AV K [.ref p] H Q:=
 ⟨p,ns,rfl,s,hl,up,fun b nb=>h b _ nb (L.Ez nb rfl) (cI nb)⟩
end
end L4
namespace Law
open PySem PySem.Spec PyProof.Rows L2 L3 L4
theorem B9 {td ty tv:TE} {D:Ends} {σ : St} {H:Hp} (h:tv σ H fun v H1=>td σ H1 fun x H2=>ty σ H2 fun y H3=>∃ a H4,x = .ref a∧wg H3 a y v H4∧D.nx σ H4):AM td ty tv D σ H:=h
theorem bE.dk {C CS CH q:Addr} {H H':Hp} {d:Hd} {ls:Lns} {pl:Option (Int×Int)} {kvs:List (Key×V)} (h:bE C CS CH H d ls pl) (hq:H q=some (.dK kvs)) (o:Oth q H H'):bE C CS CH H' d ls pl:=by
 obtain ⟨⟨dx,sv,hp,hpl⟩,hl,hL,⟨dy,tr,ms,h1,h2,pm⟩,⟨dz,h3⟩,hn⟩:=h
 have ne:∀ q' u,H q'=some u→(∀ xs,u≠.dK xs)→q'≠q:=fun q' u h1 h2 z=>by rw [z,hq] at h1;cases h1;exact h2 _ rfl
 have ts:cF H H':=fun q xs h=>o q _ h (ne _ _ h fun _ z=>nomatch z)
 exact ⟨⟨dx,sv,o _ _ hp (ne _ _ hp fun _ z=>nomatch z),hpl.ts ts⟩,o _ _ hl (ne _ _ hl fun _ z=>nomatch z),hL.ts ts,⟨dy,tr,ms,o _ _ h1 (ne _ _ h1 fun _ z=>nomatch z),ts _ _ h2,pm⟩,⟨dz,o _ _ h3 (ne _ _ h3 fun _ z=>nomatch z)⟩,hn⟩
structure Hv (C CS CH:Addr) (H0 H:Hp) (hs:List Hs):Prop where
 sm:aI H0 H
 hd:∀ x∈hs,bE C CS CH H x.d x.ls x.pl
 ok:∀ x∈hs,cY x.ls x.pl
 ne:hs.Pairwise fun x y=>x.d.p≠y.d.p∧x.d.l≠y.d.l
 hn:∀ x∈hs,H0 x.d.p=none∧H0 x.d.l=none
section
variable {P:Program} {w:World} {K:PySem.W.Frag} {mg:Str→Option Value} {base:Heap} {C CS CH CL CD CU CA CN CW CT CP CE CR:Addr}
theorem Hv.same {H0 H H':Hp} {hs:List Hs} (h:Hv C CS CH H0 H hs) (s:aI H H'):Hv C CS CH H0 H' hs:=⟨h.sm.trans s,fun x hx=>(h.hd x hx).same s,h.ok,h.ne,h.hn⟩
theorem Hv.snoc {H0 H H':Hp} {hs:List Hs} {x:Hs} (h:Hv C CS CH H0 H hs) (s:aI H H') (n1:H x.d.p=none) (n2:H x.d.l=none) (k:bE C CS CH H' x.d x.ls x.pl) (o:cY x.ls x.pl):Hv C CS CH H0 H' (hs++[x]):=by
 refine ⟨h.sm.trans s,fun y hy=>?_,fun y hy=>?_,?_,fun y hy=>?_⟩
 ·rcases List.mem_append.mp hy with hy | hy
  ·exact (h.hd y hy).same s
  ·rw [List.mem_singleton.mp hy];exact k
 ·rcases List.mem_append.mp hy with hy | hy
  ·exact h.ok y hy
  ·rw [List.mem_singleton.mp hy];exact o
 ·rw [M4]
  refine ⟨h.ne,List.pairwise_singleton _ _,fun y hy z hz=>?_⟩
  rw [List.mem_singleton.mp hz]
  have kd:=h.hd y hy
  obtain ⟨⟨dw,sv,kp,_⟩,_⟩:=id kd
  exact ⟨old_ne kp n1,old_ne kd.2.1 n2⟩
 ·rcases List.mem_append.mp hy with hy | hy
  ·exact h.hn y hy
  ·rw [List.mem_singleton.mp hy];exact ⟨bW h.sm n1,bW h.sm n2⟩
theorem kC.sg {H:Hp} {ps sp:Addr} {c far room term:Int} {n:Nat} {ws:List Str} (h:kC C CS H ps sp c n far room term ws) (k:StN far room term):ql K C CS H ps sp c n far room term ws:=by
 obtain ⟨⟨dx,tr,ms,h1,h2,pm⟩,h3,h4⟩:=h
 exact ⟨⟨dx,tr,ms,h1,SqT.of h2,pm⟩,h3,h4,k⟩
theorem zN {H:Hp} {Q:VK} {E:XK} (q:∀ x l H',H x=none→H l=none→iX CP H' x l []→aI H H'→Q (.ref x) H'):Made CP (uh CP) E [] H Q:=by
 intro x dx nx nd ne
 refine ⟨x,dx,rfl,aE,fun l H' nl h1 h2 h3=>⟨rfl,?_⟩⟩
 have sm0:aI H (upd (upd H dx (.own x)) x (.ins CP dx [])):=fun b o e=>by rw [aF (aG e nx),aF (aG e nd)];exact e
 exact q x l H' nx (bW sm0 nl) ⟨⟨dx,h1⟩,h2⟩ fun b o e=>h3 b o (sm0 _ _ e) (aG e nx)
end
def mD (m:Mr):Dt:=.tup [.int m.v,.str m.nm]
theorem wY {K:PySem.W.Frag} {H:Hp}:∀ (mt:List Addr) (ms:List Mr),mt.length=ms.length→(∀ (i:Nat) (t:Addr) (m:Mr),mt[i]?=some t→ms[i]?=some m→H t=some (.tup [.int m.v,.str m.nm]))→Ats K H (mt.map V.ref) (ms.map mD)
 | [],[],_,_=>.nil
 | t::mt,m::ms,hl,h=>.cons (.tup (SqT.of (h 0 t m rfl rfl)) (.cons (.int _) (.cons (.str _) .nil))) (wY mt ms (by simpa using hl) fun i t' m' h1 h2=>h (i+1) t' m' (by simpa using h1) (by simpa using h2))
theorem wX:∀ ms:List Mr,deps (ms.map mD)≤1
 | []=>by simp [deps]
 | m::ms=>by
  have:=wX ms
  simp only [List.map_cons,deps,mD,dep];omega
theorem G8 {ms:List Mr} (h:ms.Pairwise fun a b=>a.nm=b.nm→a.v < b.v) (z:Str):((ms.filter fun m=>decide (m.nm=z)).map (·.v)).Pairwise (·≤·):=by
 rw [List.pairwise_map]
 refine List.Pairwise.imp_of_mem (fun {a b} ha hb hr=>?_) (h.sublist List.filter_sublist)
 have e1:=of_decide_eq_true (List.mem_filter.mp ha).2
 have e2:=of_decide_eq_true (List.mem_filter.mp hb).2
 exact Int.le_of_lt (hr (by rw [e1,e2]))
theorem lJ {K:PySem.W.Frag} {H:Hp}:∀ xs:List Int,Ats K H (xs.map V.int) (xs.map Dt.int)
 | []=>.nil
 | x::xs=>.cons (.int x) (lJ xs)
theorem sC:∀ xs:List Int,deps (xs.map Dt.int)≤1
 | []=>by simp [deps]
 | x::xs=>by
  have:=sC xs
  simp only [List.map_cons,deps,dep];omega
theorem DT {D:List Hd} {nm:Str} {v:V} (h:nm∉D.map (·.nm)):putK (dkv D) (Sum.inr nm) v=dkv D++[(Sum.inr nm,v)]:=by
 unfold putK
 rw [if_neg]
 intro z
 obtain ⟨kv,hkv,e⟩:=List.any_eq_true.mp z
 unfold dkv at hkv
 obtain ⟨x,hx,rfl⟩:=List.mem_map.mp hkv
 exact h (List.mem_map.mpr ⟨x,hx,Sum.inr.inj (of_decide_eq_true e)⟩)
section
variable {P:Program} {w:World} {K:PySem.W.Frag} {mg:Str→Option Value} {base:Heap} {C CS CH CL CD CU CA CN CW CT CP CE CR:Addr}
theorem Hv.dk {H0 H H':Hp} {hs:List Hs} {q:Addr} {kvs:List (Key×V)} (h:Hv C CS CH H0 H hs) (hq:H q=some (.dK kvs)) (n:H0 q=none) (o:Oth q H H'):Hv C CS CH H0 H' hs:=⟨fun b u e=>o b u (h.sm _ _ e) (aG e n),fun x hx=>(h.hd x hx).dk hq o,h.ok,h.ne,h.hn⟩
theorem Wv.rest {H0 H1 H:Hp} {D:List Hd} {d:Ld} {pp lp ml hd:Addr} {hs:List Hs} {gs:List Gr} {ts:Lts} {ms:List Mr} {mt:List Addr} {n:Nat} (W:Wv K C CS CH CL CP H0 H D d pp lp ml hd hs gs ts ms mt n) (s:aI H1 H0):Wv K C CS CH CL CP H1 H D d pp lp ml hd hs gs ts ms mt n:=⟨W.ev.rest s,W.ed,W.zi,W.gl,W.tl,W.ll,W.nl,W.mv,W.sp,bW s W.mn,W.sn,W.ap⟩
theorem HZ.first {c:Int} {y:Hs} (h1:y.ls=[]) (h2:y.pl=some (0,0)) (c1 : 1≤c):HZ c [] [] y:=by
 refine ⟨by rw [h1];exact NF _,fun sl f e he=>?_,fun m hm=>(by simp at hm),fun pm pk z=>?_,by rw [h1];exact NF _⟩
 ·rw [h1] at he;cases he
 ·rw [h2] at z;cases z;omega
theorem Snd.w5 {d:Hd} {c:Int} (h:d.ws=Law.w5) (hc:d.c=c) (c1 : 1≤d.c):Snd d c:=⟨by rw [h];unfold Law.w5;decide +kernel,by rw [h];unfold Law.w5;decide +kernel,by rw [h];unfold Law.w5;decide +kernel,by rw [h];unfold Law.w5;decide +kernel,hc,c1⟩
theorem GW:aq ["_law_script", "_law_settings_here", "_law_cell", "_law_names_here", "_law_hands", "_law_name", "_law_lender", "_law_post", "_law_marks", "_law_last", "_law_k", "_law_one", "_law_own"] ["_law_script"] (aj (top 82)):=by walk_at "s"
def Ga (K:PySem.W.Frag):Sp:=fun vs H Q _=>∃ (a:Addr) (ns:List Int),vs=[.ref a]∧SqL K H a (ns.map V.int)∧ns.length≤63∧∀ H',Q (.bl true) H'
theorem Hi {f:Addr} {fd:FuncData} (F:Fun K "law" "law" (top 82) f fd) (BT:Bt mg) (NE:br (CX1 P w)) (SS:StC K CS) (et:∀ c∈ers CD CU CA CN CW CT,PySem.W.exmOne K (.ref c) (.ref CR)=some true) (pT:mg "RiseError" = some (.ref CR)) (dX:Cal P w K mg base (CX1 P w) "_law_hand" 1 ["_law_script", "_law_k"] (oU K)) (az:Cal P w K mg base (CX1 P w) "_law_pick" 11 ["_law_hand_here", "_law_many"] fR) (kB:Cal P w K mg base (CX1 P w) "_law_settings" 12 ["_law_cell", "_law_sound"] (z9 C CS)) (qg:Cal P w K mg base (CX1 P w) "_law_names" 12 ["_law_cell", "_law_many"] wF)
  (ji:vR P w K mg base (CX1 P w) "Hand" CH 5 ["self", "name", "settings", "lines"] (gX CH)) (vh:Mak P w K mg base (CX1 P w) "Post" CP 1 ["self"] (uh CP)) (jI:vR P w K mg base (CX1 P w) "Lender" CL 2 ["self", "settings", "grants"] (gW CL)) (tD:Cal P w K mg base (CX1 P w) "_law_deed" 13 ["_law_post", "_law_hands", "_law_lender", "_law_names_here", "_law_cell", "_law_marks", "_law_last"] (qN K C CS CH CL CP (ers CD CU CA CN CW CT))) (jy:Cal P w K mg base (CX1 P w) "_law_areas_good" 2 ["_law_lender", "_law_marks", "_law_shape"] (qP K C CS CH CL CP)) (iU:Cal P w K mg base (CX1 P w) "parts_of" 1 ["shape", "mark"] (oR C)):e7 P w K mg base (CX1 P w) 16 f fd ["_law_script"] (Ga K):=by
 have S:=GW
 refine lO F S (fun vs H Q E h=>?_) (fun f cdv A outer s H vs Q E hr h=>?_)
 ·obtain ⟨a,ns,rfl,_⟩:=h
  rfl
 obtain ⟨a,nn,rfl,hS,h63,q⟩:=h
 refine ⟨_,(@ak _ _ _ _ _ (@aM _ _ 1 _ _ _ _ S.nd rfl (by first | exact Or.inl rfl | exact Or.inr rfl) (@aH _ _ _ _ _ _ _ _ _ _ _ _ kB (hr.mono (by first | decide | omega)) NE.pass (@aa _ _ _ _ _ (@aH _ _ _ _ _ _ _ _ _ _ _ _ dX (hr.mono (by first | decide | omega)) NE.pass (@aa _ _ _ _ _ (@pv _ 0 _ _ (by rfl) (by first | exact Or.inl rfl | exact Or.inr (Or.inl rfl) | exact Or.inr (Or.inr rfl)) (by decide) (by decide)) (@aa _ _ _ _ _ (@ai _ _ _ _) (@af _) (by rfl)) (by rfl)) (by rfl) (by decide) (by rfl) (by rfl)) (@aa _ _ _ _ _ (@eu _ _ _ _) (@af _) (by rfl)) (by rfl)) (by rfl) (by decide) (by rfl) (by rfl)) (by rfl) (by first | exact .inl rfl | exact .inr rfl | assumption)) (@ak _ _ _ _ _ (@aM _ _ 2 _ _ _ _ S.nd rfl (by first | exact Or.inl rfl | exact Or.inr rfl) (@aH _ _ _ _ _ _ _ _ _ _ _ _ dX (hr.mono (by first | decide | omega)) NE.pass (@aa _ _ _ _ _ (@pv _ 0 _ _ (by rfl) (by first | exact Or.inl rfl | exact Or.inr (Or.inl rfl) | exact Or.inr (Or.inr rfl)) (by decide) (by decide)) (@aa _ _ _ _ _ (@ai _ _ _ _) (@af _) (by rfl)) (by rfl)) (by rfl) (by decide) (by rfl) (by rfl)) (by rfl) (by first | exact .inl rfl | exact .inr rfl | assumption)) (@ak _ _ _ _ _ (@aM _ _ 3 _ _ _ _ S.nd rfl (by first | exact Or.inl rfl | exact Or.inr rfl) (@aH _ _ _ _ _ _ _ _ _ _ _ _ qg (hr.mono (by first | decide | omega)) NE.pass (@aa _ _ _ _ _ (@pv _ 2 _ _ (by rfl) (by first | exact Or.inl rfl | exact Or.inr (Or.inl rfl) | exact Or.inr (Or.inr rfl)) (by decide) (by decide)) (@aa _ _ _ _ _ (@aP _ _ _ _ _ _ _ _ (@bM _) (@ai _ _ _ _) (@aH _ _ _ _ _ _ _ _ _ _ _ _ az (hr.mono (by first | decide | omega)) NE.pass (@aa _ _ _ _ _ (@pv _ 2 _ _ (by rfl) (by first | exact Or.inl rfl | exact Or.inr (Or.inl rfl) | exact Or.inr (Or.inr rfl)) (by decide) (by decide)) (@aa _ _ _ _ _ (@ai _ _ _ _) (@af _) (by rfl)) (by rfl)) (by rfl) (by decide) (by rfl) (by rfl))) (@af _) (by rfl)) (by rfl)) (by rfl) (by decide) (by rfl) (by rfl)) (by rfl) (by first | exact .inl rfl | exact .inr rfl | assumption)) (@ak _ _ _ _ _ (@aM _ _ 4 _ _ _ _ S.nd rfl (by first | exact Or.inl rfl | exact Or.inr rfl) (@A3 _ _) (by rfl) (by first | exact .inl rfl | exact .inr rfl | assumption)) (@ak _ _ _ _ _ (@fV _ _ _ _ _ _ _ _ PassesOwn.never rfl (@b8 _ _ _ _ (@pv _ 3 _ _ (by rfl) (by first | exact Or.inl rfl | exact Or.inr (Or.inl rfl) | exact Or.inr (Or.inr rfl)) (by decide) (by decide))) (@bu _ _ 5 _ S.nd rfl (by first | exact Or.inl rfl | exact Or.inr rfl) (by first | exact .inl rfl | exact .inr rfl | assumption)) (@ao _ _ _ (@DV _ _ _ _ _ _ _ _ _ (@xu _ _ hr) (@pv _ 4 _ _ (by rfl) (by first | exact Or.inl rfl | exact Or.inr (Or.inl rfl) | exact Or.inr (Or.inr rfl)) (by decide) (by decide)) (@pv _ 5 _ _ (by rfl) (by first | exact Or.inl rfl | exact Or.inr (Or.inl rfl) | exact Or.inr (Or.inr rfl)) (by decide) (by decide)) (A0 ji (hr.mono (by first | decide | omega)) NE.pass (@aa _ _ _ _ _ (@pv _ 5 _ _ (by rfl) (by first | exact Or.inl rfl | exact Or.inr (Or.inl rfl) | exact Or.inr (Or.inr rfl)) (by decide) (by decide)) (@aa _ _ _ _ _ (@pv _ 1 _ _ (by rfl) (by first | exact Or.inl rfl | exact Or.inr (Or.inl rfl) | exact Or.inr (Or.inr rfl)) (by decide) (by decide)) (@af _) (by rfl)) (by rfl))) rfl)) (by intro _;rfl)) (@ak _ _ _ _ _ (@aM _ _ 6 _ _ _ _ S.nd rfl (by first | exact Or.inl rfl | exact Or.inr rfl) (A0 jI (hr.mono (by first | decide | omega)) NE.pass (@aa _ _ _ _ _ (@pv _ 1 _ _ (by rfl) (by first | exact Or.inl rfl | exact Or.inr (Or.inl rfl) | exact Or.inr (Or.inr rfl)) (by decide) (by decide)) (@af _) (by rfl))) (by rfl) (by first | exact .inl rfl | exact .inr rfl | assumption)) (@ak _ _ _ _ _ (@aM _ _ 7 _ _ _ _ S.nd rfl (by first | exact Or.inl rfl | exact Or.inr rfl) (@G4 _ _ _ _ _ _ _ _ _ _ vh (hr.mono (by first | decide | omega)) NE.pass (by rfl) (by decide)) (by rfl) (by first | exact .inl rfl | exact .inr rfl | assumption)) (@ak _ _ _ _ _ (@aM _ _ 8 _ _ _ _ S.nd rfl (by first | exact Or.inl rfl | exact Or.inr rfl) (@bQ _ _ _ _ (@af _)) (by rfl) (by first | exact .inl rfl | exact .inr rfl | assumption)) (@ak _ _ _ _ _ (@aM _ _ 9 _ _ _ _ S.nd rfl (by first | exact Or.inl rfl | exact Or.inr rfl) (@aH _ _ _ _ _ _ _ _ _ _ _ _ az (hr.mono (by first | decide | omega)) NE.pass (@aa _ _ _ _ _ (@pv _ 2 _ _ (by rfl) (by first | exact Or.inl rfl | exact Or.inr (Or.inl rfl) | exact Or.inr (Or.inr rfl)) (by decide) (by decide)) (@aa _ _ _ _ _ (@ai _ _ _ _) (@af _) (by rfl)) (by rfl)) (by rfl) (by decide) (by rfl) (by rfl)) (by rfl) (by first | exact .inl rfl | exact .inr rfl | assumption)) (@ak _ _ _ _ _ (@fV _ _ _ _ _ _ _ _ PassesOwn.never rfl (@yj _ _ _ _ _ _ _ rfl BT.range (@aa _ _ _ _ _ (@ai _ _ _ _) (@aa _ _ _ _ _ (@aX _ _ _ _ _ _ _ _ _ (@xG _ rfl) rfl BT.min L3.l7 (@aa _ _ _ _ _ (@ai _ _ _ _) (@aa _ _ _ _ _ (@aX _ _ _ _ _ _ _ _ _ (@gp _) rfl BT.len L3.dg (@aa _ _ _ _ _ (@pv _ 0 _ _ (by rfl) (by first | exact Or.inl rfl | exact Or.inr (Or.inl rfl) | exact Or.inr (Or.inr rfl)) (by decide) (by decide)) (@af _) (by rfl)) (by decide) (by decide) (by rfl) (by rfl)) (@af _) (by rfl)) (by rfl)) (by decide) (by decide) (by rfl) (by rfl)) (@af _) (by rfl)) (by rfl)) (by rfl) (by rfl)) (@bu _ _ 10 _ S.nd rfl (by first | exact Or.inl rfl | exact Or.inr rfl) (by first | exact .inl rfl | exact .inr rfl | assumption)) (@ak _ _ _ _ _ (@DU _ _ _ _ _ _ _ _ _ _ _ _ _ rfl rfl rfl pT (@G7 _) (fun _ _=>(@ao _ _ _ (@bC _ _ _ _ (@b6 _ _ _ _ _ _ _ _ _ _ _ tD (hr.mono (by first | decide | omega)) (@aL _ _) (@aa _ _ _ _ _ (@pv _ 7 _ _ (by rfl) (by first | exact Or.inl rfl | exact Or.inr (Or.inl rfl) | exact Or.inr (Or.inr rfl)) (by decide) (by decide)) (@aa _ _ _ _ _ (@pv _ 4 _ _ (by rfl) (by first | exact Or.inl rfl | exact Or.inr (Or.inl rfl) | exact Or.inr (Or.inr rfl)) (by decide) (by decide)) (@aa _ _ _ _ _ (@pv _ 6 _ _ (by rfl) (by first | exact Or.inl rfl | exact Or.inr (Or.inl rfl) | exact Or.inr (Or.inr rfl)) (by decide) (by decide)) (@aa _ _ _ _ _ (@pv _ 3 _ _ (by rfl) (by first | exact Or.inl rfl | exact Or.inr (Or.inl rfl) | exact Or.inr (Or.inr rfl)) (by decide) (by decide)) (@aa _ _ _ _ _ (@aH _ _ _ _ _ _ _ _ _ _ _ _ dX (hr.mono (by first | decide | omega)) NE.pass (@aa _ _ _ _ _ (@pv _ 0 _ _ (by rfl) (by first | exact Or.inl rfl | exact Or.inr (Or.inl rfl) | exact Or.inr (Or.inr rfl)) (by decide) (by decide)) (@aa _ _ _ _ _ (@pv _ 10 _ _ (by rfl) (by first | exact Or.inl rfl | exact Or.inr (Or.inl rfl) | exact Or.inr (Or.inr rfl)) (by decide) (by decide)) (@af _) (by rfl)) (by rfl)) (by rfl) (by decide) (by rfl) (by rfl)) (@aa _ _ _ _ _ (@pv _ 8 _ _ (by rfl) (by first | exact Or.inl rfl | exact Or.inr (Or.inl rfl) | exact Or.inr (Or.inr rfl)) (by decide) (by decide)) (@aa _ _ _ _ _ (@pv _ 9 _ _ (by rfl) (by first | exact Or.inl rfl | exact Or.inr (Or.inl rfl) | exact Or.inr (Or.inr rfl)) (by decide) (by decide)) (@af _) (by rfl)) (by rfl)) (by rfl)) (by rfl)) (by rfl)) (by rfl)) (by rfl)) (by rfl) (by decide) (by rfl) (by rfl)) (by rfl)))) (fun _=>(@ao _ _ _ (@aM _ _ 9 _ _ _ _ S.nd rfl (by first | exact Or.inl rfl | exact Or.inr rfl) (@aP _ _ _ _ _ _ _ _ (@bM _) (@pv _ 9 _ _ (by rfl) (by first | exact Or.inl rfl | exact Or.inr (Or.inl rfl) | exact Or.inr (Or.inr rfl)) (by decide) (by decide)) (@ai _ _ _ _)) (by rfl) (by first | exact .inl rfl | exact .inr rfl | assumption)))) (by rfl) (by decide)) (@ao _ _ _ (@bf _ _ _ _ _ _ _ _ (@aK _ _ _ _ _ _ _ _ (@uN _ (hr.mono (NC _))) (@pv _ 8 _ _ (by rfl) (by first | exact Or.inl rfl | exact Or.inr (Or.inl rfl) | exact Or.inr (Or.inr rfl)) (by decide) (by decide)) (@bQ _ _ _ _ (@af _)) (@aO _ _ (by decide) (by decide))) (@ao _ _ _ (@aM _ _ 9 _ _ _ _ S.nd rfl (by first | exact Or.inl rfl | exact Or.inr rfl) (@aX _ _ _ _ _ _ _ _ _ (@j8 _ rfl) rfl BT.max L3.ef (@aa _ _ _ _ _ (@pv _ 9 _ _ (by rfl) (by first | exact Or.inl rfl | exact Or.inr (Or.inl rfl) | exact Or.inr (Or.inr rfl)) (by decide) (by decide)) (@aa _ _ _ _ _ (@ay _ _ _ _ _ _ _ (@au _) (@aH _ _ _ _ _ _ _ _ _ _ _ _ iU (hr.mono (by first | decide | omega)) NE.pass (@aa _ _ _ _ _ (@aQ _ _ _ _ _ (@pv _ 1 _ _ (by rfl) (by first | exact Or.inl rfl | exact Or.inr (Or.inl rfl) | exact Or.inr (Or.inr rfl)) (by decide) (by decide)) rfl) (@aa _ _ _ _ _ (@ay _ _ _ _ _ _ _ (@au _) (@ay _ _ _ _ _ _ _ (@bH _) (@pv _ 8 _ _ (by rfl) (by first | exact Or.inl rfl | exact Or.inr (Or.inl rfl) | exact Or.inr (Or.inr rfl)) (by decide) (by decide)) (@Kq _ _ _ _ _ _ (@GN _) (@ai _ _ _ _)) (fun _ _=>rfl)) (@ai _ _ _ _) (fun _ _=>rfl)) (@af _) (by rfl)) (by rfl)) (by rfl) (by decide) (by rfl) (by rfl)) (@ai _ _ _ _) (fun _ _=>rfl)) (@af _) (by rfl)) (by rfl)) (by decide) (by decide) (by rfl) (by rfl)) (by rfl) (by first | exact .inl rfl | exact .inr rfl | assumption))) (@aJ _)))) (by intro _;rfl)) (@ak _ _ _ _ _ (@bf _ _ _ _ _ _ _ _ (@aK _ _ _ _ _ _ _ _ (@fG _) (uM rfl rfl rfl BT.len BT.set_ (@fX _ _ _ _ _ _ _ _ _ _ (Cb K 2 (jr (bD 0) (jr (bD 1) Cc))) _ _ rfl (@b8 _ _ _ _ (@pv _ 8 _ _ (by rfl) (by first | exact Or.inl rfl | exact Or.inr (Or.inl rfl) | exact Or.inr (Or.inr rfl)) (by decide) (by decide))) (@eZ _ _ ["_law_mark", "_law_name"] [] (aj (top 82)).names ["_law_script", "_law_settings_here", "_law_cell", "_law_names_here", "_law_hands", "_law_name", "_law_lender", "_law_post", "_law_marks", "_law_last", "_law_k", "_law_one", "_law_own"] rfl rfl rfl (by decide +kernel)) (fun _ _ _ _=>(@gB _ _ _ _ _ _ rfl (@bL _ _ _ _ _ (@bu _ _ 0 _ (show (gq ["_law_script", "_law_settings_here", "_law_cell", "_law_names_here", "_law_hands", "_law_name", "_law_lender", "_law_post", "_law_marks", "_law_last", "_law_k", "_law_one", "_law_own"] ["_law_mark", "_law_name"] []).Nodup by decide +kernel) rfl (by first | exact Or.inl rfl | exact Or.inr rfl) (by first | exact .inl rfl | exact .inr rfl | assumption)) (@bL _ _ _ _ _ (@bu _ _ 1 _ (show (gq ["_law_script", "_law_settings_here", "_law_cell", "_law_names_here", "_law_hands", "_law_name", "_law_lender", "_law_post", "_law_marks", "_law_last", "_law_k", "_law_one", "_law_own"] ["_law_mark", "_law_name"] []).Nodup by decide +kernel) rfl (by first | exact Or.inl rfl | exact Or.inr rfl) (by first | exact .inl rfl | exact .inr rfl | assumption)) (@fh _) (by rfl)) (by rfl)) (by rfl) (by rfl))) (fun _ _ _ _=>(@eS _)) (fun _ _ _ _=>(@pv _ 0 _ _ (by rfl) (by first | exact Or.inl rfl | exact Or.inr (Or.inl rfl) | exact Or.inr (Or.inr rfl)) (by decide) (by decide))) (by intro _;rfl))) (@aX _ _ _ _ _ _ _ _ _ (@gp _) rfl BT.len L3.dg (@aa _ _ _ _ _ (@pv _ 8 _ _ (by rfl) (by first | exact Or.inl rfl | exact Or.inr (Or.inl rfl) | exact Or.inr (Or.inr rfl)) (by decide) (by decide)) (@af _) (by rfl)) (by decide) (by decide) (by rfl) (by rfl)) (@aO _ _ (by decide) (by decide))) (@ao _ _ _ (@aB _ _ _ _ (@eu _ _ _ _))) (@aJ _)) (@ak _ _ _ _ _ (@fV _ _ _ _ _ _ _ _ PassesOwn.never rfl (@b8 _ _ _ _ (@pv _ 3 _ _ (by rfl) (by first | exact Or.inl rfl | exact Or.inr (Or.inl rfl) | exact Or.inr (Or.inr rfl)) (by decide) (by decide))) (@bu _ _ 11 _ S.nd rfl (by first | exact Or.inl rfl | exact Or.inr rfl) (by first | exact .inl rfl | exact .inr rfl | assumption)) (@ak _ _ _ _ _ (@jd _ _ _ _ _ _ _ _ _ _ (Cb K 2 (jr (bD 0) (jr (bD 1) Cc))) _ _ 12 _ _ _ rfl S.nd rfl (by first | exact Or.inl rfl | exact Or.inr rfl) (@b8 _ _ _ _ (@pv _ 8 _ _ (by rfl) (by first | exact Or.inl rfl | exact Or.inr (Or.inl rfl) | exact Or.inr (Or.inr rfl)) (by decide) (by decide))) (@eZ _ _ ["_law_mark", "_law_name"] [11] (aj (top 82)).names ["_law_script", "_law_settings_here", "_law_cell", "_law_names_here", "_law_hands", "_law_name", "_law_lender", "_law_post", "_law_marks", "_law_last", "_law_k", "_law_one", "_law_own"] rfl rfl rfl (by decide +kernel)) (fun _ _ _ _=>(@gB _ _ _ _ _ _ rfl (@bL _ _ _ _ _ (@bu _ _ 0 _ (show (gq ["_law_script", "_law_settings_here", "_law_cell", "_law_names_here", "_law_hands", "_law_name", "_law_lender", "_law_post", "_law_marks", "_law_last", "_law_k", "_law_one", "_law_own"] ["_law_mark", "_law_name"] [11]).Nodup by decide +kernel) rfl (by first | exact Or.inl rfl | exact Or.inr rfl) (by first | exact .inl rfl | exact .inr rfl | assumption)) (@bL _ _ _ _ _ (@bu _ _ 1 _ (show (gq ["_law_script", "_law_settings_here", "_law_cell", "_law_names_here", "_law_hands", "_law_name", "_law_lender", "_law_post", "_law_marks", "_law_last", "_law_k", "_law_one", "_law_own"] ["_law_mark", "_law_name"] [11]).Nodup by decide +kernel) rfl (by first | exact Or.inl rfl | exact Or.inr rfl) (by first | exact .inl rfl | exact .inr rfl | assumption)) (@fh _) (by rfl)) (by rfl)) (by rfl) (by rfl))) (fun _ _ _ _=>(@je _ _ _ (@aK _ _ _ _ _ _ _ _ (@bZ _) (@pv _ 1 _ _ (by rfl) (by first | exact Or.inl rfl | exact Or.inr (Or.inl rfl) | exact Or.inr (Or.inr rfl)) (by decide) (by decide)) (@pv _ 2 _ _ (by rfl) (by first | exact Or.inl rfl | exact Or.inr (Or.inl rfl) | exact Or.inr (Or.inr rfl)) (by decide) (by decide)) (@aO _ _ (by decide) (by decide))))) (fun _ _ _ _=>(@pv _ 0 _ _ (by rfl) (by first | exact Or.inl rfl | exact Or.inr (Or.inl rfl) | exact Or.inr (Or.inr rfl)) (by decide) (by decide))) (by with_unfolding_all rfl) (by first | exact .inl rfl | exact .inr rfl | assumption) (by intro _;rfl)) (@ao _ _ _ (@bf _ _ _ _ _ _ _ _ (@aK _ _ _ _ _ _ _ _ (@uN _ (hr.mono (NC _))) (@pv _ 12 _ _ (by rfl) (by first | exact Or.inl rfl | exact Or.inr (Or.inl rfl) | exact Or.inr (Or.inr rfl)) (by decide) (by decide)) (@aX _ _ _ _ _ _ _ _ _ Fw rfl BT.sorted L3.oq (@aa _ _ _ _ _ (@pv _ 12 _ _ (by rfl) (by first | exact Or.inl rfl | exact Or.inr (Or.inl rfl) | exact Or.inr (Or.inr rfl)) (by decide) (by decide)) (@af _) (by rfl)) (by decide) (by decide) (by rfl) (by rfl)) (@aO _ _ (by decide) (by decide))) (@ao _ _ _ (@aB _ _ _ _ (@eu _ _ _ _))) (@aJ _)))) (by intro _;rfl)) (@ao _ _ _ (@aB _ _ _ _ (@aH _ _ _ _ _ _ _ _ _ _ _ _ jy (hr.mono (by first | decide | omega)) NE.pass (@aa _ _ _ _ _ (@pv _ 6 _ _ (by rfl) (by first | exact Or.inl rfl | exact Or.inr (Or.inl rfl) | exact Or.inr (Or.inr rfl)) (by decide) (by decide)) (@aa _ _ _ _ _ (@pv _ 8 _ _ (by rfl) (by first | exact Or.inl rfl | exact Or.inr (Or.inl rfl) | exact Or.inr (Or.inr rfl)) (by decide) (by decide)) (@aa _ _ _ _ _ (@aQ _ _ _ _ _ (@pv _ 1 _ _ (by rfl) (by first | exact Or.inl rfl | exact Or.inr (Or.inl rfl) | exact Or.inr (Or.inr rfl)) (by decide) (by decide)) rfl) (@af _) (by rfl)) (by rfl)) (by rfl)) (by rfl) (by decide) (by rfl) (by rfl)))))))))))))))),?_⟩
 try dsimp only [aZ]
 have hnl:(nn.map V.int).length=nn.length:=Nh ..
 have L:=Led.start H (fun _=>False)
 walk_at "go"
 refine kP L hS h63 (by decide) fun p0 H1 n0 L s1=>?_
 have h2:=bx.at (L.at_ (p0,bx _) (by walk_at "mem"))
 clear L
 walk_at "go"
 refine ⟨p0,_,_,rfl,h2,by decide,fun ps sp c n far room term ws H3 hsg hstn hws o3=>?_⟩
 have s3:aI H H3:=o3.same s1 n0
 obtain ⟨n,rfl⟩:∃ k:Nat,n=(k:Int):=MU (by have:=hsg.2.2.s1;omega)
 have L:=Led.start H3 (fun _=>False)
 walk_at "go"
 refine kP L (s3.seq hS) h63 (by decide) fun p1 H4 n1' L s4=>?_
 walk_at "go"
 refine bg L .head (by decide) (by decide) (by decide) fun r1 H5 y0 y1 L ch1=>?_
 have h5:=bx.at (L.at_ (p1,bx _) (by walk_at "mem"))
 have s5:=L.same
 clear L
 walk_at "go"
 refine ⟨p1,_,2+r1,rfl,h5,by decide,by omega,by omega,fun nq ns H6 nnq hnq n1 n10 nn2 nod nem h6 o6=>?_⟩
 have s6:aI H3 H6:=o6.same s5 n1'
 have s36:=s3.trans s6
 have KH:=hsg.same s6
 walk_at "go"
 refine Fb fun hd nhd=>?_
 have s67:=b7 nhd (HO.dK [])
 have Mc:(upd H6 hd (.dK [])) hd=some (.dK []):=aE
 generalize upd H6 hd (.dK [])=H7 at *
 have h7:bh H7 p1 _:=dB h6 fun o e=>s67 _ _ e
 walk_at "go"
 refine cB (SqL.of (s67 _ _ hnq)) ?_
 refine iP (ns.map V.str) (fun i σ Hx=>∃ (u5:Option V) (hs:List Hs),σ=[some (.ref a),some (.ref ps),some (.ref p1),some (.ref nq),some (.ref hd),u5,none,none,none,none,none,none,none]∧Hv C CS CH H6 Hx hs∧hs.map (·.d.nm)=ns.take i∧(∀ y∈hs,y.ls=[]∧y.pl=some (0,0)∧y.d.ws=ws∧y.d.c=c∧y.d.s=n)∧Hx hd=some (.dK (dkv (hs.map (·.d))))∧bh Hx p1 (0+1024+8192)) ⟨_,[],rfl,⟨s67,(fun _ h=>by simp at h),(fun _ h=>by simp at h),List.Pairwise.nil,(fun _ h=>by simp at h)⟩,rfl,(fun _ h=>by simp at h),Mc,h7⟩ (fun i σ Hx _ ⟨_,_,_,VV,_⟩=>SqL.of (VV.sm _ _ hnq)) ?_ ?_
 ·rintro i v σ Hx hv ⟨u5,hs,rfl,VV,en,el,hdx,hpx⟩
  rw [Nb] at hv
  cases hz:ns[i]? with
  | none=>rw [hz] at hv;cases hv
  | some z=>
   rw [hz] at hv
   cases Nm hv
   have hil:=(List.getElem?_eq_some_iff.mp hz).1
   have hsl:hs.length=i:=by have:=congrArg List.length en;rw [Nh,Nf] at this;omega
   have LC:z∉(hs.map (·.d)).map (·.nm):=fun hzm=>by
    rw [List.map_map] at hzm
    have LQ:z∈ns.take i:=by rw [← en];exact hzm
    obtain ⟨k,hk,ek⟩:=M5 LQ
    rw [Nf] at hk
    rw [List.getElem_take] at ek
    have nd:=nod
    unfold List.Nodup at nd
    rw [List.pairwise_iff_getElem] at nd
    obtain ⟨_,ez⟩:=List.getElem?_eq_some_iff.mp hz
    exact nd k i (by omega) hil (by omega) (by rw [ek,ez])
   try dsimp only [bD]
   walk_at "go"
   refine B9 ?_
   walk_at "go"
   refine xx ?_
   walk_at "go"
   refine t7 (v:=.non) (ls:=[]) (.inl ⟨rfl,rfl⟩) (fun _ h=>(by simp at h)) (fun _ h=>(by simp at h)) (by decide) (KH.same VV.sm) fun x2 l2 H8 nx2 nl2 hd8 s8=>?_
   walk_at "go"
   have KN:=s8 _ _ hdx
   refine ⟨hd,_,rfl,wg.k (k:=Sum.inr z) KN (by unfold dkv;rw [Nh,Nh,hsl];exact small1000 (by omega)),?_⟩
   rw [DT LC]
   have o9:Oth hd H8 (upd H8 hd (.dK (dkv (hs.map (·.d))++[(Sum.inr z,.ref x2)]))):=fun b o e ne=>by rw [aF ne];exact e
   have hd9:(upd H8 hd (.dK (dkv (hs.map (·.d))++[(Sum.inr z,.ref x2)]))) hd=some (.dK (dkv (hs.map (·.d))++[(Sum.inr z,.ref x2)])):=aE
   have V8:=VV.snoc (x:=⟨⟨x2,l2,ps,sp,z,c,n,far,room,term,ws⟩,[],some (0,0)⟩) s8 nx2 nl2 hd8 ⟨fun _ h=>(by simp at h),xo (NF 0),NC _⟩
   have V9:=V8.dk KN nhd o9
   have hp9:bh _ p1 _:=dB hpx fun o e=>o9 _ _ (s8 _ _ e) fun z=>by obtain ⟨zs,hz⟩:=jn hpx;rw [z,hdx] at hz;cases hz
   walk_at "go"
   refine ⟨_,_,rfl,V9,by rw [Nj,en,take_snoc hz];rfl,fun y hy=>?_,by rw [hd9,Nj];unfold dkv;rw [Nj];rfl,hp9⟩
   rcases List.mem_append.mp hy with hy | hy
   ·exact el y hy
   ·rw [List.mem_singleton.mp hy];exact ⟨rfl,rfl,rfl,rfl,rfl⟩
 ·rintro σ Hx ⟨u5,hs,rfl,VV,en,el,hdx,hpx⟩
  rw [Nh,Ng] at en
  have hsl:hs.length=ns.length:=by have:=congrArg List.length en;rwa [Nh] at this
  walk_at "go"
  refine xx ?_
  walk_at "go"
  refine oJ (K:=K) (v:=.non) (gs:=[]) (.inl ⟨rfl,rfl⟩) (fun _ h=>(by simp at h)) ((KH.same VV.sm).sg hstn) fun x1 l1 H8 nx1 nl1 hd8 s8=>?_
  walk_at "go"
  refine zN fun pp lp H9 npp nlp hpo s9=>?_
  have L:=Led.start H9 (fun _=>False)
  walk_at "go"
  obtain ⟨ml,eml⟩:∃ z,z=l':=⟨_,rfl⟩
  subst eml
  obtain ⟨H10,eH10⟩:∃ z,z=H':=⟨_,rfl⟩
  subst eH10
  have hml:=L'.eo (p:=ml) (by walk_at "put")
  have Kc:=L'.same
  have nml:H9 ml=none:=n'
  clear L L'
  have LD:=s9.trans Kc
  have JY:=s8.trans LD
  have hc1 : 1≤c:=hsg.2.2.c1
  have KG:ws=w5:=hws rfl
  obtain ⟨d,ed,eps,edsp,edc,eds,edw,I9⟩:∃ d:Ld,d.p=x1∧d.ps=ps∧d.sp=sp∧d.c=c∧d.s=n∧d.ws=ws∧Ev K C CS CH CL CP H6 H9 hs d [] pp lp []:=by
   refine ⟨_,rfl,rfl,rfl,rfl,rfl,rfl,⟨(VV.sm.trans s8).trans s9,fun y hy=>((VV.hd y hy).same s8).same s9,VV.ok,VV.ne,fun y hy=>?_,VV.hn,hd8.same s9,⟨(fun _ h=>by simp at h),by decide⟩,bW VV.sm nl1,hpo,(fun _ h=>by simp at h),bW (VV.sm.trans s8) nlp,old_ne hd8.2.1 nlp⟩⟩
   have k:=(VV.hd y hy).2.1
   exact ⟨old_ne k nl1,old_ne (s8 _ _ k) nlp⟩
  have W0:Wv K C CS CH CL CP H6 H10 (hs.map (·.d)) d pp lp ml hd hs [] [] [] [] 0:=by
   refine ⟨I9.same Kc,rfl,⟨(fun i x h=>by simp at h),List.Pairwise.nil,(fun _ h=>by simp at h),(fun _ h=>by simp at h),fun y hy=>HZ.first (el y hy).1 (el y hy).2.1 (by rw [edc];exact hc1),(fun _ h=>by simp at h),(fun _ h=>by simp at h),(fun _ h=>by simp at h),by rw [en];exact nod,List.Pairwise.nil⟩,NB _,NB _,fun y hy=>by rw [(el y hy).1];exact NB _,NB _,⟨hml,rfl,(fun i t m h=>by simp at h),JY _ _ hdx⟩,I9.sep nml,bW I9.sm nml,fun y hy=>⟨Snd.w5 (by rw [(el y hy).2.2.1,KG]) (by rw [(el y hy).2.2.2.1,edc]) (by rw [(el y hy).2.2.2.1];exact hc1),by rw [(el y hy).2.2.2.2,eds]⟩,by rw [edw,KG];unfold w5;decide +kernel⟩
  subst ed
  obtain ⟨HB,eHB⟩:∃ HB:Hp,HB=fun q=>if q=p1 then none else H6 q:=⟨_,rfl⟩
  have sB:aI HB H6:=fun q o e=>by
   rw [eHB] at e
   dsimp only at e
   split at e
   ·cases e
   ·exact e
  have np1:H p1=none:=bW s3 n1'
  have sHB:aI H HB:=fun q o e=>by
   rw [eHB]
   show (if q=p1 then none else H6 q)=some o
   rw [if_neg (aG e np1)]
   exact s36 _ _ e
  have nqp:nq≠p1:=fun z=>by
   obtain ⟨zs,hz⟩:=jn h5
   rw [← z,nnq] at hz;cases hz
  have HS:HB nq=some (.lst (((hs.map (·.d)).map (·.nm)).map V.str)):=by
   rw [show (hs.map (·.d)).map (·.nm)=ns by rw [List.map_map];exact en,eHB]
   show (if nq=p1 then none else H6 nq)=_
   rw [if_neg nqp];exact hnq
  have npB:HB p1=none:=by rw [eHB];exact if_pos rfl
  have WB:=W0.rest sB
  have h10:bh H10 p1 _:=dB hpx fun o e=>JY _ _ e
  clear eHB
  have L:=bU h10
  walk_at "go"
  refine bg L .head (by decide) (by decide) (by decide) fun la0 H11 a0 a1 L _=>?_
  have W11:=WB.oth h10 npB L.fr
  clear L
  walk_at "go"
  refine dQ ((sHB.trans W11.ev.sm).seq hS) ?_
  rw [hnl]
  walk_at "go"
  refine B8 (fun i σ Hx=>∃ (la:Int) (u5 u10:Option V) (hs1:List Hs) (gs:List Gr) (ts:Lts) (ms:List Mr) (mt:List Addr),σ=[some (.ref a),some (.ref ps),some (.ref p1),some (.ref nq),some (.ref hd),u5,some (.ref d.p),some (.ref pp),some (.ref ml),some (.int la),u10,none,none]∧Wv K C CS CH CL CP HB Hx (hs.map (·.d)) d pp lp ml hd hs1 gs ts ms mt i∧0≤la∧la≤2000000000000000000000000000000+(i:Int)) ⟨la0,_,_,hs,[],[],[],[],rfl,W11,a0,by omega⟩ ?_ ?_
  ·rintro i σ Hx hin ⟨la,u5,u10,hs1,gs,ts,ms,mt,rfl,W,l0,l1⟩
   have hdl:(hs.map (·.d)).length=ns.length:=by rw [Nh,hsl]
   try dsimp only [bD]
   refine cR (fun σ Hz=>∃ (la:Int) (u10:Option V) (hs1:List Hs) (gs:List Gr) (ts:Lts) (ms:List Mr) (mt:List Addr),σ=[some (.ref a),some (.ref ps),some (.ref p1),some (.ref nq),some (.ref hd),u5,some (.ref d.p),some (.ref pp),some (.ref ml),some (.int la),u10,none,none]∧Wv K C CS CH CL CP HB Hz (hs.map (·.d)) d pp lp ml hd hs1 gs ts ms mt (i+1)∧0≤la∧la≤2000000000000000000000000000000+((i+1:Nat):Int)) (fun nx kk=>?_) ?_
   ·have L:=Led.start Hx (fun _=>False)
    walk_at "go"
    refine kP L ((sHB.trans W.ev.sm).seq hS) h63 (by omega) fun p H12 np L s12=>?_
    have h12:=bx.at (L.at_ (p,bx _) (by walk_at "mem"))
    clear L
    walk_at "go"
    refine ⟨HB,hs.map (·.d),d,pp,lp,ml,hd,nq,p,la,hs1,gs,ts,ms,mt,i,rfl,W.same s12,HS,by omega,by omega,by omega,h12,bW W.ev.sm np,l0,by omega,fun v hs2 gs2 ts2 ms2 mt2 H13 W13=>?_,fun c dx hs2 gs2 ts2 ms2 mt2 H13 hc W13=>?_⟩
    ·walk_at "go"
     exact kk _ _ ⟨la,_,hs2,gs2,ts2,ms2,mt2,rfl,W13,l0,by omega⟩
    ·refine IK (et c hc) ?_
     walk_at "go"
     exact kk _ _ ⟨la+1,_,hs2,gs2,ts2,ms2,mt2,rfl,W13,by omega,by omega⟩
   rintro σ H13 ⟨la,u10,hs1,gs,ts,ms,mt,rfl,W,l0,l1⟩
   have L:=Led.start H13 (fun _=>False)
   walk_at "go"
   have W14:=W.same L'.same
   have Mb:=L'.eo (p:=l') (by walk_at "put")
   clear L
   refine GA (e:=.lst []) (.lst (SqL.of W14.mv.hm) (wY mt ms W14.mv.len W14.mv.mz)) (.lst (SqL.of Mb) .nil) (by have:=wX ms;simp only [dep];omega) ?_
   obtain ⟨H14,eH14⟩:∃ z,z=H':=⟨_,rfl⟩
   subst eH14
   clear L'
   by_cases cm:ms=[]
   ·subst cm
    rw [show (!eqD (.lst (List.map mD [])) (.lst []))=false from rfl]
    walk_at "go"
    exact ⟨la,_,_,hs1,gs,ts,[],mt,rfl,W14,l0,l1⟩
   ·have hmt:mt≠[]:=fun z=>cm (by have:=W14.mv.len;rw [z] at this;exact List.length_eq_zero_iff.mp this.symm)
    obtain ⟨mt',t,rfl⟩:∃ mt' t,mt=mt'++[t]:=⟨mt.dropLast,mt.getLast hmt,(List.dropLast_concat_getLast hmt).symm⟩
    have hlt:=W14.mv.len
    rw [M6,MW] at hlt
    obtain ⟨m,hm⟩:∃ m,ms[mt'.length]?=some m:=⟨_,MT (by omega)⟩
    have htm:=W14.mv.mz mt'.length t m (by rw [MO (NB _),Nv];rfl) hm
    have hz:=W14.zi.msz m (M0 hm)
    obtain ⟨g0,⟨_,_,hg0⟩,x1,x2,x3,x4⟩:=hz.gr
    have hge:=(W14.zi.gsl g0 (M0 hg0)).2
    have l30:iN=1000000000000000000000000000000:=rfl
    obtain ⟨q1,q2,q3⟩:=sd (mo:=m.mo) hz.sl hz.k
    rw [← hz.eq] at q1 q2 q3
    have hv0 : 0≤m.v:=by
     rw [hz.eq]
     unfold mk
     have a1 : 0≤m.mo * (d.s:Int):=Int.mul_nonneg hz.m0 (by omega)
     have a2 : 0≤(m.mo * (d.s:Int)+m.sl) * d.c:=Int.mul_nonneg (by have:=hz.sl.1;omega) (by have:=hz.k;omega)
     have:=hz.k.1
     omega
    have hsh:=W14.ev.ld.2.2.2
    obtain ⟨dxs,trs,mss,hps,_⟩:=hsh.st
    rw [eps] at hps
    have Gv:=W14.mv.hm
    rw [Nj] at Gv
    rw [show (!eqD (.lst (ms.map mD)) (.lst []))=true by
     cases ms with
     | nil=>exact absurd rfl cm
     | cons x xs=>rfl]
    walk_at "go"
    refine ⟨ps,CS,dxs,_,_,rfl,hps,SS.cl,SS.n1,fD _ _ _ _ _,?_⟩
    have L:=(Led.start H14 (fun _=>False)).more (aS t [_,_]) htm
    walk_at "go"
    refine fq (SqL.of Gv) (Cz _ _) ?_
    walk_at "go"
    clear L
    refine ⟨d.sp,d.c,d.s,m.v,rfl,hsh.ok,hsh.sh,hv0,fun t2 H15 nt2 ht2 s15=>?_⟩
    rw [q1,q2,q3] at ht2
    have L:=(Led.start H15 (fun _=>False)).more (aS t2 [_,_,_]) ht2
    walk_at "go"
    exact ⟨_,_,_,hs1,gs,ts,ms,_,rfl,W14.same s15,by omega,by omega⟩
  ·rintro σ Hx ⟨la,u5,u10,hs1,gs,ts,ms,mt,rfl,W,l0,l1⟩
   have ME:(min 62 (nn.length:Int) - 2).toNat≤60:=by omega
   generalize (min 62 (nn.length:Int) - 2).toNat=N at *
   have L0:ms.length≤60:=by have:=W.nl;omega
   have LY:=W.mv.len
   walk_at "go"
   refine yY ?_
   walk_at "go"
   refine cB (SqL.of W.mv.hm) ?_
   refine dR (mt.map V.ref) (fun i ys Hz=>ys=((ms.take i).map (·.v)).map V.int∧Hz=Hx) ⟨rfl,rfl⟩ (fun i ys Hz hi ⟨e,e2⟩=>⟨e2▸SqL.of W.mv.hm,by
    rw [e,Nh,Nh,Nf]
    exact Nr (small1000 (by omega))⟩) ?_ ?_
   ·rintro i v ys Hz hv ⟨rfl,rfl⟩
    rw [Nb] at hv
    cases ht:mt[i]? with
    | none=>rw [ht] at hv;cases hv
    | some t=>
     rw [ht] at hv
     cases Nm hv
     have hi:=(List.getElem?_eq_some_iff.mp ht).1
     obtain ⟨m,hm⟩:∃ m,ms[i]?=some m:=⟨_,MT (by omega)⟩
     have L:=(Led.start Hz (fun _=>False)).more (aS t [_,_]) (W.mv.mz i t m ht hm)
     try dsimp only [bD]
     walk_at "go"
     exact ⟨by rw [take_snoc hm,Nj,Nj];rfl,rfl⟩
   rintro ys Hz ⟨rfl,rfl⟩ lc nlc
   rw [Nh,List.take_of_length_le (by omega)]
   have s1':=b7 nlc (HO.lst ((ms.map (·.v)).map V.int))
   have hlc:(upd Hz lc (.lst ((ms.map (·.v)).map V.int))) lc=some (.lst ((ms.map (·.v)).map V.int)):=aE
   generalize upd Hz lc (.lst ((ms.map (·.v)).map V.int))=HZ1 at *
   refine ⟨lc,ms.map (·.v),rfl,SqL.of hlc,by rw [Nh];omega,?_⟩
   rw [ki _ [] W.zi.apart (fun _ _ h=>by simp at h)]
   have W1:=W.same s1'
   walk_at "go"
   refine dQ (SqL.of W1.mv.hm) ?_
   walk_at "go"
   refine cB (SqL.of (W1.ev.sm _ _ HS)) ?_
   refine iP (((hs.map (·.d)).map (·.nm)).map V.str) (fun i σ Hy=>∃ u11 u12:Option V,σ=[some (.ref a),some (.ref ps),some (.ref p1),some (.ref nq),some (.ref hd),u5,some (.ref d.p),some (.ref pp),some (.ref ml),some (.int la),u10,u11,u12]∧aI HZ1 Hy) ⟨_,_,rfl,aI.refl _⟩ (fun i σ Hy _ ⟨_,_,_,sy⟩=>SqL.of (sy _ _ (W1.ev.sm _ _ HS))) ?_ ?_
   ·rintro i v σ Hy hv ⟨u11,u12,rfl,sy⟩
    obtain ⟨z,rfl⟩:∃ z,v = .str z:=by
     obtain ⟨z,_,e⟩:=List.mem_map.mp (M0 hv)
     exact ⟨z,e.symm⟩
    have Wy:=W1.same sy
    try dsimp only [bD]
    walk_at "go"
    refine cB (SqL.of Wy.mv.hm) ?_
    refine dR (mt.map V.ref) (fun k ys Hw=>ys=(((ms.take k).filter fun m=>decide (m.nm=z)).map (·.v)).map V.int∧Hw=Hy) ⟨rfl,rfl⟩ (fun k ys Hw hk ⟨e,e2⟩=>⟨e2▸SqL.of Wy.mv.hm,by
     rw [e,Nh,Nh]
     have:=List.length_filter_le (fun m:Mr=>decide (m.nm=z)) (ms.take k)
     rw [Nf] at this
     exact Nr (small1000 (by omega))⟩) ?_ ?_
    ·rintro k v ys Hw hv ⟨rfl,rfl⟩
     rw [Nb] at hv
     cases ht:mt[k]? with
     | none=>rw [ht] at hv;cases hv
     | some t=>
      rw [ht] at hv
      cases Nm hv
      have hi:=(List.getElem?_eq_some_iff.mp ht).1
      obtain ⟨m,hm⟩:∃ m,ms[k]?=some m:=⟨_,MT (by omega)⟩
      have L:=(Led.start Hw (fun _=>False)).more (aS t [_,_]) (Wy.mv.mz k t m ht hm)
      try dsimp only [bD]
      walk_at "go"
      refine bF (fun c1=>?_) (fun c1=>?_)
      ·walk_at "go"
       exact ⟨by rw [pX hm (Np c1),Nj,Nj];rfl,rfl⟩
      ·exact ⟨by rw [pY hm (Nn c1)],rfl⟩
    rintro ys Hw ⟨rfl,rfl⟩ lo nlo
    rw [Nh,List.take_of_length_le (by omega)]
    have up:=G8 W.zi.ris z
    have hol:((ms.filter fun m=>decide (m.nm=z)).map (·.v)).length≤60:=by
     rw [Nh]
     exact Nq (List.length_filter_le _ _) L0
    generalize (ms.filter fun m=>decide (m.nm=z)).map (·.v)=own at *
    have s2':=b7 nlo (HO.lst (own.map V.int))
    have hlo:(upd Hw lo (.lst (own.map V.int))) lo=some (.lst (own.map V.int)):=aE
    generalize upd Hw lo (.lst (own.map V.int))=HV at *
    have L:=Led.start HV (fun _=>False)
    walk_at "go"
    refine EY L (SqL.of hlo) (by omega) up fun b2 H5 nb2 L5 s5=>?_
    walk_at "go"
    refine Iw (d:=.lst (own.map Dt.int)) (.lst (SqL.of (s5 _ _ hlo)) (lJ own)) (.lst (SqL.of (L5.eo .head)) (lJ own)) (by have:=sC own;simp only [dep];omega) ?_
    walk_at "go"
    exact ⟨_,_,rfl,(sy.trans s2').trans s5⟩
   ·rintro σ Hy ⟨u11,u12,rfl,sy⟩
    have Wy:=W1.same sy
    have hsh:=Wy.ev.ld.2.2.2
    obtain ⟨dxs,trs,mss,hps,_⟩:=hsh.st
    rw [eps] at hps
    walk_at "go"
    refine ⟨ps,CS,dxs,_,_,rfl,hps,SS.cl,SS.n1,fD _ _ _ _ _,?_⟩
    walk_at "go"
    exact ⟨HB,_,d,pp,lp,ml,hd,hs1,gs,ts,ms,mt,N,rfl,Wy,by omega,q⟩
end
open PySem.W in
theorem IY {K:Frag} {h:Heap} {mg:Str→Option Value} {CL:Addr} (X:K.In h) (G:h.Ns mainGlobals mg) (WL:ExW K mg "NoLetter" "NoLetter.__init__" CL (inClass (top 10) 0) ["self", "number"]) (tk:takerIn K CL "number" = some none):∃ CL:Addr,ExW K mg "NoLetter" "NoLetter.__init__" CL (inClass (top 10) 0) ["self", "number"]∧ng K CL "number" := ⟨CL,WL,WL.put tk⟩
open PySem.W in
theorem zP {K:Frag} {h:Heap} {mg:Str→Option Value} {x:Str} {a:Addr} {dd:Option Addr} {its:Array Value} {n:Nat} {sl:Array (Option Value)} {xs:List V} (X:K.In h) (G:h.Ns mainGlobals mg)
  (n1:nsIn K mainGlobals x=some (some (.ref a))) (n2:K.lookup a=some ⟨.type "tuple",dd,.seq its n,sl⟩) (n3:Vals xs its.toList) (hz:its.size≤sizeLine):∃ aN,GlV mg x (.ref aN)∧∀ H,SqT K H aN xs:=
 ⟨a,⟨_,mg_of X G n1,rfl⟩,fun _=>.inr ⟨_,its,n,n2,rfl,rfl,hz,n3⟩⟩
end Law
open PySem PySem.W PyProof.Rows
local macro_rules | `(tactic| walk_at "dat")=>`(tactic| (dsimp only [L2.KOf];refine' L3.dat_mk KX G ?a ?l ?c ?k ?b;(case a=>k_is);(case l=>k_is);(case c=>k_is);(case k=>k_is);(case b=>first | exact (fun _ _ _ _ _ _ us hl=>match us,hl with | [_],_=>rfl) | exact (fun _ _ _ _ _ _ us hl=>match us,hl with | [_,_],_=>rfl) | exact (fun _ _ _ _ _ _ us hl=>match us,hl with | [_,_,_],_=>rfl) | exact (fun _ _ _ _ _ _ us hl=>match us,hl with | [_,_,_,_],_=>rfl) | exact (fun _ _ _ _ _ _ us hl=>match us,hl with | [_,_,_,_,_],_=>rfl))))
namespace PySem.W.Fast
def tw15847662357834361130:=()
def tw8074676714576342183:=()
def tw11841254786043214682:=()
def tw11697247668966121889:=()
def tw11964062287493365399:=()
def tw17219356214014142398:=()
def tw598836217816553638:=()
def tw4514984294983099949:=()
def tw3932956915295243775:=()
def tw11982870071600989585:=()
def tw13113632473949214710:=()
def tw704260663720965851:=()
def tw16696685795224860598:=()
def tw348031518318350460:=()
def tw7567706788635898092:=()
def tw8030687573626766580:=()
def tw4363832732719072301:=()
def tw4959066135601071399:=()
def tw7584424198139107372:=()
def tw5850012025900065071:=()
def tw8833731905918499567:=()
def tw1603628592173396928:=()
def tw5000313432205490171:=()
def tw732279068589733664:=()
def tw4180070768492713484:=()
def tw1907115289078852174:=()
def tw12740969412807639155:=()
def tw8145127747645223417:=()
def tw16330576368041093619:=()
def tw1630845483586800066:=()
def tw18027559805650043139:=()
def tw7940850141861706792:=()
def tw13035068751646710519:=()
def tw10915966268432691796:=()
def tw8063534266940377246:=()
def tw15998401697005997837:=()
def tw7005058928119634200:=()
def tw3407434856686171529:=()
def tw11407142518003912748:=()
def tw7877506816240773251:=()
def tw13527618929658299724:=()
def tw3728846731901572582:=()
def tw4052830281959641989:=()
def tw1649110410937469766:=()
def tw15811966269814206093:=()
def tw7452253883686781392:=()
def tw78188425325676897:=()
def tw13338309346871561690:=()
def tw6290826829774892398:=()
def tw13849813595651620658:=()
def tw2450431876635273239:=()
def tw16676796051018056933:=()
def tw15781761918500006882:=()
def tw6670567075223302810:=()
def tw9353838550969785370:=()
def tw10666354394656579897:=()
def tw14625428429704320889:=()
def tw9602979435497472235:=()
def tw5180051808045481997:=()
def tw18162047675956026602:=()
def tw14380731572556668638:=()
def tw2083737539103975089:=()
def tw8681047835936105393:=()
def tw6556689987942623700:=()
def tw1186307513168775050:=()
def tw3159646247621101454:=()
def tw6550940007195078919:=()
def tw12177473878738929333:=()
def tw13267894566396136102:=()
def tw17987392442939035165:=()
def tw17216200817947673257:=()
def tw13684574024850157408:=()
def tw78821924415870819:=()
def tw15602938626984530602:=()
def tw12078643467314938215:=()
def tw17515997161359691252:=()
def tw12259483574788392434:=()
def tw17482996338929998756:=()
def tw15334037669321494812:=()
def tw6661828513989768930:=()
def tw10456069966766970148:=()
def tw7945449531497226579:=()
def tw7418699536175714597:=()
def tw9737768590975033692:=()
def tw1584714406535520075:=()
def tw12117556654560488283:=()
def tw5879208511411901652:=()
def tw14956431872370166422:=()
def tw12066477502078410256:=()
def tw15440426405798731000:=()
def tw5752580356364243472:=()
def tw16240570607910268340:=()
def tw4711421253263655661:=()
def tw15552381085870743855:=()
def tw10886231771475359047:=()
def tw7481750474890919790:=()
def tw8508725784224077529:=()
def tw15321285237129892445:=()
def tw5993544369022068637:=()
def tw6391418147763141149:=()
def tw8245688438407669693:=()
def tw1624538846672197635:=()
def tw5317833593040532315:=()
def tw18264294554519749253:=()
def tw17117771211150913342:=()
def tw16956485374380178191:=()
def tw1379873250835136027:=()
def tw14915010543800161047:=()
def tw6190721453366094343:=()
def tw4127904158446584627:=()
def tw15975819577911158110:=()
def tw3369015766373836681:=()
def tw16685189709448716864:=()
def tw16379366799159712756:=()
def tw11439456601765461810:=()
def tw1019698124944313393:=()
def tw7131238415648560026:=()
def tw588272739995931497:=()
def tw5465905323287951113:=()
def tw3929512528093283736:=()
def tw2724236957432291587:=()
def tw12792694570396609133:=()
def tw11554146679625603131:=()
def tw14356593633367319255:=()
def tw15147392190638096295:=()
def tw6998866789536470107:=()
def tw8326816383334130339:=()
def tw5850536437545383829:=()
def tw16764531658241638878:=()
def tw16584236715083800802:=()
def tw17171453047575904888:=()
def tw9678486720174413296:=()
def tw5008434826017728092:=()
def tw18147579391991455409:=()
def tw6117305577840017664:=()
def tw10973564710874053474:=()
def tw17438417485900633635:=()
def tw16749646883742906240:=()
def tw13968157014521341941:=()
def tw17117010873212037454:=()
def tw4708649832971602304:=()
def tw9403551196498068881:=()
def tw257684990810156246:=()
def tw14750142952444014976:=()
def tw17176540869206649860:=()
def tw2840236465062741716:=()
def tw15373160363954306338:=()
def tw12920229673719844222:=()
def tw4651433333126834154:=()
def tw5790634362162508399:=()
def tw247480285546806300:=()
def tw17167296709949305971:=()
def tw15847909418655635248:=()
def tw13438121497268355497:=()
def tw4347826394011188160:=()
def tw11148095466380804516:=()
def tw2088431516330304250:=()
def tw18392086846277437229:=()
def tw9179399402559924371:=()
def tw7322092156979056443:=()
def tw16041263492244154882:=()
def tw755082940277245293:=()
def tw722276706633089567:=()
def tw3709440471722110664:=()
def tw15038462495237852137:=()
def tw14296255883533907257:=()
def tw9575659655819335071:=()
def tw10727094096236789629:=()
def tw15369493149930318223:=()
def tw9509235028959489705:=()
def tw2850342210587548701:=()
def tw2049958512545679740:=()
def tw12797091080375185241:=()
def tw4522036074273992128:=()
def tw16015700871145345729:=()
def tw5809418788155943934:=()
def tw10916435006267681653:=()
def tw7647508262297348498:=()
def tw16713688567114560471:=()
def tw7913349046262510642:=()
def tw3081216214694251113:=()
def tw2634871268199667790:=()
def tw647235055657686776:=()
def tw3397153198064866856:=()
def tw6331075924513356697:=()
def tw17728520673205481143:=()
def tw17062412382755389568:=()
def tw10243377930005887688:=()
def tw913054235527152943:=()
def tw7251199530720399446:=()
def tw12160023019453190866:=()
def tw14480038694132196619:=()
def tw5028991972039248186:=()
def tw16396669989696733234:=()
def tw5091655828957312773:=()
def tw17669558901517263841:=()
def tw9914504979578391174:=()
def tw7619885153945137128:=()
def tw10469477776966093190:=()
def tw18262882761672703442:=()
def tw11509302035686840807:=()
def tw15991621503613414683:=()
def tw11736458284515863070:=()
def tw18073660510039435380:=()
def tw1789493459077793177:=()
def tw8321338439348600654:=()
end PySem.W.Fast
set_option maxHeartbeats 0 in
theorem PySem.Challenge.cw_risemarks_k57_whole_letters_in_any_order_holds : PySem.Challenge.rw_risemarks_k57_whole_letters_in_any_order.Holds := by
 w_on;o_law;k_head;(case hw=>w_witness2)
 k_fill
 refine L4.zL (l:=PySem.Challenge.rw_risemarks_k57_whole_letters_in_any_order) (n:=63) (k:=16) (x:="_law_script") (CX:=L4.CX1) (sp:=Law.Ga) rfl (by decide) rfl ⟨rfl,by decide,by decide⟩ (fun w h Y=>PySem.W.kIn_of Y) ?F ?S ?C
 case S=>exact fun K H a ns hl hO hS=>⟨a,ns,rfl,hS,hl,fun _=>rfl⟩
 case C=>exact fun P w H s e s' z=>L4.u0 _ _ _ _ _ z
 case F=>
  intro w mg fa h KX G hmg
  have BT:L3.Bt mg:=by
   refine' ⟨?_,?_,?_,?_,?_,?_,?_,?_,?_,?_,?_,?_,?_,?_,?_,?_,?_,?_⟩ <;> refine' PySem.W.mg_none_of KX G ?_ <;> k_is
  have vY:L3.Dat (L2.KOf KX) mg "is_whole" "is_whole" (Law.top 16) ["thing"]:=by walk_at "dat"
  have kF:L3.Dat (L2.KOf KX) mg "is_whole_from" "is_whole_from" (Law.top 17) ["thing", "least"]:=by walk_at "dat"
  have zE:L3.Dat (L2.KOf KX) mg "is_side" "is_side" (Law.top 18) ["thing"]:=by walk_at "dat"
  have zC:L3.Dat (L2.KOf KX) mg "mark_of" "mark_of" (Law.top 20) ["shape", "moment", "slot", "count"]:=by walk_at "dat"
  have zD:L3.Dat (L2.KOf KX) mg "is_span" "is_span" (Law.top 43) ["thing", "least"]:=by walk_at "dat"
  have zF:L3.Dat (L2.KOf KX) mg "is_rule" "is_rule" (Law.top 44) ["thing"]:=by walk_at "dat"
  have tT:L3.Dat (L2.KOf KX) mg "are_rules" "are_rules" (Law.top 45) ["thing"]:=by walk_at "dat"
  have mH:L3.Dat (L2.KOf KX) mg "has_rule" "has_rule" (Law.top 47) ["settings", "word"]:=by walk_at "dat"
  have oF:L3.Dat (L2.KOf KX) mg "slot_of" "slot_of" (Law.top 23) ["area"]:=by walk_at "dat"
  have mK:L3.Dat (L2.KOf KX) mg "first_of" "first_of" (Law.top 24) ["area"]:=by walk_at "dat"
  have tS:L3.Dat (L2.KOf KX) mg "end_of" "end_of" (Law.top 25) ["area"]:=by walk_at "dat"
  have mL:L3.Dat (L2.KOf KX) mg "ended_at" "ended_at" (Law.top 26) ["area", "end"]:=by walk_at "dat"
  have zA:L3.Dat (L2.KOf KX) mg "read_on" "read_on" (Law.top 35) ["told", "line"]:=by walk_at "dat"
  have tP:L3.Dat (L2.KOf KX) mg "read_note" "read_note" (Law.top 36) ["lines"]:=by walk_at "dat"
  have vV:L3.Dat (L2.KOf KX) mg "tooks_of" "tooks_of" (Law.top 38) ["lines"]:=by walk_at "dat"
  have jV:L3.Dat (L2.KOf KX) mg "greatest_taken" "greatest_taken" (Law.top 39) ["lines"]:=by walk_at "dat"
  have we:L3.Dat (L2.KOf KX) mg "bound_of" "bound_of" (Law.top 28) ["place"]:=by walk_at "dat"
  have CZ:L3.Dat (L2.KOf KX) mg "raised" "raised" (Law.top 29) ["place", "bound"]:=by walk_at "dat"
  have qv:L3.Dat (L2.KOf KX) mg "next_place" "next_place" (Law.top 30) ["shape", "place"]:=by walk_at "dat"
  have tR:L3.Dat (L2.KOf KX) mg "moment_at" "moment_at" (Law.top 31) ["area", "place", "reading"]:=by walk_at "dat"
  have JJ:L3.Dat (L2.KOf KX) mg "made" "made" (Law.top 32) ["shape", "far", "area", "place", "reading"]:=by walk_at "dat"
  have v9:L3.Dat (L2.KOf KX) mg "grant_in" "grant_in" (Law.top 49) ["stand"]:=by walk_at "dat"
  have zK:L3.Dat (L2.KOf KX) mg "area_in" "area_in" (Law.top 50) ["stand"]:=by walk_at "dat"
  have zG:L3.Dat (L2.KOf KX) mg "held_in" "held_in" (Law.top 51) ["stand"]:=by walk_at "dat"
  have vZ:L3.Dat (L2.KOf KX) mg "heard_in" "heard_in" (Law.top 52) ["stand"]:=by walk_at "dat"
  have vW:L3.Dat (L2.KOf KX) mg "start_by" "start_by" (Law.top 53) ["note"]:=by walk_at "dat"
  have zB:L3.Dat (L2.KOf KX) mg "need_up" "need_up" (Law.top 54) ["place"]:=by walk_at "dat"
  have tQ:L3.Dat (L2.KOf KX) mg "need_area" "need_area" (Law.top 55) ["area"]:=by walk_at "dat"
  have zI:L3.Dat (L2.KOf KX) mg "falling" "falling" (Law.top 56) ["stand"]:=by walk_at "dat"
  have CY:L3.Dat (L2.KOf KX) mg "rising" "rising" (Law.top 57) ["stand"]:=by walk_at "dat"
  have CV:L3.Dat (L2.KOf KX) mg "taking" "taking" (Law.top 58) ["settings", "stand", "grant", "area"]:=by walk_at "dat"
  have zH:L3.Dat (L2.KOf KX) mg "hearing" "hearing" (Law.top 62) ["settings", "stand", "bound"]:=by walk_at "dat"
  have C1:L3.Dat (L2.KOf KX) mg "giving" "giving" (Law.top 63) ["settings", "stand"]:=by walk_at "dat"
  have jU:L3.Dat (L2.KOf KX) mg "mark_and_place" "mark_and_place" (Law.top 59) ["settings", "stand", "reading"]:=by walk_at "dat"
  have zy:L3.Dat (L2.KOf KX) mg "writing" "writing" (Law.top 60) ["settings", "stand", "reading"]:=by walk_at "dat"
  have C0:L3.Dat (L2.KOf KX) mg "making" "making" (Law.top 61) ["settings", "stand", "reading"]:=by walk_at "dat"
  have zJ:L3.Dat (L2.KOf KX) mg "area_of" "area_of" (Law.top 37) ["lines"]:=by walk_at "dat"
  have tW:L3.Dat (L2.KOf KX) mg "_law_hand" "_law_hand" (Law.top 72) ["_law_script", "_law_k"]:=by walk_at "dat"
  have tV:L3.Dat (L2.KOf KX) mg "_law_pick" "_law_pick" (Law.top 73) ["_law_hand_here", "_law_many"]:=by walk_at "dat"
  have mJ:L3.Dat (L2.KOf KX) mg "free_moments" "free_moments" (Law.top 67) ["slots", "grants"]:=by walk_at "dat"
  have wc:L3.Dat (L2.KOf KX) mg "for_whom" "for_whom" (Law.top 70) ["letter"]:=by walk_at "dat"
  have vX:L3.Dat (L2.KOf KX) mg "parts_of" "parts_of" (Law.top 21) ["shape", "mark"]:=by walk_at "dat"
  have qy:L3.Dat (L2.KOf KX) mg "_law_names" "_law_names" (Law.top 75) ["_law_cell", "_law_many"]:=by walk_at "dat"
  have kG:L3.Dat (L2.KOf KX) mg "_law_settings" "_law_settings" (Law.top 76) ["_law_cell", "_law_sound"]:=by walk_at "dat"
  have qz:L3.Dat (L2.KOf KX) mg "_law_clock" "_law_clock" (Law.top 77) ["_law_cell", "_law_last"]:=by walk_at "dat"
  have tU:L3.Dat (L2.KOf KX) mg "_law_sent" "_law_sent" (Law.top 79) ["_law_post", "_law_hand_here", "_law_other", "_law_way"]:=by walk_at "dat"
  have mO:L3.Dat (L2.KOf KX) mg "_law_carried" "_law_carried" (Law.top 78) ["_law_post", "_law_hands", "_law_lender", "_law_cell"]:=by walk_at "dat"
  have tX:L3.Dat (L2.KOf KX) mg "_law_deed" "_law_deed" (Law.top 80) ["_law_post", "_law_hands", "_law_lender", "_law_names_here", "_law_cell", "_law_marks", "_law_last"]:=by
   dsimp only [L2.KOf]
   refine' L3.dat_mk KX G ?a ?l ?c ?k ?b
   (case a=>k_is);(case l=>k_is);(case c=>k_is);(case k=>k_is)
   (case b=>exact fun _ _ _ _ _ _ us hl=>match us,hl with | [_,_,_,_,_,_,_],_=>rfl)
  have jB:L3.Dat (L2.KOf KX) mg "_law_areas_good" "_law_areas_good" (Law.top 81) ["_law_lender", "_law_marks", "_law_shape"]:=by walk_at "dat"
  have Ly:L3.Dat (L2.KOf KX) mg "law" "law" (Law.top 82) ["_law_script"]:=by walk_at "dat"
  obtain ⟨C,D_Shape,nc,ns⟩:∃ C,L3.nh (L2.KOf KX) mg "Shape" "Shape.__init__" C (L2.inClass (Law.top 19) 0) ["self", "counts", "slots"]∧L2.aY (L2.KOf KX) C "counts" ∧ L2.aY (L2.KOf KX) C "slots" := by
   dsimp only [L2.KOf]
   refine' ⟨_,L3.xE KX G ?aC ?a ?i ?l ?c ?k ?pg ?hd ?po ?sa ?mk ?kc ?b,?n1,?n2⟩
   (case aC=>k_is);(case a=>k_is);(case i=>k_is);(case l=>k_is);(case c=>k_is);(case k=>k_is);(case pg=>k_is);(case hd=>k_is);(case po=>k_is);(case sa=>k_is);(case mk=>k_is);(case kc=>k_is)
   (case n1=>unfold L2.aY;k_is);(case n2=>unfold L2.aY;k_is)
   (case b=>exact fun _ _ _ _ _ _ us hl=>match us,hl with | [_,_,_],_=>rfl)
  have SC:Law.ShC (L2.KOf KX) C:=⟨D_Shape.cls,nc,ns⟩
  have vv:L3.GlV mg "GREATEST_SIDE" (.int 1000):=by
   refine' ⟨_,PySem.W.mg_of KX G ?_,?_⟩
   rotate_left
   ·k_is
   ·exact ⟨_,rfl⟩
  have vt:L3.GlV mg "GREATEST_SPAN" (.int 1000000000000):=by
   refine' ⟨_,PySem.W.mg_of KX G ?_,?_⟩
   rotate_left
   ·k_is
   ·exact ⟨_,rfl⟩
  obtain ⟨CS,D_Settings,n1,n2,n3,n4,n5⟩:∃ C,L4.oG (L2.KOf KX) mg "Settings" "Settings.__init__" C (L2.inClass (Law.top 46) 0) ["self", "shape", "far", "room", "term", "rules"]∧L2.aY (L2.KOf KX) C "shape" ∧ L2.aY (L2.KOf KX) C "far" ∧ L2.aY (L2.KOf KX) C "room" ∧ L2.aY (L2.KOf KX) C "term" ∧ L2.aY (L2.KOf KX) C "rules" := by
   dsimp only [L2.KOf]
   refine' ⟨_,L4.Cp KX G ?aC ?a ?i ?l ?tl ?c ?pg ?hd ?po ?sa ?mk ?kc ?b,?n1,?n2,?n3,?n4,?n5⟩
   (case aC=>k_is);(case a=>k_is);(case i=>k_is);(case l=>k_is);(case tl=>k_is);(case c=>k_is);(case pg=>k_is);(case hd=>k_is);(case po=>k_is);(case sa=>k_is);(case mk=>k_is);(case kc=>k_is)
   (case n1=>unfold L2.aY;k_is);(case n2=>unfold L2.aY;k_is);(case n3=>unfold L2.aY;k_is);(case n4=>unfold L2.aY;k_is);(case n5=>unfold L2.aY;k_is)
   (case b=>exact fun _ _ _ _ _ _ _ us hl=>match us,hl with | [_,_,_,_,_,_],_=>⟨_,rfl,rfl⟩)
  have SS:Law.StC (L2.KOf KX) CS:=⟨D_Settings.cl,n1,n2,n3,n4,n5⟩
  obtain ⟨aR,fj,hR⟩:∃ aR,L3.GlV mg "RULES" (.ref aR)∧∀ H,L2.SqT (L2.KOf KX) H aR (Law.jW.map L2.V.str):=by
   dsimp only [L2.KOf]
   refine' Law.zP KX G ?n1 ?n2 ?n3 ?n4
   (case n1=>k_is);(case n2=>k_is);(case n3=>exact .cons ⟨_,rfl⟩ (.cons ⟨_,rfl⟩ (.cons ⟨_,rfl⟩ (.cons ⟨_,rfl⟩ (.cons ⟨_,rfl⟩ .nil)))));(case n4=>exact Nr (L2.small1000 (by decide)))
  obtain ⟨aN,fL,hN⟩:∃ aN,L3.GlV mg "NOTHING" (.ref aN)∧∀ H,L2.SqT (L2.KOf KX) H aN [.int 0,.non,.int 0,.int 0]:=by
   dsimp only [L2.KOf]
   refine' Law.zP KX G ?n1 ?n2 ?n3 ?n4
   (case n1=>k_is);(case n2=>k_is);(case n3=>exact .cons ⟨_,rfl⟩ (.cons rfl (.cons ⟨_,rfl⟩ (.cons ⟨_,rfl⟩ .nil))));(case n4=>exact Nr (L2.small1000 (by decide)))
  obtain ⟨CH,D_Hand,n1,n2,n3,n4,HM⟩:∃ C,L4.kj (L2.KOf KX) mg "Hand" "Hand.__init__" C (L2.inClass (Law.top 65) 0) ["self", "name", "settings", "lines"]∧L2.aY (L2.KOf KX) C "name" ∧ L2.aY (L2.KOf KX) C "settings" ∧ L2.aY (L2.KOf KX) C "lines" ∧ L2.aY (L2.KOf KX) C "spot" ∧ Law.Lv (L2.KOf KX) mg C:=by
   dsimp only [L2.KOf]
   refine' ⟨_,L4.sX KX G ?aC ?a ?i ?l ?tl ?c ?pg ?hd ?po ?sa ?mk ?kc ?b ?b1,?n1,?n2,?n3,?n4,⟨L4.bJ ⟨?pg,?hd,?po,?sa⟩ ?is_up_a ?is_up_i ?is_up_l ?is_up_c ?is_up_k ?is_up_b,L4.bJ ⟨?pg,?hd,?po,?sa⟩ ?place_a ?place_i ?place_l ?place_c ?place_k ?place_b,L4.bJ ⟨?pg,?hd,?po,?sa⟩ ?note_a ?note_i ?note_l ?note_c ?note_k ?note_b,L4.bJ ⟨?pg,?hd,?po,?sa⟩ ?area_a ?area_i ?area_l ?area_c ?area_k ?area_b,L4.bJ ⟨?pg,?hd,?po,?sa⟩ ?stand_a ?stand_i ?stand_l ?stand_c ?stand_k ?stand_b,L4.bJ ⟨?pg,?hd,?po,?sa⟩ ?go_a ?go_i ?go_l ?go_c ?go_k ?go_b,L4.bJ ⟨?pg,?hd,?po,?sa⟩ ?fall_a ?fall_i ?fall_l ?fall_c ?fall_k ?fall_b,L4.bJ ⟨?pg,?hd,?po,?sa⟩ ?rise_a ?rise_i ?rise_l ?rise_c ?rise_k ?rise_b,L4.bJ ⟨?pg,?hd,?po,?sa⟩ ?take_a ?take_i ?take_l ?take_c ?take_k ?take_b,L4.bJ ⟨?pg,?hd,?po,?sa⟩ ?write_a ?write_i ?write_l ?write_c ?write_k ?write_b,L4.bJ ⟨?pg,?hd,?po,?sa⟩ ?make_a ?make_i ?make_l ?make_c ?make_k ?make_b,L4.bJ ⟨?pg,?hd,?po,?sa⟩ ?hear_a ?hear_i ?hear_l ?hear_c ?hear_k ?hear_b,L4.bJ ⟨?pg,?hd,?po,?sa⟩ ?tell_a ?tell_i ?tell_l ?tell_c ?tell_k ?tell_b,L4.bJ ⟨?pg,?hd,?po,?sa⟩ ?give_back_a ?give_back_i ?give_back_l ?give_back_c ?give_back_k ?give_back_b⟩⟩
   (case aC=>k_is);(case a=>k_is);(case i=>k_is);(case l=>k_is);(case tl=>k_is);(case c=>k_is);(case pg=>k_is);(case hd=>k_is);(case po=>k_is);(case sa=>k_is);(case mk=>k_is);(case kc=>k_is)
   (case n1=>unfold L2.aY;k_is);(case n2=>unfold L2.aY;k_is);(case n3=>unfold L2.aY;k_is);(case n4=>unfold L2.aY;k_is)
   (case b=>exact fun _ _ _ _ _ _ _ us hl=>match us,hl with | [_,_,_,_],_=>⟨_,rfl,rfl⟩)
   (case b1=>exact fun _ _ _ _ _ _ _ us hl=>match us,hl with | [_,_,_],_=>⟨_,rfl,rfl⟩)
   (case is_up_a=>k_is);(case is_up_i=>k_is);(case is_up_l=>k_is);(case is_up_c=>k_is);(case is_up_k=>k_is);(case is_up_b=>exact fun _ _ _ _ _ _ us hl=>match us,hl with | [_],_=>rfl)
   (case place_a=>k_is);(case place_i=>k_is);(case place_l=>k_is);(case place_c=>k_is);(case place_k=>k_is);(case place_b=>exact fun _ _ _ _ _ _ us hl=>match us,hl with | [_],_=>rfl)
   (case note_a=>k_is);(case note_i=>k_is);(case note_l=>k_is);(case note_c=>k_is);(case note_k=>k_is);(case note_b=>exact fun _ _ _ _ _ _ us hl=>match us,hl with | [_],_=>rfl)
   (case area_a=>k_is);(case area_i=>k_is);(case area_l=>k_is);(case area_c=>k_is);(case area_k=>k_is);(case area_b=>exact fun _ _ _ _ _ _ us hl=>match us,hl with | [_],_=>rfl)
   (case stand_a=>k_is);(case stand_i=>k_is);(case stand_l=>k_is);(case stand_c=>k_is);(case stand_k=>k_is);(case stand_b=>exact fun _ _ _ _ _ _ us hl=>match us,hl with | [_],_=>rfl)
   (case go_a=>k_is);(case go_i=>k_is);(case go_l=>k_is);(case go_c=>k_is);(case go_k=>k_is);(case go_b=>exact fun _ _ _ _ _ _ us hl=>match us,hl with | [_,_],_=>rfl)
   (case fall_a=>k_is);(case fall_i=>k_is);(case fall_l=>k_is);(case fall_c=>k_is);(case fall_k=>k_is);(case fall_b=>exact fun _ _ _ _ _ _ us hl=>match us,hl with | [_],_=>rfl)
   (case rise_a=>k_is);(case rise_i=>k_is);(case rise_l=>k_is);(case rise_c=>k_is);(case rise_k=>k_is);(case rise_b=>exact fun _ _ _ _ _ _ us hl=>match us,hl with | [_],_=>rfl)
   (case take_a=>k_is);(case take_i=>k_is);(case take_l=>k_is);(case take_c=>k_is);(case take_k=>k_is);(case take_b=>exact fun _ _ _ _ _ _ us hl=>match us,hl with | [_,_,_],_=>rfl)
   (case write_a=>k_is);(case write_i=>k_is);(case write_l=>k_is);(case write_c=>k_is);(case write_k=>k_is);(case write_b=>exact fun _ _ _ _ _ _ us hl=>match us,hl with | [_,_],_=>rfl)
   (case make_a=>k_is);(case make_i=>k_is);(case make_l=>k_is);(case make_c=>k_is);(case make_k=>k_is);(case make_b=>exact fun _ _ _ _ _ _ us hl=>match us,hl with | [_,_],_=>rfl)
   (case hear_a=>k_is);(case hear_i=>k_is);(case hear_l=>k_is);(case hear_c=>k_is);(case hear_k=>k_is);(case hear_b=>exact fun _ _ _ _ _ _ us hl=>match us,hl with | [_,_],_=>rfl)
   (case tell_a=>k_is);(case tell_i=>k_is);(case tell_l=>k_is);(case tell_c=>k_is);(case tell_k=>k_is);(case tell_b=>exact fun _ _ _ _ _ _ us hl=>match us,hl with | [_],_=>rfl)
   (case give_back_a=>k_is);(case give_back_i=>k_is);(case give_back_l=>k_is);(case give_back_c=>k_is);(case give_back_k=>k_is);(case give_back_b=>exact fun _ _ _ _ _ _ us hl=>match us,hl with | [_],_=>rfl)
  have HC:Law.HdC (L2.KOf KX) CH:=⟨D_Hand.cl,n1,n2,n3,n4⟩
  have vz:L3.GlV mg "LAST" (.int 1000000000000000000000000000000):=by
   refine' ⟨_,PySem.W.mg_of KX G ?_,?_⟩
   rotate_left
   ·k_is
   ·exact ⟨_,rfl⟩
  obtain ⟨CL,D_Lender,n1,n2,MG,MM,MF,MS,ML,MC,MR⟩:∃ C,L4.kj (L2.KOf KX) mg "Lender" "Lender.__init__" C (L2.inClass (Law.top 68) 0) ["self", "settings", "grants"]∧L2.aY (L2.KOf KX) C "settings" ∧ L2.aY (L2.KOf KX) C "lent" ∧ L3.bV (L2.KOf KX) C "grants" "Lender.grants" (L2.inClass (Law.top 68) 1) ["self"]∧L3.bV (L2.KOf KX) C "moments_free" "Lender.moments_free" (L2.inClass (Law.top 68) 2) ["self"]∧L3.bV (L2.KOf KX) C "free_at" "Lender.free_at" (L2.inClass (Law.top 68) 3) ["self", "slot"]∧L3.bV (L2.KOf KX) C "slot_and_first" "Lender.slot_and_first" (L2.inClass (Law.top 68) 4) ["self", "least"]∧L3.bV (L2.KOf KX) C "lend" "Lender.lend" (L2.inClass (Law.top 68) 5) ["self", "hand", "least"]∧L3.bV (L2.KOf KX) C "can_free" "Lender.can_free" (L2.inClass (Law.top 68) 6) ["self", "grant", "end"]∧L3.bV (L2.KOf KX) C "free" "Lender.free" (L2.inClass (Law.top 68) 7) ["self", "grant", "end"]:=by
   dsimp only [L2.KOf]
   refine' ⟨_,L4.sX KX G ?aC ?a ?i ?l ?tl ?c ?pg ?hd ?po ?sa ?mk ?kc ?b ?b1,?n1,?n2,L4.bJ ⟨?pg,?hd,?po,?sa⟩ ?grants_a ?grants_i ?grants_l ?grants_c ?grants_k ?grants_b,L4.bJ ⟨?pg,?hd,?po,?sa⟩ ?mom_a ?mom_i ?mom_l ?mom_c ?mom_k ?mom_b,L4.bJ ⟨?pg,?hd,?po,?sa⟩ ?frat_a ?frat_i ?frat_l ?frat_c ?frat_k ?frat_b,L4.bJ ⟨?pg,?hd,?po,?sa⟩ ?slot_a ?slot_i ?slot_l ?slot_c ?slot_k ?slot_b,L4.bJ ⟨?pg,?hd,?po,?sa⟩ ?lend_a ?lend_i ?lend_l ?lend_c ?lend_k ?lend_b,L4.bJ ⟨?pg,?hd,?po,?sa⟩ ?canf_a ?canf_i ?canf_l ?canf_c ?canf_k ?canf_b,L4.bJ ⟨?pg,?hd,?po,?sa⟩ ?free_a ?free_i ?free_l ?free_c ?free_k ?free_b⟩
   (case aC=>k_is);(case a=>k_is);(case i=>k_is);(case l=>k_is);(case tl=>k_is);(case c=>k_is);(case pg=>k_is);(case hd=>k_is);(case po=>k_is);(case sa=>k_is);(case mk=>k_is);(case kc=>k_is)
   (case n1=>unfold L2.aY;k_is);(case n2=>unfold L2.aY;k_is)
   (case b=>exact fun _ _ _ _ _ _ _ us hl=>match us,hl with | [_,_,_],_=>⟨_,rfl,rfl⟩)
   (case b1=>exact fun _ _ _ _ _ _ _ us hl=>match us,hl with | [_,_],_=>⟨_,rfl,rfl⟩)
   (case grants_a=>k_is);(case grants_i=>k_is);(case grants_l=>k_is);(case grants_c=>k_is);(case grants_k=>k_is);(case grants_b=>exact fun _ _ _ _ _ _ us hl=>match us,hl with | [_],_=>rfl)
   (case mom_a=>k_is);(case mom_i=>k_is);(case mom_l=>k_is);(case mom_c=>k_is);(case mom_k=>k_is);(case mom_b=>exact fun _ _ _ _ _ _ us hl=>match us,hl with | [_],_=>rfl)
   (case frat_a=>k_is);(case frat_i=>k_is);(case frat_l=>k_is);(case frat_c=>k_is);(case frat_k=>k_is);(case frat_b=>exact fun _ _ _ _ _ _ us hl=>match us,hl with | [_,_],_=>rfl)
   (case slot_a=>k_is);(case slot_i=>k_is);(case slot_l=>k_is);(case slot_c=>k_is);(case slot_k=>k_is);(case slot_b=>exact fun _ _ _ _ _ _ us hl=>match us,hl with | [_,_],_=>rfl)
   (case lend_a=>k_is);(case lend_i=>k_is);(case lend_l=>k_is);(case lend_c=>k_is);(case lend_k=>k_is);(case lend_b=>exact fun _ _ _ _ _ _ us hl=>match us,hl with | [_,_,_],_=>rfl)
   (case canf_a=>k_is);(case canf_i=>k_is);(case canf_l=>k_is);(case canf_c=>k_is);(case canf_k=>k_is);(case canf_b=>exact fun _ _ _ _ _ _ us hl=>match us,hl with | [_,_,_],_=>rfl)
   (case free_a=>k_is);(case free_i=>k_is);(case free_l=>k_is);(case free_c=>k_is);(case free_k=>k_is);(case free_b=>exact fun _ _ _ _ _ _ us hl=>match us,hl with | [_,_,_],_=>rfl)
  have SL:Law.LdC (L2.KOf KX) CL:=⟨D_Lender.cl,n1,n2⟩
  obtain ⟨CP,D_Post,np,MPS,MPT,MPL,MPC⟩:∃ C,L3.nh (L2.KOf KX) mg "Post" "Post.__init__" C (L2.inClass (Law.top 12) 0) ["self"]∧L2.aY (L2.KOf KX) C "posted" ∧ L3.bV (L2.KOf KX) C "send" "Post.send" (L2.inClass (Law.top 12) 1) ["self", "letter"]∧L3.bV (L2.KOf KX) C "sent" "Post.sent" (L2.inClass (Law.top 12) 3) ["self"]∧L3.bV (L2.KOf KX) C "letter" "Post.letter" (L2.inClass (Law.top 12) 2) ["self", "number"]∧L3.bV (L2.KOf KX) C "carry" "Post.carry" (L2.inClass (Law.top 12) 4) ["self", "number", "hand", "lender"]:=by
   dsimp only [L2.KOf]
   refine' ⟨_,L3.xE KX G ?aC ?a ?i ?l ?c ?k ?pg ?hd ?po ?sa ?mk ?kc ?b,?n1,L4.bJ ⟨?pg,?hd,?po,?sa⟩ ?sa1 ?si ?sl ?sc ?sk ?sb,L4.bJ ⟨?pg,?hd,?po,?sa⟩ ?ta1 ?ti ?tl ?tc ?tk ?tb,L4.bJ ⟨?pg,?hd,?po,?sa⟩ ?la1 ?li ?ll ?lc ?lk ?lb,L4.bJ ⟨?pg,?hd,?po,?sa⟩ ?ca1 ?ci ?cl ?cc ?ck ?cb⟩
   (case aC=>k_is);(case a=>k_is);(case i=>k_is);(case l=>k_is);(case c=>k_is);(case k=>k_is);(case pg=>k_is);(case hd=>k_is);(case po=>k_is);(case sa=>k_is);(case mk=>k_is);(case kc=>k_is)
   (case n1=>unfold L2.aY;k_is)
   (case b=>exact fun _ _ _ _ _ _ us hl=>match us,hl with | [_],_=>rfl)
   (case sa1=>k_is);(case si=>k_is);(case sl=>k_is);(case sc=>k_is);(case sk=>k_is);(case sb=>exact fun _ _ _ _ _ _ us hl=>match us,hl with | [_,_],_=>rfl)
   (case ta1=>k_is);(case ti=>k_is);(case tl=>k_is);(case tc=>k_is);(case tk=>k_is);(case tb=>exact fun _ _ _ _ _ _ us hl=>match us,hl with | [_],_=>rfl)
   (case la1=>k_is);(case li=>k_is);(case ll=>k_is);(case lc=>k_is);(case lk=>k_is);(case lb=>exact fun _ _ _ _ _ _ us hl=>match us,hl with | [_,_],_=>rfl)
   (case ca1=>k_is);(case ci=>k_is);(case cl=>k_is);(case cc=>k_is);(case ck=>k_is);(case cb=>exact fun _ _ _ _ _ _ us hl=>match us,hl with | [_,_,_,_],_=>rfl)
  have SP:Law.PoC (L2.KOf KX) CP:=⟨D_Post.cls,np⟩
  obtain ⟨CE,WL,EP⟩:∃ CL:PySem.Addr,Law.ExW (L2.KOf KX) mg "NoLetter" "NoLetter.__init__" CL (L2.inClass (Law.top 10) 0) ["self", "number"]∧L4.ng (L2.KOf KX) CL "number" := by
   dsimp only [L2.KOf]
   refine' Law.IY KX G (Law.vC KX G ?a1 ?g6 ?g7 ?v1 ?v2 ?v3 ?v4 ?v5 ?v8 ?r0 ?u1 ?u3 ?u4 ?u5 ?u6 ?i1 ?i2 ?i3 ?i4 ?i5 ?i6 ?b ?x1) ?u2
   (case a1=>k_is);(case g6=>k_is);(case g7=>k_is)
   (case v1=>k_is);(case v2=>k_is);(case v3=>k_is);(case v4=>k_is);(case v5=>k_is);(case v8=>k_is)
   (case u1=>k_is);(case u2=>k_is);(case u3=>k_is);(case u4=>rfl);(case u5=>rfl);(case u6=>rfl);(case r0=>k_exc)
   (case i1=>k_is);(case i2=>k_is);(case i3=>k_is);(case i4=>k_is);(case i5=>k_is);(case i6=>k_is)
   (case b=>exact fun _ _ _ _ _ _ us hl=>match us,hl with | [_,_],_=>rfl);(case x1=>k_is)
  obtain ⟨CD,CU,CA,CN,CW,CT,CR,ER,RR⟩:∃ CD CU CA CN CW CT CR:PySem.Addr,Law.JH (L2.KOf KX) mg CD CU CA CN CW CT CR∧True:=by
   dsimp only [L2.KOf]
   refine' Law.EM (R:=fun CD CU CA CN CW CT CR=>True) KX G (Law.vC KX G ?aW ?g6 ?g7 ?v1 ?v2 ?v3 ?v4 ?v5 ?v8 ?r0 ?s1 ?s3 ?s4 ?s5 ?s6 ?i1 ?i2 ?i3 ?i4 ?i5 ?i6 ?b ?x1) (Law.vC KX G ?aT ?g6 ?g7 ?w1 ?w2 ?w3 ?w4 ?w5 ?w8 ?r0 ?t1 ?t3 ?t4 ?t5 ?t6 ?j1 ?j2 ?j3 ?j4 ?j5 ?j6 ?bb ?y1) ?tw ?tt ?aD ?aU ?aA ?aN ?aW ?aT ?aR ?d1 ?d2 ?d3 ?u1 ?u2 ?u3 ?c1 ?c2 ?c3 ?n1 ?n2 ?n3 ?r1 ?r2 ?r3 ?m1 ?m2 ?m3 ?m4 ?m5 ?m6 ?hR
   (case aD=>k_is);(case aU=>k_is);(case aA=>k_is);(case aN=>k_is);(case aW=>k_is);(case aT=>k_is);(case aR=>k_is)
   (case g6=>k_is);(case g7=>k_is)
   (case v1=>k_is);(case v2=>k_is);(case v3=>k_is);(case v4=>k_is);(case v5=>k_is);(case v8=>k_is)
   (case w1=>k_is);(case w2=>k_is);(case w3=>k_is);(case w4=>k_is);(case w5=>k_is);(case w8=>k_is)
   (case s1=>k_is);(case s3=>k_is);(case s4=>rfl);(case s5=>rfl);(case s6=>rfl)
   (case t1=>k_is);(case t3=>k_is);(case t4=>rfl);(case t5=>rfl);(case t6=>rfl)
   (case r0=>k_exc);(case r1=>k_is);(case r2=>k_is);(case r3=>k_is)
   (case i1=>k_is);(case i2=>k_is);(case i3=>k_is);(case i4=>k_is);(case i5=>k_is);(case i6=>k_is)
   (case j1=>k_is);(case j2=>k_is);(case j3=>k_is);(case j4=>k_is);(case j5=>k_is);(case j6=>k_is)
   (case b=>exact fun _ _ _ _ _ _ us hl=>match us,hl with | [_,_],_=>rfl)
   (case bb=>exact fun _ _ _ _ _ _ us hl=>match us,hl with | [_,_],_=>rfl)
   (case x1=>k_is);(case y1=>k_is);(case tw=>k_is);(case tt=>k_is)
   (case d1=>k_exc);(case d2=>k_is);(case d3=>k_is);(case u1=>k_exc);(case u2=>k_is);(case u3=>k_is);(case c1=>k_exc);(case c2=>k_is);(case c3=>k_is);(case n1=>k_exc);(case n2=>k_is);(case n3=>k_is)
   (case m1=>kts_exm);(case m2=>kts_exm);(case m3=>kts_exm);(case m4=>kts_exm);(case m5=>kts_exm);(case m6=>kts_exm)
   case hR=>
    exact trivial
  have HD:Law.Lw (L2.KOf KX) mg:=⟨vY,kF,zE,zC,zD,zF,tT,mH,oF,mK,tS,mL,zA,tP,vV,jV,we,CZ,qv,tR,JJ,v9,zK,zG,vZ,vW,zB,tQ,zI,CY,CV,zH,C1,jU,zy,C0,zJ,tW,tV⟩
  obtain ⟨f,fd,F,b,m⟩:=Ly.ex
  have e:=hmg.symm.trans m
  cases e
  obtain ⟨oc,od,kV,doc,pm,an,cdv,ct,osl,rfl,lk,hcd⟩:=id F.ex
  refine ⟨PySem.W.fnOf "law" "law" (L2.bK (Law.top 82)) (L2.bq (Law.top 82)) (L2.aj (Law.top 82)) .none kV doc pm an cdv ct,fun s u=>.of_eq rfl,fun base kb nb=>?_⟩
  have NE:=@L4.u0 PySem.Challenge.rw_risemarks_k57_whole_letters_in_any_order.prog w
  have HH:=Law.ES (P:=PySem.Challenge.rw_risemarks_k57_whole_letters_in_any_order.prog) (w:=w) (base:=base) BT NE HD HM ER D_Shape SC D_Settings SS D_Hand HC vv vt fj hR fL hN
  have jM:=Law.lB (P:=PySem.Challenge.rw_risemarks_k57_whole_letters_in_any_order.prog) (w:=w) (base:=base) (CX:=L4.CX1 PySem.Challenge.rw_risemarks_k57_whole_letters_in_any_order.prog w) oF
  have om:=Law.nT (P:=PySem.Challenge.rw_risemarks_k57_whole_letters_in_any_order.prog) (w:=w) (base:=base) (CX:=L4.CX1 PySem.Challenge.rw_risemarks_k57_whole_letters_in_any_order.prog w) tS
  have ir:=Law.jX (P:=PySem.Challenge.rw_risemarks_k57_whole_letters_in_any_order.prog) (w:=w) (base:=base) (CX:=L4.CX1 PySem.Challenge.rw_risemarks_k57_whole_letters_in_any_order.prog w) mK
  have Fz:=Law.By mJ BT NE jM om
  obtain ⟨m_Lender,jI⟩:=Law.Bu (P:=PySem.Challenge.rw_risemarks_k57_whole_letters_in_any_order.prog) (w:=w) (base:=base) D_Lender SL BT NE
  have CM:=Law.uR (P:=PySem.Challenge.rw_risemarks_k57_whole_letters_in_any_order.prog) (w:=w) (mg:=mg) (base:=base) (CX:=L4.CX1 PySem.Challenge.rw_risemarks_k57_whole_letters_in_any_order.prog w) (C:=C) (CS:=CS) MG SL BT
  have GK:=Law.yu (C:=C) (CS:=CS) MM SL SS SC NE Fz
  have JD:=Law.uS MF SL NE GK
  have Jj:=Law.rP (P:=PySem.Challenge.rw_risemarks_k57_whole_letters_in_any_order.prog) (w:=w) (base:=base) (CX:=L4.CX1 PySem.Challenge.rw_risemarks_k57_whole_letters_in_any_order.prog w) mH SS
  have Jv:=Law.Be MS SL SS SC BT NE Jj GK
  have Jz:=Law.El ML SL SS BT NE ER.n vz Jv
  have JF:=Law.Et MC SL BT NE jM ir om JD
  have JC:=Law.Er MR SL BT NE (Law.rS mL NE jM ir) JF
  have iY:=Law.rM (P:=PySem.Challenge.rw_risemarks_k57_whole_letters_in_any_order.prog) (w:=w) (base:=base) WL.dat ER.b EP
  have CK:=Law.Bk (P:=PySem.Challenge.rw_risemarks_k57_whole_letters_in_any_order.prog) (w:=w) (mg:=mg) (base:=base) (CX:=L4.CX1 PySem.Challenge.rw_risemarks_k57_whole_letters_in_any_order.prog w) MPS SP BT
  have CJ:=Law.Bj (P:=PySem.Challenge.rw_risemarks_k57_whole_letters_in_any_order.prog) (w:=w) (base:=base) (CX:=L4.CX1 PySem.Challenge.rw_risemarks_k57_whole_letters_in_any_order.prog w) MPT SP BT
  have tH:=Law.uP MPL SP BT NE iY
  have FZ:=Law.BA (CU:=CU) (CA:=CA) (CW:=CW) (CT:=CT) MPC BT NE tH Jz JC HH.gO HH.gR
  have vh:=Law.Bm (P:=PySem.Challenge.rw_risemarks_k57_whole_letters_in_any_order.prog) (w:=w) (base:=base) (CX:=L4.CX1 PySem.Challenge.rw_risemarks_k57_whole_letters_in_any_order.prog w) D_Post SP
  have Mq:=Law.uW (P:=PySem.Challenge.rw_risemarks_k57_whole_letters_in_any_order.prog) (w:=w) (base:=base) (CX:=L4.CX1 PySem.Challenge.rw_risemarks_k57_whole_letters_in_any_order.prog w) wc
  have xF:=Law.Bo (P:=PySem.Challenge.rw_risemarks_k57_whole_letters_in_any_order.prog) (w:=w) (base:=base) (CX:=L4.CX1 PySem.Challenge.rw_risemarks_k57_whole_letters_in_any_order.prog w) vX SC
  have FA:=Law.yw qz BT NE HH.az
  have Jc:=Law.Bs (C:=C) (CS:=CS) (CL:=CL) (CU:=CU) (CW:=CW) (CT:=CT) tU BT NE HC CK HH.fk HH.dJ
  have zp:=Law.rN mO BT NE CJ CK tH FZ Mq HH.az
  have Jl:=Law.yv tX BT NE HC HH.az FA zp Jc CJ HH.gT HH.eN HH.gS HH.gP HH.gn HH.gQ
  have FD:=Law.yx (CH:=CH) (CP:=CP) jB BT NE CM xF
  exact Law.Hi F BT NE SS ER.et ER.hR HH.dX HH.az (Law.Br kG BT NE HH.az HH.jh HH.eV) (Law.Bq qy BT NE HH.az) HH.ji vh jI Jl FD xF
end
