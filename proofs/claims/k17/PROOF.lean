import PyProof.Rows.All
import Wide.All
import OpenK.AllK
import Wide.FinOn
import PyProof.EqAt
import PyProof.EqKinds
import PyProof.TupleCall
import Lean
import PySem.Challenge.RW_risemarks_k17_whole_texts_sorted
abbrev zB:=@List.getElem?_append_right
abbrev zC:=@List.getElem?_append_left
abbrev zD:=@List.getElem?_eq_getElem
abbrev zE:=@List.length_singleton
abbrev zF:=@List.mem_append_right
abbrev zG:=@List.mem_of_getElem?
abbrev zH:=@List.mem_cons_of_mem
abbrev zI:=@List.getElem_of_mem
abbrev zJ:=@List.length_append
abbrev zK:=@List.mem_cons_self
abbrev zL:=@Bool.false_ne_true
abbrev zM:=@Nat.lt_of_lt_of_le
abbrev zN:=@List.size_toArray
abbrev zO:=@List.getElem?_map
abbrev zP:=@List.length_cons
abbrev zQ:=@List.length_take
abbrev zR:=@List.take_length
abbrev zS:=@List.length_map
abbrev zT:=@List.length_nil
abbrev zU:=@List.map_append
abbrev zV:=@List.append_nil
abbrev zW:=@Option.some.inj
abbrev zX:=@decide_eq_false
abbrev zY:=@decide_eq_true
abbrev zZ:=@List.map_map
abbrev z6:=@Nat.le_trans
abbrev Aa:=@Nat.le_of_lt
abbrev Ab:=@Nat.ne_of_lt
abbrev Ac:=@Int.le_trans
abbrev Ad:=@Nat.le_refl
abbrev Ae:=@Nat.zero_le
abbrev Af:=@Nat.le_succ
abbrev Ag:=@Int.le_refl
theorem Ah {α} {l:List α} {i a} (h:l[i]?=some a):∃ h:i<l.length,l[i]=a:=List.getElem?_eq_some_iff.mp h
theorem Ai {α} {a b:α} (h:a∈[b]):a=b:=List.mem_singleton.mp h
theorem Aj {α} {a:α} {s t:List α} (h:a∈s++t):a∈s\/a∈t:=List.mem_append.mp h
theorem Ak {α} {a b:α} {l:List α} (h:a∈b::l):a=b\/a∈l:=List.mem_cons.mp h
theorem Al {α β} {f:α->β} {l:List α} {b:β} (h:b∈l.map f):∃ a,a∈l/\f a=b:=List.mem_map.mp h
abbrev Ao:=PySem.W.Frag
section
set_option Elab.async false
set_option linter.all false
set_option maxRecDepth 100000
set_option maxHeartbeats 4000000
namespace L2
open PySem PySem.Spec PyProof.Rows
abbrev Key:=Sum Int Str
def gU:Key->Value->Bool
  | .inl k,v=>Value.isInt k v
  | .inr x,v=>Value.isStrOf x v
def x9 (w:World):Key->Int
  | .inl k=>hashInt k
  | .inr x=>hashStr w x
theorem aQ:∀ {k:Key} {v:Value},gU k v=true->(∃ i t,k=Sum.inl i/\v=Value.int i t)\/(∃ x t,k=Sum.inr x/\v=Value.str x t)
  | .inl i,v,h=>by
    obtain ⟨t,e⟩:=Value.isInt_shape (k:=i) (v:=v) h
    exact .inl ⟨i,t,rfl,e⟩
  | .inr x,v,h=>by
    obtain ⟨t,e⟩:=Value.isStrOf_shape (x:=x) (v:=v) h
    exact .inr ⟨x,t,rfl,e⟩
theorem nJ (i:Int) (t:Tok):gU (.inl i) (.int i t)=true:=by simp [gU,Value.isInt]
theorem nI (x:Str) (t:Tok):gU (.inr x) (.str x t)=true:=by simp [gU,Value.isStrOf]
theorem u0 (a b:Int):decide ((Sum.inl a:Key)=Sum.inl b)=(a == b):=by
  by_cases e:a=b
  · subst e;simp
  · have h:¬ (Sum.inl a:Key)=Sum.inl b:=fun q=>e (Sum.inl.inj q)
    rw [zX h]
    exact (beq_eq_false_iff_ne.mpr e).symm
theorem uW (a b:Str):decide ((Sum.inr a:Key)=Sum.inr b)=decide (a=b):=by
  by_cases e:a=b
  · subst e;simp
  · have h:¬ (Sum.inr a:Key)=Sum.inr b:=fun q=>e (Sum.inr.inj q)
    rw [zX h,zX e]
theorem uZ (a:Int) (b:Str):decide ((Sum.inl a:Key)=Sum.inr b)=false:=zX (fun q=>nomatch q)
theorem uX (a:Str) (b:Int):decide ((Sum.inr a:Key)=Sum.inl b)=false:=zX (fun q=>nomatch q)
def bf (prog:Program) (w:World):PySem.KeyKind prog w Key where
  is:=gU
  hash:=x9 w
  inj:=fun v a b ha hb=>by
    rcases aQ ha with ⟨i,t,rfl,rfl⟩ | ⟨x,t,rfl,rfl⟩
    · rcases aQ hb with ⟨j,u,rfl,e⟩ | ⟨y,u,rfl,e⟩
      · injection e with e1 _;rw [e1]
      · exact nomatch e
    · rcases aQ hb with ⟨j,u,rfl,e⟩ | ⟨y,u,rfl,e⟩
      · exact nomatch e
      · injection e with e1 _;rw [e1]
  byValue:=fun k v h=>by
    rcases aQ h with ⟨i,t,rfl,rfl⟩ | ⟨x,t,rfl,rfl⟩ <;> rfl
  pyHash:=fun hv h=>by
    rcases aQ hv with ⟨i,t,rfl,rfl⟩ | ⟨x,t,rfl,rfl⟩
    · exact wpAny_pyHash_int h
    · exact wpAny_pyHash_str h
  eqBool:=fun hu hv h=>by
    rcases aQ hu with ⟨i,t,rfl,rfl⟩ | ⟨x,t,rfl,rfl⟩
    · rcases aQ hv with ⟨j,u,rfl,rfl⟩ | ⟨y,u,rfl,rfl⟩
      · rw [u0] at h;exact wpAny_eqBool_int h
      · rw [uZ] at h;exact SeqAt.EqAt.int_str i t y u _ _ _ _ h
    · rcases aQ hv with ⟨j,u,rfl,rfl⟩ | ⟨y,u,rfl,rfl⟩
      · rw [uX] at h;exact SeqAt.EqAt.str_int x t j u _ _ _ _ h
      · rw [uW] at h;exact wpAny_eqBool_str h
  «strs»:=fun k x t v h=>by
    rcases aQ h with ⟨i,u,rfl,e⟩ | ⟨y,u,rfl,e⟩
    · exact nomatch e
    · injection e with e1 _
      subst e1
      cases v <;> rfl
theorem jQ (prog:Program) (w:World) (i:Int) (t:Tok):(bf prog w).is (.inl i) (.int i t)=true:=nJ i t
theorem jP (prog:Program) (w:World) (x:Str) (t:Tok):(bf prog w).is (.inr x) (.str x t)=true:=nI x t
inductive V where
  | non | bl (b:Bool) | int (i:Int) | str (x:Str) | byt (b:Array UInt8) | flt (b:UInt64) | ref (a:Addr) | ty (n:String)
  deriving DecidableEq
def RelV:V->Value->Prop
  | .non,u=>u=Value.none
  | .bl b,u=>u=Value.bool b
  | .int i,u=>∃ t,u=Value.int i t
  | .str x,u=>∃ t,u=Value.str x t
  | .byt b,u=>∃ t,u=Value.bytes b t
  | .flt b,u=>∃ t,u=Value.float b t
  | .ref a,u=>u=Value.ref a
  | .ty n,u=>u=Value.type n
abbrev Vals:List V->List Value->Prop:=Paired RelV
theorem Vals.length {xs:List V} {us:List Value} (r:Vals xs us):xs.length=us.length:=Paired.length r
theorem Vals.get:∀ {xs:List V} {us:List Value} {i:Nat} {x:V},Vals xs us->xs[i]?=some x->∃ u,us[i]?=some u/\RelV x u
  | _,_,_,_,.nil,e=>by simp at e
  | _,_,0,_,.cons r _,e=>by simp at e;subst e;exact ⟨_,rfl,r⟩
  | _,_,i+1,x,.cons _ t,e=>by
    obtain ⟨u,h1,h2⟩:=Vals.get (i:=i) (x:=x) t (by simpa using e)
    exact ⟨u,by simpa using h1,h2⟩
theorem Vals.set {x:V} {u:Value} (r:RelV x u):∀ {xs:List V} {us:List Value} (i:Nat),Vals xs us->Vals (xs.set i x) (us.set i u)
  | _,_,_,.nil=>.nil
  | _,_,0,.cons _ t=>.cons r t
  | _,_,i+1,.cons q t=>.cons q (Vals.set r i t)
theorem Vals.append:∀ {xs ys:List V} {us ws:List Value},Vals xs us->Vals ys ws->Vals (xs++ys) (us++ws)
  | _,_,_,_,.nil,s=>s
  | _,_,_,_,.cons r t,s=>.cons r (Vals.append t s)
def ki:Option V->Option Value->Prop
  | some v,some u=>RelV v u
  | none,none=>True
  | _,_=>False
def KV {κ : Type}:List (κ×V)->List (κ×Value)->Prop:=Paired fun (p : κ×V) (q : κ×Value)=>p.1=q.1/\RelV p.2 q.2
def kV:Key->V
  | .inl i=>.int i
  | .inr x=>.str x
inductive HO where
    | lst (xs:List V)
    | tup (xs:List V)
    | dK (kvs:List (Key×V)) | dT (kvs:List (List Key×V))
    | set (S:Int->Bool) (n:Nat)
    | ins (C dx:Addr) (fs:List (Str×V))
    | own (x:Addr)
    | xd (fs:List (Str×V))
    | met (f x:Addr)
    | rng (lo hi:Int)
    | frz (o:Obj) (u:HO)
    | tbl (ps:Array Value)
    | ext (φ : Heap->Prop)
abbrev Hp:=Addr->Option HO
def upd (H:Hp) (a:Addr) (o:HO):Hp:=fun b=>if b=a then some o else H b
theorem av {H:Hp} {a:Addr} {o:HO}:upd H a o a=some o:=by unfold upd;rw [if_pos rfl]
theorem az {H:Hp} {a b:Addr} {o:HO} (h:b≠a):upd H a o b=H b:=by unfold upd;rw [if_neg h]
theorem ff {H:Hp} {a:Addr} {o u:HO}:upd (upd H a o) a u=upd H a u:=by
  funext b;unfold upd;split <;> rfl
theorem au {H:Hp} {a b:Addr} {o:HO} (h:H a=some o) (h':H b=none):a≠b:=by
  intro e;subst e;rw [h] at h';cases h'
section
variable (P:Program) (w:World)
def aS (H:Hp) (h:Heap) (a:Addr):HO->Prop
  | .lst xs=>xs.length<=sizeLine/\∃ (its:List Value) (n:Nat),Vals xs its/\h.get? a=some { cls:=.type "list",data:=.seq its.toArray n }
  | .tup xs=>xs.length<=sizeLine/\∃ its:List Value,Vals xs its/\IsTup h a its.toArray
  | .dK kvs=>kvs.length<=sizeLine/\(a == sysModules)=false/\∃ vs,KV kvs vs/\h.DictOf (bf P w) a vs
  | .dT kvs=>kvs.length<=sizeLine/\(a == sysModules)=false/\∃ xs:List (List Key×Addr×Value),
      Paired (fun (p:List Key×V) (q:List Key×Addr×Value)=>p.1=q.1/\H q.2.1=some (.tup (p.1.map kV))/\RelV p.2 q.2.2) kvs xs /\
      ∃ o es ep,h.get? a=some o/\o.ExactDict/\o.data = .dict es ep/\es.toList=xs.map (entryOfKey (tupleKind (bf P w)))/\(xs.map (·.1)).Nodup
  | .set S n=>h.SetOf (intKind P w) a S n
  | .ins C dx fs=>H dx=some (.own a)/\fs.length<=1000/\dx≠a/\h.get? a=some (PySem.W.instObj C dx) /\
      ∃ mA,h.Ns1 dx mA/\(∀ f,ki (fs.lookup f) (mA f))/\PySem.Within mA (fs.map (·.1))
  | .own _=>∃ o,h.get? a=some o
  | .xd fs=>∃ mA,h.Ns1 a mA/\∀ f,ki (fs.lookup f) (mA f)
  | .rng lo hi=>∃ t u v,h.get? a=some { cls:=.type "range",data:=.fields #[.int lo t,.int hi u,.int 1 v] }
  | .frz o u=>h.get? a=some o/\aS H h a u
  | .tbl ps=>h.get? a=some { cls:=.none,data:=.fields ps }
  | .met f x=>h.get? a=some (PySem.W.methodObj (.ref f) (.ref x))
  | .ext φ=>φ h/\(∃ o,h.get? a=some o)/\∀ h1 h2:Heap,φ h1->(∀ o,h1.get? a=some o->h2.get? a=some o)->φ h2
def HOk (H:Hp) (h:Heap):Prop:=∀ a o,H a=some o->aS P w H h a o
end
section
variable {P:Program} {w:World} {H H':Hp} {h h':Heap} {a:Addr} {o:HO}
theorem aS.lt (x:aS P w H h a o):a < h.objs.size:=by
  cases o with
  | lst xs=>obtain ⟨_,_,_,_,e⟩:=x;exact Heap.lt_size e
  | tup xs=>obtain ⟨_,_,_,p⟩:=x;exact p.lt
  | dK kvs=>obtain ⟨_,_,_,_,o,_,_,e,_⟩:=x;exact Heap.lt_size e
  | dT kvs=>obtain ⟨_,_,_,_,o,_,_,e,_⟩:=x;exact Heap.lt_size e
  | set S n=>obtain ⟨o,_,_,_,e,_⟩:=x;exact Heap.lt_size e
  | ins C dx fs=>obtain ⟨_,_,_,e,_⟩:=x;exact Heap.lt_size e
  | own y=>obtain ⟨_,e⟩:=x;exact Heap.lt_size e
  | xd fs=>obtain ⟨_,⟨_,_,_,e,_⟩,_⟩:=x;exact Heap.lt_size e
  | rng lo hi=>obtain ⟨_,_,_,e⟩:=x;exact Heap.lt_size e
  | frz ob u=>obtain ⟨e,_⟩:=x;exact Heap.lt_size e
  | tbl ps=>exact Heap.lt_size (show h.get? a=some _ from x)
  | met f y=>exact Heap.lt_size (show h.get? a=some _ from x)
  | ext φ=>obtain ⟨_,⟨_,e⟩,_⟩:=x;exact Heap.lt_size e
theorem Paired.wO {α β : Type} {F G : α->β->Prop}:∀ {l₁ : List α} {l₂ : List β},Paired F l₁ l₂->(∀ a b,F a b->G a b)->Paired G l₁ l₂
  | _,_,.nil,_=>.nil
  | _,_,.cons r t,f=>.cons (f _ _ r) (Paired.wO t f)
theorem aS.stay (x:aS P w H h a o) (k:∀ b u,(b=a\/H b=some (.own a))->h.get? b=some u->h'.get? b=some u)
    (ho:∀ b,H b=some (.own a)->H' b=some (.own a)) (ht:∀ b xs,H b=some (.tup xs)->H' b=some (.tup xs)):aS P w H' h' a o:=by
  induction o with
  | lst xs=>obtain ⟨z,its,n,r,e⟩:=x;exact ⟨z,its,n,r,k _ _ (.inl rfl) e⟩
  | tup xs=>obtain ⟨z,its,r,ob,e,c⟩:=x;exact ⟨z,its,r,ob,k _ _ (.inl rfl) e,c⟩
  | dK kvs=>obtain ⟨z,y,vs,r,ob,es,ep,e,c⟩:=x;exact ⟨z,y,vs,r,ob,es,ep,k _ _ (.inl rfl) e,c⟩
  | dT kvs=>
    obtain ⟨z,y,xs,r,ob,es,ep,e,c⟩:=x
    exact ⟨z,y,xs,Paired.wO r fun p q z=>⟨z.1,ht _ _ z.2.1,z.2.2⟩,ob,es,ep,k _ _ (.inl rfl) e,c⟩
  | set S n=>obtain ⟨ob,es,ep,t,e,c⟩:=x;exact ⟨ob,es,ep,t,k _ _ (.inl rfl) e,c⟩
  | ins C dx fs=>
    obtain ⟨d,z,ne,e,mA,⟨od,es,ep,e2,c⟩,r⟩:=x
    exact ⟨ho _ d,z,ne,k _ _ (.inl rfl) e,mA,⟨od,es,ep,k _ _ (.inr d) e2,c⟩,r⟩
  | own y=>obtain ⟨ob,e⟩:=x;exact ⟨ob,k _ _ (.inl rfl) e⟩
  | xd fs=>obtain ⟨mA,⟨od,es,ep,e,c⟩,r⟩:=x;exact ⟨mA,⟨od,es,ep,k _ _ (.inl rfl) e,c⟩,r⟩
  | rng lo hi=>obtain ⟨t,u,v,e⟩:=x;exact ⟨t,u,v,k _ _ (.inl rfl) e⟩
  | frz ob u ih=>obtain ⟨e,q⟩:=x;exact ⟨k _ _ (.inl rfl) e,ih q⟩
  | tbl ps=>
    have e:h.get? a=some { cls:=.none,data:=.fields ps }:=x
    show h'.get? a=some { cls:=.none,data:=.fields ps }
    exact k a _ (.inl rfl) e
  | met f y=>
    have e:h.get? a=some (PySem.W.methodObj (.ref f) (.ref y)):=x
    show h'.get? a=some (PySem.W.methodObj (.ref f) (.ref y))
    exact k a _ (.inl rfl) e
  | ext φ=>obtain ⟨p,⟨o,e⟩,st⟩:=x;exact ⟨st _ _ p fun o q=>k _ _ (.inl rfl) q,⟨o,k _ _ (.inl rfl) e⟩,st⟩
theorem HOk.lt (x:HOk P w H h) (e:H a=some o):a < h.objs.size:=(x a o e).lt
theorem HOk.fresh (x:HOk P w H h) (e:h.objs.size<=a):H a=none:=by
  cases q:H a with
  | none=>rfl
  | some u=>exact absurd (zM (x.lt q) e) (Nat.lt_irrefl _)
theorem HOk.kept (x:HOk P w H h) (k:∀ b u,h.get? b=some u->h'.get? b=some u):HOk P w H h':=fun a o e=>
  (x a o e).stay (fun b u _ q=>k b u q) (fun _ q=>q) fun _ _ q=>q
theorem HOk.laid (x:HOk P w H h) (k:∀ b u,h.get? b=some u->h'.get? b=some u) (hp:h.objs.size<=a) (new:aS P w (upd H a o) h' a o):HOk P w (upd H a o) h':=fun b u e=>by
  have hn:=x.fresh hp
  by_cases hb:b=a
  · subst hb;rw [av] at e;cases e;exact new
  · rw [az hb] at e
    exact (x b u e).stay (fun c v _ q=>k c v q) (fun c q=>by rw [az (au q hn)];exact q) fun c xs q=>by rw [az (au q hn)];exact q
end
def Rd (H:Hp) (a:Addr) (u:HO):Prop:=H a=some u\/∃ o,H a=some (.frz o u)
theorem Rd.ok {P:Program} {w:World} {H:Hp} {h:Heap} {a:Addr} {u:HO} (r:Rd H a u) (x:HOk P w H h):aS P w H h a u:=by
  rcases r with r | ⟨o,r⟩
  · exact x a u r
  · obtain ⟨_,q⟩:=x a _ r
    exact q
def Mut:Option HO->Prop
  | some (.lst _)=>True
  | some (.dK _)=>True
  | some (.dT _)=>True
  | some (.set _ _)=>True
  | some (.ins _ _ _)=>True
  | some (.ext _)=>True
  | _=>False
section
variable {P:Program} {w:World} {H:Hp} {h h':Heap} {x e:Addr} {o':HO}
theorem HOk.write (ok:HOk P w H h) (mu:Mut (H x)) (he:e=x\/H e=some (.own x)) (k:∀ b u,b≠e->h.get? b=some u->h'.get? b=some u) (heo:∃ u,h'.get? e=some u)
    (new:aS P w (upd H x o') h' x o'):HOk P w (upd H x o') h':=fun b u q=>by
  have wL:∀ c y,H c=some (.own y)->c≠x:=fun c y r z=>by subst z;rw [r] at mu;exact mu
  have xU:∀ c xs,H c=some (.tup xs)->c≠x:=fun c xs r z=>by subst z;rw [r] at mu;exact mu
  by_cases hb:b=x
  · subst hb;rw [av] at q;cases q;exact new
  · rw [az hb] at q
    by_cases hbe:b=e
    · have q':H b=some (.own x):=by
        rcases he with z | z
        · exact absurd (hbe.trans z) hb
        · rw [hbe];exact z
      rw [q] at q';cases q'
      obtain ⟨v,hv⟩:=heo
      exact ⟨v,by rw [hbe];exact hv⟩
    · refine (ok b u q).stay (fun c v hc r=>k c v ?_ r) (fun c r=>by rw [az (wL c b r)];exact r) fun c xs r=>by rw [az (xU c xs r)];exact r
      rcases hc with rfl | hc
      · exact hbe
      · rintro rfl
        rcases he with z | z
        · exact wL c b hc z
        · rw [hc] at z;cases z;exact hb rfl
end
structure Un (fs ex:List Addr) (H H':Hp) (h h':Heap):Prop where
  keep:∀ b o,h.get? b=some o->H b=none->b∉fs->b∉ex->h'.get? b=some o
  slot:∀ b o,h.get? b=some o->H b=none->b∈fs->b∉ex->∃ sl,h'.get? b=some { o with slots:=sl }
  free:∀ b o,h.get? b=some o->H b=none->b∉ex->H' b=none
  there:∀ b o,h.get? b=some o->b∉ex->∃ o',h'.get? b=some o'
  tups:∀ b xs,H b=some (.tup xs)->H' b=some (.tup xs)
  eu:∀ b o u,H b=some (.frz o u)->H' b=some (.frz o u)
  eS:∀ b ps,H b=some (.tbl ps)->∃ more,H' b=some (.tbl (ps++more))
section
variable {fs fs' ex ex':List Addr} {H H1 H2:Hp} {h h1 h2 h':Heap} {a x e:Addr} {o:HO}
theorem Un.any (u:Un fs ex H H1 h h1) {b:Addr} {ob:Obj} (q:h.get? b=some ob) (n:H b=none) (hx:b∉ex):∃ sl,h1.get? b=some { ob with slots:=sl }:=by
  by_cases hb:b∈fs
  · exact u.slot b ob q n hb hx
  · exact ⟨ob.slots,u.keep b ob q n hb hx⟩
theorem Un.trans (a:Un fs ex H H1 h h1) (b:Un fs ex H1 H2 h1 h2):Un fs ex H H2 h h2 where
  keep:=fun c ob q n hc hx=>b.keep c ob (a.keep c ob q n hc hx) (a.free c ob q n hx) hc hx
  slot:=fun c ob q n hc hx=>by
    obtain ⟨sl,e1⟩:=a.slot c ob q n hc hx
    obtain ⟨sl',e2⟩:=b.slot c _ e1 (a.free c ob q n hx) hc hx
    exact ⟨sl',e2⟩
  free:=fun c ob q n hx=>by
    obtain ⟨o',e1⟩:=a.there c ob q hx
    exact b.free c o' e1 (a.free c ob q n hx) hx
  there:=fun c ob q hx=>by
    obtain ⟨o',e1⟩:=a.there c ob q hx
    exact b.there c o' e1 hx
  tups:=fun c xs q=>b.tups c xs (a.tups c xs q)
  eu:=fun c ob xs q=>b.eu c ob xs (a.eu c ob xs q)
  eS:=fun c ps q=>by
    obtain ⟨m1,e1⟩:=a.eS c ps q
    obtain ⟨m2,e2⟩:=b.eS c _ e1
    exact ⟨m1++m2,by rw [e2,Array.append_assoc]⟩
theorem Un.kept (k:∀ b u,h.get? b=some u->h'.get? b=some u):Un fs ex H H h h':=
  ⟨fun b ob q _ _ _=>k b ob q,fun b ob q _ _ _=>⟨ob.slots,k b ob q⟩,fun _ _ _ n _=>n,fun b ob q _=>⟨ob,k b ob q⟩,fun _ _ q=>q,fun _ _ _ q=>q,fun _ ps q=>⟨#[],by rw [q];simp⟩⟩
theorem Un.refl:Un fs ex H H h h:=Un.kept fun _ _ q=>q
theorem Un.laid (k:∀ b u,h.get? b=some u->h'.get? b=some u) (hp:h.objs.size<=a) (hn:H a=none):Un fs ex H (upd H a o) h h' where
  keep:=fun b u q _ _ _=>k b u q
  slot:=fun b u q _ _ _=>⟨u.slots,k b u q⟩
  free:=fun b u q n _=>by rw [az (Ab (zM (Heap.lt_size q) hp))];exact n
  there:=fun b u q _=>⟨u,k b u q⟩
  tups:=fun b xs q=>by rw [az (au q hn)];exact q
  eu:=fun b u xs q=>by rw [az (au q hn)];exact q
  eS:=fun b ps q=>⟨#[],by rw [az (au q hn),q];simp⟩
theorem Un.write (mu:Mut (H x)) (he:e=x\/H e=some (.own x)) (k:∀ b u,b≠e->h.get? b=some u->h'.get? b=some u) (heo:∃ u,h'.get? e=some u):Un fs ex H (upd H x o) h h':=by
  have hx:∀ b,H b=none->b≠x:=fun b n z=>by subst z;rw [n] at mu;exact mu
  have hb:∀ b,H b=none->b≠e:=fun b n z=>by
    subst z
    rcases he with r | r
    · exact hx b n r
    · rw [n] at r;cases r
  have hm:∀ b u,H b=some u->¬ Mut (some u)->b≠x:=fun b u q nm z=>by subst z;rw [q] at mu;exact nm mu
  refine ⟨fun b u q n _ _=>k b u (hb b n) q,fun b u q n _ _=>⟨u.slots,k b u (hb b n) q⟩,fun b u q n _=>by rw [az (hx b n)];exact n,fun b u q _=>?_,
    fun b xs q=>by rw [az (hm b _ q fun z=>z)];exact q,fun b u xs q=>by rw [az (hm b _ q fun z=>z)];exact q,fun b ps q=>⟨#[],by rw [az (hm b _ q fun z=>z),q];simp⟩⟩
  by_cases hbe:b=e
  · subst hbe;exact heo
  · exact ⟨u,k b u hbe q⟩
end
def trk (h:Heap) (H:Hp):List Addr:=(List.range h.objs.size).filter fun a=>(H a).isSome
def jd (h:Heap) (H:Hp):Heap:=PySem.W.hideAll h (trk h H)
theorem nM (h:Heap) (H:Hp):(jd h H).objs.size=h.objs.size:=PySem.W.hideAll_size _ _
theorem qg {h:Heap} {H:Hp} {b:Addr} {o:Obj} (e:h.get? b=some o) (n:H b=none):(jd h H).get? b=some o:=
  PySem.W.hideAll_get _ e fun hm=>by
    have q:(H b).isSome=true:=(List.mem_filter.mp hm).2
    rw [n] at q;simp at q
theorem rR {h:Heap} {H:Hp} {b:Addr} {o:Obj} (e:(jd h H).get? b=some o):h.get? b=some o/\H b=none:=by
  have e':h.get? b=some o:=PySem.W.of_hideAll (trk h H) e
  refine ⟨e',?_⟩
  cases q:H b with
  | none=>rfl
  | some x=>
    have hm:b∈trk h H:=List.mem_filter.mpr ⟨List.mem_range.mpr (Heap.lt_size e'),by simp [q]⟩
    have z:(jd h H).get? b=none:=PySem.W.hideAll_none (trk h H) hm
    rw [z] at e;cases e
structure Mod (K:Ao) (mg:Str->Option Value) (base:Heap):Prop where
  kin:K.In base
  glob:base.Ns mainGlobals mg
  blt:∃ mb,base.Ns builtinsNs mb/\∀ x:Str,x ≠ "__name__" -> mb x=bootBuiltins x
  nolimit:base.NoLimit
structure Cx where
  prog:Program
  w:World
  K:Ao
  mg:Str->Option Value
  base:Heap
  A:Around
  N:List Str
  s₀ : Shared
  H₀ : Hp
  env:Env
  outer:List Env
  stack:List Env
  ex:List Addr
  fn:Str->Bool
  calm:Bool
  pn:List (Addr×Obj)
  xe:Value->Shared->Prop
def frs (l:List Env):List Addr:=l.filterMap (·.frame)
abbrev Cx.fs (X:Cx):List Addr:=frs X.outer
def Vis (sc:Scope) (x:Str):Prop:=sc.names.lookup x=some .local\/sc.names.lookup x=some .cell\/sc.names.lookup x=some .free
def Loc (sc:Scope) (x:Str):Prop:=sc.names.lookup x=some .local\/sc.names.lookup x=some .cell
def Look (env:Env) (h:Heap) (m:Str->Option Value) (x:Str) (u:Value):Prop:=
  (env.kindOf x=some .local/\m x=some u)\/((env.kindOf x=some .cell\/env.kindOf x=some .free)/\∃ c,env.cells.lookup x=some c/\h.IsCell c (some u))
structure Cx.Ok (X:Cx):Prop where
  mod:Mod X.K X.mg X.base
  kind:X.env.scope.kind = .function
  glob:X.env.globals=mainGlobals
  blt:X.env.builtins=builtinsNs
  above:X.s₀.heap.objs.size<=X.env.locals
  inj:∀ x y c,X.env.cells.lookup x=some c->X.env.cells.lookup y=some c->x=y
  has:∀ x,(X.env.kindOf x=some .cell\/X.env.kindOf x=some .free)->∃ c,X.env.cells.lookup x=some c
  cab:∀ x c,X.fn x=true->X.env.cells.lookup x=some c->X.s₀.heap.objs.size<=c
  hd:X.calm=true->X.A.handled=none
  frames:X.A.frames=some X.stack
  stk:X.stack=X.outer\/(X.stack=X.env::X.outer/\X.env.frame=some X.env.locals)
  exf:∀ b∈X.ex,b≠X.env.locals/\∀ x c,X.env.cells.lookup x=some c->c≠b
  bs:∀ b o,X.base.get? b=some o->X.s₀.heap.get? b=some o/\X.H₀ b=none
  bsz:X.base.objs.size<=X.s₀.heap.objs.size
  noex:∀ b o,X.base.get? b=some o->b∉X.ex
  exfs:∀ b∈X.ex,b∉X.fs
  eV:X.s₀.heap.FunFrames X.base X.outer
  frf:∀ b∈X.fs,X.H₀ b=none
structure Inv (X:Cx) (pins:List (Addr×Obj)) (σ : List (Option V)) (H:Hp) (s:Shared):Prop where
  ok:X.Ok
  os:s.os=X.s₀.os
  bare:AllBare s.gens
  base:Un X.fs X.ex X.H₀ H X.s₀.heap s.heap
  loc:∃ m,s.heap.Ns X.env.locals m/\∀ (i:Nat) (x:Str) (v:V),X.N[i]?=some x->σ[i]?=some (some v)->Vis X.env.scope x->∃ u,RelV v u/\Look X.env s.heap m x u
  cell:∀ x c,X.env.cells.lookup x=some c->∃ v,s.heap.IsCell c v
  free:H X.env.locals=none
  freeC:∀ x c,X.env.cells.lookup x=some c->H c=none
  pin:∀ p∈X.pn++pins,s.heap.get? p.1=some p.2/\H p.1=none/\p.1≠X.env.locals/\p.1∉X.fs/\∀ v,p.2.data≠.cell v
  hok:HOk X.prog X.w H s.heap
  len : σ.length=X.N.length
section
variable {X:Cx} {pins:List (Addr×Obj)} {σ : List (Option V)} {H H':Hp} {s:Shared} {h':Heap}
theorem Cx.Ok.xW (ok:X.Ok) {b:Addr} {o:Obj} (e:X.base.get? b=some o):b∉X.fs:=fun hb=>by
  have:=(ok.eV.mem hb).1
  rw [e] at this;cases this
theorem Inv.bs (I:Inv X pins σ H s):∀ b o,X.base.get? b=some o->s.heap.get? b=some o/\H b=none:=fun b o e=>
  ⟨I.base.keep b o (I.ok.bs b o e).1 (I.ok.bs b o e).2 (I.ok.xW e) (I.ok.noex b o e),I.base.free b o (I.ok.bs b o e).1 (I.ok.bs b o e).2 (I.ok.noex b o e)⟩
theorem Inv.bk (I:Inv X pins σ H s):∀ b o,X.base.get? b=some o->s.heap.get? b=some o:=fun b o e=>(I.bs b o e).1
theorem Inv.mod (I:Inv X pins σ H s):Mod X.K X.mg X.base:=I.ok.mod
theorem Inv.kIn (I:Inv X pins σ H s):X.K.In s.heap:=I.ok.mod.kin.keeps I.bk
theorem Inv.lt (I:Inv X pins σ H s):X.env.locals < s.heap.objs.size:=let ⟨_,hn,_⟩:=I.loc;hn.lt
theorem Inv.sz (I:Inv X pins σ H s):X.s₀.heap.objs.size<=s.heap.objs.size:=z6 I.ok.above (Aa I.lt)
theorem Inv.wM (I:Inv X pins σ H s) {a:Addr} (h:s.heap.objs.size<=a):a∉X.fs:=fun hb=>by
  obtain ⟨_,o,ho,_⟩:=I.ok.eV.mem hb
  exact absurd (zM (Heap.lt_size ho) (z6 I.sz h)) (Nat.lt_irrefl _)
theorem Inv.cne (I:Inv X pins σ H s):∀ x c,X.env.cells.lookup x=some c->c≠X.env.locals:=fun x c e z=>by
  obtain ⟨v,o,ho,hd⟩:=I.cell x c e
  obtain ⟨m,⟨o',es,ep,ho',hd',_⟩,_⟩:=I.loc
  rw [z,ho'] at ho;cases ho;rw [hd'] at hd;cases hd
theorem Inv.eV (I:Inv X pins σ H s):s.heap.FunFrames X.base X.outer:=by
  have all:∀ (l:List Env),(∀ b∈frs l,b∈X.fs)->X.s₀.heap.FunFrames X.base l->s.heap.FunFrames X.base l:=by
    intro l
    induction l with
    | nil=>intro _ _;trivial
    | cons env r ih=>
      intro hs hl
      obtain ⟨hk,⟨L,o,hf,hn,ho,hd⟩,hr⟩:=hl
      have hL:L∈X.fs:=hs L (by unfold frs;rw [List.filterMap_cons,hf];exact zK)
      obtain ⟨sl,e⟩:=I.base.slot L o ho (I.ok.frf L hL) hL fun z=>I.ok.exfs L z hL
      exact ⟨hk,⟨L,_,hf,hn,e,hd⟩,ih (fun b hb=>hs b (by unfold frs;rw [List.filterMap_cons,hf];exact zH _ hb)) hr⟩
  exact all X.outer (fun _ hb=>hb) I.ok.eV
theorem Inv.stack (I:Inv X pins σ H s):s.heap.FunFrames X.base X.stack:=by
  rcases I.ok.stk with e | ⟨e,hf⟩
  · rw [e];exact I.eV
  · rw [e]
    obtain ⟨m,hn,_⟩:=I.loc
    refine .cons (by rw [I.ok.kind];decide) hf hn ?_ I.eV
    exact Heap.get?_none_of_le (z6 I.ok.bsz I.ok.above)
theorem Inv.iG (I:Inv X pins σ H s):∀ b∈frs X.stack,b∈X.env.locals::X.fs:=fun b hb=>by
  rcases I.ok.stk with e | ⟨e,hf⟩
  · rw [e] at hb;exact zH _ hb
  · rw [e] at hb
    unfold frs at hb
    rw [List.filterMap_cons,hf] at hb
    exact hb
theorem Inv.iH (I:Inv X pins σ H s):∀ b∈frs X.stack,H b=none:=fun b hb=>by
  rcases Ak (I.iG b hb) with e | hb
  · rw [e];exact I.free
  · obtain ⟨_,o,ho,_⟩:=I.ok.eV.mem hb
    exact I.base.free b o ho (I.ok.frf b hb) fun z=>I.ok.exfs b z hb
theorem Inv.step {g':Array GenState} {t':Nat} {d':Drawn} {ch:List Addr} (I:Inv X pins σ H s)
    (hch:∀ b∈ch,(b∈X.ex\/X.s₀.heap.objs.size<=b)/\b≠X.env.locals/\(∀ x c,X.env.cells.lookup x=some c->c≠b)/\∀ p∈X.pn++pins,p.1≠b)
    (keep:∀ b o,b≠X.env.locals->b∉X.fs->b∉ch->s.heap.get? b=some o->H b=none->h'.get? b=some o)
    (slot:∀ b o,b≠X.env.locals->b∈X.fs->b∉ch->s.heap.get? b=some o->H b=none->∃ sl,h'.get? b=some { o with slots:=sl }) (free:∀ b o,b∉ch->s.heap.get? b=some o->H b=none->H' b=none)
    (there:∀ b o,b∉ch->s.heap.get? b=some o->∃ o',h'.get? b=some o')
    (tups:∀ b xs,H b=some (.tup xs)->H' b=some (.tup xs)) (eu:∀ b o u,H b=some (.frz o u)->H' b=some (.frz o u)) (eS:∀ b ps,H b=some (.tbl ps)->∃ more,H' b=some (.tbl (ps++more)))
    (ns:∀ m,s.heap.Ns X.env.locals m->h'.Ns X.env.locals m) (hok:HOk X.prog X.w H' h') (hg:AllBare g') :
    Inv X pins σ H' { s with heap:=h',gens:=g',drawn:=d',toks:=t' }:=by
  have neL:∀ b o,X.s₀.heap.get? b=some o->b≠X.env.locals:=fun b o e=>Ab (zM (Heap.lt_size e) I.ok.above)
  have neC:∀ b o,X.s₀.heap.get? b=some o->b∉X.ex->b∉ch:=fun b o e hx hb=>by
    rcases (hch b hb).1 with z | z
    · exact hx z
    · exact absurd (zM (Heap.lt_size e) z) (Nat.lt_irrefl _)
  have cellK:∀ x c,X.env.cells.lookup x=some c->∀ v,s.heap.IsCell c v->h'.IsCell c v:=fun x c e v ⟨o,ho,hd⟩=>by
    have nch:c∉ch:=fun z=>(hch c z).2.2.1 x c e rfl
    by_cases hc:c∈X.fs
    · obtain ⟨sl,q⟩:=slot c o (I.cne x c e) hc nch ho (I.freeC x c e)
      exact ⟨_,q,hd⟩
    · exact ⟨o,keep c o (I.cne x c e) hc nch ho (I.freeC x c e),hd⟩
  refine ⟨I.ok,I.os,hg,⟨fun b o e n hb hx=>?_,fun b o e n hb hx=>?_,fun b o e n hx=>?_,fun b o e hx=>?_,fun b xs e=>tups b xs (I.base.tups b xs e),fun b o xs e=>eu b o xs (I.base.eu b o xs e),fun b ps e=>?_⟩,?_,fun x c e=>?_,?_,fun x c e=>?_,fun p hp=>?_,hok,I.len⟩
  · exact keep b o (neL b o e) hb (neC b o e hx) (I.base.keep b o e n hb hx) (I.base.free b o e n hx)
  · obtain ⟨sl,e1⟩:=I.base.slot b o e n hb hx
    obtain ⟨sl',e2⟩:=slot b _ (neL b o e) hb (neC b o e hx) e1 (I.base.free b o e n hx)
    exact ⟨sl',e2⟩
  · obtain ⟨o',e1⟩:=I.base.there b o e hx
    exact free b o' (neC b o e hx) e1 (I.base.free b o e n hx)
  · obtain ⟨o',e1⟩:=I.base.there b o e hx
    exact there b o' (neC b o e hx) e1
  · obtain ⟨m1,e1⟩:=I.base.eS b ps e
    obtain ⟨m2,e2⟩:=eS b _ e1
    exact ⟨m1++m2,by rw [e2,Array.append_assoc]⟩
  · obtain ⟨m,hn,hl⟩:=I.loc
    refine ⟨m,ns m hn,fun i x v e1 e2 e3=>?_⟩
    obtain ⟨u,r,l⟩:=hl i x v e1 e2 e3
    refine ⟨u,r,?_⟩
    rcases l with l | ⟨k,c,e,z⟩
    · exact .inl l
    · exact .inr ⟨k,c,e,cellK x c e _ z⟩
  · obtain ⟨v,z⟩:=I.cell x c e
    exact ⟨v,cellK x c e v z⟩
  · obtain ⟨m,⟨o,_,_,ho,_⟩,_⟩:=I.loc
    exact free _ o (fun z=>(hch _ z).2.1 rfl) ho I.free
  · obtain ⟨v,o,ho,hd⟩:=I.cell x c e
    exact free c o (fun z=>(hch c z).2.2.1 x c e rfl) ho (I.freeC x c e)
  · obtain ⟨e,n,ne,nf,d⟩:=I.pin p hp
    have nch:p.1∉ch:=fun z=>(hch p.1 z).2.2.2 p hp rfl
    exact ⟨keep p.1 p.2 ne nf nch e n,free p.1 p.2 nch e n,ne,nf,d⟩
theorem Inv.un {t':Nat} (I:Inv X pins σ H s) (u:Un X.fs [] H H' s.heap h') (hok:HOk X.prog X.w H' h'):Inv X pins σ H' { s with heap:=h',toks:=t' }:=by
  obtain ⟨m,⟨o,es,ep,ho,r⟩,_⟩:=id I.loc
  obtain ⟨sl,hL⟩:=u.any ho I.free (by simp)
  exact I.step (g':=s.gens) (d':=s.drawn) (ch:=[]) (fun _ z=>nomatch z) (fun b o _ hb _ e n=>u.keep b o e n hb (by simp)) (fun b o _ hb _ e n=>u.slot b o e n hb (by simp)) (fun b o _ e n=>u.free b o e n (by simp)) (fun b o _ e=>u.there b o e (by simp)) u.tups u.eu u.eS (fun m' hm=>by
    obtain ⟨o',es',ep',ho',r'⟩:=hm
    rw [ho] at ho';cases ho'
    exact ⟨_,es',ep',hL,r'⟩) hok I.bare
theorem Inv.call {g':Array GenState} {t':Nat} {d':Drawn} {ch:List Addr} (I:Inv X pins σ H s) (u:Un (frs X.stack) ch H H' s.heap h') (hok:HOk X.prog X.w H' h') (hg:AllBare g')
    (hch:∀ b∈ch,(b∈X.ex\/X.s₀.heap.objs.size<=b)/\b≠X.env.locals/\(∀ x c,X.env.cells.lookup x=some c->c≠b)/\∀ p∈X.pn++pins,p.1≠b) :
    Inv X pins σ H' { s with heap:=h',gens:=g',drawn:=d',toks:=t' }:=by
  obtain ⟨m,⟨o,es,ep,ho,r⟩,_⟩:=id I.loc
  obtain ⟨sl,hL⟩:=u.any ho I.free fun z=>(hch _ z).2.1 rfl
  exact I.step (ch:=ch) hch (fun b o hL hb hc e n=>u.keep b o e n (fun z=>(Ak (I.iG b z)).elim hL hb) hc) (fun b o _ _ hc e n=>u.any e n hc) (fun b o hc e n=>u.free b o e n hc) (fun b o hc e=>u.there b o e hc) u.tups u.eu u.eS (fun m' hm=>by
    obtain ⟨o',es',ep',ho',r'⟩:=hm
    rw [ho] at ho';cases ho'
    exact ⟨_,es',ep',hL,r'⟩) hok hg
theorem Inv.turned {t':Nat} {it:Addr} (I:Inv X pins σ H s) (k:∀ b o,b≠it->s.heap.get? b=some o->h'.get? b=some o) (hn:H it=none) (hL:it≠X.env.locals)
    (h1:it∈X.ex\/X.s₀.heap.objs.size<=it) (h2:∀ x c,X.env.cells.lookup x=some c->c≠it) (h3:∀ p∈X.pn++pins,p.1≠it):Inv X pins σ H { s with heap:=h',toks:=t' }:=by
  have nit:∀ b u,H b=some u->b≠it:=fun b u e z=>by rw [z,hn] at e;cases e
  refine I.step (g':=s.gens) (d':=s.drawn) (ch:=[it]) (fun b hb=>?_) (fun b o _ _ hc e _=>k b o (fun z=>hc (by simp [z])) e) (fun b o _ _ hc e _=>⟨o.slots,k b o (fun z=>hc (by simp [z])) e⟩) (fun _ _ _ _ n=>n)
    (fun b o hc e=>⟨o,k b o (fun z=>hc (by simp [z])) e⟩) (fun _ _ e=>e) (fun _ _ _ e=>e) (fun b ps e=>⟨#[],by rw [e];simp⟩) (fun m hm=>?_) (fun b u e=>?_) I.bare
  · have e:b=it:=by simpa using hb
    subst e
    exact ⟨h1,hL,h2,h3⟩
  · obtain ⟨o,es,ep,ho,r⟩:=hm
    exact ⟨o,es,ep,k _ o (Ne.symm hL) ho,r⟩
  · refine (I.hok b u e).stay (fun c v hc q=>k c v ?_ q) (fun _ q=>q) fun _ _ q=>q
    rcases hc with z | z
    · rw [z];exact nit b u e
    · exact nit c _ z
theorem Inv.tok (I:Inv X pins σ H s) (t:Nat):Inv X pins σ H { s with toks:=t }:=I.un (h':=s.heap) (t':=t) Un.refl I.hok
theorem Inv.kept {t':Nat} (I:Inv X pins σ H s) (k:∀ b u,s.heap.get? b=some u->h'.get? b=some u):Inv X pins σ H { s with heap:=h',toks:=t' }:=I.un (Un.kept k) (I.hok.kept k)
theorem Inv.laid {a:Addr} {o:HO} {t':Nat} (I:Inv X pins σ H s) (k:∀ b u,s.heap.get? b=some u->h'.get? b=some u) (hp:s.heap.objs.size<=a) (new:aS X.prog X.w (upd H a o) h' a o) :
    Inv X pins σ (upd H a o) { s with heap:=h',toks:=t' }:=I.un (Un.laid k hp (I.hok.fresh hp)) (I.hok.laid k hp new)
theorem Inv.write {x e:Addr} {o:HO} {t':Nat} (I:Inv X pins σ H s) (mu:Mut (H x)) (he:e=x\/H e=some (.own x)) (k:∀ b u,b≠e->s.heap.get? b=some u->h'.get? b=some u) (heo:∃ u,h'.get? e=some u)
    (new:aS X.prog X.w (upd H x o) h' x o):Inv X pins σ (upd H x o) { s with heap:=h',toks:=t' }:=I.un (Un.write mu he k heo) (I.hok.write mu he k heo new)
theorem Inv.fj {pH:List (Addr×Obj)} (I:Inv X pins σ H s) (h:∀ p∈pH,s.heap.get? p.1=some p.2/\H p.1=none/\p.1≠X.env.locals/\p.1∉X.fs/\∀ v,p.2.data≠.cell v):Inv X pH σ H s:=
  ⟨I.ok,I.os,I.bare,I.base,I.loc,I.cell,I.free,I.freeC,fun p hp=>(Aj hp).elim (fun z=>I.pin p (List.mem_append_left _ z)) (h p),I.hok,I.len⟩
theorem jO {N:List Str} (hN:N.Nodup) {i j:Nat} {x:Str} (a:N[i]?=some x) (b:N[j]?=some x):i=j:=by
  obtain ⟨h1,e1⟩:=Ah a
  obtain ⟨h2,e2⟩:=Ah b
  exact (List.getElem_inj hN).mp (e1.trans e2.symm)
theorem gI {M:Model} {A:Around} {E:Value->Shared->Prop} {i:Nat} {x:Str} {v:V} {u:Value} {Q:Unit->Shared->Prop} (I:Inv X pins σ H s) (hN:X.N.Nodup) (hi:X.N[i]?=some x) (hx:Loc X.env.scope x) (r:RelV v u)
    (h:∀ s',Inv X pins (σ.set i (some v)) H s'->(∃ a,Heap.SameBut a s.heap s'.heap/\(a=X.env.locals\/X.env.cells.lookup x=some a))->Q () s') (hf:X.fn x=true\/X.env.scope.names.lookup x=some .local:=by first | exact .inl rfl | exact .inr rfl | assumption):wpAny M A (storeName X.env x u) Q E s:=by
  obtain ⟨m,hn,hl⟩:=id I.loc
  have hcls:(X.env.scope.kind == .class || (X.env.scope.kind == .module && X.env.locals != X.env.globals))=false:=by rw [I.ok.kind];rfl
  have hiσ : i < σ.length:=by rw [I.len];exact (Ah hi).1
  have cne:=I.cne
  have tracked:∀ {a:Addr} {h':Heap},(∃ o,s.heap.get? a=some o/\H a=none)->Heap.SameBut a s.heap h'->HOk X.prog X.w H h':=fun {a h'} ha hs b ob e=>by
    obtain ⟨_,_,hfree⟩:=ha
    refine (I.hok b ob e).stay (fun c w' hc q=>(hs.2 c ?_).trans q) (fun _ q=>q) fun _ _ q=>q
    rintro rfl
    rcases hc with rfl | hc
    · rw [hfree] at e;cases e
    · rw [hfree] at hc;cases hc
  rcases hx with hk | hk
  · refine wpAny_storeName_local hk hn (fun h' hn' hs=>?_) hcls
    obtain ⟨oL,_,_,hoL,_⟩:=id hn
    refine h _ ⟨I.ok,I.os,I.bare,⟨fun b o e n hb hx=>?_,fun b o e n hb hx=>?_,I.base.free,fun b o e hx=>?_,I.base.tups,I.base.eu,I.base.eS⟩,⟨_,hn',fun j y v' e1 e2 e3=>?_⟩,fun y c e=>?_,I.free,I.freeC,fun p hp=>?_,tracked ⟨oL,hoL,I.free⟩ hs,by simpa using I.len⟩ ⟨_,hs,.inl rfl⟩
    · exact (hs.2 b (Ab (zM (Heap.lt_size e) I.ok.above))).trans (I.base.keep b o e n hb hx)
    · obtain ⟨sl,e1⟩:=I.base.slot b o e n hb hx
      exact ⟨sl,(hs.2 b (Ab (zM (Heap.lt_size e) I.ok.above))).trans e1⟩
    · obtain ⟨o',e1⟩:=I.base.there b o e hx
      exact ⟨o',(hs.2 b (Ab (zM (Heap.lt_size e) I.ok.above))).trans e1⟩
    · by_cases hj:j=i
      · subst hj
        rw [hi] at e1;cases e1
        rw [List.getElem?_set_self hiσ] at e2
        cases e2
        exact ⟨u,r,.inl ⟨hk,by simp⟩⟩
      · rw [List.getElem?_set_ne (Ne.symm hj)] at e2
        obtain ⟨u',r',q⟩:=hl j y v' e1 e2 e3
        refine ⟨u',r',?_⟩
        rcases q with ⟨k,e⟩ | ⟨k,c,e,z⟩
        · refine .inl ⟨k,?_⟩
          have:y≠x:=fun e=>hj (jO hN e1 (e▸hi))
          simp [this,e]
        · exact .inr ⟨k,c,e,z.sameBut hs (cne y c e)⟩
    · obtain ⟨w',z⟩:=I.cell y c e
      exact ⟨w',z.sameBut hs (cne y c e)⟩
    · obtain ⟨e,n,ne,nf,d⟩:=I.pin p hp
      exact ⟨(hs.2 p.1 ne).trans e,n,ne,nf,d⟩
  · have hfn:X.fn x=true:=by
      rcases hf with z | z
      · exact z
      · rw [z] at hk;cases hk
    obtain ⟨c,hc⟩:=I.ok.has x (.inl hk)
    obtain ⟨w',z⟩:=I.cell x c hc
    refine wpAny_storeName_cell I.ok.kind hk hc z (fun h' hc' hs=>?_)
    obtain ⟨oc,hoc,hocd⟩:=id z
    refine h { s with heap:=h' } ⟨I.ok,I.os,I.bare,⟨fun b o e n hb hx=>?_,fun b o e n hb hx=>?_,I.base.free,fun b o e hx=>?_,I.base.tups,I.base.eu,I.base.eS⟩,⟨m,hn.sameBut hs (Ne.symm (cne x c hc)),fun j y v' e1 e2 e3=>?_⟩,fun y c' e=>?_,I.free,I.freeC,fun p hp=>?_,tracked ⟨oc,hoc,I.freeC x c hc⟩ hs,by simpa using I.len⟩ ⟨c,hs,.inr hc⟩
    · exact (hs.2 b (Ab (zM (Heap.lt_size e) (I.ok.cab x c hfn hc)))).trans (I.base.keep b o e n hb hx)
    · obtain ⟨sl,e1⟩:=I.base.slot b o e n hb hx
      exact ⟨sl,(hs.2 b (Ab (zM (Heap.lt_size e) (I.ok.cab x c hfn hc)))).trans e1⟩
    · obtain ⟨o',e1⟩:=I.base.there b o e hx
      exact ⟨o',(hs.2 b (Ab (zM (Heap.lt_size e) (I.ok.cab x c hfn hc)))).trans e1⟩
    · by_cases hj:j=i
      · subst hj
        rw [hi] at e1;cases e1
        rw [List.getElem?_set_self hiσ] at e2
        cases e2
        exact ⟨u,r,.inr ⟨.inl hk,c,hc,hc'⟩⟩
      · rw [List.getElem?_set_ne (Ne.symm hj)] at e2
        obtain ⟨u',r',q⟩:=hl j y v' e1 e2 e3
        refine ⟨u',r',?_⟩
        rcases q with q | ⟨k,c',e,z'⟩
        · exact .inl q
        · refine .inr ⟨k,c',e,z'.sameBut hs ?_⟩
          rintro rfl
          exact hj (jO hN e1 (I.ok.inj _ _ _ e hc▸hi))
    · by_cases hcc:c'=c
      · subst hcc;exact ⟨_,hc'⟩
      · obtain ⟨w2,z2⟩:=I.cell y c' e
        exact ⟨w2,z2.sameBut hs hcc⟩
    · obtain ⟨e,n,ne,nf,d⟩:=I.pin p hp
      refine ⟨(hs.2 p.1 ?_).trans e,n,ne,nf,d⟩
      intro q
      rw [q,hoc] at e
      have q':oc=p.2:=zW e
      exact d w' (by rw [<- q'];exact hocd)
theorem jB {M:Model} {A:Around} {E:Value->Shared->Prop} {i:Nat} {x:Str} {v:V} {u:Value} {Q:Unit->Shared->Prop} (I:Inv X pins σ H s) (hN:X.N.Nodup) (hi:X.N[i]?=some x) (hx:Loc X.env.scope x) (r:RelV v u)
    (h:∀ s',Inv X pins (σ.set i (some v)) H s'->Q () s') (hf:X.fn x=true\/X.env.scope.names.lookup x=some .local:=by first | exact .inl rfl | exact .inr rfl | assumption):wpAny M A (storeName X.env x u) Q E s:=
  gI I hN hi hx r (fun s' I' _=>h s' I') hf
theorem Inv.xx {s':Shared} {ch:List Addr} (I:Inv X pins σ H s) (ho:s'.os=s.os) (u:Un (frs X.stack) ch H H' s.heap s'.heap) (hok:HOk X.prog X.w H' s'.heap) (hg:AllBare s'.gens)
    (hch:∀ b∈ch,(b∈X.ex\/X.s₀.heap.objs.size<=b)/\b≠X.env.locals/\(∀ x c,X.env.cells.lookup x=some c->c≠b)/\∀ p∈X.pn++pins,p.1≠b):Inv X pins σ H' s':=by
  obtain ⟨h',g',d',t',o'⟩:=s'
  have e:o'=s.os:=ho
  subst e
  exact I.call (g':=g') (t':=t') (d':=d') u hok hg hch
end
abbrev XK:=Value->Option Addr->Hp->Prop
abbrev St:=List (Option V)
abbrev VK:=V->Hp->Prop
abbrev TE:=St->Hp->VK->Prop
abbrev TT:=St->Hp->(Bool->Hp->Prop)->Prop
abbrev TA:=St->Hp->(List V->Hp->Prop)->Prop
structure Ends where
  nx:St->Hp->Prop
  rt:VK
  bk:St->Hp->Prop:=fun _ _=>False
  ct:St->Hp->Prop:=fun _ _=>False
abbrev TS:=Ends->St->Hp->Prop
def EP (X:Cx) (pins:List (Addr×Obj)) (σ : St) (Q:VK) (u:Value) (s':Shared):Prop:=∃ v H',Inv X pins σ H' s'/\RelV v u/\Q v H'
def TP (X:Cx) (pins:List (Addr×Obj)) (σ : St) (Q:Bool->Hp->Prop) (b:Bool) (s':Shared):Prop:=∃ H',Inv X pins σ H' s'/\Q b H'
def AP (X:Cx) (pins:List (Addr×Obj)) (σ : St) (Q:List V->Hp->Prop) (us:List Value) (s':Shared):Prop:=∃ vs H',Inv X pins σ H' s'/\Vals vs us/\Q vs H'
def SP (X:Cx) (pins:List (Addr×Obj)) (D:Ends) (f:Flow) (s':Shared):Prop:=
  match f with
  | .next=>∃ σ' H',Inv X pins σ' H' s'/\D.nx σ' H'
  | .brk=>∃ σ' H',Inv X pins σ' H' s'/\D.bk σ' H'
  | .cont=>∃ σ' H',Inv X pins σ' H' s'/\D.ct σ' H'
  | .ret u=>∃ v σ' H',Inv X pins σ' H' s'/\RelV v u/\D.rt v H'
def PE (X:Cx) (e:Expr) (t:TE):Prop:=
  ∀ (pins:List (Addr×Obj)) (s:Shared) (σ : St) (H:Hp) (Q:VK),Inv X pins σ H s->t σ H Q->wpAny (model X.prog X.w) X.A (eval e X.env) (EP X pins σ Q) X.xe s
def PT (X:Cx) (e:Expr) (t:TT):Prop:=
  ∀ (pins:List (Addr×Obj)) (s:Shared) (σ : St) (H:Hp) (Q:Bool->Hp->Prop),Inv X pins σ H s->t σ H Q->wpAny (model X.prog X.w) X.A (isTrue e X.env (eval e X.env)) (TP X pins σ Q) X.xe s
def PW (X:Cx) (e:Expr) (t:TT):Prop:=
  ∀ (whole:Sem Value) (pins:List (Addr×Obj)) (s:Shared) (σ : St) (H:Hp) (Q:Bool->Hp->Prop),Inv X pins σ H s->t σ H Q->wpAny (model X.prog X.w) X.A (isTrue e X.env whole) (TP X pins σ Q) X.xe s
theorem PW.pt {X:Cx} {e:Expr} {t:TT} (h:PW X e t):PT X e t:=h _
def PA (X:Cx) (es:List Expr) (t:TA):Prop:=
  ∀ (pos:Pos) (pins:List (Addr×Obj)) (s:Shared) (σ : St) (H:Hp) (Q:List V->Hp->Prop),Inv X pins σ H s->t σ H Q->wpAny (model X.prog X.w) X.A (spliced (backTo pos (starEach es X.env))) (AP X pins σ Q) X.xe s
def PS (X:Cx) (st:Stmt) (t:TS):Prop:=
  ∀ (pins:List (Addr×Obj)) (s:Shared) (σ : St) (H:Hp) (D:Ends),Inv X pins σ H s->t D σ H->wpAny (model X.prog X.w) X.A (exec st X.env) (SP X pins D) X.xe s
def PSs (X:Cx) (st:List Stmt) (t:TS):Prop:=
  ∀ (pins:List (Addr×Obj)) (s:Shared) (σ : St) (H:Hp) (D:Ends),Inv X pins σ H s->t D σ H->wpAny (model X.prog X.w) X.A (execs st X.env) (SP X pins D) X.xe s
theorem thn {α : Type} {t:Sem α} {Q Q' : α->Shared->Prop} {M:Model} {A:Around} {E:Value->Shared->Prop} {s:Shared} (h:wpAny M A t Q E s) (hQ:∀ a s,Q a s->Q' a s):wpAny M A t Q' E s:=wpAny_mono h hQ fun _ _ x=>x
section
variable {X:Cx}
def uz (i:Nat):TE:=fun σ H Q=>∃ v,σ[i]?=some (some v)/\Q v H
def tC (v:V):TE:=fun _ H Q=>Q v H
theorem uM {i:Nat} {x:Str} {pos:Pos} (hN:X.N[i]?=some x) (hv:Vis X.env.scope x) (hd:(x == ("__debug__" : Str))=false:=by decide) (hcd:(x == ("__classdict__" : Str))=false:=by decide):PE X (.Name x pos) (uz i):=by
  intro pins s σ H Q I h
  obtain ⟨v,e,h⟩:=h
  obtain ⟨m,hn,hl⟩:=I.loc
  obtain ⟨u,r,l⟩:=hl i x v hN e hv
  have fin:EP X pins σ Q u s:=⟨v,H,I,r,h⟩
  rcases l with ⟨hk,hm⟩ | ⟨hk,c,hc,hcell⟩
  · exact wpAny_Name (wpAny_loadName_local I.ok.kind hk hn hm fin) hd
  · rcases hk with hk | hk
    · exact wpAny_Name (wpAny_loadName_cell I.ok.kind hk hc hcell fin) hd
    · exact wpAny_Name (wpAny_loadName_free I.ok.kind hk hc hcell fin hcd) hd
theorem af {i j pos}:PE X (.Constant (.int i) j pos) (tC (.int i)):=fun _ _ _ H _ I h=>wpAny_Constant_int ⟨.int i,H,I.tok _,⟨_,rfl⟩,h⟩
theorem eF {b j pos}:PE X (.Constant (.bool b) j pos) (tC (.bl b)):=fun _ _ _ H _ I h=>Constant_bool ⟨.bl b,H,I,rfl,h⟩
theorem pJ {x j pos}:PE X (.Constant (.str x) j pos) (tC (.str x)):=fun _ _ _ H _ I h=>Calls.Constant_str ⟨.str x,H,I.tok _,⟨_,rfl⟩,h⟩
def Gl (X:Cx) (x:Str):Prop:=X.env.kindOf x=some .globalImplicit
theorem fq {E:Value->Shared->Prop} {pins:List (Addr×Obj)} {s:Shared} {σ : St} {H:Hp} {x:Str} {u:Value} {pos:Pos} {Q:Value->Shared->Prop} (I:Inv X pins σ H s) (hg:Gl X x) (hm:X.mg x=some u) (h:Q u s)
    (hd:(x == ("__debug__" : Str))=false:=by decide):wpAny (model X.prog X.w) X.A (eval (.Name x pos) X.env) Q E s:=
  Calls.Name_function_global I.ok.kind hg (Calls.loadGlobal_global (by rw [I.ok.glob];exact I.mod.glob.keeps I.bk) hm h) hd
theorem c6 {E:Value->Shared->Prop} {pins:List (Addr×Obj)} {s:Shared} {σ : St} {H:Hp} {x:Str} {u:Value} {pos:Pos} {Q:Value->Shared->Prop} (I:Inv X pins σ H s) (hg:Gl X x) (hm:X.mg x=none) (hv:bootBuiltins x=some u) (h:Q u s)
    (hn:x ≠ "__name__" := by decide) (hd:(x == ("__debug__" : Str))=false:=by decide):wpAny (model X.prog X.w) X.A (eval (.Name x pos) X.env) Q E s:=by
  obtain ⟨mb,h1,h2⟩:=I.mod.blt
  exact Calls.Name_function_global I.ok.kind hg (Calls.loadGlobal_builtin (by rw [I.ok.glob];exact I.mod.glob.keeps I.bk) hm (by rw [I.ok.blt];exact h1.keeps I.bk) ((h2 x hn).trans hv) h) hd
theorem rE {x:Str} {v:V} {u:Value} {pos:Pos} (hg:Gl X x) (hm:X.mg x=some u) (r:RelV v u) (hd:(x == ("__debug__" : Str))=false:=by decide):PE X (.Name x pos) (tC v):=
  fun _ _ _ H _ I h=>fq I hg hm ⟨v,H,I,r,h⟩ hd
theorem rG {x:Str} {v:V} {u:Value} {pos:Pos} (hg:Gl X x) (hm:X.mg x=none) (hv:bootBuiltins x=some u) (r:RelV v u) (hn:x ≠ "__name__" := by decide) (hd:(x == ("__debug__" : Str))=false:=by decide):PE X (.Name x pos) (tC v):=
  fun _ _ _ H _ I h=>c6 I hg hm hv ⟨v,H,I,r,h⟩ hn hd
variable {a b:Expr} {ta tb:TE} {pos:Pos}
def tB (t:TE):TT:=fun σ H Q=>t σ H fun x H1=>∃ c,x = .bl c/\Q c H1
theorem dU {e:Expr} {t:TE} (h:PE X e t) (he:∀ whole,isTrue e X.env whole=(do let v <- whole;standAt e.pos;holding [v] (truthy v)):=by intro _;rfl):PT X e (tB t):=by
  intro pins s σ H Q I hw
  refine isTrue_plain (thn (h pins s σ H _ I hw) fun v s1 ⟨x,H1,I1,r1,q1⟩=>?_) (he _)
  obtain ⟨d,rfl,q⟩:=q1
  cases r1
  exact wpAny_truthy_bool ⟨H1,I1,q⟩
variable {tA tB':TT} {rest:List Expr}
def xT (t u:TT):TT:=fun σ H Q=>t σ H fun c H1=>if c=true then u σ H1 Q else Q false H1
def tOr (t u:TT):TT:=fun σ H Q=>t σ H fun c H1=>if c=true then Q true H1 else u σ H1 Q
def vW (t:TT):TT:=fun σ H Q=>t σ H fun c H1=>Q (!c) H1
theorem rg (ha:PT X a tA):PW X (.BoolOp .And [a] pos) tA:=by
  intro wh pins s σ H Q I h
  refine isTrue_and (thn (ha pins s σ H Q I h) fun c s1 e=>?_)
  cases c with
  | true=>exact isTrue_and_nil e
  | false=>exact e
theorem kR (ha:PT X a tA):PW X (.BoolOp .Or [a] pos) tA:=by
  intro wh pins s σ H Q I h
  refine isTrue_or (thn (ha pins s σ H Q I h) fun c s1 e=>?_)
  cases c with
  | false=>exact isTrue_or_nil e
  | true=>exact e
theorem uK (ha:PT X a tA) (hb:PW X (.BoolOp .And (b::rest) pos) tB'):PW X (.BoolOp .And (a::b::rest) pos) (xT tA tB'):=by
  intro wh pins s σ H Q I h
  refine isTrue_and (thn (ha pins s σ H _ I h) fun c s1 ⟨H1,I1,q1⟩=>?_)
  cases c with
  | true=>exact hb wh pins s1 σ H1 Q I1 q1
  | false=>exact ⟨H1,I1,q1⟩
theorem l5 (ha:PT X a tA) (hb:PW X (.BoolOp .Or (b::rest) pos) tB'):PW X (.BoolOp .Or (a::b::rest) pos) (tOr tA tB'):=by
  intro wh pins s σ H Q I h
  refine isTrue_or (thn (ha pins s σ H _ I h) fun c s1 ⟨H1,I1,q1⟩=>?_)
  cases c with
  | true=>exact ⟨H1,I1,q1⟩
  | false=>exact hb wh pins s1 σ H1 Q I1 q1
theorem dW (ha:PT X a tA):PT X (.UnaryOp .Not a pos) (vW tA):=by
  intro pins s σ H Q I h
  exact isTrue_not (ha pins s σ H (fun c H1=>Q (!c) H1) I h)
def tS (ta tb:TE):TE:=fun σ H Q=>ta σ H fun x H1=>∃ c,x = .bl c/\if c=true then tb σ H1 Q else Q (.bl false) H1
def vV (ta tb:TE):TE:=fun σ H Q=>ta σ H fun x H1=>∃ c,x = .bl c/\if c=true then Q (.bl true) H1 else tb σ H1 Q
def tP (ta:TE):TE:=fun σ H Q=>ta σ H fun x H1=>∃ c,x = .bl c/\Q (.bl (!c)) H1
theorem iV {op} {t:TE} (h:PE X a t):PE X (.BoolOp op [a] pos) t:=fun pins s σ H Q I hw=>BoolOp_one (h pins s σ H Q I hw)
theorem kW (ha:PE X a ta) (hb:PE X (.BoolOp .And (b::rest) pos) tb):PE X (.BoolOp .And (a::b::rest) pos) (tS ta tb):=by
  intro pins s σ H Q I h
  refine BoolOp_and (thn (ha pins s σ H _ I h) fun v s1 ⟨x,H1,I1,r1,q1⟩=>?_)
  obtain ⟨c,rfl,q1⟩:=q1
  cases r1
  refine wpAny_truthy_bool ?_
  cases c with
  | true=>exact hb pins s1 σ H1 Q I1 q1
  | false=>exact ⟨.bl false,H1,I1,rfl,q1⟩
theorem wG (ha:PE X a ta) (hb:PE X (.BoolOp .Or (b::rest) pos) tb):PE X (.BoolOp .Or (a::b::rest) pos) (vV ta tb):=by
  intro pins s σ H Q I h
  refine BoolOp_or (thn (ha pins s σ H _ I h) fun v s1 ⟨x,H1,I1,r1,q1⟩=>?_)
  obtain ⟨c,rfl,q1⟩:=q1
  cases r1
  refine wpAny_truthy_bool ?_
  cases c with
  | false=>exact hb pins s1 σ H1 Q I1 q1
  | true=>exact ⟨.bl true,H1,I1,rfl,q1⟩
theorem uN (ha:PE X a ta):PE X (.UnaryOp .Not a pos) (tP ta):=by
  intro pins s σ H Q I h
  refine UnaryOp_ (thn (ha pins s σ H _ I h) fun v s1 ⟨x,H1,I1,r1,q1⟩=>?_)
  obtain ⟨c,rfl,q1⟩:=q1
  cases r1
  exact not_of (wpAny_truthy_bool ⟨.bl (!c),H1,I1,rfl,q1⟩)
end
def SqL (K:Ao) (H:Hp) (a:Addr) (xs:List V):Prop:=
  Rd H a (.lst xs) \/
    ∃ (o:Obj) (its:Array Value) (n:Nat),K.lookup a=some o/\o.cls = .type "list" /\ o.dict=none/\o.data = .seq its n/\its.size<=sizeLine/\Vals xs its.toList
def SqT (K:Ao) (H:Hp) (a:Addr) (xs:List V):Prop:=
  Rd H a (.tup xs) \/
    ∃ (o:Obj) (its:Array Value) (n:Nat),K.lookup a=some o/\o.cls = .type "tuple" /\ o.data = .seq its n/\its.size<=sizeLine/\Vals xs its.toList
def yD:Value->Option V
  | .none=>some .non
  | .bool b=>some (.bl b)
  | .int i _=>some (.int i)
  | .str x _=>some (.str x)
  | .bytes b _=>some (.byt b)
  | .float b _=>some (.flt b)
  | .ref a=>some (.ref a)
  | .type n=>some (.ty n)
  | _=>none
theorem RelV.abs {x:V} {u:Value} (r:RelV x u):yD u=some x:=by
  cases x with
  | non=>cases r;rfl
  | bl _=>cases r;rfl
  | int _=>obtain ⟨t,rfl⟩:=r;rfl
  | str _=>obtain ⟨t,rfl⟩:=r;rfl
  | byt _=>obtain ⟨t,rfl⟩:=r;rfl
  | flt _=>obtain ⟨t,rfl⟩:=r;rfl
  | ref _=>cases r;rfl
  | ty _=>cases r;rfl
theorem RelV.inj {x y:V} {u:Value} (r:RelV x u) (q:RelV y u):x=y:=zW (r.abs.symm.trans q.abs)
theorem Vals.inj:∀ {xs ys:List V} {us:List Value},Vals xs us->Vals ys us->xs=ys
  | _,_,_,.nil,.nil=>rfl
  | _,_,_,.cons r t,.cons r' t'=>by rw [r.inj r',Vals.inj t t']
section
variable {X:Cx} {pins:List (Addr×Obj)} {σ : St} {H:Hp} {s:Shared} {a:Addr} {xs ys:List V}
theorem SqL.of {K:Ao} (h:H a=some (.lst xs)):SqL K H a xs:=.inl (.inl h)
theorem SqT.of {K:Ao} (h:H a=some (.tup xs)):SqT K H a xs:=.inl (.inl h)
theorem Inv.list (I:Inv X pins σ H s) (h:SqL X.K H a xs):∃ its:List Value,Vals xs its/\PlainL s.heap a its.toArray/\xs.length<=sizeLine:=by
  rcases h with h | ⟨o,its,n,hk,hc,hd,hs,hz,r⟩
  · obtain ⟨z,its,n,r,e⟩:=h.ok I.hok
    exact ⟨its,r,⟨_,n,e,rfl,rfl,rfl⟩,z⟩
  · refine ⟨its.toList,r,⟨o,n,I.kIn a o hk,hc,hd,by simpa using hs⟩,?_⟩
    have e:=r.length
    simp only [Array.length_toList] at e
    omega
theorem Inv.tuple (I:Inv X pins σ H s) (h:SqT X.K H a xs):∃ its:List Value,Vals xs its/\IsTup s.heap a its.toArray/\xs.length<=sizeLine:=by
  rcases h with h | ⟨o,its,n,hk,hc,hs,hz,r⟩
  · obtain ⟨z,its,r,p⟩:=h.ok I.hok
    exact ⟨its,r,p,z⟩
  · refine ⟨its.toList,r,⟨o,I.kIn a o hk,hc,n,by simpa using hs⟩,?_⟩
    have e:=r.length
    simp only [Array.length_toList] at e
    omega
theorem Inv.dm (I:Inv X pins σ H s) (h:SqL X.K H a xs) (h':SqL X.K H a ys):xs=ys:=by
  obtain ⟨its,r,⟨o,n,e,_,_,d⟩,_⟩:=I.list h
  obtain ⟨its',r',⟨o',n',e',_,_,d'⟩,_⟩:=I.list h'
  rw [e] at e';cases e'
  rw [d] at d'
  injection d' with d1 _
  have:its=its':=by simpa using congrArg Array.toList d1
  subst this
  exact r.inj r'
theorem Inv.dQ (I:Inv X pins σ H s) (h:SqT X.K H a xs) (h':SqT X.K H a ys):xs=ys:=by
  obtain ⟨its,r,⟨o,e,_,n,d⟩,_⟩:=I.tuple h
  obtain ⟨its',r',⟨o',e',_,n',d'⟩,_⟩:=I.tuple h'
  rw [e] at e';cases e'
  rw [d] at d'
  injection d' with d1 _
  have:its=its':=by simpa using congrArg Array.toList d1
  subst this
  exact r.inj r'
end
abbrev Cx.dP (X:Cx) (E:Value->Shared->Prop):Cx:={ X with xe:=E }
abbrev Cx.nox (X:Cx):Cx:=X.dP fun _ _=>False
theorem Cx.Ok.dP {X:Cx} (ok:X.Ok) (E:Value->Shared->Prop):(X.dP E).Ok:=
  ⟨ok.mod,ok.kind,ok.glob,ok.blt,ok.above,ok.inj,ok.has,ok.cab,ok.hd,ok.frames,ok.stk,ok.exf,ok.bs,ok.bsz,ok.noex,ok.exfs,ok.eV,ok.frf⟩
theorem Cx.Ok.bI {X:Cx} {E:Value->Shared->Prop} (ok:(X.dP E).Ok):X.Ok:=
  ⟨ok.mod,ok.kind,ok.glob,ok.blt,ok.above,ok.inj,ok.has,ok.cab,ok.hd,ok.frames,ok.stk,ok.exf,ok.bs,ok.bsz,ok.noex,ok.exfs,ok.eV,ok.frf⟩
section
variable {X:Cx} {pins:List (Addr×Obj)} {σ : St} {H:Hp} {s:Shared} {E:Value->Shared->Prop}
theorem Inv.dP (I:Inv X pins σ H s) (E:Value->Shared->Prop):Inv (X.dP E) pins σ H s:=⟨I.ok.dP E,I.os,I.bare,I.base,I.loc,I.cell,I.free,I.freeC,I.pin,I.hok,I.len⟩
theorem Inv.bI (I:Inv (X.dP E) pins σ H s):Inv X pins σ H s:=⟨I.ok.bI,I.os,I.bare,I.base,I.loc,I.cell,I.free,I.freeC,I.pin,I.hok,I.len⟩
theorem SP.bI {D:Ends} {f:Flow} {s':Shared} (h:SP (X.dP E) pins D f s'):SP X pins D f s':=by
  cases f with
  | next=>obtain ⟨σ',H',I,q⟩:=h;exact ⟨σ',H',I.bI,q⟩
  | brk=>obtain ⟨σ',H',I,q⟩:=h;exact ⟨σ',H',I.bI,q⟩
  | cont=>obtain ⟨σ',H',I,q⟩:=h;exact ⟨σ',H',I.bI,q⟩
  | ret u=>obtain ⟨v,σ',H',I,r,q⟩:=h;exact ⟨v,σ',H',I.bI,r,q⟩
theorem PSs.nox {st:List Stmt} {t:TS} (h:PSs X.nox st t):PSs X st t:=fun pins s σ H D I hw=>
  wpAny_mono (h pins s σ H D (I.dP _) hw) (fun _ _ q=>q.bI) fun _ _ z=>False.elim z
end
section
variable {X:Cx} {st:Stmt} {rest:List Stmt} {t u:TS} {e:Expr} {te:TE} {pos:Pos}
def tQ:TS:=fun D σ H=>D.nx σ H
def qR (t u:TS):TS:=fun D σ H=>t { D with nx:=u D } σ H
theorem aG:PSs X [] tQ:=fun _ _ σ H _ I h=>wpAny_execs_nil ⟨σ,H,I,h⟩
theorem ah (h1:PS X st t) (h2:PSs X rest u):PSs X (st::rest) (qR t u):=by
  intro pins s σ H D I h
  refine wpAny_execs_cons (thn (h1 pins s σ H { D with nx:=u D } I h) fun f s1 q=>?_)
  cases f with
  | next=>
    obtain ⟨σ',H',I',q⟩:=q
    exact h2 pins s1 σ' H' D I' q
  | ret v=>exact q
  | brk=>exact q
  | cont=>exact q
theorem ak (h1:PS X st t):PSs X [st] t:=by
  intro pins s σ H D I h
  refine wpAny_execs_cons (thn (h1 pins s σ H D I h) fun f s1 q=>?_)
  cases f with
  | next=>exact wpAny_execs_nil q
  | ret v=>exact q
  | brk=>exact q
  | cont=>exact q
theorem Inv.quiet {pins:List (Addr×Obj)} {σ : St} {H:Hp} {s:Shared} (I:Inv X pins σ H s):interactive X.env=false:=by simp [interactive,I.ok.kind]
def tR (te:TE):TS:=fun D σ H=>te σ H fun _ H1=>D.nx σ H1
theorem rq (he:PE X e te) (hs:swapsWith e none pos.line X.env=pure false:=by rfl):PS X (.Expr e pos) (tR te):=by
  intro pins s σ H D I h
  exact wpAny_Expr_any (thn (he pins s σ H _ I h) fun v s1 ⟨x,H1,I1,r1,q1⟩=>⟨σ,H1,I1,q1⟩) I.quiet hs
def vU (te:TE):TS:=fun D σ H=>te σ H D.rt
theorem aA (he:PE X e te):PS X (.Return (some e) pos) (vU te):=by
  intro pins s σ H D I h
  exact wpAny_Return_some (thn (he pins s σ H _ I h) fun v s1 ⟨x,H1,I1,r1,q1⟩=>⟨x,σ,H1,I1,r1,q1⟩)
def vY (c:TT) (t u:TS):TS:=fun D σ H=>c σ H fun b H1=>if b=true then t D σ H1 else u D σ H1
theorem aW {c:Expr} {a b:List Stmt} {tc:TT} (hc:PT X c tc) (ha:PSs X a t) (hb:PSs X b u):PS X (.If c a b pos) (vY tc t u):=by
  intro pins s σ H D I h
  refine wpAny_If (thn (hc pins s σ H _ I h) fun d s1 ⟨H1,I1,q1⟩=>?_)
  cases d with
  | true=>exact ha pins s1 σ H1 D I1 q1
  | false=>exact hb pins s1 σ H1 D I1 q1
def uB:TS:=fun _ _ _=>False
theorem pF:PS X st uB:=fun _ _ _ _ _ _ h=>h.elim
end
abbrev TG:=V->St->Hp->(St->Hp->Prop)->Prop
abbrev TGs:=List V->St->Hp->(St->Hp->Prop)->Prop
def PG (X:Cx) (target:Expr) (t:TG):Prop:=
  ∀ (pins:List (Addr×Obj)) (s:Shared) (σ : St) (H:Hp) (v:V) (u:Value) (Q:St->Hp->Prop),Inv X pins σ H s->RelV v u->t v σ H Q ->
    wpAny (model X.prog X.w) X.A (assign target X.env u) (fun _ s'=>∃ σ' H',Inv X pins σ' H' s'/\Q σ' H') X.xe s
def PGs (X:Cx) (ts:List Expr) (t:TGs):Prop:=
  ∀ (pins:List (Addr×Obj)) (s:Shared) (σ : St) (H:Hp) (vs:List V) (us:List Value) (Q:St->Hp->Prop),Inv X pins σ H s->Vals vs us->t vs σ H Q ->
    wpAny (model X.prog X.w) X.A (assignInOrder ((assignEach ts X.env).map (·.2)) us) (fun _ s'=>∃ σ' H',Inv X pins σ' H' s'/\Q σ' H') X.xe s
abbrev vM:=V->V->V->Hp->(Hp->Prop)->Prop
def xB (X:Cx) (t:vM):Prop:=
  ∀ (pins:List (Addr×Obj)) (s:Shared) (σ : St) (H:Hp) (o i v:V) (ov iv u:Value) (Q:Hp->Prop),Inv X pins σ H s->RelV o ov->RelV i iv->RelV v u->t o i v H Q ->
    wpAny (model X.prog X.w) X.A (setItem ov iv u) (fun _ s'=>∃ H',Inv X pins σ H' s'/\Q H') X.xe s
section
variable {X:Cx} {pos:Pos}
abbrev bH (i:Nat):TG:=fun v σ H Q=>Q (σ.set i (some v)) H
theorem aP {i:Nat} {x:Str} (hN:X.N.Nodup) (hi:X.N[i]?=some x) (hx:Loc X.env.scope x) (hf:X.fn x=true\/X.env.scope.names.lookup x=some .local:=by first | exact .inl rfl | exact .inr rfl | assumption):PG X (.Name x pos) (bH i):=by
  intro pins s σ H v u Q I r h
  exact wpAny_assign_Name (jB I hN hi hx r (fun s' I'=>⟨_,H,I',h⟩) hf)
def sH:TGs:=fun vs σ H Q=>vs=[]/\Q σ H
def eK (t:TG) (u:TGs):TGs:=fun vs σ H Q=>∃ v r,vs=v::r/\t v σ H fun σ' H'=>u r σ' H' Q
theorem fm:PGs X [] sH:=by
  intro pins s σ H vs us Q I r h
  obtain ⟨e,h⟩:=h
  subst e
  cases r
  exact assignInOrder_nil ⟨σ,H,I,h⟩
theorem aX {e:Expr} {es:List Expr} {t:TG} {u:TGs} (h1:PG X e t) (h2:PGs X es u)
    (hs:(assignEach (e::es) X.env).map (·.2)=assign e X.env::(assignEach es X.env).map (·.2):=by rfl):PGs X (e::es) (eK t u):=by
  intro pins s σ H vs us Q I r h
  obtain ⟨v,vr,e1,h⟩:=h
  subst e1
  cases r with
  | cons r rr=>
    rw [hs]
    refine assignInOrder_cons (thn (h1 pins s σ H _ _ _ I r h) fun _ s1 ⟨σ1,H1,I1,q1⟩=>?_)
    exact h2 pins s1 σ1 H1 _ _ Q I1 rr q1
def sG (K:Ao) (n:Nat) (t:TGs):TG:=fun v σ H Q=>∃ a xs,v = .ref a/\SqT K H a xs/\xs.length=n/\t xs σ H Q
theorem iT {es:List Expr} {k:Nat} {t:TGs} {n:Nat} (hc:X.calm=true) (h:PGs X es t)
    (hn:(assignEach es X.env).length=n:=by rfl) (hst:(assignEach es X.env).findIdx? (·.1)=none:=by rfl):PG X (.Tuple es k pos) (sG X.K n t):=by
  intro pins s σ H v u Q I r hw
  obtain ⟨a,xs,e1,hq,hl,hw⟩:=hw
  subst e1
  cases r
  obtain ⟨its,rv,ht,hz⟩:=I.tuple hq
  refine assign_Tuple_tuple (I.ok.hd hc) ht (by simp [hn,<- hl,rv.length]) hst fun h' hx=>?_
  have I1:Inv X pins σ H { s with heap:=h' }:=I.kept (t':=s.toks) fun b o e=>hx b o (Ab (Heap.lt_size e)) e
  exact h pins _ σ H xs _ Q I1 (by simpa using rv) hw
def yy (to ti:TE) (t:vM):TG:=fun v σ H Q=>to σ H fun o H1=>ti σ H1 fun i H2=>t o i v H2 fun H3=>Q σ H3
theorem fT {o i:Expr} {to ti:TE} {t:vM} (ho:PE X o to) (hi:PE X i ti) (hs:xB X t)
    (ha:∀ v,assign (.Subscript o i pos) X.env v=(do
      let ov <- holding [v] (eval o X.env)
      let iv <- holding [v,ov] (eval i X.env)
      standAt pos
      holding [v,ov,iv] (setItem ov iv v)
      release [v,ov,iv] []):=by intro _;rfl):PG X (.Subscript o i pos) (yy to ti t):=by
  intro pins s σ H v u Q I r h
  rw [ha]
  refine wpAny_bind (wpAny_holding (thn (ho pins s σ H _ I h) fun ov s1 ⟨x,H1,I1,r1,q1⟩=>?_))
  refine wpAny_bind (wpAny_holding (thn (hi pins s1 σ H1 _ I1 q1) fun iv s2 ⟨y,H2,I2,r2,q2⟩=>?_))
  refine wpAny_bind (wpAny_standAt (wpAny_bind (wpAny_holding (thn (hs pins s2 σ H2 x y v ov iv u _ I2 r1 r2 r q2) fun _ s3 ⟨H3,I3,q3⟩=>?_))))
  exact wpAny_release ⟨σ,H3,I3,q3⟩
def uC (te:TE) (g:TG):TS:=fun D σ H=>te σ H fun x H1=>g x σ H1 D.nx
theorem dX {tg e:Expr} {te:TE} {g:TG} (he:PE X e te) (hg:PG X tg g) (hs:swapsWithSole [tg] e pos.line X.env=pure false:=by rfl) (hw:swappedStores [tg] e X.env=pure none:=by rfl)
    (h1:(assignEach [tg] X.env).map (·.2)=[assign tg X.env]:=by rfl):PS X (.Assign [tg] e pos) (uC te g):=by
  intro pins s σ H D I h
  refine wpAny_Assign_stores (thn (he pins s σ H _ I h) fun v s1 ⟨x,H1,I1,r1,q1⟩=>?_) hs hw
  rw [h1]
  exact thn (hg pins s1 σ H1 x v _ I1 r1 q1) fun _ s2 q=>q
theorem aI {i:Nat} {x:Str} {e:Expr} {te:TE} {pos':Pos} (hN:X.N.Nodup) (hi:X.N[i]?=some x) (hx:Loc X.env.scope x) (he:PE X e te) (hs:swapsWith e (some (.Name x pos')) pos.line X.env=pure false:=by rfl) (hf:X.fn x=true\/X.env.scope.names.lookup x=some .local:=by first | exact .inl rfl | exact .inr rfl | assumption) :
    PS X (.Assign [.Name x pos'] e pos) (uC te (bH i)):=by
  intro pins s σ H D I h
  refine wpAny_Assign_Name (thn (he pins s σ H _ I h) fun v s1 ⟨y,H1,I1,r1,q1⟩=>?_) hs
  exact jB I1 hN hi hx r1 (fun s2 I2=>⟨_,H1,I2,q1⟩) hf
end
section
variable {X:Cx} {pos:Pos}
def oH (c:TT) (tb:TS):TS:=fun D σ H=>∃ W:Nat->St->Hp->Prop,(∃ m,W m σ H)/\∀ m σ H,W m σ H ->
  c σ H fun b H1=>if b=true then ∃ N:St->Hp->Prop,(∀ σ' H',N σ' H'->∃ m',m' < m/\W m' σ' H')/\tb { D with nx:=N,ct:=N,bk:=D.nx } σ H1 else D.nx σ H1
theorem pC {c:Expr} {body:List Stmt} {tc:TT} {tb:TS} (hp:PassesOwn (model X.prog X.w) X.A X.env X.xe) (hc:PT X c tc) (hb:PSs X body tb):PS X (.While c body [] pos) (oH tc tb):=by
  intro pins s σ H D I h
  obtain ⟨W,⟨m0,w0⟩,turn⟩:=h
  refine wpAny_While (codeAny_whileLoop (fun n s'=>∃ σ' H',Inv X pins σ' H' s'/\W n σ' H') ?_ m0 ⟨σ,H,I,w0⟩)
  rintro n s1 ⟨σ1,H1,I1,w1⟩
  refine wpAny_passesOwn hp (thn (hc pins s1 σ1 H1 _ I1 (turn n σ1 H1 w1)) fun b s2 ⟨H2,I2,q2⟩=>?_)
  cases b with
  | true=>
    obtain ⟨N,hN,q2⟩:=q2
    rw [if_pos rfl]
    refine wpAny_passesOwn hp (thn (hb pins s2 σ1 H2 _ I2 q2) fun f s3 q3=>?_)
    cases f with
    | next=>
      obtain ⟨σ3,H3,I3,n3⟩:=q3
      obtain ⟨m',hm,w3⟩:=hN σ3 H3 n3
      exact ⟨m',hm,σ3,H3,I3,w3⟩
    | cont=>
      obtain ⟨σ3,H3,I3,n3⟩:=q3
      obtain ⟨m',hm,w3⟩:=hN σ3 H3 n3
      exact ⟨m',hm,σ3,H3,I3,w3⟩
    | brk=>exact q3
    | ret v=>exact q3
  | false=>
    rw [if_neg zL]
    exact wpAny_execs_nil ⟨σ1,H2,I2,q2⟩
end
structure It where
  go:Nat->Hp->Prop
  yld:Nat->Hp->V->Hp->Prop
  stop:Nat->Hp->Prop
def cP (X:Cx) (pins:List (Addr×Obj)) (H:Hp) (b:Addr):Prop:=
  H b=none/\b≠X.env.locals/\b∉X.fs/\(b∈X.ex\/X.s₀.heap.objs.size<=b)/\(∀ x c,X.env.cells.lookup x=some c->c≠b)/\∀ p∈X.pn++pins,p.1≠b
theorem Inv.sI {X:Cx} {pins:List (Addr×Obj)} {σ : St} {H H':Hp} {s:Shared} {b:Addr} (I:Inv X pins σ H s) (hb:s.heap.objs.size<=b) (hn:H' b=none):cP X pins H' b:=by
  refine ⟨hn,Nat.ne_of_gt (zM I.lt hb),I.wM hb,.inr (z6 I.sz hb),fun x c e z=>?_,fun p hp z=>?_⟩
  · obtain ⟨v,q⟩:=I.cell x c e
    exact absurd (zM q.lt (by rw [z];exact hb)) (Nat.lt_irrefl _)
  · exact absurd (zM (Heap.lt_size (I.pin p hp).1) (by rw [z];exact hb)) (Nat.lt_irrefl _)
structure Turn (P:Program) (w:World) (K:Ao) (tg:Expr) (J:It) (fp:List Addr) (it:Addr) (tn:Nat->Heap->Prop):Prop where
  mem:it∈fp
  obj:∀ i h,tn i h->∀ b∈fp,∃ o,h.get? b=some o/\∀ v,o.data≠.cell v
  keep:∀ i h h',tn i h->(∀ b∈fp,∀ o,h.get? b=some o->h'.get? b=some o)->tn i h'
  item:∀ (X:Cx),X.prog=P->X.w=w->X.K=K->X.calm=true->∀ (i:Nat) (pins:List (Addr×Obj)) (s:Shared) (σ : St) (H:Hp) (E:Value->Shared->Prop),Inv X pins σ H s->(∀ b∈fp,cP X pins H b)->tn i s.heap->J.go i H ->
    wpAny (model P w) X.A (pyNext (.ref it)) (fun r s1=>∃ u,r=some u /\
      wpAny (model P w) X.A (letOwnedTupleGo tg (.ref it) u) (fun _ s2=>∃ x H',Inv X pins σ H' s2/\RelV x u/\J.yld i H x H'/\tn (i+1) s2.heap/\∀ b∈fp,H' b=none) E s1) E s
  done:∀ (X:Cx),X.prog=P->X.w=w->X.K=K->X.calm=true->∀ (i:Nat) (pins:List (Addr×Obj)) (s:Shared) (σ : St) (H:Hp) (E:Value->Shared->Prop),Inv X pins σ H s->(∀ b∈fp,cP X pins H b)->tn i s.heap->J.stop i H ->
    wpAny (model P w) X.A (pyNext (.ref it)) (fun r s1=>r=none/\Inv X pins σ H s1) E s
  self:∀ (A:Around) (i:Nat) (s:Shared) (Q:Value->Shared->Prop) (E:Value->Shared->Prop),tn i s.heap->Q (.ref it) s->wpAny (model P w) A (pyIter (.ref it)) Q E s
abbrev TI:=St->Hp->(It->Hp->Prop)->Prop
def PIE (X:Cx) (pins:List (Addr×Obj)) (σ : St) (tg:Expr) (R:It->Hp->Prop) (itv:Value) (s2:Shared):Prop:=
  ∃ (it:Addr) (fp:List Addr) (tn:Nat->Heap->Prop) (J:It) (H':Hp),itv = .ref it/\Inv X pins σ H' s2/\Turn X.prog X.w X.K tg J fp it tn/\tn 0 s2.heap/\(∀ b∈fp,cP X pins H' b)/\R J H'
def PI (X:Cx) (tg iter:Expr) (wi:TI):Prop:=
  ∀ (pins:List (Addr×Obj)) (s:Shared) (σ : St) (H:Hp) (R:It->Hp->Prop),Inv X pins σ H s->wi σ H R ->
    wpAny (model X.prog X.w) X.A (eval iter X.env) (fun v s1=>wpAny (model X.prog X.w) X.A (pyIter v) (PIE X pins σ tg R) X.xe s1) X.xe s
theorem qh {M:Model} {A:Around} {E:Value->Shared->Prop} {s:Shared} {tg:Expr} {it:Addr} {u:Value} {o:Obj} {n:String} {vs:Array Value} {Q:Unit->Shared->Prop} (ho:s.heap.get? it=some o) (hc:o.cls = .type n) (hd:o.data = .fields vs)
    (hn:["enumerate", "zip", "dict_itemiterator", "dict_reverseitemiterator", "odict_iterator", "itertools.zip_longest", "itertools.pairwise"].contains n=false) (hQ:Q () s):wpAny M A (letOwnedTupleGo tg (.ref it) u) Q E s:=by
  unfold letOwnedTupleGo
  cases tg <;> first
    | exact wpAny_pure hQ
    | (cases u <;> first
        | exact wpAny_pure hQ
        | (refine wpAny_bind (wpAny_load ho ?_)
           rw [hc,hd]
           show wpAny M A (if (["enumerate", "zip", "dict_itemiterator", "dict_reverseitemiterator", "odict_iterator", "itertools.zip_longest", "itertools.pairwise"].contains n && vs[0]? == some (rawInt _))=true then _ else _) Q E s
           rw [if_neg (by intro h;rw [hn,Bool.false_and] at h;cases h)]
           exact wpAny_pure hQ))
def Itl (K:Ao) (a:Addr):It:=
  ⟨fun i H=>∃ xs x,SqL K H a xs/\xs[i]?=some x,fun i H x H'=>H'=H/\∀ xs,SqL K H a xs->xs[i]?=some x,fun i H=>∃ xs,SqL K H a xs/\xs.length<=i⟩
def Itr (lo:Int) (n:Nat):It:=⟨fun i _=>i < n,fun i H x H'=>H'=H/\x = .int (lo+i),fun i _=>n<=i⟩
theorem m9 {P:Program} {w:World} {K:Ao} {tg:Expr} (a it:Addr):Turn P w K tg (Itl K a) [it] it (fun i h=>h.IsListIter it a i) where
  mem:=by simp
  obj:=fun i h st b hb=>by
    have e:b=it:=by simpa using hb
    subst e
    obtain ⟨o,e,c,d⟩:=st
    exact ⟨o,e,fun v z=>by rw [d] at z;cases z⟩
  keep:=fun i h h' st k=>st.at fun o e=>k it (by simp) o e
  item:=by
    intro X hP hw hK hc i pins s σ H E I hf st hg
    subst hP hw hK
    obtain ⟨xs,x,hq,hx⟩:=hg
    obtain ⟨its,rv,p,hz⟩:=I.list hq
    obtain ⟨u,hu,ru⟩:=rv.get hx
    obtain ⟨f0,f1,f2,f3,f4,f5⟩:=hf it (by simp)
    refine wpAny_pyNext_list_item st p.isList (x:=u) (by simpa using hu) fun h' st' sb=>?_
    have I1:Inv X pins σ H { s with heap:=h' }:=I.turned (t':=s.toks) (fun b o hb e=>(sb.2 b hb).trans e) f0 f1 f3 f4 f5
    obtain ⟨o,e,c,d⟩:=id st'
    exact ⟨u,rfl,qh (s:={ s with heap:=h' }) e c d (by decide) ⟨x,H,I1,ru,⟨rfl,fun ys hy=>by rw [I.dm hy hq];exact hx⟩,st',fun b hb=>(hf b hb).1⟩⟩
  done:=by
    intro X hP hw hK hc i pins s σ H E I hf st hg
    subst hP hw hK
    obtain ⟨xs,hq,hx⟩:=hg
    obtain ⟨its,rv,p,hz⟩:=I.list hq
    obtain ⟨f0,f1,f2,f3,f4,f5⟩:=hf it (by simp)
    have hl:=rv.length
    exact wpAny_pyNext_list_end (I.ok.hd hc) st p.isList (by simp;omega) fun h' eb=>⟨rfl,I.turned (t':=s.toks) (fun b o hb e=>eb b o hb e) f0 f1 f3 f4 f5⟩
  self:=fun _ _ _ _ _ st h=>wpAny_pyIter_listiter st h
theorem kF {P:Program} {w:World} {K:Ao} {tg:Expr} (it:Addr) (lo:Int) (n:Nat):Turn P w K tg (Itr lo n) [it] it (fun i h=>IsRangeIter h it (lo+(i:Nat) * 1) ((n:Int) - (i:Nat)) 1) where
  mem:=by simp
  obj:=fun i h st b hb=>by
    have e:b=it:=by simpa using hb
    subst e
    exact ⟨_,st,fun v z=>by
      have z':Data.fields _=Data.cell v:=z
      cases z'⟩
  keep:=fun i h h' st k=>k it (by simp) _ st
  item:=by
    intro X hP hw hK hc i pins s σ H E I hf st hg
    subst hP hw hK
    obtain ⟨f0,f1,f2,f3,f4,f5⟩:=hf it (by simp)
    have W:=Walks.range (prog:=X.prog) (w:=X.w) (I.ok.hd hc) it lo 1 n
    refine W.item i s _ _ hg st fun v h' tk hv st' kk=>?_
    obtain ⟨t,rfl⟩:=hv
    have I1:Inv X pins σ H { s with heap:=h',toks:=tk }:=I.turned (fun b o hb e=>kk b o (by simpa using hb) e) f0 f1 f3 f4 f5
    refine ⟨_,rfl,qh (s:={ s with heap:=h',toks:=tk }) (n:="range_iterator") st' rfl rfl (by decide) ⟨.int (lo+i),H,I1,⟨t,?_⟩,⟨rfl,rfl⟩,st',fun b hb=>(hf b hb).1⟩⟩
    rw [Int.mul_one]
  done:=by
    intro X hP hw hK hc i pins s σ H E I hf st hg
    subst hP hw hK
    obtain ⟨f0,f1,f2,f3,f4,f5⟩:=hf it (by simp)
    exact wpAny_pyNext_range_end (I.ok.hd hc) st (by have:n<=i:=hg;omega) fun h' eb=>⟨rfl,I.turned (t':=s.toks) (fun b o hb e=>eb b o hb e) f0 f1 f3 f4 f5⟩
  self:=fun _ _ _ _ _ st h=>wpAny_pyIter_rangeiter st h
section
variable {X:Cx} {tg:Expr}
def t7 (K:Ao) (tl:TE):TI:=fun σ H R=>tl σ H fun x H1=>∃ a,x = .ref a/\(∃ xs,SqL K H1 a xs)/\R (Itl K a) H1
theorem fk {l:Expr} {tl:TE} (hl:PE X l tl):PI X tg l (t7 X.K tl):=by
  intro pins s σ H R I h
  refine thn (hl pins s σ H _ I h) fun v s1 ⟨x,H1,I1,r1,q1⟩=>?_
  obtain ⟨a,e,⟨xs,hq⟩,q⟩:=q1
  subst e
  cases r1
  obtain ⟨its,rv,p,hz⟩:=I1.list hq
  refine wpAny_pyIter_list p.isList ?_
  refine ⟨s1.heap.objs.size,[s1.heap.objs.size],_,_,H1,rfl,I1.kept (t':=s1.toks) fun b o e=>Heap.get?_push_of_some _ e,m9 a _,⟨_,Heap.get?_push_size _ rfl,rfl,rfl⟩,fun b hb=>?_,q⟩
  have e:b=s1.heap.objs.size:=by simpa using hb
  subst e
  exact I1.sI (Ad _) (I1.hok.fresh (Ad _))
theorem jH {pins:List (Addr×Obj)} {σ : St} {H:Hp} {s:Shared} {R:It->Hp->Prop} {E:Value->Shared->Prop} {lo hi:Int} {t u v:Tok} {tk:Nat} (I:Inv X pins σ H s) (h1 : -(2 ^ 62)<=lo) (h2:lo < 2 ^ 62) (h3 : -(2 ^ 62)<=hi) (h4:hi < 2 ^ 62)
    (q:R (Itr lo (hi - lo).toNat) H):wpAny (model X.prog X.w) X.A (pyIter (.ref s.heap.objs.size)) (PIE X pins σ tg R) E { s with heap:=s.heap.push { cls:=.type "range",data:=.fields #[.int lo t,.int hi u,.int 1 v] },toks:=tk }:=by
  refine wpAny_pyIter_range (IsRange.new ..) (small_one h1 h2 h3 h4) ?_
  have I1:Inv X pins σ H { s with heap:=s.heap.push { cls:=.type "range",data:=.fields #[.int lo t,.int hi u,.int 1 v] },toks:=tk }:=I.kept fun b o e=>Heap.get?_push_of_some _ e
  refine ⟨(s.heap.push { cls:=.type "range",data:=.fields #[.int lo t,.int hi u,.int 1 v] }).objs.size,[(s.heap.push { cls:=.type "range",data:=.fields #[.int lo t,.int hi u,.int 1 v] }).objs.size],_,_,H,rfl,
    I1.kept (t':=tk) fun b o e=>Heap.get?_push_of_some _ e,kF _ lo (hi - lo).toNat,?_,fun b hb=>?_,q⟩
  · have e1:lo+((0:Nat):Int) * 1=lo:=by simp
    have e2:(((hi - lo).toNat:Nat):Int) - ((0:Nat):Int)=Builtin.Range.rangeSize lo hi 1:=by rw [rangeSize_one];split <;> omega
    show IsRangeIter _ _ (lo+((0:Nat):Int) * 1) ((((hi - lo).toNat:Nat):Int) - ((0:Nat):Int)) 1
    rw [e1,e2]
    exact Heap.get?_push_size _ rfl
  · have e:b=(s.heap.push { cls:=.type "range",data:=.fields #[.int lo t,.int hi u,.int 1 v] }).objs.size:=by simpa using hb
    subst e
    exact I1.sI (Ad _) (I1.hok.fresh (Ad _))
def wW (ta:TA):TI:=fun σ H R=>ta σ H fun vs H1=>∃ j:Int,vs=[.int j]/\-(2 ^ 62)<=j/\j < 2 ^ 62/\R (Itr 0 j.toNat) H1
def t6 (ta:TA):TI:=fun σ H R=>ta σ H fun vs H1=>∃ i j:Int,vs=[.int i,.int j]/\(-(2 ^ 62)<=i/\i < 2 ^ 62/\-(2 ^ 62)<=j/\j < 2 ^ 62)/\R (Itr i (j - i).toNat) H1
theorem nk {a:Expr} {ta:TA} {p pos:Pos} (hg:Gl X "range") (hm:X.mg "range" = none) (ha:PA X [a] ta) (hs:starEach [a] X.env=[(false,eval a X.env)]:=by rfl):PI X tg (.Call (.Name "range" p) [a] [] pos) (wW ta):=by
  intro pins s σ H R I h
  refine Call_ (c6 I hg hm boot_range (PyProof.Rows.callWith_type1 (thn (ha pos pins s σ H _ I h) fun us s1 ⟨vs,H1,I1,r1,q1⟩=>?_) hs rfl))
  obtain ⟨j,e,q1,q2,q⟩:=q1
  subst e
  cases r1 with
  | cons r rr=>
    cases rr
    obtain ⟨t,rfl⟩:=r
    exact call_range_1 (jH I1 (by omega) (by omega) q1 q2 (by simpa using q))
theorem nj {a b:Expr} {ta:TA} {p pos:Pos} (hg:Gl X "range") (hm:X.mg "range" = none) (ha:PA X [a,b] ta) (hs:starEach [a,b] X.env=[(false,eval a X.env),(false,eval b X.env)]:=by rfl) (hs2:starEach [b] X.env=[(false,eval b X.env)]:=by rfl) :
    PI X tg (.Call (.Name "range" p) [a,b] [] pos) (t6 ta):=by
  intro pins s σ H R I h
  refine Call_ (c6 I hg hm boot_range (PyProof.Rows.callWith_type1 (thn (ha pos pins s σ H _ I h) fun us s1 ⟨vs,H1,I1,r1,q1⟩=>?_) (by rw [hs,hs2]) (by rw [hs2];rfl)))
  obtain ⟨i,j,e,⟨q1,q2,q3,q4⟩,q⟩:=q1
  subst e
  cases r1 with
  | cons r rr=>
    cases rr with
    | cons r' rr=>
      cases rr
      obtain ⟨t,rfl⟩:=r
      obtain ⟨t',rfl⟩:=r'
      exact call_range_2 (jH I1 q1 q2 q3 q4 q)
def vZ (wi:TI) (g:TG) (tb:TS):TS:=fun D σ H=>wi σ H fun J H1=>∃ W:Nat->Nat->St->Hp->Prop,(∃ m,W 0 m σ H1)/\∀ i m σ H,W i m σ H ->
  (J.stop i H/\D.nx σ H)\/(J.go i H/\∃ N:St->Hp->Prop,(∀ σ' H',N σ' H'->∃ m',m' < m/\W (i+1) m' σ' H')/\∀ x H',J.yld i H x H'->g x σ H' fun σ2 H2=>tb { D with nx:=N,ct:=N,bk:=D.nx } σ2 H2)
def cG (fp:List Addr) (h:Heap):List (Addr×Obj):=fp.filterMap fun b=>(h.get? b).map fun o=>(b,o)
theorem c5 {fp:List Addr} {h:Heap} {b:Addr} {o:Obj} (hb:b∈fp) (e:h.get? b=some o):(b,o)∈cG fp h:=List.mem_filterMap.mpr ⟨b,hb,by rw [e];rfl⟩
theorem gQ {fp:List Addr} {h:Heap} {p:Addr×Obj} (hp:p∈cG fp h):p.1∈fp/\h.get? p.1=some p.2:=by
  obtain ⟨b,hb,e⟩:=List.mem_filterMap.mp hp
  cases q:h.get? b with
  | none=>rw [q] at e;cases e
  | some o=>
    rw [q] at e
    have e':(b,o)=p:=zW e
    subst e'
    exact ⟨hb,q⟩
theorem Inv.pinned {pins:List (Addr×Obj)} {σ : St} {H:Hp} {s:Shared} {fp:List Addr} (I:Inv X pins σ H s) (hf:∀ b∈fp,cP X pins H b) (ho:∀ b∈fp,∃ o,s.heap.get? b=some o/\∀ v,o.data≠.cell v):Inv X (pins++cG fp s.heap) σ H s:=
  I.fj fun p hp=>(Aj hp).elim (fun z=>I.pin p (zF _ z)) fun z=>by
    obtain ⟨hb,e⟩:=gQ z
    obtain ⟨f0,f1,f2,_⟩:=hf p.1 hb
    obtain ⟨o,e',d⟩:=ho p.1 hb
    rw [e] at e';cases e'
    exact ⟨e,f0,f1,f2,d⟩
theorem Inv.dg {pins pl:List (Addr×Obj)} {σ : St} {H:Hp} {s:Shared} (I:Inv X (pins++pl) σ H s):Inv X pins σ H s:=I.fj fun p hp=>I.pin p (zF _ (List.mem_append_left _ hp))
theorem iS {iter:Expr} {body:List Stmt} {wi:TI} {g:TG} {tb:TS} {pos:Pos} (hp:PassesOwn (model X.prog X.w) X.A X.env X.xe) (hc:X.calm=true) (hi:PI X tg iter wi) (hg:PG X tg g) (hb:PSs X body tb)
    (hs:∀ x,foldedSetIterable iter X.env x=pure x:=by intro _;rfl):PS X (.For tg iter body [] pos) (vZ wi g tb):=by
  intro pins s σ H D I h
  refine wpAny_For (thn (hi pins s σ H _ I h) fun v s1 h1=>thn h1 fun itv s2 h2=>?_) hs
  obtain ⟨it,fp,tn,J,H2,e,I2,T,st2,f2,W,⟨m0,w0⟩,turn⟩:=h2
  subst e
  -- what stays true of the iterator's objects through the loop
  have uD:∀ {H':Hp},(∀ b∈fp,H' b=none)->∀ b∈fp,cP X pins H' b:=fun hn b hb=>⟨hn b hb,(f2 b hb).2⟩
  refine codeAny_forLoop_any (fun n s'=>∃ i σ' H',Inv X pins σ' H' s'/\tn i s'.heap/\(∀ b∈fp,H' b=none)/\W i n σ' H') ?_ m0 ⟨0,σ,H2,I2,st2,fun b hb=>(f2 b hb).1,w0⟩
  rintro n s3 ⟨i,σ3,H3,I3,st3,fr3,w3⟩
  rcases turn i n σ3 H3 w3 with ⟨stop,qn⟩ | ⟨go,N,hN,step⟩
  · refine wpAny_passesOwn hp (thn (T.done X rfl rfl rfl hc i pins s3 σ3 H3 X.xe I3 (uD fr3) st3 stop) fun r s4 ⟨hr,I4⟩=>?_)
    subst hr
    exact wpAny_execs_nil ⟨σ3,H3,I4,qn⟩
  · refine wpAny_passesOwn hp (thn (T.item X rfl rfl rfl hc i pins s3 σ3 H3 X.xe I3 (uD fr3) st3 go) fun r s4 ⟨u,hr,h4⟩=>?_)
    subst hr
    refine wpAny_passesOwn hp (thn h4 fun _ s5 ⟨x,H5,I5,r5,y5,st5,fr5⟩=>?_)
    have I5':=I5.pinned (uD fr5) (T.obj _ _ st5)
    refine wpAny_passesOwn hp (thn (hg _ s5 σ3 H5 x u _ I5' r5 (step x H5 y5)) fun _ s6 ⟨σ6,H6,I6,q6⟩=>?_)
    refine wpAny_passesOwn hp (thn (hb _ s6 σ6 H6 _ I6 q6) fun f s7 q7=>?_)
    have again:∀ {σ7:St} {H7:Hp},Inv X (pins++cG fp s5.heap) σ7 H7 s7->N σ7 H7->∃ m,m < n/\∃ i σ' H',Inv X pins σ' H' s7/\tn i s7.heap/\(∀ b∈fp,H' b=none)/\W i m σ' H':=fun {σ7 H7} I7 n7=>by
      obtain ⟨m',hm,w7⟩:=hN σ7 H7 n7
      refine ⟨m',hm,i+1,σ7,H7,I7.dg,T.keep _ _ _ st5 fun b hb o e=>(I7.pin (b,o) (zF _ (zF _ (c5 hb e)))).1,fun b hb=>?_,w7⟩
      obtain ⟨o,e,d⟩:=T.obj _ _ st5 b hb
      exact (I7.pin (b,o) (zF _ (zF _ (c5 hb e)))).2.1
    cases f with
    | next=>obtain ⟨σ7,H7,I7,n7⟩:=q7;exact again I7 n7
    | cont=>obtain ⟨σ7,H7,I7,n7⟩:=q7;exact again I7 n7
    | brk=>obtain ⟨σ7,H7,I7,q7⟩:=q7;exact ⟨σ7,H7,I7.dg,q7⟩
    | ret v=>obtain ⟨x7,σ7,H7,I7,r7,q7⟩:=q7;exact ⟨x7,σ7,H7,I7.dg,r7,q7⟩
end
theorem ig {lo:Int} {n:Nat} {g:TG} {tb:TS} {D:Ends} {σ : St} {H:Hp} (Pv:Nat->St->Hp->Prop) (h0:Pv 0 σ H)
    (hs:∀ i σ H,i < n->Pv i σ H->g (.int (lo+i)) σ H fun σ2 H2=>tb { D with nx:=Pv (i+1),ct:=Pv (i+1),bk:=D.nx } σ2 H2) (hd:∀ σ H,Pv n σ H->D.nx σ H) :
    ∃ W:Nat->Nat->St->Hp->Prop,(∃ m,W 0 m σ H)/\∀ i m σ H,W i m σ H ->
      ((Itr lo n).stop i H/\D.nx σ H)\/((Itr lo n).go i H/\∃ N:St->Hp->Prop,(∀ σ' H',N σ' H'->∃ m',m' < m/\W (i+1) m' σ' H')/\∀ x H',(Itr lo n).yld i H x H'->g x σ H' fun σ2 H2=>tb { D with nx:=N,ct:=N,bk:=D.nx } σ2 H2):=by
  refine ⟨fun i m σ H=>m=n - i/\i<=n/\Pv i σ H,⟨n,by simp,Ae _,h0⟩,?_⟩
  rintro i m σ H ⟨rfl,hi,p⟩
  by_cases hlt:i < n
  · refine .inr ⟨hlt,Pv (i+1),fun σ' H' p'=>⟨n - (i+1),by omega,rfl,hlt,p'⟩,fun x H' y=>?_⟩
    obtain ⟨e,y⟩:=y
    subst e y
    exact hs i σ _ hlt p
  · have e:i=n:=by omega
    subst e
    exact .inl ⟨Ad _,hd σ H p⟩
theorem oz {c:TT} {tb:TS} {D:Ends} {σ : St} {H:Hp} (Pv:St->Hp->Prop) (μ : St->Hp->Nat) (h0:Pv σ H)
    (hs:∀ σ H,Pv σ H->c σ H fun b H1=>if b=true then tb { D with nx:=fun σ' H'=>Pv σ' H'/\μ σ' H' < μ σ H,ct:=fun σ' H'=>Pv σ' H'/\μ σ' H' < μ σ H,bk:=D.nx } σ H1 else D.nx σ H1)
    (mono:∀ σ H Q Q',(∀ b H1,Q b H1->Q' b H1)->c σ H Q->c σ H Q'):oH c tb D σ H:=by
  refine ⟨fun m σ H=>m = μ σ H/\Pv σ H,⟨_,rfl,h0⟩,?_⟩
  rintro m σ H ⟨rfl,p⟩
  refine mono σ H _ _ (fun b H1 q=>?_) (hs σ H p)
  cases b with
  | true=>exact ⟨_,fun σ' H' ⟨p',l⟩=>⟨_,l,rfl,p'⟩,q⟩
  | false=>exact q
abbrev R2:=V->V->Hp->VK->Prop
def OpR (X:Cx) (f:Value->Value->Sem Value) (r:R2):Prop:=
  ∀ (pins:List (Addr×Obj)) (s:Shared) (σ : St) (H:Hp) (x y:V) (v u:Value) (Q:VK),Inv X pins σ H s->RelV x v->RelV y u->r x y H Q ->
    wpAny (model X.prog X.w) X.A (f v u) (EP X pins σ Q) X.xe s
def bV (X:Cx) (f:Value) (r:List V->Hp->VK->Prop):Prop:=
  ∀ (pins:List (Addr×Obj)) (s:Shared) (σ : St) (H:Hp) (xs:List V) (us:List Value) (Q:VK),Inv X pins σ H s->Vals xs us->r xs H Q ->
    wpAny (model X.prog X.w) X.A (call f us) (EP X pins σ Q) X.xe s
def tOp (r:R2) (ta tb:TE):TE:=fun σ H Q=>ta σ H fun x H1=>tb σ H1 fun y H2=>r x y H2 Q
def rI (C:Int->Int->Prop) (g:Int->Int->V):R2:=fun x y H Q=>∃ i j,x = .int i/\y = .int j/\C i j/\Q (g i j) H
def rI0 (g:Int->Int->V):R2:=fun x y H Q=>∃ i j,x = .int i/\y = .int j/\Q (g i j) H
section
variable {X:Cx} {a b c:Expr} {ta tb tc:TE} {pos:Pos}
theorem vJ (ha:PE X a ta) (hb:PE X b tb) {pins:List (Addr×Obj)} {s:Shared} {σ : St} {H:Hp} {R:V->V->Hp->Prop} (I:Inv X pins σ H s)
    (h:ta σ H fun x H1=>tb σ H1 fun y H2=>R x y H2) {Q:Value->Shared->Prop} {f:Value->Value->Sem Value}
    (hf:∀ v u s2 x y H2,Inv X pins σ H2 s2->RelV x v->RelV y u->R x y H2->wpAny (model X.prog X.w) X.A (f v u) Q X.xe s2) :
    wpAny (model X.prog X.w) X.A (eval a X.env) (fun v s₁=>wpAny (model X.prog X.w) X.A (eval b X.env) (fun u s₂=>wpAny (model X.prog X.w) X.A (f v u) Q X.xe s₂) X.xe s₁) X.xe s:=by
  refine thn (ha pins s σ H _ I h) fun v s1 ⟨x,H1,I1,r1,q1⟩=>?_
  refine thn (hb pins s1 σ H1 _ I1 q1) fun u s2 ⟨y,H2,I2,r2,q2⟩=>?_
  exact hf v u s2 x y H2 I2 r1 r2 q2
theorem ao {op:Operator} {r:R2} (ho:OpR X (binaryOp op) r) (ha:PE X a ta) (hb:PE X b tb):PE X (.BinOp a op b pos) (tOp r ta tb):=by
  intro pins s σ H Q I h
  exact wpAny_BinOp (vJ ha hb I h fun v u s2 x y H2 I2 rx ry q=>ho pins s2 σ H2 x y v u Q I2 rx ry q)
theorem opI {f:Value->Value->Sem Value} {C:Int->Int->Prop} {g:Int->Int->Int}
    (rule:∀ (i j:Int) (t u:Tok) (s:Shared) (Q:Value->Shared->Prop) (E:Value->Shared->Prop),C i j->Q (.int (g i j) s.toks) { s with toks:=s.toks+1 }->wpAny (model X.prog X.w) X.A (f (.int i t) (.int j u)) Q E s) :
    OpR X f (rI C fun i j=>.int (g i j)):=by
  intro pins s σ H x y v u Q I rx ry h
  obtain ⟨i,j,rfl,rfl,hc,q⟩:=h
  obtain ⟨t,rfl⟩:=rx
  obtain ⟨t',rfl⟩:=ry
  exact rule i j t t' s _ _ hc ⟨.int (g i j),H,I.tok _,⟨_,rfl⟩,q⟩
theorem wJ {f:Value->Value->Sem Value} {g:Int->Int->Int}
    (rule:∀ (i j:Int) (t u:Tok) (s:Shared) (Q:Value->Shared->Prop) (E:Value->Shared->Prop),Q (.int (g i j) s.toks) { s with toks:=s.toks+1 }->wpAny (model X.prog X.w) X.A (f (.int i t) (.int j u)) Q E s) :
    OpR X f (rI0 fun i j=>.int (g i j)):=by
  intro pins s σ H x y v u Q I rx ry h
  obtain ⟨i,j,rfl,rfl,q⟩:=h
  obtain ⟨t,rfl⟩:=rx
  obtain ⟨t',rfl⟩:=ry
  exact rule i j t t' s _ _ ⟨.int (g i j),H,I.tok _,⟨_,rfl⟩,q⟩
theorem rJ {f:Value->Value->Sem Value} {g:Int->Int->Bool}
    (rule:∀ (i j:Int) (t u:Tok) (s:Shared) (Q:Value->Shared->Prop) (E:Value->Shared->Prop),Q (.bool (g i j)) s->wpAny (model X.prog X.w) X.A (f (.int i t) (.int j u)) Q E s) :
    OpR X f (rI0 fun i j=>.bl (g i j)):=by
  intro pins s σ H x y v u Q I rx ry h
  obtain ⟨i,j,rfl,rfl,q⟩:=h
  obtain ⟨t,rfl⟩:=rx
  obtain ⟨t',rfl⟩:=ry
  exact rule i j t t' s _ _ ⟨.bl (g i j),H,I,rfl,q⟩
def yJ (i j:Int):Prop:=0<=j/\j<=1000000/\i.natAbs < 2 ^ 64
theorem aY:OpR X (binaryOp .Add) (rI0 fun i j=>.int (i+j)):=wJ fun _ _ _ _ _ _ _ q=>add_int q
theorem d7:OpR X (binaryOp .Sub) (rI0 fun i j=>.int (i - j)):=wJ fun _ _ _ _ _ _ _ q=>sub_int q
theorem bq:OpR X (binaryOp .Mod) (rI (fun _ j=>0 < j) fun i j=>.int (i % j)):=opI fun i j _ _ _ _ _ hc q=>by
  have h1:(0:Int) < j:=hc
  exact mod_int' (by omega) (by rw [Int.fmod_eq_emod_of_nonneg i (by omega)];exact q)
theorem d8:OpR X (binaryOp .Pow) (rI yJ fun i j=>.int (i ^ j.toNat)):=opI fun _ _ _ _ _ _ _ hc q=>pow_int_small hc.1 hc.2.1 hc.2.2 q
end
def v8:V->V->Bool
  | .non,.non=>true | .non,.int _=>true | .int _,.non=>true | .non,.bl _=>true | .bl _,.non=>true | .non,.str _=>true | .str _,.non=>true
  | .int _,.int _=>true | .bl _,.bl _=>true | .str _,.str _=>true | .byt _,.byt _=>true
  | .int _,.str _=>true | .str _,.int _=>true | .bl _,.str _=>true | .str _,.bl _=>true
  | _,_=>false
def rEq:R2:=fun x y H Q=>v8 x y=true/\Q (.bl (decide (x=y))) H
def rNe:R2:=fun x y H Q=>v8 x y=true/\Q (.bl (!decide (x=y))) H
theorem mO {i j:Int}:decide (V.int i=V.int j)=(i == j):=by
  rw [Bool.eq_iff_iff]
  simp
theorem qw {i j:Bool}:decide (V.bl i=V.bl j)=(i == j):=by
  rw [Bool.eq_iff_iff]
  simp
theorem mL {i j:Str}:decide (V.str i=V.str j)=(i == j):=by
  rw [Bool.eq_iff_iff]
  simp
theorem mP {i j:Array UInt8}:decide (V.byt i=V.byt j)=(i.toList == j.toList):=by
  rw [Bool.eq_iff_iff]
  cases i
  cases j
  simp
section
variable {X:Cx} {a b c:Expr} {ta tb tc:TE} {pos:Pos}
theorem aD {pins:List (Addr×Obj)} {σ : St} {H:Hp} {s:Shared} {Q:VK} {k k':Bool} (I:Inv X pins σ H s) (q:Q (.bl k) H) (e:k=k'):EP X pins σ Q (.bool k') s:=by
  subst e
  exact ⟨.bl k,H,I,rfl,q⟩
theorem cB:OpR X (compareOp .Eq) rEq:=by
  intro pins s σ H x y v u Q I rx ry h
  obtain ⟨hs,q⟩:=h
  cases x with
  | non=>
    cases rx
    cases y with
    | non=>cases ry;exact PySem.EqNone.eq_none_none (aD I q (by simp))
    | bl j=>cases ry;exact PySem.EqNone.eq_none_bool (aD I q (by simp))
    | int j=>obtain ⟨t',rfl⟩:=ry;exact PySem.EqNone.eq_none_int (aD I q (by simp))
    | str j=>obtain ⟨t',rfl⟩:=ry;exact PySem.EqNone.eq_none_str (aD I q (by simp))
    | _=>exact absurd (show false=true from hs) zL
  | bl i=>
    cases rx
    cases y with
    | non=>cases ry;exact PySem.EqNone.eq_bool_none (aD I q (by simp))
    | bl j=>cases ry;exact eq_bool (aD I q qw)
    | str j=>obtain ⟨t',rfl⟩:=ry;exact PySem.EqMixed.eq_bool_str (aD I q (by simp))
    | _=>exact absurd (show false=true from hs) zL
  | int i=>
    obtain ⟨t,rfl⟩:=rx
    cases y with
    | non=>cases ry;exact PySem.EqNone.eq_int_none (aD I q (by simp))
    | int j=>obtain ⟨t',rfl⟩:=ry;exact eq_int (aD I q mO)
    | str j=>obtain ⟨t',rfl⟩:=ry;exact PySem.EqMixed.eq_int_str (aD I q (by simp))
    | _=>exact absurd (show false=true from hs) zL
  | str i=>
    obtain ⟨t,rfl⟩:=rx
    cases y with
    | non=>cases ry;exact PySem.EqNone.eq_str_none (aD I q (by simp))
    | bl j=>cases ry;exact PySem.EqMixed.eq_str_bool (aD I q (by simp))
    | int j=>obtain ⟨t',rfl⟩:=ry;exact PySem.EqMixed.eq_str_int (aD I q (by simp))
    | str j=>obtain ⟨t',rfl⟩:=ry;exact eq_str (aD I q mL)
    | _=>exact absurd (show false=true from hs) zL
  | byt i=>
    obtain ⟨t,rfl⟩:=rx
    cases y with
    | byt j=>obtain ⟨t',rfl⟩:=ry;exact PySem.W.eq_bytes (aD I q mP)
    | _=>exact absurd (show false=true from hs) zL
  | _=>cases y <;> exact absurd (show false=true from hs) zL
theorem pQ:OpR X (compareOp .NotEq) rNe:=by
  intro pins s σ H x y v u Q I rx ry h
  obtain ⟨hs,q⟩:=h
  cases x with
  | non=>
    cases rx
    cases y with
    | non=>cases ry;exact PySem.EqNone.ne_none_none (aD I q (by simp))
    | bl j=>cases ry;exact PySem.EqNone.ne_none_bool (aD I q (by simp))
    | int j=>obtain ⟨t',rfl⟩:=ry;exact PySem.EqNone.ne_none_int (aD I q (by simp))
    | str j=>obtain ⟨t',rfl⟩:=ry;exact PySem.EqNone.ne_none_str (aD I q (by simp))
    | _=>exact absurd (show false=true from hs) zL
  | bl i=>
    cases rx
    cases y with
    | non=>cases ry;exact PySem.EqNone.ne_bool_none (aD I q (by simp))
    | bl j=>cases ry;exact ne_bool (aD I q (congrArg not qw))
    | str j=>obtain ⟨t',rfl⟩:=ry;exact PySem.EqMixed.ne_bool_str (aD I q (by simp))
    | _=>exact absurd (show false=true from hs) zL
  | int i=>
    obtain ⟨t,rfl⟩:=rx
    cases y with
    | non=>cases ry;exact PySem.EqNone.ne_int_none (aD I q (by simp))
    | int j=>obtain ⟨t',rfl⟩:=ry;exact ne_int (aD I q (congrArg not mO))
    | str j=>obtain ⟨t',rfl⟩:=ry;exact PySem.EqMixed.ne_int_str (aD I q (by simp))
    | _=>exact absurd (show false=true from hs) zL
  | str i=>
    obtain ⟨t,rfl⟩:=rx
    cases y with
    | non=>cases ry;exact PySem.EqNone.ne_str_none (aD I q (by simp))
    | bl j=>cases ry;exact PySem.EqMixed.ne_str_bool (aD I q (by simp))
    | int j=>obtain ⟨t',rfl⟩:=ry;exact PySem.EqMixed.ne_str_int (aD I q (by simp))
    | str j=>obtain ⟨t',rfl⟩:=ry;exact ne_str (aD I q (congrArg not mL))
    | _=>exact absurd (show false=true from hs) zL
  | byt i=>
    obtain ⟨t,rfl⟩:=rx
    cases y with
    | byt j=>obtain ⟨t',rfl⟩:=ry;exact PySem.W.ne_bytes (aD I q (congrArg not mP))
    | _=>exact absurd (show false=true from hs) zL
  | _=>cases y <;> exact absurd (show false=true from hs) zL
theorem pR:OpR X (compareOp .Lt) (rI0 fun i j=>.bl (decide (i < j))):=rJ fun _ _ _ _ _ _ _ q=>lt_int q
theorem tX:OpR X (compareOp .LtE) (rI0 fun i j=>.bl (decide (i<=j))):=rJ fun _ _ _ _ _ _ _ q=>le_int q
theorem pS:OpR X (compareOp .Gt) (rI0 fun i j=>.bl (decide (j < i))):=rJ fun _ _ _ _ _ _ _ q=>gt_int q
theorem wI:OpR X (compareOp .GtE) (rI0 fun i j=>.bl (decide (j<=i))):=rJ fun _ _ _ _ _ _ _ q=>ge_int q
theorem nq:OpR X (compareOp .In) (fun x y H Q=>∃ i j,x = .str i/\y = .str j/\Q (.bl (!(Builtin.Str.occurrences j i 0 j.length 1).isEmpty)) H):=by
  intro pins s σ H x y v u Q I rx ry h
  obtain ⟨i,j,rfl,rfl,q⟩:=h
  obtain ⟨t,rfl⟩:=rx
  obtain ⟨t',rfl⟩:=ry
  exact in_str (aD I q rfl)
theorem aJ (b:Expr) {op:CmpOp} (h:op≠.In:=by decide) (h2:op≠.NotIn:=by decide):behindInMarks op b=false:=by
  have e1:(op == CmpOp.In)=false:=by cases op <;> first | rfl | exact absurd rfl h
  have e2:(op == CmpOp.NotIn)=false:=by cases op <;> first | rfl | exact absurd rfl h2
  cases b <;> simp [behindInMarks,e1,e2]
theorem cT {op:CmpOp} {r:R2} (ho:OpR X (compareOp op) r) (ha:PE X a ta) (hb:PE X b tb) (hm:behindInMarks op b=false):PE X (.Compare a [op] [b] pos) (tOp r ta tb):=by
  intro pins s σ H Q I h
  exact wpAny_Compare1 (vJ ha hb I h fun v u s2 x y H2 I2 rx ry q=>ho pins s2 σ H2 x y v u Q I2 rx ry q) hm
def tN (t:TE):TT:=fun σ H Q=>t σ H fun x H'=>∃ k,x = .bl k/\Q k H'
theorem aF {op:CmpOp} {r:R2} (ho:OpR X (compareOp op) r) (ha:PE X a ta) (hb:PE X b tb) (hm:behindInMarks op b=false):PT X (.Compare a [op] [b] pos) (tN (tOp r ta tb)):=by
  intro pins s σ H Q I h
  refine wpAny_isTrue_Compare1 (thn (ha pins s σ H _ I h) fun v s1 ⟨x,H1,I1,r1,q1⟩=>thn (hb pins s1 σ H1 _ I1 q1) fun u s2 ⟨y,H2,I2,r2,q2⟩=>
    thn (ho pins s2 σ H2 x y v u _ I2 r1 r2 q2) fun c s3 ⟨z,H3,I3,r3,k,e,q3⟩=>?_) hm
  subst e
  cases r3
  exact wpAny_truthy_bool ⟨H3,I3,q3⟩
theorem fX:(sizeLine:Nat) < 2 ^ 63:=by rw [sizeLine_eq];decide
theorem kX:OpR X (binaryOp .Add) (fun x y H Q=>∃ i j,x = .str i/\y = .str j/\i.length+j.length<=sizeLine/\Q (.str (i++j)) H):=by
  intro pins s σ H x y v u Q I rx ry h
  obtain ⟨i,j,rfl,rfl,hz,q⟩:=h
  obtain ⟨t,rfl⟩:=rx
  obtain ⟨t',rfl⟩:=ry
  exact add_str (fun t' tk=>⟨.str (i++j),H,I.tok _,⟨_,rfl⟩,q⟩) hz
theorem vals1 {x:V} {us:List Value} (r:Vals [x] us):∃ u,us=[u]/\RelV x u:=by
  cases r with
  | cons r1 r2=>cases r2;exact ⟨_,rfl,r1⟩
theorem vals2 {x y:V} {us:List Value} (r:Vals [x,y] us):∃ u w',us=[u,w']/\RelV x u/\RelV y w':=by
  cases r with
  | cons r1 r2=>
    cases r2 with
    | cons r3 r4=>cases r4;exact ⟨_,_,rfl,r1,r3⟩
theorem nY (hc:X.calm=true):bV X (.builtin "max") (fun xs H Q=>∃ i j,xs=[.int i,.int j]/\Q (.int (if j > i then j else i)) H):=by
  intro pins s σ H xs us Q I r h
  obtain ⟨i,j,rfl,q⟩:=h
  obtain ⟨u,w',rfl,⟨t,rfl⟩,⟨t',rfl⟩⟩:=vals2 r
  refine max_two_ints (I.ok.hd hc) fun h' tk k=>⟨_,H,I.kept k,?_,q⟩
  by_cases hj:j > i
  · rw [if_pos hj,if_pos hj];exact ⟨_,rfl⟩
  · rw [if_neg hj,if_neg hj];exact ⟨_,rfl⟩
theorem nX (hc:X.calm=true):bV X (.builtin "min") (fun xs H Q=>∃ i j,xs=[.int i,.int j]/\Q (.int (if j < i then j else i)) H):=by
  intro pins s σ H xs us Q I r h
  obtain ⟨i,j,rfl,q⟩:=h
  obtain ⟨u,w',rfl,⟨t,rfl⟩,⟨t',rfl⟩⟩:=vals2 r
  refine min_two_ints (I.ok.hd hc) fun h' tk k=>⟨_,H,I.kept k,?_,q⟩
  by_cases hj:j < i
  · rw [if_pos hj,if_pos hj];exact ⟨_,rfl⟩
  · rw [if_neg hj,if_neg hj];exact ⟨_,rfl⟩
end
structure n8 (h:Heap) (x dx C:Addr) (mA:Str->Option Value):Prop where
  obj:h.get? x=some (PySem.W.instObj C dx)
  ns:h.Ns1 dx mA
  ne:dx≠x
theorem nE {h:Heap} {dx:Addr} {mA:Str->Option Value} (n:h.Ns1 dx mA):∃ od,h.get? dx=some od/\∀ name,PySem.W.lookIn name od=some (mA name):=by
  obtain ⟨o,es,ep,ho,hd,hk,_,hm⟩:=n
  refine ⟨o,ho,fun name=>?_⟩
  have e:=hm name
  unfold nsFind findBy at e
  rw [<- Array.find?_toList] at e
  unfold PySem.W.lookIn
  rw [hd]
  dsimp only
  split
  · rename_i y q
    rw [q] at e
    exact congrArg some e
  · rename_i q
    rw [q] at e
    have a:es.toList.any (·.refKey)=false:=by
      rw [List.any_eq_false]
      intro y hy
      obtain ⟨z,t,hkey⟩:=hk y (Array.mem_toList_iff.mp hy)
      simp [DictEntry.refKey,hkey]
    have a':¬ es.toList.any (·.refKey)=true:=by rw [a];exact zL
    rw [if_neg a']
    exact congrArg some e
theorem n8.look {h:Heap} {x dx C:Addr} {mA:Str->Option Value} (I:n8 h x dx C mA):∃ od,PySem.W.InstAt h x (PySem.W.instObj C dx) C (some od)/\∀ name,PySem.W.lookIn name od=some (mA name):=
  let ⟨od,ho,hl⟩:=nE I.ns
  ⟨od,⟨I.obj,rfl,rfl,ho⟩,hl⟩
section
variable {prog:Program} {w:World} {A:Around} {E:Value->Shared->Prop} {s:Shared} {K:Ao} {x dx C f:Addr} {mA:Str->Option Value} {name:Str} {v:Value}
theorem get_map {expr:Bool} {Q:Value->Shared->Prop} (X:K.In s.heap) (I:n8 s.heap x dx C mA) (hg:PySem.W.plainGet K C name=true) (hh:PySem.W.hasDictIn K C=true)
    (ha:PySem.W.findIn K (.ref C) name=some none) (hv:mA name=some v) (hv':PySem.W.handedIn v=true) (h:Q v { s with toks:=s.toks+1 }) :
    wpAny (model prog w) A (getAttr (.ref x) name expr) Q E s:=by
  obtain ⟨od,J,hl⟩:=I.look
  exact PySem.W.get_value X J (PySem.W.plainGet_of hg).1 (PySem.W.findObj_own hh ha rfl (by rw [hl,hv])) hv' h
theorem qZ {ns:List Str} {Q:Unit->Shared->Prop} (X:K.In s.heap) (I:n8 s.heap x dx C mA)
    (hs:PySem.W.findIn K (.ref C) "__setattr__" = some (some (.builtin "object.__setattr__"))) (hp:PySem.W.plainOver K C=true) (ht:PySem.W.takerIn K C name=some none) (hh:PySem.W.hasDictIn K C=true)
    (hw:PySem.Within mA ns) (hsz:ns.length<=sizeLine)
    (h:∀ h',n8 h' x dx C (fun y=>if y=name then some v else mA y)->Heap.SameBut dx s.heap h'->Q () { s with heap:=h',toks:=s.toks+2 }) :
    wpAny (model prog w) A (setAttr (.ref x) name v) Q E s:=by
  obtain ⟨od,J,hl⟩:=I.look
  refine PySem.W.set_plain X J hs (PySem.W.osa_open (s:={ s with toks:=s.toks+1 }) (r:=none) X J hp ht fun b=>?_)
  obtain ⟨cd,hc,hd'⟩:=PySem.W.any_some hh
  have hx:s.heap.get? x=some ⟨.ref C,some dx,.plain,#[]⟩:=I.obj
  refine wpAny_bind (wpAny_pure (wpAny_bind (wpAny_bind (wpAny_loadPart hx (wpAny_bind (PySem.W.Looks.here (s:={ s with toks:=s.toks+1 }) (PySem.W.looks_clsIn X hc) ?_))))))
  rw [hd']
  refine wpAny_pure (a:=some dx) (wpAny_bind (wpAny_pure (wpAny_bind ?_)))
  refine wpAny_nsSet1 (s:={ s with toks:=s.toks+1 }) I.ns fun h' hn2 hs2=>?_
  obtain ⟨oD,esD,epD,hoD,hdD,hcD⟩:=hn2.count (PySem.Within.cons name v hw)
  refine wpAny_bind (wpAny_lookBehind hoD (by rw [hdD];exact pastItsLine_dict (z6 hcD (by rw [zP];omega))) ?_)
  exact wpAny_pure (h _ ⟨(hs2.2 _ (Ne.symm I.ne)).trans I.obj,hn2,I.ne⟩ hs2)
theorem p9 {R:Result->Shared->Prop} {vs:List Value} {kw:List (Str×Value)} (X:K.In s.heap) (hm:PySem.W.makesIn K C=true)
    (hi:PySem.W.findIn K (.ref C) "__init__" = some (some (.ref f))) (hf:PySem.W.typeIn K (.ref f)=some (.type "function"))
    (h:codeAny (model prog w) (A.under (.builtin "type.__call__" ⟨.ref C::vs,kw⟩)) (.call (.ref f) ⟨.ref (s.heap.objs.size+1)::vs,kw⟩) (PySem.W.InitBack (s.heap.objs.size+1) R)
      { s with heap:=(s.heap.push PySem.W.emptyDict).push (PySem.W.instObj C s.heap.objs.size) }) :
    codeAny (model prog w) A (.call (.ref C) ⟨vs,kw⟩) R s:=by
  obtain ⟨hh,g,d,t,os⟩:=s
  exact PySem.W.make_core (PySem.W.makes_of X hm) (PySem.W.looks_findIn X hi) (fun self=>PySem.W.bind_fn X self hf) (.inl rfl) h
end
def cj (f:Str) (v:V):List (Str×V)->List (Str×V)
  | []=>[(f,v)]
  | (g,x)::r=>if g=f then (g,v)::r else (g,x)::cj f v r
theorem eG (f g:Str) (v:V):∀ fs:List (Str×V),(cj f v fs).lookup g=if g=f then some v else fs.lookup g
  | []=>by
    show List.lookup g [(f,v)]=_
    by_cases h:g=f
    · have hb:(g == f)=true:=beq_iff_eq.mpr h
      simp only [List.lookup,hb,if_pos h]
    · have hb:(g == f)=false:=beq_eq_false_iff_ne.mpr h
      simp only [List.lookup,hb,if_neg h]
  | (k,x)::r=>by
    have ih:=eG f g v r
    rw [show cj f v ((k,x)::r)=(if k=f then (k,v)::r else (k,x)::cj f v r) from rfl]
    by_cases hk:k=f
    · rw [if_pos hk]
      by_cases h:g=k
      · have hb:(g == k)=true:=beq_iff_eq.mpr h
        simp only [List.lookup,hb,if_pos (h.trans hk)]
      · have hb:(g == k)=false:=beq_eq_false_iff_ne.mpr h
        simp only [List.lookup,hb,if_neg (fun e:g=f=>h (e.trans hk.symm))]
    · rw [if_neg hk]
      by_cases h:g=k
      · have hb:(g == k)=true:=beq_iff_eq.mpr h
        simp only [List.lookup,hb,if_neg (fun e:g=f=>hk (h.symm.trans e))]
      · have hb:(g == k)=false:=beq_eq_false_iff_ne.mpr h
        simp only [List.lookup,hb]
        exact ih
theorem eg (f:Str) (v:V):∀ fs:List (Str×V),f∈(cj f v fs).map (·.1)/\∀ g,g∈fs.map (·.1)->g∈(cj f v fs).map (·.1)
  | []=>⟨by simp [cj],fun g h=>by simp at h⟩
  | (k,x)::r=>by
    obtain ⟨i1,i2⟩:=eg f v r
    rw [show cj f v ((k,x)::r)=(if k=f then (k,v)::r else (k,x)::cj f v r) from rfl]
    by_cases hk:k=f
    · rw [if_pos hk]
      subst hk
      exact ⟨by simp,fun g h=>by simpa using h⟩
    · rw [if_neg hk]
      refine ⟨?_,fun g h=>?_⟩
      · rw [List.map_cons]
        exact zH _ i1
      · rw [List.map_cons] at h ⊢
        rcases Ak h with e | e
        · exact List.mem_cons.mpr (.inl e)
        · exact zH _ (i2 g e)
theorem eH (f:Str) (v:V):∀ fs:List (Str×V),(cj f v fs).length<=fs.length+1
  | []=>by simp [cj]
  | (k,x)::r=>by
    have ih:=eH f v r
    rw [show cj f v ((k,x)::r)=(if k=f then (k,v)::r else (k,x)::cj f v r) from rfl]
    by_cases hk:k=f
    · rw [if_pos hk,zP,zP];omega
    · rw [if_neg hk,zP,zP];omega
theorem ki.some_of {v:V} {o:Option Value} (r:ki (some v) o):∃ u,o=some u/\RelV v u:=by
  cases o with
  | none=>exact (show False from r).elim
  | some u=>exact ⟨u,rfl,r⟩
theorem nN {v:V} {u:Value} (r:RelV v u):PySem.W.handedIn u=true:=by
  cases v with
  | non=>cases (show u=Value.none from r);rfl
  | bl b=>cases (show u=Value.bool b from r);rfl
  | int i=>obtain ⟨t,e⟩:=(show ∃ t,u=Value.int i t from r);cases e;rfl
  | str x=>obtain ⟨t,e⟩:=(show ∃ t,u=Value.str x t from r);cases e;rfl
  | byt b=>obtain ⟨t,e⟩:=(show ∃ t,u=Value.bytes b t from r);cases e;rfl
  | flt b=>obtain ⟨t,e⟩:=(show ∃ t,u=Value.float b t from r);cases e;rfl
  | ref a=>cases (show u=Value.ref a from r);rfl
  | ty n=>cases (show u=Value.type n from r);rfl
section
variable {P:Program} {w:World} {H H':Hp} {h h':Heap} {a C dx:Addr} {fs fs':List (Str×V)}
theorem cU (hok:HOk P w H h) (e:H a=some (.ins C dx fs)):∃ mA,n8 h a dx C mA/\(∀ f,ki (fs.lookup f) (mA f))/\PySem.Within mA (fs.map (·.1))/\fs.length<=1000/\H dx=some (.own a):=by
  obtain ⟨d,z,ne,ob,mA,n,r,q⟩:=(show aS P w H h a (.ins C dx fs) from hok a _ e)
  exact ⟨mA,⟨ob,n,ne⟩,r,q,z,d⟩
end
structure Cls (K:Ao) (C:Addr):Prop where
  pg:PySem.W.plainGet K C Str.empty=true
  hd:PySem.W.hasDictIn K C=true
  po:PySem.W.plainOver K C=true
  sa:PySem.W.findIn K (.ref C) "__setattr__" = some (some (.builtin "object.__setattr__"))
theorem Cls.get {K:Ao} {C:Addr} (c:Cls K C) (f:Str):PySem.W.plainGet K C f=true:=c.pg
def bE (K:Ao) (C:Addr) (f:Str):Prop:=PySem.W.findIn K (.ref C) f=some none
theorem bE.vR {K:Ao} {C:Addr} {f:Str} (n:bE K C f):PySem.W.takerIn K C f=some none:=by
  unfold PySem.W.takerIn
  rw [show PySem.W.findIn K (.ref C) f=some none from n]
  rfl
structure Con (K:Ao) (C:Addr) (f:Str) (v:V) (u:Value):Prop where
  at_:PySem.W.findIn K (.ref C) f=some (some u)
  rel:RelV v u
  get:PySem.W.specialIn K u "__get__" = some none
  cp:PySem.W.copiedNames.contains f=false
structure Meth (K:Ao) (C:Addr) (m:Str) (f:Addr):Prop where
  at_:PySem.W.findIn K (.ref C) m=some (some (.ref f))
  fn:PySem.W.isFn K (.ref f)=true
  kp:PySem.W.keepIn K (.ref f)=true
section
variable {X:Cx} {pins:List (Addr×Obj)} {σ : St} {H:Hp} {s:Shared} {a C dx:Addr} {fs:List (Str×V)} {f:Str} {v:V} {A:Around} {E:Value->Shared->Prop}
theorem lz {b:Bool} {Q:Value->Shared->Prop} (I:Inv X pins σ H s) (e:H a=some (.ins C dx fs)) (c:Cls X.K C) (n:bE X.K C f) (l:fs.lookup f=some v)
    (h:∀ u s',Inv X pins σ H s'->RelV v u->Q u s'):wpAny (model X.prog X.w) A (getAttr (.ref a) f b) Q E s:=by
  obtain ⟨mA,O,r,_,_,_⟩:=cU I.hok e
  obtain ⟨u,hu,ru⟩:=ki.some_of (v:=v) (o:=mA f) (by rw [<- l];exact r f)
  exact get_map I.kIn O (c.get f) c.hd n hu (nN ru) (h u _ (I.tok _) ru)
theorem kL {y:V} {u:Value} {Q:Unit->Shared->Prop} (I:Inv X pins σ H s) (e:H a=some (.ins C dx fs)) (c:Cls X.K C) (n:bE X.K C f) (hl:fs.length < 1000) (ry:RelV y u)
    (h:∀ s',Inv X pins σ (upd H a (.ins C dx (cj f y fs))) s'->Q () s'):wpAny (model X.prog X.w) A (setAttr (.ref a) f u) Q E s:=by
  obtain ⟨mA,O,r,wi,_,ho⟩:=cU I.hok e
  have hz:(fs.map (·.1)).length<=sizeLine:=by rw [zS,sizeLine_eq];omega
  refine qZ I.kIn O c.sa c.po n.vR c.hd wi hz fun h' O' sb=>h _ ?_
  have hd:∃ o,h'.get? dx=some o:=let ⟨o,_,_,e',_⟩:=O'.ns;⟨o,e'⟩
  refine I.write (x:=a) (e:=dx) (by rw [e];exact True.intro) (.inr ho) (fun b q hb z=>(sb.2 b hb).trans z) hd ?_
  refine ⟨by rw [az O.ne];exact ho,?_,O.ne,O'.obj,_,O'.ns,fun g=>?_,fun g hg=>?_⟩
  · have:=eH f y fs;omega
  · show ki ((cj f y fs).lookup g) (if g=f then some u else mA g)
    rw [eG]
    by_cases q:g=f
    · rw [if_pos q,if_pos q];exact ry
    · rw [if_neg q,if_neg q];exact r g
  · by_cases q:g=f
    · rw [q];exact (eg f y fs).1
    · refine (eg f y fs).2 g (wi g fun z=>hg ?_)
      show (if g=f then some u else mA g)=none
      rw [if_neg q];exact z
theorem Inv.made (I:Inv X pins σ H s):Inv X pins σ (upd (upd H s.heap.objs.size (.own (s.heap.objs.size+1))) (s.heap.objs.size+1) (.ins C s.heap.objs.size []))
    { s with heap:=(s.heap.push PySem.W.emptyDict).push (PySem.W.instObj C s.heap.objs.size) }:=by
  have e1:(s.heap.push PySem.W.emptyDict).get? s.heap.objs.size=some PySem.W.emptyDict:=Heap.get?_push_size s.heap rfl
  have e2:((s.heap.push PySem.W.emptyDict).push (PySem.W.instObj C s.heap.objs.size)).get? (s.heap.objs.size+1)=some (PySem.W.instObj C s.heap.objs.size):=by
    have:=Heap.get?_push_size (s.heap.push PySem.W.emptyDict) (o:=PySem.W.instObj C s.heap.objs.size) rfl
    rwa [Heap.size_push] at this
  have e3:(s.heap.push PySem.W.emptyDict).Ns s.heap.objs.size (fun _=>none):=⟨PySem.W.emptyDict,#[],_,e1,rfl,(fun e he=>absurd he (by simp)),fun _=>rfl⟩
  have I1:=I.laid (a:=s.heap.objs.size) (o:=.own (s.heap.objs.size+1)) (h':=s.heap.push PySem.W.emptyDict) (t':=s.toks) (fun b u q=>Heap.get?_push_of_some _ q) (Ad _) ⟨_,e1⟩
  refine I1.laid (a:=s.heap.objs.size+1) (o:=.ins C s.heap.objs.size []) (t':=s.toks) (fun b u q=>Heap.get?_push_of_some _ q) (Nat.le_of_eq (Heap.size_push _ _)) ?_
  have ne:s.heap.objs.size≠s.heap.objs.size+1:=Ab (Nat.lt_succ_self _)
  refine ⟨by rw [az ne,av],Ae _,ne,e2,fun _=>none,(Heap.Ns1.of_empty e3).at fun o q=>Heap.get?_push_of_some _ q,fun _=>True.intro,fun y hy=>absurd rfl hy⟩
theorem sY {prog:Program} {w:World} {env:Env} {e:Expr} {f:Str} {pos:Pos} {s:Shared} {Q:Value->Shared->Prop} (hb:attributeBase e f env (eval e env)=eval e env)
    (h:wpAny (model prog w) A (eval e env) (fun o s₁=>wpAny (model prog w) A (getAttr o f true) Q E s₁) E s):wpAny (model prog w) A (eval (.Attribute e f pos) env) Q E s:=
  Attribute_any_ h (by rw [arm_eval_Attribute,hb])
end
def v5 (K:Ao) (ta:TE) (f:Str):TE:=fun σ H Q=>ta σ H fun x H1=>∃ a C dx fs v,x = .ref a/\H1 a=some (.ins C dx fs)/\Cls K C/\bE K C f/\fs.lookup f=some v/\Q v H1
def v9 (K:Ao) (ta tv:TE) (f:Str):TS:=fun D σ H=>tv σ H fun y H1=>ta σ H1 fun x H2=>∃ a C dx fs,x = .ref a/\H2 a=some (.ins C dx fs)/\Cls K C/\bE K C f/\fs.length < 1000 /\
  D.nx σ (upd H2 a (.ins C dx (cj f y fs)))
section
variable {X:Cx} {o e value:Expr} {f:Str} {pos pos' tpos:Pos} {ta tv:TE}
theorem dZ (he:PE X e ta) (hb:attributeBase e f X.env (eval e X.env)=eval e X.env):PE X (.Attribute e f pos) (v5 X.K ta f):=by
  intro pins s σ H Q I h
  refine sY hb (thn (he pins s σ H _ I h) fun u s1 ⟨x,H1,I1,rx,a,C,dx,fs,v,ex,ea,c,n,l,q⟩=>?_)
  subst ex
  obtain rfl:u=Value.ref a:=rx
  exact lz I1 ea c n l fun u' s2 I2 ru=>⟨v,H1,I2,ru,q⟩
theorem pG (ha:PE X o ta) (hv:PE X value tv) (hs:swapsWith value (some (.Attribute o f pos')) pos.line X.env=pure false):PS X (.Assign [.Attribute o f pos'] value pos) (v9 X.K ta tv f):=by
  intro pins s σ H D I h
  refine plainObj_wpAny_Assign_Attribute (thn (hv pins s σ H _ I h) fun u s1 ⟨y,H1,I1,ry,q⟩=>thn (ha pins s1 σ H1 _ I1 q) fun ov s2 ⟨x,H2,I2,rx,a,C,dx,fs,ex,ea,c,n,l,q2⟩=>?_) hs
  subst ex
  obtain rfl:ov=Value.ref a:=rx
  exact kL I2 ea c n l ry fun s3 I3=>⟨σ,_,I3,q2⟩
end
section
variable {X:Cx} {pins:List (Addr×Obj)} {σ : St} {H:Hp} {s:Shared} {A:Around} {E:Value->Shared->Prop} {Q:Value->Shared->Prop} {c:Value} {b:Bool}
inductive dN (K:Ao) (H:Hp):V->Value->Prop where
  | non:dN K H .non (.type "NoneType")
  | bl (x:Bool):dN K H (.bl x) (.type "bool")
  | int (i:Int):dN K H (.int i) (.type "int")
  | str (x:Str):dN K H (.str x) (.type "str")
  | flt (x:UInt64):dN K H (.flt x) (.type "float")
  | lst {a:Addr} {xs:List V} (e:H a=some (.lst xs)):dN K H (.ref a) (.type "list")
  | frz {a:Addr} {o:Obj} {xs:List V} (e:H a=some (.frz o (.lst xs))):dN K H (.ref a) (.type "list")
  | tup {a:Addr} {xs:List V} (e:H a=some (.tup xs)):dN K H (.ref a) (.type "tuple")
  | dK {a:Addr} {kvs:List (Key×V)} (e:H a=some (.dK kvs)):dN K H (.ref a) (.type "dict")
  | dT {a:Addr} {kvs:List (List Key×V)} (e:H a=some (.dT kvs)):dN K H (.ref a) (.type "dict")
  | ins {a C dx:Addr} {fs:List (Str×V)} (e:H a=some (.ins C dx fs)) (cl:Cls K C) (ha:PySem.W.findIn K (.ref C) "__class__" = some (some (.builtin "object.__class__")))
      (hn:PySem.W.specialIn K (.builtin "object.__class__") "__get__" = some (some (.builtin "getset_descriptor.__get__"))) (htk:PySem.W.takesIn K (.builtin "object.__class__")=some true)
      (hm:PySem.W.mroIn K C (.type "object")=some true):dN K H (.ref a) (.ref C)
theorem gZ {x:V} {u t:Value} (I:Inv X pins σ H s) (rx:RelV x u) (ty:dN X.K H x t) (e:PySem.W.kitOne X.K t c=some b) (h:∀ tk,Q (.bool b) { s with toks:=tk }) :
    wpAny (model X.prog X.w) A (call (.builtin "isinstance") [u,c]) Q E s:=by
  cases ty with
  | non=>cases (show u=Value.none from rx);exact PySem.W.kia_one PySem.W.kitx_none I.kIn True.intro e (fun z=>nomatch z) h
  | bl y=>cases (show u=Value.bool y from rx);exact PySem.W.kia_one PySem.W.kitx_bool I.kIn True.intro e (fun z=>nomatch z) h
  | int i=>obtain ⟨t,q⟩:=(show ∃ t,u=Value.int i t from rx);cases q;exact PySem.W.kia_one PySem.W.kitx_int I.kIn True.intro e (fun z=>nomatch z) h
  | str y=>obtain ⟨t,q⟩:=(show ∃ t,u=Value.str y t from rx);cases q;exact PySem.W.kia_one PySem.W.kitx_str I.kIn True.intro e (fun z=>nomatch z) h
  | flt y=>obtain ⟨t,q⟩:=(show ∃ t,u=Value.float y t from rx);cases q;exact PySem.W.kia_one PySem.W.kitx_float I.kIn True.intro e (fun z=>nomatch z) h
  | @lst a xs ea=>
    cases (show u=Value.ref a from rx)
    obtain ⟨_,_,n,_,h1⟩:=(show aS X.prog X.w H s.heap a (.lst xs) from I.hok a _ ea)
    exact PySem.W.kia_one PySem.W.kitx_list I.kIn ⟨_,h1,rfl⟩ e (fun z=>nomatch z) h
  | @frz a ob xs ea=>
    cases (show u=Value.ref a from rx)
    obtain ⟨_,_,_,n,_,h1⟩:=(show aS X.prog X.w H s.heap a (.frz ob (.lst xs)) from I.hok a _ ea)
    exact PySem.W.kia_one PySem.W.kitx_list I.kIn ⟨_,h1,rfl⟩ e (fun z=>nomatch z) h
  | @tup a xs ea=>
    cases (show u=Value.ref a from rx)
    obtain ⟨_,_,_,p⟩:=(show aS X.prog X.w H s.heap a (.tup xs) from I.hok a _ ea)
    obtain ⟨o,h1,h2,_⟩:=p
    exact PySem.W.kia_one PySem.W.kitx_tuple I.kIn ⟨o,h1,h2⟩ e (fun z=>nomatch z) h
  | @dK a kvs ea=>
    cases (show u=Value.ref a from rx)
    obtain ⟨_,_,vs,_,p⟩:=(show aS X.prog X.w H s.heap a (.dK kvs) from I.hok a _ ea)
    obtain ⟨o,es,ep,h1,h2,_⟩:=p
    exact PySem.W.kia_one PySem.W.kitx_dict I.kIn ⟨o,h1,h2.1⟩ e (fun z=>nomatch z) h
  | @dT a kvs ea=>
    cases (show u=Value.ref a from rx)
    obtain ⟨_,_,xs,_,o,es,ep,h1,h2,_⟩:=(show aS X.prog X.w H s.heap a (.dT kvs) from I.hok a _ ea)
    exact PySem.W.kia_one PySem.W.kitx_dict I.kIn ⟨o,h1,h2.1⟩ e (fun z=>nomatch z) h
  | @ins a C dx fs ea cl ha hn htk hm=>
    cases (show u=Value.ref a from rx)
    obtain ⟨mA,O,_⟩:=cU I.hok ea
    obtain ⟨od,J,_⟩:=O.look
    exact PySem.W.kia_one (PySem.W.kitx_own (cl.get _) cl.hd ha hn htk hm) I.kIn J e (fun z=>nomatch z) h
end
structure bB (k:Nat) (A:Around):Prop where
  hd:A.handled=none
  dp:A.depth+3 * k+5 < recursionLimit
  un:A.units+16 * k+200 < cLine
theorem bB.mono {j k:Nat} {A:Around} (r:bB k A) (h:j<=k):bB j A:=⟨r.hd,by have:=r.dp;omega,by have:=r.un;omega⟩
theorem bB.deeper {k:Nat} {A:Around} (r:bB (k+1) A) (env:Env):bB k (A.deeper env):=
  ⟨r.hd,by have:=r.dp;show A.depth+1+3 * k+5 < _;omega,by have:=r.un;show A.units+3+16 * k+200 < _;omega⟩
theorem lg {A:Around} {C:Addr} {us:List Value} {kw:List (Str×Value)}:(A.under (.builtin "type.__call__" ⟨.ref C::us,kw⟩)).depth=A.depth+1:=by
  first | rfl | simp [Around.under,Code.weight,Code.isCreation,Code.isGuard,Code.isCaller,Code.frames,Code.isFrame,guardIds]
theorem k9 {A:Around} {C:Addr} {us:List Value} {kw:List (Str×Value)}:(A.under (.builtin "type.__call__" ⟨.ref C::us,kw⟩)).units=A.units+1:=by
  first | rfl | simp [Around.under,Code.cUnits,Code.frames,Code.isFrame]
theorem bB.make {k:Nat} {A:Around} (r:bB (k+1) A) (C:Addr) (us:List Value) (kw:List (Str×Value)):bB k (A.under (.builtin "type.__call__" ⟨.ref C::us,kw⟩)):=
  ⟨r.hd,by have:=r.dp;rw [lg];omega,by have:=r.un;rw [k9];omega⟩
theorem bB.depth {k:Nat} {A:Around} (r:bB k A):A.depth < recursionLimit:=by have:=r.dp;omega
def uA:TA:=fun _ H Q=>Q [] H
def lS (ta:TE) (tr:TA):TA:=fun σ H Q=>ta σ H fun x H1=>tr σ H1 fun xs H2=>Q (x::xs) H2
section
variable {X:Cx} {e:Expr} {es:List Expr} {te:TE} {t:TA} {pos:Pos}
theorem ai:PA X [] uA:=fun _ _ _ _ H Q I h=>Calls.spliced_nil ⟨[],H,I,.nil,h⟩
theorem aa (ha:PE X e te) (hr:PA X es t) (hs:starEach (e::es) X.env=(false,eval e X.env)::starEach es X.env:=by rfl):PA X (e::es) (lS te t):=by
  intro pos pins s σ H Q I h
  rw [hs]
  show wpAny _ _ (spliced ((false,eval e X.env)::backTo pos (starEach es X.env))) _ _ s
  refine Calls.spliced_cons (thn (ha pins s σ H _ I h) fun u s1 ⟨x,H1,I1,r1,q1⟩=>?_)
  exact thn (hr pos pins s1 σ H1 _ I1 q1) fun us s2 ⟨xs,H2,I2,r2,q2⟩=>⟨x::xs,H2,I2,.cons r1 r2,q2⟩
def vS (t:TA):TE:=fun σ H Q=>t σ H fun xs H1=>xs.length<=sizeLine/\∀ p,H1 p=none->Q (.ref p) (upd H1 p (.tup xs))
def vX (t:TA):TE:=fun σ H Q=>t σ H fun xs H1=>xs.length<=sizeLine/\∀ p,H1 p=none->Q (.ref p) (upd H1 p (.lst xs))
theorem iU {x1} (h:PA X es t):PE X (.Tuple es x1 pos) (vS t):=by
  intro pins s σ H Q I hq
  refine wpAny_Tuple_spliced (thn (h pos pins s σ H _ I hq) fun us s1 ⟨xs,H1,I1,r,z,q⟩=>⟨by rw [<- r.length];exact z,?_⟩)
  have hf:H1 s1.heap.objs.size=none:=I1.hok.fresh (Ad _)
  refine ⟨.ref s1.heap.objs.size,upd H1 s1.heap.objs.size (.tup xs),I1.laid (t':=s1.toks) (fun b u e=>Heap.get?_push_of_some _ e) (Ad _) ?_,rfl,q _ hf⟩
  exact ⟨z,us,r,⟨_,Heap.get?_push_size _ rfl,rfl,_,rfl⟩⟩
theorem iW (h:PA X es t):PE X (.List es pos) (vX t):=by
  intro pins s σ H Q I hq
  refine wpAny_List_spliced (thn (h pos pins s σ H _ I hq) fun us s1 ⟨xs,H1,I1,r,z,q⟩=>⟨by rw [<- r.length];exact z,?_⟩)
  have hf:H1 s1.heap.objs.size=none:=I1.hok.fresh (Ad _)
  refine ⟨.ref s1.heap.objs.size,upd H1 s1.heap.objs.size (.lst xs),I1.laid (t':=s1.toks) (fun b u e=>Heap.get?_push_of_some _ e) (Ad _) ?_,rfl,q _ hf⟩
  exact ⟨z,us,0,r,Heap.get?_push_size _ rfl⟩
end
abbrev Sp:=List V->Hp->VK->XK->Prop
abbrev CXT:=List Env->Hp->Shared->XK->Value->Shared->Prop
structure ko (P:Program) (w:World) (K:Ao) (mg:Str->Option Value) (base:Heap) (A:Around) (outer:List Env) (s:Shared) (H:Hp):Prop where
  frames:A.frames=some outer
  mod:Mod K mg base
  bs:∀ b o,base.get? b=some o->s.heap.get? b=some o/\H b=none
  bsz:base.objs.size<=s.heap.objs.size
  eV:s.heap.FunFrames base outer
  frf:∀ b∈frs outer,H b=none
  hok:HOk P w H s.heap
  bare:AllBare s.gens
def CE (outer:List Env) (P:Program) (w:World) (H:Hp) (s:Shared) (Q:VK) (u:Value) (s':Shared):Prop:=
  ∃ v H',s'.os=s.os/\AllBare s'.gens/\Un (frs outer) [] H H' s.heap s'.heap/\HOk P w H' s'.heap/\RelV v u/\Q v H'
def CR (CX:CXT) (outer:List Env) (P:Program) (w:World) (H:Hp) (s:Shared) (Q:VK) (E:XK) (r:Result) (s':Shared):Prop:=
  match r with
  | .ok (.ret u)=>CE outer P w H s Q u s'
  | .ok _=>False
  | .error e=>CX outer H s E e s'
structure cQ (P:Program) (w:World) (K:Ao) (mg:Str->Option Value) (base:Heap) (CX:CXT) (k:Nat) (f:Addr) (fd:FuncData) (ps:List Str) (sp:Sp):Prop where
  len:∀ vs H Q E,sp vs H Q E->vs.length=ps.length
  run:∀ (A:Around) (outer:List Env) (s:Shared) (H:Hp) (args:Args) (us:List Value) (vs:List V) (Q:VK) (E:XK),bB k A->ko P w K mg base A outer s H->BindsTo s fd args (ps.zip us)->Vals vs us->sp vs H Q E ->
    codeAny (model P w) A (.call (.ref f) args) (CR CX outer P w H s Q E) s
theorem cQ.imp {P:Program} {w:World} {K:Ao} {mg:Str->Option Value} {base:Heap} {CX:CXT} {k:Nat} {f:Addr} {fd:FuncData} {ps:List Str} {sp sp':Sp} (F:cQ P w K mg base CX k f fd ps sp)
    (h:∀ vs H Q E,sp' vs H Q E->sp vs H Q E):cQ P w K mg base CX k f fd ps sp':=
  ⟨fun vs H Q E q=>F.len vs H Q E (h _ _ _ _ q),fun A outer s H args us vs Q E hr he hb hv hs=>F.run A outer s H args us vs Q E hr he hb hv (h _ _ _ _ hs)⟩
theorem ko.make {P:Program} {w:World} {K:Ao} {mg:Str->Option Value} {base:Heap} {A:Around} {outer:List Env} {s:Shared} {H:Hp} (e:ko P w K mg base A outer s H) (C:Addr) (us:List Value) (kw:List (Str×Value)) :
    ko P w K mg base (A.under (.builtin "type.__call__" ⟨.ref C::us,kw⟩)) outer s H:=⟨by first | exact e.frames | (simpa [Around.under,Code.envs,Code.isFrame,pushEnvs] using e.frames),e.mod,e.bs,e.bsz,e.eV,e.frf,e.hok,e.bare⟩
section
variable {X:Cx} {pins:List (Addr×Obj)} {σ : St} {H:Hp} {s s':Shared}
theorem Inv.xo (I:Inv X pins σ H s):ko X.prog X.w X.K X.mg X.base X.A X.stack s H:=
  ⟨I.ok.frames,I.ok.mod,I.bs,z6 I.ok.bsz I.sz,I.stack,I.iH,I.hok,I.bare⟩
theorem Inv.after {Q:VK} {u:Value} (I:Inv X pins σ H s) (h:CE X.stack X.prog X.w H s Q u s'):EP X pins σ Q u s':=by
  obtain ⟨v,H',os,bare,un,hok,r,q⟩:=h
  obtain ⟨hh,g,d,t,os'⟩:=s'
  obtain rfl:os'=s.os:=os
  exact ⟨v,H',I.call (h':=hh) (g':=g) (d':=d) (t':=t) (ch:=[]) un hok bare (fun b z=>absurd z (by simp)),r,q⟩
end
def oQ (sp:Sp) (dvs:List V) (E:XK) (t:TA):TE:=fun σ H Q=>t σ H fun vs H1=>sp (vs++dvs) H1 Q E
def oK (C:Addr) (sp:Sp) (dvs:List V) (E:XK) (t:TA):TE:=fun σ H Q=>t σ H fun vs H1=>∀ x dx,H1 x=none->H1 dx=none->dx≠x ->
  sp (.ref x::(vs++dvs)) (upd (upd H1 dx (.own x)) x (.ins C dx [])) (fun v H2=>v = .non/\Q (.ref x) H2) E
def Binds (K:Ao) (fd:FuncData) (ps:List Str) (ds:List Value):Prop:=
  ∀ (s:Shared) (us:List Value),K.In s.heap->(us++ds).length=ps.length->BindsTo s fd ⟨us,[]⟩ (ps.zip (us++ds))
theorem Binds.all {K:Ao} {fd:FuncData} {ps:List Str} (h:∀ us:List Value,us.length=ps.length->bindArgs fd ⟨us,[]⟩=pure (ps.zip us)):Binds K fd ps []:=fun s us _ hl=>by
  rw [zV] at hl ⊢
  exact .of_eq (h us hl)
def Passes (CX:CXT) (X:Cx) (E:XK):Prop:=∀ (pins:List (Addr×Obj)) (σ : St) (H:Hp) (s:Shared) (e:Value) (s':Shared),Inv X pins σ H s->CX X.stack H s E e s'->X.xe e s'
section
variable {X:Cx} {CX:CXT} {k:Nat} {f C:Addr} {fd:FuncData} {ps:List Str} {sp:Sp} {dvs:List V} {ds:List Value} {E:XK} {x m:Str} {p pos apos:Pos} {e o:Expr} {es:List Expr} {ta:TE} {t:TA}
theorem uH {pins:List (Addr×Obj)} {σ : St} {H:Hp} {s:Shared} {Q:VK} {us:List Value} {vs:List V} (F:cQ X.prog X.w X.K X.mg X.base CX k f fd ps sp) (hr:bB k X.A) (hb:Binds X.K fd ps ds) (hd:Vals dvs ds) (hx:Passes CX X E)
    (I:Inv X pins σ H s) (r:Vals vs us) (h:sp (vs++dvs) H Q E):wpAny (model X.prog X.w) X.A (call (.ref f) us) (EP X pins σ Q) X.xe s:=by
  have r2:Vals (vs++dvs) (us++ds):=r.append hd
  have hl:(us++ds).length=ps.length:=by rw [<- r2.length];exact F.len _ _ _ _ h
  refine wpAny_call (codeAny_mono (F.run X.A X.stack s H ⟨us,[]⟩ (us++ds) (vs++dvs) Q E hr I.xo (hb s us I.kIn hl) r2 h) fun r s' hq=>?_)
  cases r with
  | error e=>exact hx pins σ H s e s' I hq
  | ok fl=>
    cases fl with
    | ret u=>exact I.after hq
    | next=>exact False.elim hq
    | brk=>exact False.elim hq
    | cont=>exact False.elim hq
theorem rF (F:cQ X.prog X.w X.K X.mg X.base CX k f fd ps sp) (hr:bB k X.A) (hg:Gl X x) (hm:X.mg x=some (.ref f)) (hk:PySem.W.keepIn X.K (.ref f)=true) (hb:Binds X.K fd ps ds) (hd:Vals dvs ds) (hx:Passes CX X E)
    (ha:PA X (e::es) t) (hdb:(x == ("__debug__" : Str))=false:=by decide) (he:starEach (e::es) X.env=(false,eval e X.env)::starEach es X.env:=by rfl) (hpl:(backTo pos (starEach es X.env)).any (·.1)=false:=by rfl) :
    PE X (.Call (.Name x p) (e::es) [] pos) (oQ sp dvs E t):=by
  intro pins s σ H Q I h
  refine wpAny_Call_Name_kw (fq I hg hm ?_ hdb)
  refine PySem.W.callWith_K (h₀:=X.base) I.ok.mod.kin hk (thn (ha pos pins s σ H _ I h) fun us s1 ⟨vs,H1,I1,r,q⟩=>⟨I1.kIn,?_⟩) he hpl
  exact uH F hr hb hd hx I1 r q
structure Mk (K:Ao) (C f:Addr):Prop where
  makes:PySem.W.makesIn K C=true
  init:PySem.W.findIn K (.ref C) "__init__" = some (some (.ref f))
  fn:PySem.W.isFn K (.ref f)=true
  kp:PySem.W.keepIn K (.ref C)=true
theorem o8 {pins:List (Addr×Obj)} {σ : St} {H:Hp} {s:Shared} {Q:VK} {us:List Value} {vs:List V} (M:Mk X.K C f) (F:cQ X.prog X.w X.K X.mg X.base CX k f fd ps sp) (hr:bB (k+1) X.A) (hb:Binds X.K fd ps ds) (hd:Vals dvs ds)
    (hx:Passes CX X E) (I:Inv X pins σ H s) (r:Vals vs us)
    (h:∀ x dx,H x=none->H dx=none->dx≠x->sp (.ref x::(vs++dvs)) (upd (upd H dx (.own x)) x (.ins C dx [])) (fun v H2=>v = .non/\Q (.ref x) H2) E) :
    wpAny (model X.prog X.w) X.A (call (.ref C) us) (EP X pins σ Q) X.xe s:=by
  have hq:=h (s.heap.objs.size+1) s.heap.objs.size (I.hok.fresh (Af _)) (I.hok.fresh (Ad _)) (Ab (Nat.lt_succ_self _))
  have I2:=Inv.made (C:=C) I
  have r2:Vals (V.ref (s.heap.objs.size+1)::(vs++dvs)) (Value.ref (s.heap.objs.size+1)::(us++ds)):=.cons rfl (r.append hd)
  have hl:(Value.ref (s.heap.objs.size+1)::us++ds).length=ps.length:=by
    have e:=r2.length
    rw [F.len _ _ _ _ hq] at e
    exact e.symm
  refine wpAny_call (p9 (f:=f) I.kIn M.makes M.init (beq_iff_eq.mp M.fn) (codeAny_mono (F.run _ X.stack _ _ ⟨Value.ref (s.heap.objs.size+1)::us,[]⟩ (Value.ref (s.heap.objs.size+1)::(us++ds)) _ _ E (hr.make C us [])
    (I2.xo.make C us []) (hb _ (Value.ref (s.heap.objs.size+1)::us) I2.kIn hl) r2 hq) fun r s' hq'=>?_))
  cases r with
  | error e=>exact hx pins σ _ _ e s' I2 hq'
  | ok fl=>
    cases fl with
    | ret u=>
      obtain ⟨v,H',I3,rv,ev,q3⟩:=I2.after hq'
      subst ev
      exact ⟨rv,⟨V.ref (s.heap.objs.size+1),H',I3,rfl,q3⟩⟩
    | next=>exact False.elim hq'
    | brk=>exact False.elim hq'
    | cont=>exact False.elim hq'
theorem rD (M:Mk X.K C f) (F:cQ X.prog X.w X.K X.mg X.base CX k f fd ps sp) (hr:bB (k+1) X.A) (hg:Gl X x) (hm:X.mg x=some (.ref C)) (hb:Binds X.K fd ps ds) (hd:Vals dvs ds) (hx:Passes CX X E)
    (ha:PA X (e::es) t) (hdb:(x == ("__debug__" : Str))=false:=by decide) (he:starEach (e::es) X.env=(false,eval e X.env)::starEach es X.env:=by rfl) (hpl:(backTo pos (starEach es X.env)).any (·.1)=false:=by rfl) :
    PE X (.Call (.Name x p) (e::es) [] pos) (oK C sp dvs E t):=by
  intro pins s σ H Q I h
  refine wpAny_Call_Name_kw (fq I hg hm ?_ hdb)
  refine PySem.W.callWith_K (h₀:=X.base) I.ok.mod.kin M.kp (thn (ha pos pins s σ H _ I h) fun us s1 ⟨vs,H1,I1,r,q⟩=>⟨I1.kIn,?_⟩) he hpl
  exact o8 M F hr hb hd hx I1 r q
end
section
variable {X:Cx} {CX:CXT} {k:Nat} {f C:Addr} {fd:FuncData} {ps ks:List Str} {sp:Sp} {E:XK} {x m:Str} {p pos apos kpos:Pos} {e o:Expr} {es:List Expr} {kws:List Keyword} {te ta:TE} {t tk:TA} {nm:Option Str}
structure yG (K:Ao) (fd:FuncData) (ps ks:List Str) (g:List Value->List Value->List Value) (gV:List V->List V->List V):Prop where
  to:∀ (s:Shared) (us ws:List Value),K.In s.heap->(g us ws).length=ps.length->BindsTo s fd ⟨us,ks.zip ws⟩ (ps.zip (g us ws))
  rel:∀ {vs:List V} {us:List Value} {zs:List V} {ws:List Value},Vals vs us->Vals zs ws->Vals (gV vs zs) (g us ws)
variable {g:List Value->List Value->List Value} {gV:List V->List V->List V}
end
structure aT (N P:List Str) (sc:Scope):Prop where
  kind:sc.kind = .function
  co:sc.isCoroutine=false
  gen:sc.isGenerator=false
  nd:N.Nodup
  pre:N.take P.length=P
  par:∀ x∈P,sc.names.lookup x=some .local\/sc.names.lookup x=some .cell
  nofree:∀ y∈sc.names,y.2≠.free
theorem iA {kindOf:Str->Option NameKind} {x:Str}:∀ {binds:List (Str×Value)} {m:Str->Option Value},(∀ v,(x,v)∉binds)->bindL kindOf binds m x=m x
  | [],_,_=>rfl
  | (n,v)::r,m,h=>by
    unfold bindL
    rw [iA fun w hw=>h w (zH _ hw)]
    split
    · have:x≠n:=by rintro rfl;exact h v zK
      simp [this]
    · rfl
theorem iC {kindOf:Str->Option NameKind} {x:Str}:∀ {binds:List (Str×Value)} {m:Str->Option Value},(∀ v,(x,v)∉binds)->bindC kindOf binds m x=m x
  | [],_,_=>rfl
  | (n,v)::r,m,h=>by
    unfold bindC
    rw [iC fun w hw=>h w (zH _ hw)]
    split
    · rfl
    · have:x≠n:=by rintro rfl;exact h v zK
      simp [this]
theorem iB {kindOf:Str->Option NameKind} {x:Str} {v:Value}:∀ {P:List Str} {vs:List Value} {i:Nat} {m:Str->Option Value},P.Nodup->P[i]?=some x->vs[i]?=some v->kindOf x=some .local ->
    bindL kindOf (P.zip vs) m x=some v
  | [],_,_,_,_,h,_,_=>by simp at h
  | _::_,[],_,_,_,_,h,_=>by simp at h
  | p::P,w::vs,0,m,nd,h1,h2,hk=>by
    simp at h1 h2;subst h1;subst h2
    show bindL kindOf ((p,w)::P.zip vs) m p=_
    unfold bindL
    rw [iA fun v hv=>(List.nodup_cons.mp nd).1 (List.of_mem_zip hv).1,if_pos hk]
    simp
  | p::P,w::vs,i+1,m,nd,h1,h2,hk=>by
    show bindL kindOf ((p,w)::P.zip vs) m x=_
    unfold bindL
    exact iB (i:=i) (List.nodup_cons.mp nd).2 (by simpa using h1) (by simpa using h2) hk
theorem iD {kindOf:Str->Option NameKind} {x:Str} {v:Value}:∀ {P:List Str} {vs:List Value} {i:Nat} {m:Str->Option Value},P.Nodup->P[i]?=some x->vs[i]?=some v->kindOf x≠some .local ->
    bindC kindOf (P.zip vs) m x=some v
  | [],_,_,_,_,h,_,_=>by simp at h
  | _::_,[],_,_,_,_,h,_=>by simp at h
  | p::P,w::vs,0,m,nd,h1,h2,hk=>by
    simp at h1 h2;subst h1;subst h2
    show bindC kindOf ((p,w)::P.zip vs) m p=_
    unfold bindC
    rw [iC fun v hv=>(List.nodup_cons.mp nd).1 (List.of_mem_zip hv).1,if_neg hk]
    simp
  | p::P,w::vs,i+1,m,nd,h1,h2,hk=>by
    show bindC kindOf ((p,w)::P.zip vs) m x=_
    unfold bindC
    exact iD (i:=i) (List.nodup_cons.mp nd).2 (by simpa using h1) (by simpa using h2) hk
def start (N:List Str) (vs:List V):St:=vs.map some++List.replicate (N.length - vs.length) none
def bW (CX:CXT) (P:Program) (w:World) (K:Ao) (mg:Str->Option Value) (base:Heap) (N:List Str) (qual:Str) (scope:Scope) (f:Addr) (cd:Value) (A:Around) (outer:List Env) (s:Shared) (H:Hp) (E:XK):Cx where
  prog:=P
  w:=w
  K:=K
  mg:=mg
  base:=base
  A:=A.deeper (envOfC qual scope s.heap.objs.size f cd)
  N:=N
  s₀:=s
  H₀:=H
  env:=envOfC qual scope s.heap.objs.size f cd
  outer:=outer
  stack:=envOfC qual scope s.heap.objs.size f cd::outer
  ex:=[]
  calm:=true
  fn:=fun _=>true
  pn:=[]
  xe:=fun e s'=>wpAny (model P w) (A.deeper (envOfC qual scope s.heap.objs.size f cd)) (leaving (envOfC qual scope s.heap.objs.size f cd) e) (fun _ s''=>CX outer H s E e s'') (fun e' s''=>CX outer H s E e' s'') s'
theorem j7 {sc:Scope} {n:Nat} {x:Str} (h:sc.names.lookup x=some .cell):∃ c,(cellsFrom n sc.names []).lookup x=some c:=by
  have q:=PySem.W.cellsFrom_some sc.names n [] (.inl h)
  exact Option.isSome_iff_exists.mp q
theorem nK {CX:CXT} {P:Program} {w:World} {K:Ao} {mg:Str->Option Value} {base:Heap} {N ps:List Str} {qual:Str} {scope:Scope} {f:Addr} {cd:Value} {A:Around} {outer:List Env} {s s1:Shared} {H:Hp} {E:XK} {us:List Value} {vs:List V}
    (S:aT N ps scope) (hd:A.handled=none) (e0:ko P w K mg base A outer s H) (hl:vs.length=ps.length) (r:Vals vs us)
    (x:InCallC s s.heap.objs.size (bindL (envOfC qual scope s.heap.objs.size f cd).kindOf (ps.zip us) fun _=>none) (cellsFrom (s.heap.objs.size+1) scope.names []) (bindC (envOfC qual scope s.heap.objs.size f cd).kindOf (ps.zip us) fun _=>none) s1) :
    Inv (bW CX P w K mg base N qual scope f cd A outer s H E) [] (start N vs) H s1:=by
  have hpl:ps.length<=N.length:=by have:=congrArg List.length S.pre;rw [zQ] at this;omega
  obtain ⟨h1,tk,rfl,hk⟩:=x.done
  have noA:∀ b:Addr,b∉(bW CX P w K mg base N qual scope f cd A outer s H E).ex:=fun b z=>absurd (show b∈([]:List Addr) from z) (by simp)
  refine ⟨⟨e0.mod,S.kind,rfl,rfl,Ad _,fun y z c h1 h2=>?_,fun y hy=>?_,fun y c _ h=>?_,fun _=>hd,Around.frames_deeper e0.frames,.inr ⟨rfl,rfl⟩,fun b z=>absurd z (noA b),e0.bs,e0.bsz,fun b _ _=>noA b,fun b z=>absurd z (noA b),e0.eV,e0.frf⟩,
    rfl,e0.bare,Un.kept hk,⟨_,x.toInCall.ns,fun i y v h1 h2 h3=>?_⟩,fun y c h=>⟨_,x.cell y c h⟩,e0.hok.fresh (Ad _),fun y c h=>?_,fun p hp=>absurd (show p∈([]:List (Addr×Obj)) from hp) (by simp),e0.hok.kept hk,?_⟩
  · exact name_of_addr x.apart (PySem.mem_of_lookup h1) (PySem.mem_of_lookup h2)
  · have hy:scope.names.lookup y=some .cell\/scope.names.lookup y=some .free:=hy
    rcases hy with hy | hy
    · exact j7 hy
    · exact absurd rfl (S.nofree _ (PySem.mem_of_lookup hy))
  · exact Aa (x.above y c (PySem.mem_of_lookup h))
  · have hi:i < vs.length:=by
      unfold start at h2
      by_cases hi:i < vs.length
      · exact hi
      · rw [zB (by simpa using hi)] at h2
        rw [List.getElem?_replicate] at h2
        split at h2 <;> cases h2
    have ha:vs[i]?=some v:=by
      unfold start at h2
      rw [zC (by simpa using hi),zO] at h2
      cases e:vs[i]? with
      | none=>rw [e] at h2;cases h2
      | some a=>rw [e] at h2;cases h2;rfl
    obtain ⟨u,hu,rv⟩:=r.get ha
    have hp:ps[i]?=some y:=by
      rw [<- S.pre,List.getElem?_take_of_lt (by omega)];exact h1
    have ndP:ps.Nodup:=by rw [<- S.pre];exact S.nd.sublist (List.take_sublist _ _)
    refine ⟨u,rv,?_⟩
    rcases S.par y (zG hp) with k | k
    · exact .inl ⟨k,iB ndP hp hu k⟩
    · obtain ⟨c,e⟩:=j7 (n:=s.heap.objs.size+1) k
      refine .inr ⟨.inl k,c,e,?_⟩
      have q:=x.cell y c e
      rw [iD ndP hp hu (by show scope.names.lookup y≠_;rw [k];decide)] at q
      exact q
  · exact e0.hok.fresh (Aa (x.above y c (PySem.mem_of_lookup h)))
  · unfold start
    show _=N.length
    rw [zJ,zS,List.length_replicate]
    omega
theorem uf {CX:CXT} {P:Program} {w:World} {K:Ao} {mg:Str->Option Value} {base:Heap} {k:Nat} {f:Addr} {name qual:Str} {params:Arguments} {body:List Stmt} {scope:Scope} {dV kV doc pm cdv ct oc:Value} {an od:Option Addr}
    {osl:Array (Option Value)} {N ps:List Str} {sp:Sp} (lk:K.lookup f=some ⟨oc,od,.func (PySem.W.fnOf name qual params body scope dV kV doc pm an cdv ct),osl⟩) (hcd:PySem.W.codeIn K cdv qual=true) (S:aT N ps scope)
    (len:∀ vs H Q E,sp vs H Q E->vs.length=ps.length)
    (hbody:∀ (A:Around) (outer:List Env) (s:Shared) (H:Hp) (vs:List V) (Q:VK) (E:XK),bB k (A.deeper (envOfC qual scope s.heap.objs.size f cdv))->sp vs H Q E ->
      ∃ t,PSs (bW CX P w K mg base N qual scope f cdv A outer s H E) body t/\t { nx:=fun _ H'=>Q .non H',rt:=Q } (start N vs) H) :
    cQ P w K mg base CX (k+1) f (PySem.W.fnOf name qual params body scope dV kV doc pm an cdv ct) ps sp:=by
  refine ⟨len,fun A outer s H args us vs Q E hr e0 hb r hsp=>?_⟩
  have hl:=len _ _ _ _ hsp
  have KX:K.In s.heap:=e0.mod.kin.keeps fun b o e=>(e0.bs b o e).1
  have lim:s.heap.NoLimit:=e0.mod.nolimit.keeps fun b o e=>(e0.bs b o e).1
  have hkind:∀ y∈ps.zip us,scope.names.lookup y.1=some .local\/(scope.names.lookup y.1=some .cell/\((cellsFrom (s.heap.objs.size+1) scope.names []).lookup y.1).isSome=true):=fun ⟨n,v⟩ hy=>by
    rcases S.par n (List.of_mem_zip hy).1 with q | q
    · exact .inl q
    · exact .inr ⟨q,PySem.W.cellsFrom_some _ _ _ (.inl q)⟩
  refine codeAny_call_function hr.depth (KX _ _ lk) rfl S.co S.gen rfl (PySem.W.codeRec_of KX hcd) (hb _ _ _ _ ?_)
  refine wpAny_newFunctionEnv_cells S.kind hkind fun env he s1 x=>?_
  subst he
  refine ⟨lim.keeps x.toInCall.keep,codeAny_func ?_⟩
  obtain ⟨t,ht,hq⟩:=hbody A outer s H vs Q E (hr.deeper _) hsp
  have I:Inv (bW CX P w K mg base N qual scope f cdv A outer s H E) [] (start N vs) H s1:=nK S hr.hd e0 hl r x
  refine wpAny_mono (ht [] s1 (start N vs) H _ I hq) (fun fl s' hs=>?_) fun e s' hs=>hs
  have fin:∀ {σ':St} {H':Hp} {v:V} {u:Value},Inv (bW CX P w K mg base N qual scope f cdv A outer s H E) [] σ' H' s'->RelV v u->Q v H'->CE outer P w H s Q u s':=
    fun {σ' H' v u} J rv q=>⟨v,H',J.os,J.bare,J.base,J.hok,rv,q⟩
  cases fl with
  | ret u=>
    obtain ⟨v,σ',H',J,rv,q⟩:=hs
    exact fin J rv q
  | next=>
    obtain ⟨σ',H',J,q⟩:=hs
    exact fin (v:=V.non) (u:=Value.none) J rfl q
  | brk=>
    obtain ⟨_,_,_,q⟩:=hs
    exact False.elim q
  | cont=>
    obtain ⟨_,_,_,q⟩:=hs
    exact False.elim q
section
variable {X:Cx} {x:Str} {p pos:Pos} {e:Expr} {es:List Expr} {t:TA} {id T:String} {r:List V->Hp->VK->Prop}
def tCB (r:List V->Hp->VK->Prop) (t:TA):TE:=fun σ H Q=>t σ H fun vs H1=>r vs H1 Q
theorem aK (hc:bV X (.builtin id) r) (hg:Gl X x) (hm:X.mg x=none) (hv:bootBuiltins x=some (.builtin id)) (ha:PA X (e::es) t) (hn:x ≠ "__name__" := by decide) (hdb:(x == ("__debug__" : Str))=false:=by decide)
    (he:starEach (e::es) X.env=(false,eval e X.env)::starEach es X.env:=by rfl) (hpl:(backTo pos (starEach es X.env)).any (·.1)=false:=by rfl):PE X (.Call (.Name x p) (e::es) [] pos) (tCB r t):=by
  intro pins s σ H Q I h
  refine wpAny_Call_Name_kw (c6 I hg hm hv ?_ hn hdb)
  exact PyProof.Rows.callWith_builtin1 (thn (ha pos pins s σ H _ I h) fun us s1 ⟨vs,H1,I1,r1,q1⟩=>hc pins s1 σ H1 vs us Q I1 r1 q1) he hpl
end
abbrev TO:=St->Hp->(Option Int->Hp->Prop)->Prop
def PO (X:Cx) (e:Option Expr) (t:TO):Prop:=
  ∀ (pins:List (Addr×Obj)) (s:Shared) (σ : St) (H:Hp) (Q:Option Int->Hp->Prop),Inv X pins σ H s->t σ H Q ->
    wpAny (model X.prog X.w) X.A (evalPart e X.env) (fun u s'=>∃ o H',Inv X pins σ H' s'/\IsPart u o/\Q o H') X.xe s
def lR:TO:=fun _ H Q=>Q none H
def tO (t:TE):TO:=fun σ H Q=>t σ H fun x H1=>∃ i,x = .int i/\Q (some i) H1
section
variable {X:Cx} {e:Expr} {te:TE} {lo hi:Option Expr} {tl th:TO} {pos p2:Pos}
theorem rB:PO X none lR:=by
  intro pins s σ H Q I h
  rw [evalPart_none]
  exact wpAny_pure ⟨none,H,I,.none,h⟩
theorem rA (h:PE X e te):PO X (some e) (tO te):=by
  intro pins s σ H Q I hw
  rw [evalPart_some]
  refine thn (h pins s σ H _ I hw) fun u s1 ⟨x,H1,I1,r1,q1⟩=>?_
  obtain ⟨i,rfl,q⟩:=q1
  obtain ⟨t,rfl⟩:=r1
  exact ⟨some i,H1,I1,.int i t,q⟩
def SlR (X:Cx) (r:V->Option Int->Option Int->Hp->VK->Prop):Prop:=
  ∀ (pins:List (Addr×Obj)) (s:Shared) (σ : St) (H:Hp) (x:V) (v vl vu:Value) (lo hi:Option Int) (sl:Addr) (Q:VK),Inv X pins σ H s->RelV x v->s.heap.IsSliceOf sl vl vu .none->IsPart vl lo->IsPart vu hi->r x lo hi H Q ->
    ∃ T id,typeLookup (.type T) "__getitem__" = pure (some (.builtin id))/\s.TypeIs v T/\wpAny (model X.prog X.w) X.A (getItem v (.ref sl)) (EP X pins σ Q) X.xe s
def tSl (r:V->Option Int->Option Int->Hp->VK->Prop) (te:TE) (tl th:TO):TE:=fun σ H Q=>te σ H fun x H1=>tl σ H1 fun l H2=>th σ H2 fun u H3=>r x l u H3 Q
theorem pK {r:V->Option Int->Option Int->Hp->VK->Prop} (hr:SlR X r) (he:PE X e te) (hl:PO X lo tl) (hu:PO X hi th):PE X (.Subscript e (.Slice lo hi none p2) pos) (tSl r te tl th):=by
  intro pins s σ H Q I h
  refine Subscript_ (thn (he pins s σ H _ I h) fun v s1 ⟨x,H1,I1,r1,q1⟩=>?_)
  refine wpAny_Slice (thn (hl pins s1 σ H1 _ I1 q1) fun vl s2 ⟨l,H2,I2,pl,q2⟩=>thn (hu pins s2 σ H2 _ I2 q2) fun vu s3 ⟨u,H3,I3,pu,q3⟩=>?_)
  rw [evalPart_none]
  refine wpAny_pure ?_
  have I4:Inv X pins σ H3 { s3 with heap:=s3.heap.push { cls:=.type "slice",data:=.fields #[vl,vu,.none] } }:=I3.kept (t':=s3.toks) fun b ob q=>Heap.get?_push_of_some _ q
  obtain ⟨T,id,hT,ht,hg⟩:=hr pins { s3 with heap:=s3.heap.push { cls:=.type "slice",data:=.fields #[vl,vu,.none] } } σ H3 x v vl vu l u s3.heap.objs.size Q I4 r1 (Heap.IsSliceOf.new ..) pl pu q3
  show wpAny (model X.prog X.w) X.A (subscriptTail e (.Slice lo hi none p2) v (.ref s3.heap.objs.size)) (EP X pins σ Q) X.xe { s3 with heap:=s3.heap.push { cls:=.type "slice",data:=.fields #[vl,vu,.none] } }
  exact tail_any (ops:=[.ref s3.heap.objs.size,v]) ht hT hg (by with_unfolding_all rfl)
end
def ixN (n:Nat) (i:Int):Option Nat:=if 0<=i then (if i < n then some i.toNat else none) else if -(n:Int)<=i then some (i+n).toNat else none
def atI {α : Type} (xs:List α) (i:Int):Option α:=(ixN xs.length i).bind fun j=>xs[j]?
theorem mC {n:Nat} {i:Int} {j:Nat} (h:ixN n i=some j):seqIndex? i n=some j/\j < n/\-(n:Int)<=i/\i < n:=by
  unfold ixN at h
  by_cases h0 : 0<=i
  · rw [if_pos h0] at h
    by_cases h1:i < n
    · rw [if_pos h1] at h
      have e:i.toNat=j:=zW h
      exact ⟨by rw [seqIndex_of h0 h1,e],by omega,by omega,h1⟩
    · rw [if_neg h1] at h;cases h
  · rw [if_neg h0] at h
    by_cases h1 : -(n:Int)<=i
    · rw [if_pos h1] at h
      have e:(i+n).toNat=j:=zW h
      exact ⟨by rw [seqIndex_neg (by omega) h1,e],by omega,h1,by omega⟩
    · rw [if_neg h1] at h;cases h
theorem mR {α : Type} {xs:List α} {i:Int} {v : α} (h:atI xs i=some v):∃ j,seqIndex? i xs.length=some j/\xs[j]?=some v/\j < xs.length/\-(xs.length:Int)<=i/\i < xs.length:=by
  unfold atI at h
  cases e:ixN xs.length i with
  | none=>rw [e] at h;cases h
  | some j=>
    rw [e] at h
    obtain ⟨h1,h2,h3,h4⟩:=mC e
    exact ⟨j,h1,h,h2,h3,h4⟩
theorem fE {α : Type} {xs:List α} {j:Nat} {v : α} (h:xs[j]?=some v):atI xs (j:Int)=some v:=by
  have hj:j < xs.length:=(Ah h).1
  have e:ixN xs.length (j:Int)=some j:=by
    unfold ixN
    rw [if_pos (by omega),if_pos (by omega)];simp
  unfold atI;rw [e];exact h
def tD (b:Expr):Prop:=∀ o i,subscripted b false o i=operate [o,i] (getItem o i)
def IxR (X:Cx) (r:R2):Prop:=
  ∀ (value slice:Expr) (pins:List (Addr×Obj)) (s:Shared) (σ : St) (H:Hp) (x y:V) (v u:Value) (Q:VK),Inv X pins σ H s->RelV x v->RelV y u->r x y H Q ->
    subscripted slice false v u=operate [v,u] (getItem v u)->wpAny (model X.prog X.w) X.A (subscriptTail value slice v u) (EP X pins σ Q) X.xe s
def MtR (X:Cx) (id:String) (r:V->List V->Hp->VK->Prop):Prop:=
  ∀ (pins:List (Addr×Obj)) (s:Shared) (σ : St) (H:Hp) (x:V) (xs:List V) (v:Value) (us:List Value) (Q:VK),Inv X pins σ H s->RelV x v->Vals xs us->r x xs H Q ->
    wpAny (model X.prog X.w) X.A (call (.builtin id) (v::us)) (EP X pins σ Q) X.xe s
section
variable {X:Cx} {a b:Expr} {ta tb:TE} {pos:Pos}
theorem bF {r:R2} (hr:IxR X r) (ha:PE X a ta) (hb:PE X b tb) (hs:tD b):PE X (.Subscript a b pos) (tOp r ta tb):=by
  intro pins s σ H Q I h
  exact Subscript_ (vJ ha hb I h fun v u s2 x y H2 I2 rx ry q=>hr a b pins s2 σ H2 x y v u Q I2 rx ry q (hs _ _))
def wz (K:Ao):R2:=fun x y H Q=>∃ p xs i v,x = .ref p/\y = .int i/\SqL K H p xs/\atI xs i=some v/\Q v H
def wu:R2:=fun x y H Q=>∃ z i c,x = .str z/\y = .int i/\z.length<=sizeLine/\atI z.cps.toList i=some c/\Q (.str ⟨#[c]⟩) H
theorem bg:IxR X (wz X.K):=by
  intro value slice pins s σ H x y v u Q I rx ry h hs
  obtain ⟨p,xs,i,z,rfl,rfl,hq,he,q⟩:=h
  cases rx
  obtain ⟨t,rfl⟩:=ry
  obtain ⟨its,r,pl,hz⟩:=I.list hq
  obtain ⟨j,h1,h2,h3,h4,h5⟩:=mR he
  obtain ⟨w,ew,rw'⟩:=r.get h2
  have hl:=r.length
  have hn:=fX
  have fin:EP X pins σ Q w s:=⟨z,H,I,rw',q⟩
  by_cases h0 : 0<=i
  · have hj:i.toNat=j:=by
      rw [seqIndex_of h0 h5] at h1
      exact zW h1
    exact item_listR pl.isList h0 (by omega) (by rw [hj];simpa using ew) fin hs
  · have hj:(i+(its.toArray.size:Int)).toNat=j:=by
      rw [seqIndex_neg (by omega) h4] at h1
      rw [zN,<- hl]
      exact zW h1
    exact subscriptTail_builtinR (x:=w) pl.isList.typeIs slot_list_getitem.lookup
      (wpAny_getItem_list_neg (Q:=fun r s'=>r=w/\EP X pins σ Q r s') pl.isList (by omega) (by rw [zN] <;> omega) (by omega) (by rw [hj];simpa using ew) ⟨rfl,fin⟩) hs
theorem fZ:IxR X wu:=by
  intro value slice pins s σ H x y v u Q I rx ry h hs
  obtain ⟨z,i,c,rfl,rfl,hz,he,q⟩:=h
  obtain ⟨t,rfl⟩:=rx
  obtain ⟨t',rfl⟩:=ry
  obtain ⟨j,h1,h2,h3,h4,h5⟩:=mR he
  have hl:z.cps.toList.length=z.length:=by simp [Str.length]
  rw [hl] at h1 h4 h5
  have hn:=fX
  exact tail_any (typeIs_str s z t) slot_str_getitem.lookup (getItem_str (c:=c) (by
    have e1:decide (i < -(2 ^ 63:Int))=false:=zX (by omega)
    have e2:decide (i>=2 ^ 63)=false:=zX (by omega)
    rw [e1,e2,Bool.or_false]) (by rw [h1];simpa using h2) ⟨.str ⟨#[c]⟩,H,I.tok _,⟨_,rfl⟩,q⟩) hs
theorem k8 (its:List Value) (n j:Nat) (u:Value):Obj.mapSeq (·.setIfInBounds j u) { cls:=.type "list",data:=.seq its.toArray n }={ cls:=.type "list",data:=.seq (its.set j u).toArray n }:=by
  simp [Obj.mapSeq]
theorem Inv.lst {pins:List (Addr×Obj)} {σ : St} {H:Hp} {s:Shared} {p:Addr} {xs:List V} (I:Inv X pins σ H s) (h:H p=some (.lst xs)) :
    ∃ (its:List Value) (n:Nat),Vals xs its/\s.heap.get? p=some { cls:=.type "list",data:=.seq its.toArray n }/\xs.length<=sizeLine:=by
  obtain ⟨z,its,n,r,e⟩:=I.hok p _ h
  exact ⟨its,n,r,e,z⟩
theorem Inv.uR {pins:List (Addr×Obj)} {σ : St} {H:Hp} {s:Shared} {p:Addr} {xs ys:List V} {its its':List Value} {n n':Nat} {f:Obj->Obj} (I:Inv X pins σ H s) (h:H p=some (.lst xs))
    (ho:s.heap.get? p=some { cls:=.type "list",data:=.seq its.toArray n }) (hf:f { cls:=.type "list",data:=.seq its.toArray n }={ cls:=.type "list",data:=.seq its'.toArray n' }) (r:Vals ys its') (hz:ys.length<=sizeLine) (t:Nat) :
    Inv X pins σ (upd H p (.lst ys)) { s with heap:=s.heap.update p f,toks:=t }:=by
  have e:(s.heap.update p f).get? p=some { cls:=.type "list",data:=.seq its'.toArray n' }:=by
    rw [Heap.get?_update_self f ho (by rw [hf] <;> rfl),hf]
  refine I.write (x:=p) (e:=p) (by rw [h];trivial) (.inl rfl) (fun b u hb q=>(Heap.get?_update_other _ _ (Ne.symm hb)).trans q) ⟨_,e⟩ ?_
  exact ⟨hz,its',n',r,e⟩
def wg:V->V->V->Hp->(Hp->Prop)->Prop:=fun o i v H Q=>∃ p xs k j,o = .ref p/\i = .int k/\H p=some (.lst xs)/\ixN xs.length k=some j/\Q (upd H p (.lst (xs.set j v)))
theorem set_list:xB X wg:=by
  intro pins s σ H o i v ov iv u Q I ro ri rv h
  obtain ⟨p,xs,k,j,rfl,rfl,hp,hj,q⟩:=h
  cases ro
  obtain ⟨t,rfl⟩:=ri
  obtain ⟨its,n,r,ho,hz⟩:=I.lst hp
  obtain ⟨h1,h2,h3,h4⟩:=mC hj
  have hl:=r.length
  have hn:=fX
  have I':Inv X pins σ (upd H p (.lst (xs.set j v))) { s with heap:=s.heap.update p (Obj.mapSeq (·.setIfInBounds j u)) }:=
    I.uR hp ho (k8 its n j u) (r.set rv j) (by rw [List.length_set];exact hz) s.toks
  by_cases h0 : 0<=k
  · have hk:k.toNat=j:=by
      rw [seqIndex_of h0 h4] at h1
      exact zW h1
    exact PySem.W.ki_setAt ho h0 (by omega) (by rw [zN,<- hl];exact h4) (by rw [hk];exact ⟨_,I',q⟩)
  · have hk:(k+(its.toArray.size:Int)).toNat=j:=by
      rw [seqIndex_neg (by omega) h3] at h1
      rw [zN,<- hl]
      exact zW h1
    exact PySem.W.ki_setBack ho (by omega) (by rw [zN,<- hl];exact h3) (by omega) (by rw [hk];exact ⟨_,I',q⟩)
def bS:V->Bool
  | .non=>true
  | .bl _=>true
  | .int _=>true
  | .str _=>true
  | _=>false
def eqV:V->V->Bool
  | .non,.non=>true
  | .bl a,.bl b=>a == b
  | .bl a,.int b=>(if a then 1 else 0) == b
  | .int a,.bl b=>a == (if b then 1 else 0)
  | .int a,.int b=>a == b
  | .str a,.str b=>a == b
  | _,_=>false
theorem jf {A:Around} {s:Shared} {y x:V} {u v:Value} (ry:RelV y u) (rx:RelV x v) (fy:bS y=true) (fx:bS x=true):SeqAt.EqAt A s u v (eqV y x):=by
  cases y with
  | non=>
    cases ry
    cases x with
    | non=>cases rx;exact SeqAt.EqAt.same _
    | bl b=>cases rx;exact SeqAt.EqAt.none_bool b
    | int b=>obtain ⟨t,rfl⟩:=rx;exact SeqAt.EqAt.none_int b t
    | str b=>obtain ⟨t,rfl⟩:=rx;exact SeqAt.EqAt.none_str b t
    | _=>exact absurd (show false=true from fx) zL
  | bl a=>
    cases ry
    cases x with
    | non=>cases rx;exact SeqAt.EqAt.bool_none a
    | bl b=>cases rx;exact SeqAt.EqAt.bool_bool a b
    | int b=>obtain ⟨t,rfl⟩:=rx;exact SeqAt.EqAt.bool_int a b t
    | str b=>obtain ⟨t,rfl⟩:=rx;exact SeqAt.EqAt.bool_str a b t
    | _=>exact absurd (show false=true from fx) zL
  | int a=>
    obtain ⟨t',rfl⟩:=ry
    cases x with
    | non=>cases rx;exact SeqAt.EqAt.int_none a t'
    | bl b=>cases rx;exact SeqAt.EqAt.int_bool a t' b
    | int b=>obtain ⟨t,rfl⟩:=rx;exact SeqAt.EqAt.int_int a t' b t
    | str b=>obtain ⟨t,rfl⟩:=rx;exact SeqAt.EqAt.int_str a t' b t
    | _=>exact absurd (show false=true from fx) zL
  | str a=>
    obtain ⟨t',rfl⟩:=ry
    cases x with
    | non=>cases rx;exact SeqAt.EqAt.str_none a t'
    | bl b=>cases rx;exact SeqAt.EqAt.str_bool a t' b
    | int b=>obtain ⟨t,rfl⟩:=rx;exact SeqAt.EqAt.str_int a t' b t
    | str b=>obtain ⟨t,rfl⟩:=rx;exact SeqAt.EqAt.str_str a t' b t
    | _=>exact absurd (show false=true from fx) zL
  | _=>exact absurd (show false=true from fy) zL
theorem jj:bV X (.builtin "len") (fun xs H Q=>∃ p ys,xs=[.ref p]/\(SqL X.K H p ys\/SqT X.K H p ys)/\Q (.int ys.length) H):=by
  intro pins s σ H xs us Q I r h
  obtain ⟨p,ys,rfl,hq,q⟩:=h
  obtain ⟨u,rfl,rx⟩:=vals1 r
  cases rx
  have hn:=fX
  rcases hq with hq | hq
  · obtain ⟨its,r',pl,hz⟩:=I.list hq
    have hlen:=r'.length
    exact Calls.call_len_list pl.isList (by simp only [zN] <;> omega) ⟨.int ys.length,H,I.tok _,⟨s.toks+1,by rw [zN,hlen]⟩,q⟩
  · obtain ⟨its,r',pl,hz⟩:=I.tuple hq
    have hlen:=r'.length
    exact len_tuple pl (by simp only [zN] <;> omega) ⟨.int ys.length,H,I.tok _,⟨s.toks+1,by rw [zN,hlen]⟩,q⟩
theorem ji:bV X (.builtin "len") (fun xs H Q=>∃ z,xs=[.str z]/\z.length<=sizeLine/\Q (.int z.length) H):=by
  intro pins s σ H xs us Q I r h
  obtain ⟨z,rfl,hz,q⟩:=h
  obtain ⟨u,rfl,t,rfl⟩:=vals1 r
  have hn:=fX
  exact len_str (by omega) ⟨.int z.length,H,I.tok _,⟨_,rfl⟩,q⟩
def tyV (K:Ao) (T:String) (x:V) (H:Hp):Prop:=match x with
  | .str _=>T = "str"
  | .int _=>T = "int"
  | .ref p=>(T = "list" /\ ∃ xs,SqL K H p xs)\/(T = "tuple" /\ ∃ o,K.lookup p=some o/\o.cls = .type "tuple" /\ o.dict=none) \/
      (T = "dict" /\ ((∃ kvs,H p=some (.dK kvs))\/∃ kvs,H p=some (.dT kvs)))\/(T = "set" /\ ∃ S n,H p=some (.set S n))
  | _=>False
theorem uv {pins:List (Addr×Obj)} {σ : St} {H:Hp} {s:Shared} {T:String} {x:V} {v:Value} (I:Inv X pins σ H s) (r:RelV x v) (ty:tyV X.K T x H) :
    s.TypeIs v T/\∀ a,v = .ref a->∃ ob,s.heap.get? a=some ob/\ob.dict=none:=by
  cases x with
  | str z=>
    obtain ⟨t,rfl⟩:=r
    cases (show T = "str" from ty)
    exact ⟨typeIs_str s z t,fun _ e=>nomatch e⟩
  | int i=>
    obtain ⟨t,rfl⟩:=r
    cases (show T = "int" from ty)
    exact ⟨typeIs_int s i t,fun _ e=>nomatch e⟩
  | ref p=>
    cases r
    rcases ty with ⟨rfl,xs,hq⟩ | ⟨rfl,o,hk,hc,hd⟩ | ⟨rfl,hk⟩ | ⟨rfl,S,n,hk⟩
    · obtain ⟨its,_,pl,_⟩:=I.list hq
      refine ⟨pl.isList.typeIs,fun a e=>?_⟩
      cases e
      obtain ⟨o,n,e,c,hd,_⟩:=pl
      exact ⟨o,e,hd⟩
    · refine ⟨⟨o,I.kIn p o hk,hc⟩,fun a e=>?_⟩
      cases e
      exact ⟨o,I.kIn _ o hk,hd⟩
    · have z:∃ o,s.heap.get? p=some o/\o.ExactDict:=by
        rcases hk with ⟨kvs,hk⟩ | ⟨kvs,hk⟩
        · obtain ⟨_,_,_,_,o,_,_,e,ex,_⟩:=I.hok p _ hk
          exact ⟨o,e,ex⟩
        · obtain ⟨_,_,_,_,o,_,_,e,ex,_⟩:=I.hok p _ hk
          exact ⟨o,e,ex⟩
      obtain ⟨o,e,ex⟩:=z
      refine ⟨⟨o,e,ex.1⟩,fun a e2=>?_⟩
      cases e2
      exact ⟨o,e,ex.2.1⟩
    · obtain ⟨o,_,_,_,e,ex,_⟩:=I.hok p _ hk
      refine ⟨⟨o,e,ex.1⟩,fun a e2=>?_⟩
      cases e2
      exact ⟨o,e,ex.2.1⟩
  | _=>exact False.elim ty
def tBM (K:Ao) (T:String) (r:V->List V->Hp->VK->Prop) (to:TE) (t:TA):TE:=fun σ H Q=>to σ H fun x H1=>tyV K T x H1/\t σ H1 fun xs H2=>r x xs H2 Q
variable {o e:Expr} {es:List Expr} {to:TE} {t:TA} {name:Str} {apos cpos:Pos} {T id:String} {r:V->List V->Hp->VK->Prop}
theorem pO (pa:PlainAttrs T) (slot:Slot T name id) (hty:typeOf (.builtin id)=pure (.type "method_descriptor")) (hm:MtR X id r) (ho:PE X o to) (ha:PA X (e::es) t)
    (hbase:attributeBase o name X.env (eval o X.env)=eval o X.env:=by rfl)
    (hfew:((backTo cpos (starEach (e::es) X.env)).all (fun x=>!x.1) && (backToKw cpos (keywordEach [] X.env)).all (fun x=>x.1.isSome)
      && decide ((e::es).length+([]:List Keyword).length+(if ([]:List Keyword).isEmpty then 0 else 1) < 30))=true:=by rfl)
    (hline:(apos.endLine == cpos.line)=true:=by rfl) (hs:starEach (e::es) X.env=(false,eval e X.env)::starEach es X.env:=by rfl) (hplain:(backTo cpos (starEach es X.env)).any (·.1)=false:=by rfl) :
    PE X (.Call (.Attribute o name apos) (e::es) [] cpos) (tBM X.K T r to t):=by
  intro pins s σ H Q I h
  refine wpAny_Call_method_late hbase hfew hline rfl (thn (ho pins s σ H _ I h) fun v s1 ⟨x,H1,I1,r1,ty,q1⟩=>?_)
  obtain ⟨h1,h2⟩:=uv I1 r1 ty
  refine ⟨T,id,pa,slot,hty,h1,h2,?_⟩
  have hA:=ha cpos pins s1 σ H1 _ I1 q1
  rw [hs] at hA ⊢
  refine Calls.callWith_builtin (by show (false || (backTo cpos (starEach es X.env)).any (·.1))=false;rw [hplain] <;> rfl) (Calls.evalArgs_plain ?_)
  exact thn hA fun us s2 ⟨vs,H2,I2,r2,q2⟩=>hm pins s2 σ H2 x vs v us Q I2 r1 r2 q2
end
def MtM (X:Cx) (id:String) (r:V->List V->Hp->VK->Prop):Prop:=
  ∀ (pins:List (Addr×Obj)) (s:Shared) (σ : St) (H:Hp) (x:V) (xs:List V) (v:Value) (us:List Value) (Q:VK),Inv X pins σ H s->RelV x v->Vals xs us->r x xs H Q ->
    wpAny (model X.prog X.w) X.A (call (.builtin id) (v::us)) (EP X pins σ Q) X.xe s
theorem Vals.one {x:V} {us:List Value} (h:Vals [x] us):∃ u,us=[u]/\RelV x u:=by
  cases h with
  | cons r t=>cases t;exact ⟨_,rfl,r⟩
section
variable {X:Cx} {pins:List (Addr×Obj)} {σ : St} {H:Hp} {s:Shared} {l b:Addr} {xs ys zs:List V}
theorem Inv.xZ {its its':List Value} {n:Nat} {f:Array Value->Array Value} {t':Nat} (I:Inv X pins σ H s) (hH:H l=some (.lst xs))
    (e:s.heap.get? l=some { cls:=.type "list",data:=.seq its.toArray n }) (hf:f its.toArray=its'.toArray) (hv:Vals ys its') (hz:ys.length<=sizeLine) :
    Inv X pins σ (upd H l (.lst ys)) { s with heap:=s.heap.update l (Obj.mapSeq f),toks:=t' }:=by
  have q:=PySem.IsL.update e f
  rw [hf] at q
  refine I.write (x:=l) (e:=l) (by rw [hH];exact trivial) (.inl rfl) (fun b' u hb hu=>(Heap.get?_update_other s.heap (Obj.mapSeq f) (Ne.symm hb)).trans hu) ⟨_,q⟩ ?_
  exact ⟨hz,its',_,hv,q⟩
theorem Inv.xY (I:Inv X pins σ H s) (hH:H l=some (.lst xs)):xs.length<=sizeLine/\∃ (its:List Value) (n:Nat),Vals xs its/\xs.length=its.length/\s.heap.get? l=some { cls:=.type "list",data:=.seq its.toArray n }:=by
  obtain ⟨z,its,n,r,e⟩:=I.hok l _ hH
  exact ⟨z,its,n,r,r.length,e⟩
end
section
variable {X:Cx}
def lZ:V->List V->Hp->VK->Prop:=fun x vs H Q=>∃ l xs y,x = .ref l/\vs=[y]/\H l=some (.lst xs)/\xs.length < sizeLine/\Q .non (upd H l (.lst (xs++[y])))
theorem nA:MtM X "list.append" lZ:=by
  intro pins s σ H x vs v us Q I rx rv h
  obtain ⟨l,xs,y,rfl,rfl,hH,hz,q⟩:=h
  cases rx
  obtain ⟨u,rfl,ru⟩:=rv.one
  obtain ⟨z,its,n,r,hl,e⟩:=I.xY hH
  refine call_meets F.slot_list_append ⟨_,e,rfl⟩ F.entry_list_append (F.args_list_append_2 _ _) (PySem.list_append l its.toArray n u (by rw [zN];omega)) ⟨e,?_⟩
  refine ⟨.non,_,I.xZ (its':=its++[u]) hH e (by simp) (r.append (.cons ru .nil)) ?_,rfl,q⟩
  rw [zJ,zE]
  omega
end
section
variable {κ : Type} [DecidableEq κ]
def bh (kvs:List (κ×V)) (k : κ):Option V:=(kvs.find? fun kv=>decide (kv.1=k)).map (·.2)
def putK (kvs:List (κ×V)) (k : κ) (v:V):List (κ×V):=
  if (kvs.any fun kv=>decide (kv.1=k))=true then kvs.map (fun kv=>if kv.1=k then (kv.1,v) else kv) else kvs++[(k,v)]
theorem bu {p : κ×V} {r:List (κ×V)} {k : κ} (e:p.1=k):bh (p::r) k=some p.2:=by simp [bh,List.find?_cons,e]
theorem bw {p : κ×V} {r:List (κ×V)} {k : κ} (e:¬ p.1=k):bh (p::r) k=bh r k:=by simp [bh,List.find?_cons,e]
theorem dc (k : κ):∀ kvs:List (κ×V),(kvs.any fun kv=>decide (kv.1=k))=(bh kvs k).isSome
  | []=>rfl
  | p::r=>by
    rw [List.any_cons]
    by_cases e:p.1=k
    · simp only [bu e,zY e,Bool.true_or,Option.isSome_some]
    · rw [bw e,zX e,Bool.false_or];exact dc k r
theorem jv (k j : κ) (y:V):∀ kvs:List (κ×V),bh (kvs.map fun kv=>if kv.1=k then (kv.1,y) else kv) j=(bh kvs j).map fun x=>if j=k then y else x
  | []=>rfl
  | p::r=>by
    have ih:=jv k j y r
    rw [List.map_cons]
    by_cases h:p.1=k
    · rw [if_pos h]
      by_cases e:p.1=j
      · rw [bu (p:=(p.1,y)) e,bu e,Option.map_some,if_pos (e.symm.trans h)]
      · rw [bw (p:=(p.1,y)) e,bw e,ih]
    · rw [if_neg h]
      by_cases e:p.1=j
      · rw [bu (p:=p) e,bu e,Option.map_some,if_neg (fun z=>h (e.trans z))]
      · rw [bw (p:=p) e,bw e,ih]
theorem gF (k j : κ) (y:V):∀ kvs:List (κ×V),bh kvs k=none->bh (kvs++[(k,y)]) j=if j=k then some y else bh kvs j
  | [],_=>by
    by_cases e:k=j
    · rw [if_pos e.symm];exact bu (p:=(k,y)) e
    · rw [if_neg (fun z=>e z.symm)];exact bw (p:=(k,y)) e
  | p::r,hn=>by
    rw [List.cons_append]
    have hk:¬ p.1=k:=fun z=>by rw [bu z] at hn;cases hn
    rw [bw hk] at hn
    have ih:=gF k j y r hn
    by_cases e:p.1=j
    · rw [bu e,bu e,if_neg (fun z=>hk (e.trans z))]
    · rw [bw e,bw e,ih]
theorem ju (kvs:List (κ×V)) (k j : κ) (y:V):bh (putK kvs k y) j=if j=k then some y else bh kvs j:=by
  unfold putK
  by_cases a:(kvs.any fun kv=>decide (kv.1=k))=true
  · rw [if_pos a,jv]
    rw [dc] at a
    by_cases e:j=k
    · obtain ⟨x,hx⟩:=Option.isSome_iff_exists.mp a
      rw [if_pos e,e,hx,Option.map_some,if_pos rfl]
    · rw [if_neg e]
      cases bh kvs j with
      | none=>rfl
      | some x=>rw [Option.map_some,if_neg e]
  · rw [if_neg a]
    refine gF k j y kvs ?_
    rw [dc] at a
    cases q:bh kvs k with
    | none=>rfl
    | some x=>rw [q] at a;exact (a rfl).elim
theorem jT (kvs:List (κ×V)) (k : κ) (v:V):(putK kvs k v).length<=kvs.length+1:=by
  unfold putK
  split
  · rw [zS];omega
  · rw [zJ,zP,zT];omega
theorem KV.val {kvs:List (κ×V)} {vs:List (κ×Value)} (r:KV kvs vs) (k : κ):ki (bh kvs k) (valueAt vs k):=by
  unfold KV at r
  induction r with
  | nil=>exact True.intro
  | @cons p q ps qs h t ih=>
    obtain ⟨h1,h2⟩:=h
    by_cases e:p.1=k
    · have e':q.1=k:=h1.symm.trans e
      have b:valueAt (q::qs) k=some q.2:=by simp [valueAt,List.find?_cons,e']
      rw [bu e,b];exact h2
    · have e':¬ q.1=k:=fun z=>e (h1.trans z)
      have b:valueAt (q::qs) k=valueAt qs k:=by simp [valueAt,List.find?_cons,e']
      rw [bw e,b];exact ih
theorem KV.any {kvs:List (κ×V)} {vs:List (κ×Value)} (r:KV kvs vs) (k : κ):(kvs.any fun kv=>decide (kv.1=k))=vs.any fun kv=>decide (kv.1=k):=by
  unfold KV at r
  induction r with
  | nil=>rfl
  | cons h t ih=>rw [List.any_cons,List.any_cons,ih,h.1]
theorem KV.repl {kvs:List (κ×V)} {vs:List (κ×Value)} (r:KV kvs vs) (k : κ) {y:V} {u:Value} (ry:RelV y u) :
    KV (kvs.map fun kv=>if kv.1=k then (kv.1,y) else kv) (vs.map fun kv=>if kv.1=k then (kv.1,u) else kv):=by
  unfold KV at r ⊢
  induction r with
  | nil=>exact .nil
  | @cons p q ps qs h t ih=>
    rw [List.map_cons,List.map_cons]
    refine .cons ?_ ih
    obtain ⟨h1,h2⟩:=h
    by_cases e:p.1=k
    · rw [if_pos e,if_pos (h1.symm.trans e)];exact ⟨h1,ry⟩
    · rw [if_neg e,if_neg (fun z=>e (h1.trans z))];exact ⟨h1,h2⟩
theorem KV.put {kvs:List (κ×V)} {vs:List (κ×Value)} (r:KV kvs vs) (k : κ) {y:V} {u:Value} (ry:RelV y u):KV (putK kvs k y) (stored vs k u):=by
  unfold putK stored
  rw [r.any k]
  by_cases e:(vs.any fun kv=>decide (kv.1=k))=true
  · rw [if_pos e,if_pos e];exact r.repl k ry
  · rw [if_neg e,if_neg e];exact Paired.snoc r ⟨rfl,ry⟩
theorem KV.length {kvs:List (κ×V)} {vs:List (κ×Value)} (r:KV kvs vs):kvs.length=vs.length:=Paired.length r
end
theorem tY {P:Program} {w:World} {k:Key} {u:Value} (r:RelV (kV k) u):(bf P w).is k u=true:=by
  cases k with
  | inl i=>obtain ⟨t,e⟩:=(show ∃ t,u=Value.int i t from r);subst e;exact jQ P w i t
  | inr x=>obtain ⟨t,e⟩:=(show ∃ t,u=Value.str x t from r);subst e;exact jP P w x t
theorem gX {P:Program} {w:World}:∀ {ks:List Key} {us:List Value},Vals (ks.map kV) us->ItemsAre (bf P w) ks us
  | [],_,r=>by rw [List.map_nil] at r;cases r;exact .nil
  | k::ks,_,r=>by
    rw [List.map_cons] at r
    cases r with
    | cons h t=>exact .cons (tY h) (gX t)
abbrev KT (H:Hp):List (List Key×V)->List (List Key×Addr×Value)->Prop:=Paired fun p q=>p.1=q.1/\H q.2.1=some (.tup (p.1.map kV))/\RelV p.2 q.2.2
section
variable {P:Program} {w:World} {H:Hp} {h:Heap} {a:Addr}
theorem tU {u:HO} (ok:HOk P w H h) (e:Rd H a u):aS P w H h a u:=e.ok ok
theorem qu {kvs:List (Key×V)} (ok:HOk P w H h) (e:Rd H a (.dK kvs)):kvs.length<=sizeLine/\(a == sysModules)=false/\∃ vs,KV kvs vs/\h.DictOf (bf P w) a vs:=
  show aS P w H h a (.dK kvs) from tU ok e
theorem xr {kvs:List (Key×V)} (ok:HOk P w H h) (e:H a=some (.dK kvs)):kvs.length<=sizeLine/\(a == sysModules)=false/\∃ vs,KV kvs vs/\h.DictOf (bf P w) a vs:=qu ok (.inl e)
theorem uY {ks:List Key} (ok:HOk P w H h) (e:H a=some (.tup (ks.map kV))):(tupleKind (bf P w)).is h ks a:=by
  obtain ⟨_,its,r,o,h1,h2,n,h3⟩:=(show aS P w H h a (.tup (ks.map kV)) from ok a _ e)
  exact ⟨o,its.toArray,n,h1,h2,h3,by simpa using gX r⟩
theorem xq {kvs:List (List Key×V)} (ok:HOk P w H h) (e:Rd H a (.dT kvs)):kvs.length<=sizeLine/\(a == sysModules)=false /\
    ∃ xs,KT H kvs xs/\h.DictOfH (tupleKind (bf P w)) a xs:=by
  obtain ⟨z,y,xs,r,o,es,ep,h1,h2,h3,h4,h5⟩:=(show aS P w H h a (.dT kvs) from tU ok e)
  refine ⟨z,y,xs,r,o,es,ep,h1,h2,h3,h4,fun x hx=>?_,h5⟩
  have all:∀ {l:List (List Key×V)} {m:List (List Key×Addr×Value)},KT H l m->∀ x∈m,(tupleKind (bf P w)).is h x.1 x.2.1:=by
    intro l m q
    induction q with
    | nil=>intro x hx;exact nomatch hx
    | @cons p q ps qs hq t ih=>
      intro x hx
      rcases Ak hx with e | hx
      · subst e
        exact uY ok (by rw [<- hq.1];exact hq.2.1)
      · exact ih x hx
  exact all r x hx
end
def xJ (H:Hp) (a:Addr) (y:V) (r:Option V):Prop:=
  (∃ kvs k,Rd H a (.dK kvs)/\y=kV k/\r=bh kvs k)\/∃ kvs k b,Rd H a (.dT kvs)/\y = .ref b/\H b=some (.tup (k.map kV))/\r=bh kvs k
def xH (H:Hp) (a:Addr) (y v:V) (H':Hp):Prop:=
  (∃ kvs k,H a=some (.dK kvs)/\y=kV k/\kvs.length < sizeLine/\H'=upd H a (.dK (putK kvs k v))) \/
  ∃ kvs k b,H a=some (.dT kvs)/\y = .ref b/\H b=some (.tup (k.map kV))/\kvs.length < sizeLine/\H'=upd H a (.dT (putK kvs k v))
theorem xJ.k {H:Hp} {a:Addr} {kvs:List (Key×V)} {k:Key} (e:H a=some (.dK kvs)):xJ H a (kV k) (bh kvs k):=.inl ⟨kvs,k,.inl e,rfl,rfl⟩
theorem xH.k {H:Hp} {a:Addr} {kvs:List (Key×V)} {k:Key} {v:V} (e:H a=some (.dK kvs)) (hl:kvs.length < sizeLine):xH H a (kV k) v (upd H a (.dK (putK kvs k v))):=.inl ⟨kvs,k,e,rfl,hl,rfl⟩
section
variable {X:Cx} {pins:List (Addr×Obj)} {σ : St} {H:Hp} {s:Shared} {a:Addr} {y v:V} {u r:Value} {o:Option V} {A:Around} {E:Value->Shared->Prop}
theorem Inv.big (I:Inv X pins σ H s):sysModules < s.heap.objs.size:=by
  have h:mainGlobals < s.heap.objs.size:=(I.mod.glob.keeps I.bk).lt
  exact Nat.lt_trans (by decide) h
theorem sO {h':Heap} {t':Nat} {ob:HO} (I:Inv X pins σ H s) (mu:Mut (H a)) (hs:Heap.SameBut a s.heap h') (he:∃ q,h'.get? a=some q) (new:aS X.prog X.w (upd H a ob) h' a ob) :
    Inv X pins σ (upd H a ob) { s with heap:=h',toks:=t' }:=
  I.write (x:=a) (e:=a) mu (.inl rfl) (fun b q hb z=>(hs.2 b hb).trans z) he new
theorem vv {P:Program} {w:World} {H':Hp} {h':Heap} {kvs:List (Key×V)} {vs:List (Key×Value)} (z:kvs.length<=sizeLine) (hd:(a == sysModules)=false) (rel:KV kvs vs) (dd:h'.DictOf (bf P w) a vs) :
    aS P w H' h' a (.dK kvs):=⟨z,hd,vs,rel,dd⟩
end
section
variable {X:Cx} {pins:List (Addr×Obj)} {σ : St} {H:Hp} {s:Shared} {a:Addr} {kvs:List (Key×V)} {k:Key} {u:Value} {A:Around} {E:Value->Shared->Prop}
theorem xu {Q:Value->Shared->Prop} (I:Inv X pins σ H s) (e:Rd H a (.dK kvs)) (h:∀ t s',Inv X pins σ H s'->Q (.int kvs.length t) s'):wpAny (model X.prog X.w) A (call (.builtin "len") [.ref a]) Q E s:=by
  obtain ⟨z,hd,vs,rel,dd⟩:=qu I.hok e
  refine call_len_dict hd dd (by rw [<- rel.length];rw [sizeLine_eq] at z;omega) ?_
  rw [<- rel.length]
  exact h _ _ (I.tok _)
end
theorem qv {P:Program} {w:World} {H:Hp} (h:Heap) (hb:sysModules < h.objs.size):aS P w H (h.push { cls:=.type "dict",data:=.dict #[] }) h.objs.size (.dK []):=
  ⟨Ae _,beq_eq_false_iff_ne.mpr (Ne.symm (Ab hb)),[],.nil,Heap.DictOf.new h⟩
def oN:TE:=fun _ H Q=>∀ p,H p=none->Q (.ref p) (upd H p (.dK []))
section
variable {X:Cx} {pos:Pos}
theorem pN:PE X (.Dict [] [] pos) oN:=fun pins s σ H Q I h=>
  wpAny_Dict_empty ⟨.ref s.heap.objs.size,_,I.laid (a:=s.heap.objs.size) (o:=.dK []) (t':=s.toks) (fun _ _ q=>Heap.get?_push_of_some _ q) (Ad _) (qv s.heap I.big),rfl,h _ (I.hok.fresh (Ad _))⟩
end
structure M1 (X:Cx) (o:Expr) (m:Str) (apos:Pos) (e:Expr) (cpos:Pos):Prop where
  base:attributeBase o m X.env (eval o X.env)=eval o X.env
  few:((backTo cpos (starEach [e] X.env)).all (fun x=>!x.1) && (backToKw cpos (keywordEach [] X.env)).all (fun x=>x.1.isSome)
    && decide (([e]:List Expr).length+([]:List Keyword).length+(if ([]:List Keyword).isEmpty then 0 else 1) < 30))=true
  line:(apos.endLine == cpos.line)=true
  trees:backTo cpos (starEach [e] X.env)=[(false,eval e X.env)]
structure M2 (X:Cx) (o:Expr) (m:Str) (apos:Pos) (e f:Expr) (cpos:Pos):Prop where
  base:attributeBase o m X.env (eval o X.env)=eval o X.env
  few:((backTo cpos (starEach [e,f] X.env)).all (fun x=>!x.1) && (backToKw cpos (keywordEach [] X.env)).all (fun x=>x.1.isSome)
    && decide (([e,f]:List Expr).length+([]:List Keyword).length+(if ([]:List Keyword).isEmpty then 0 else 1) < 30))=true
  line:(apos.endLine == cpos.line)=true
  trees:backTo cpos (starEach [e,f] X.env)=[(false,eval e X.env),(false,eval f X.env)]
def IsD (H:Hp) (a:Addr):Prop:=(∃ kvs,Rd H a (.dK kvs))\/∃ kvs,Rd H a (.dT kvs)
theorem u5 {X:Cx} {pins:List (Addr×Obj)} {σ : St} {H:Hp} {s:Shared} {a:Addr} (I:Inv X pins σ H s) (d:IsD H a) :
    s.TypeIs (.ref a) "dict" /\ (∀ b,Value.ref a = .ref b->∃ ob,s.heap.get? b=some ob/\ob.dict=none)/\(a == sysModules)=false:=by
  rcases d with ⟨kvs,e⟩ | ⟨kvs,e⟩
  · obtain ⟨_,hd,vs,_,dd⟩:=qu I.hok e
    refine ⟨dd.typeIs,fun b q=>?_,hd⟩
    cases q
    obtain ⟨ob,_,_,h1,h2,_⟩:=dd
    exact ⟨ob,h1,h2.2.1⟩
  · obtain ⟨_,hd,xs,_,dd⟩:=xq I.hok e
    refine ⟨dd.typeIs,fun b q=>?_,hd⟩
    cases q
    obtain ⟨ob,_,_,h1,h2,_⟩:=dd
    exact ⟨ob,h1,h2.2.1⟩
end L2
namespace Att
open PySem PySem.W PySem.Calls PyProof.Rows
theorem eT {P:Params} {h:Heap}:∀ (ns:List Int) (vs:List Value),WellAll P h vs (ns.map WData.int)->IntsAre vs ns:=by
  intro ns
  induction ns with
  | nil=>
    intro vs w
    rw [List.map_nil] at w
    cases w
    exact .nil
  | cons n ns ih=>
    intro vs w
    rw [List.map_cons] at w
    cases w with
    | cons a b=>
      cases a
      exact .cons _ _ (ih _ b)
theorem nh {l:OpenLaw} {n:Nat} (hn:l.most=some n) {P:Params} {h:Heap} {args:List WData} {vals:List Value}
    (hpre:l.row.toRowW.claim.pre args=true) (hwl:WellAll P h vals args) :
    ∃ a vs ns,vals=[Value.ref a]/\args=[WData.list (ns.map WData.int)]/\h.get? a=some { cls:=.type "list",data:=.seq vs.toArray }/\IntsAre vs ns/\ns.length<=n:=by
  have hsh:WShape.hasAll [] args [.list .int]=true:=(pre_splitW hpre).1
  have hc:l.pre.holds [] { args:=args }=true:=(pre_splitW hpre).2
  obtain ⟨d,r,rfl,h1,h2⟩:=hasAllW_cons hsh
  obtain rfl:=hasAllW_nil h2
  obtain ⟨xs,rfl,h3⟩:=hasW_list h1
  obtain ⟨ns,rfl⟩:=items_int h3
  have hlen:ns.length<=n:=by
    unfold OpenLaw.pre at hc
    have h4:(WTm.not (.lt (.lit (.int (n:Int))) (.len (.arg 0)))).holds [] { args:=[.list (ns.map .int)] }=true:=by
      have h4:=(holds_andW hc).1
      rw [hn] at h4
      exact h4
    have h5:=condW_of h4 (w_not (w_lt w_lit (w_len_list (w_arg rfl))))
    rw [zS] at h5
    refine Nat.le_of_not_lt fun q=>?_
    have q':(n:Int) < ((ns.length:Nat):Int):=by omega
    first
      | (rw [zY q'] at h5;exact absurd h5 (by decide))
      | (simp at h5;omega)
  cases hwl with
  | cons w1 w2=>
    cases w2
    cases w1 with
    | list ho hall=>exact ⟨_,_,ns,rfl,rfl,ho,eT ns _ hall,hlen⟩
theorem ni (l:OpenLaw) (args:List WData):l.row.toRowW.claim.post args (.bool true) args=true:=
  postW_of (r:=l.row.toRowW) (X:=(true == true))
    (show WShape.has [] (.bool true) .bool=true by first | rfl | decide | simp [WShape.has,WShape.arms,WShape.armsAll])
    (show (WTm.eq .res (.lit (.bool true))).value [] { args:=args,res:=some (.bool true),after:=args }=some (.bool (true == true)) from w_eq_bool (w_res rfl) w_lit) rfl
theorem kg {l:OpenLaw} {n:Nat} {q:Program} {loose:List Str} {XP:(Str->Option Value)->Heap->Prop} {YP:World->Heap->Prop} {d:DefRec}
    (hn:l.most=some n) (hdf:d.params.defaults=[])
    (call:∀ (w:World) (s₀ s₁ : Shared) (mg mb:Str->Option Value) (fa:Addr) (o:Obj) (pm cd doc:Value) (a:Addr) (vs:List Value) (ns:List Int),
      Ground q loose [] XP w s₀ mg mb s₁.heap->YP w s₁.heap ->
      s₁.heap.get? fa=some o->o.data = .func (docDef d.name d.params d.body d.scope pm cd doc)->s₁.heap.CodeRec cd d.name->mg d.name=some (.ref fa) ->
      s₁.heap.get? a=some { cls:=.type "list",data:=.seq vs.toArray }->IntsAre vs ns->ns.length<=n->s₁.gens=#[] ->
      codeAny (model l.prog w) callerA (.call (.ref fa) ⟨[.ref a],[]⟩) (fun r s'=>r = .ok (.ret (.bool true))/\OldK s₁.heap s'.heap/\s'.os=s₁.os/\AllBare s'.gens) s₁) :
    WalkO q loose XP YP l.row.toRowW d [] (fun f vs=>PySem.call f vs):=by
  intro w s₀ s₁ mg mb G Y fa o pm cd doc dV kV ho hd hcd hD hmg hg args vals as hpre hlay hrd hwl hlo
  obtain rfl:dV = .none:=Dflts.none hD hdf
  obtain rfl:kV = .none:=Dflts.noKw hD
  obtain ⟨a,vs,ns,rfl,rfl,hobj,hints,hlen⟩:=nh hn hpre hwl
  refine enter_call (codeAny_mono (call w s₀ s₁ mg mb fa o pm cd doc a vs ns G Y ho (fd_plain hd) hcd hmg hobj hints hlen hg) fun r s' hq=>?_)
  obtain ⟨rfl,h2,h3,h4⟩:=hq
  exact ⟨.inl ⟨.bool true,.bool true,[],rfl,fun _=>rfl,.bool true,ni l _,fun _=>⟨List.Pairwise.nil,fun _ hm=>(nomatch hm)⟩⟩,h2,h3,h4⟩
end Att
namespace L2
open PySem PySem.Spec PyProof.Rows
theorem b8:∀ {vs:List Value} {ns:List Int},IntsAre vs ns->Vals (ns.map V.int) vs
  | _,_,.nil=>.nil
  | _,_,.cons n t h=>.cons ⟨t,rfl⟩ (b8 h)
def tF (H:Hp):Prop:=∀ b,H b=none\/∃ o xs,H b=some (.frz o (.lst xs))
theorem qf {P:Program} {w:World} {K:Ao} {mg mb:Str->Option Value} {CX:CXT} {k:Nat} {fa a:Addr} {fd:FuncData} {x:Str} {sp:Sp} {s₁ : Shared} {vs:List Value} {ns:List Int}
    (KX:K.In s₁.heap) (hns:s₁.heap.Ns mainGlobals mg) (hb:s₁.heap.Ns builtinsNs mb) (hbb:∀ x:Str,x ≠ "__name__" -> mb x=bootBuiltins x) (hlim:s₁.heap.NoLimit) (hg:s₁.gens=#[])
    (ha:s₁.heap.get? a=some { cls:=.type "list",data:=.seq vs.toArray }) (hi:IntsAre vs ns) (hl:ns.length<=sizeLine) (hr:bB k callerA)
    (F:∀ base:Heap,K.In base->base.Ns mainGlobals mg->cQ P w K mg base CX k fa fd [x] sp) (hbind:∀ (s:Shared) (u:Value),BindsTo s fd ⟨[u],[]⟩ [(x,u)])
    (hsp:∀ H:Hp,tF H->SqL K H a (ns.map V.int)->sp [.ref a] H (fun v _=>v = .bl true) fun _ _ _=>False)
    (hCX:∀ H e s',CX [] H s₁ (fun _ _ _=>False) e s'->False) :
    codeAny (model P w) callerA (.call (.ref fa) ⟨[.ref a],[]⟩) (fun r s'=>r = .ok (.ret (.bool true))/\OldK s₁.heap s'.heap/\s'.os=s₁.os/\AllBare s'.gens) s₁:=by
  have rv:=b8 hi
  have x8:=hi.length
  -- from an abstract heap in which nothing but the script may be tracked
  have core:∀ H:Hp,tF H->SqL K H a (ns.map V.int)->HOk P w H s₁.heap->(∀ b,H b≠none->b=a)->(H a≠none->K.lookup a=none) ->
      codeAny (model P w) callerA (.call (.ref fa) ⟨[.ref a],[]⟩) (fun r s'=>r = .ok (.ret (.bool true))/\OldK s₁.heap s'.heap/\s'.os=s₁.os/\AllBare s'.gens) s₁:=by
    intro H hO hS hok hA hK
    have fD:∀ {b:Addr} {o:Obj},s₁.heap.get? b=some o->H b=none->(jd s₁.heap H).get? b=some o:=fun e n=>qg e n
    have noA:∀ {b:Addr} {o:Obj} {es:Array DictEntry} {ep:Nat},s₁.heap.get? b=some o->o.data = .dict es ep->H b=none:=fun {b o es ep} e d=>by
      cases q:H b with
      | none=>rfl
      | some u=>
        have e':b=a:=hA b (by rw [q];simp)
        subst e'
        rw [ha] at e;cases e
        have d':Data.seq vs.toArray _=Data.dict es ep:=d
        cases d'
    have nsK:∀ {b:Addr} {m:Str->Option Value},s₁.heap.Ns b m->(jd s₁.heap H).Ns b m:=fun {b m} ⟨o,es,ep,e,d,r⟩=>⟨o,es,ep,fD e (noA e d),d,r⟩
    have hKb:K.In (jd s₁.heap H):=fun b o e=>fD (KX b o e) (by
      cases q:H b with
      | none=>rfl
      | some u=>
        have e':b=a:=hA b (by rw [q];simp)
        subst e'
        rw [hK (by rw [q];simp)] at e;cases e)
    have hM:Mod K mg (jd s₁.heap H):=⟨hKb,nsK hns,⟨mb,nsK hb,hbb⟩,let ⟨mc,h1,h2⟩:=hlim;⟨mc,nsK h1,h2⟩⟩
    have e0:ko P w K mg (jd s₁.heap H) callerA [] s₁ H:=⟨rfl,hM,fun b o e=>rR e,Nat.le_of_eq (nM _ _),trivial,fun b hb=>absurd (show b∈([]:List Addr) from hb) (by simp),hok,.of_eq hg⟩
    refine codeAny_mono ((F _ hKb (nsK hns)).run callerA [] s₁ H ⟨[.ref a],[]⟩ [.ref a] [.ref a] _ _ hr e0 (hbind s₁ (.ref a)) (.cons rfl .nil) (hsp H hO hS)) fun r s' h=>?_
    cases r with
    | error e=>exact (hCX H e s' h).elim
    | ok fl=>
      cases fl with
      | next=>exact False.elim h
      | brk=>exact False.elim h
      | cont=>exact False.elim h
      | ret u=>
        obtain ⟨v,H',os,bare,un,hok',r',q⟩:=h
        have q':v = .bl true:=q
        subst q'
        obtain rfl:u=Value.bool true:=r'
        refine ⟨rfl,OldK.of_keep fun b o e=>?_,os,bare⟩
        cases q:H b with
        | none=>exact un.keep b o e q (by intro z;exact absurd (show b∈([]:List Addr) from z) (by simp)) (by simp)
        | some u=>
          rcases hO b with z | ⟨ob,xs,z⟩
          · rw [q] at z;cases z
          · have z2:=un.eu b ob _ z
            obtain ⟨e1,_⟩:=hok b _ z
            obtain ⟨e2,_⟩:=hok' b _ z2
            rw [e] at e1;cases e1
            exact e2
  cases hk:K.lookup a with
  | some o=>
    -- the script is one of the module's own objects
    have e:=KX a o hk
    rw [ha] at e
    cases e
    refine core (fun _=>none) (fun _=>.inl rfl) (.inr ⟨_,vs.toArray,_,hk,rfl,rfl,rfl,by rw [zN,x8];exact hl,by simpa using rv⟩) (fun b u z=>by have z':(none:Option HO)=some u:=z;cases z') (fun b z=>absurd rfl z) fun z=>absurd rfl z
  | none=>
    refine core (fun b=>if b=a then some (.frz { cls:=.type "list",data:=.seq vs.toArray } (.lst (ns.map V.int))) else none) (fun b=>?_) (.inl (.inr ⟨{ cls:=.type "list",data:=.seq vs.toArray },if_pos rfl⟩)) (fun b u z=>?_) (fun b z=>?_) fun _=>hk
    · by_cases hb:b=a
      · exact .inr ⟨_,_,if_pos hb⟩
      · exact .inl (if_neg hb)
    · by_cases hb:b=a
      · have z':=(if_pos hb).symm.trans z
        cases z'
        subst hb
        exact ⟨ha,by rw [zS];exact hl,vs,_,rv,ha⟩
      · have z':=(if_neg hb).symm.trans z
        cases z'
    · by_cases hb:b=a
      · exact hb
      · exact absurd (if_neg hb) z
abbrev KOf {K:Ao} {h:Heap} (_:K.In h):Ao:=K
theorem qN {l:PySem.W.OpenLaw} {n k:Nat} {q:Program} {loose:List Str} {XP:(Str->Option Value)->Heap->Prop} {YP:World->Heap->Prop} {d:DefRec} {K:Params->Ao} {CX:World->CXT} {sp:World->Sp} {x:Str}
    (hn:l.most=some n) (hn2:n<=sizeLine) (hdf:d.params.defaults=[]) (hr:bB k callerA)
    (hY:∀ (w:World) (h:Heap),YP w h->(K w.params).In h)
    (F:∀ (w:World) (mg:Str->Option Value) (fa:Addr) (h:Heap),(K w.params).In h->h.Ns mainGlobals mg->mg d.name=some (.ref fa) ->
      ∃ fd:FuncData,(∀ (s:Shared) (u:Value),BindsTo s fd ⟨[u],[]⟩ [(x,u)]) /\
        ∀ base:Heap,(K w.params).In base->base.Ns mainGlobals mg->cQ l.prog w (K w.params) mg base (CX w) k fa fd [x] (sp w))
    (hsp:∀ (w:World) (H:Hp) (a:Addr) (ns:List Int),ns.length<=n->tF H->SqL (K w.params) H a (ns.map V.int)->sp w [.ref a] H (fun v _=>v = .bl true) fun _ _ _=>False)
    (hCX:∀ (w:World) (H:Hp) (s:Shared) (e:Value) (s':Shared),CX w [] H s (fun _ _ _=>False) e s'->False) :
    PySem.W.WalkO q loose XP YP l.row.toRowW d [] (fun f vs=>PySem.call f vs):=by
  refine Att.kg hn hdf fun w s₀ s₁ mg mb fa o pm cd doc a vs ns G Y ho hd hcd hmg hobj hints hlen hg=>?_
  have KX:=hY w _ Y
  obtain ⟨fd,hb,hF⟩:=F w mg fa _ KX G.T.g hmg
  exact qf KX G.T.g G.T.b G.T.builtins G.T.nolimit hg hobj hints (z6 hlen hn2) hr hF hb (fun H hO hS=>hsp w H a ns hlen hO hS) fun H e s'=>hCX w H s₁ e s'
def inClass (s:Stmt) (j:Nat):Stmt:=match s with
  | .ClassDef _ _ _ body _ _ _ _ _ _ _=>body.getD j (.Pass ⟨0,0,0,0⟩)
  | _=>.Pass ⟨0,0,0,0⟩
def bD (s:Stmt):Arguments:=match s with
  | .FunctionDef _ a _ _ _ _ _ _ _ _=>a
  | _=>{ posonlyargs:=[],args:=[],vararg:=none,kwonlyargs:=[],kw_defaults:=[],kwarg:=none,defaults:=[] }
def aO (s:Stmt):List Stmt:=match s with
  | .FunctionDef _ _ b _ _ _ _ _ _ _=>b
  | _=>[]
def aj (s:Stmt):Scope:=match s with
  | .FunctionDef _ _ _ _ _ _ sc _ _ _=>sc
  | _=>{ kind:=.function,names:=[],isGenerator:=false,isCoroutine:=false }
abbrev E0:XK:=fun _ _ _=>False
structure Fun (K:Ao) (x qual:Str) (st:Stmt) (f:Addr) (fd:FuncData):Prop where
  ex:∃ (oc:Value) (od:Option Addr) (kV doc pm:Value) (an:Option Addr) (cdv ct:Value) (osl:Array (Option Value)),
    fd=PySem.W.fnOf x qual (bD st) (aO st) (aj st) .none kV doc pm an cdv ct/\K.lookup f=some ⟨oc,od,.func fd,osl⟩/\PySem.W.codeIn K cdv qual=true
  kp:PySem.W.keepIn K (.ref f)=true
section
variable {P:Program} {w:World} {K:Ao} {mg:Str->Option Value} {base:Heap}
theorem Fun.binds {x qual:Str} {st:Stmt} {f:Addr} {fd:FuncData} {ps:List Str} (F:Fun K x qual st f fd)
    (h:∀ (kV doc pm:Value) (an:Option Addr) (cdv ct:Value) (us:List Value),us.length=ps.length->bindArgs (PySem.W.fnOf x qual (bD st) (aO st) (aj st) .none kV doc pm an cdv ct) ⟨us,[]⟩=pure (ps.zip us)):Binds K fd ps []:=by
  obtain ⟨oc,od,kV,doc,pm,an,cdv,ct,osl,rfl,lk,hcd⟩:=F.ex
  exact .all (h kV doc pm an cdv ct)
theorem qp {x qual:Str} {st:Stmt} {f:Addr} {oc:Value} {od an:Option Addr} {osl:Array (Option Value)} {kV doc pm cdv ct:Value} (l:K.lookup f=some ⟨oc,od,.func (PySem.W.fnOf x qual (bD st) (aO st) (aj st) .none kV doc pm an cdv ct),osl⟩)
    (c:PySem.W.codeIn K cdv qual=true) (k:PySem.W.keepIn K (.ref f)=true):Fun K x qual st f (PySem.W.fnOf x qual (bD st) (aO st) (aj st) .none kV doc pm an cdv ct):=⟨⟨oc,od,kV,doc,pm,an,cdv,ct,osl,rfl,l,c⟩,k⟩
end
theorem small1000 {n:Nat} (h:n<=1000):n < sizeLine:=Nat.lt_of_le_of_lt h (by decide)
section
variable {X:Cx}
theorem pv (i:Nat) {x:Str} {pos:Pos} (hN:X.N[i]?=some x:=by rfl) (hv:Vis X.env.scope x:=by first | exact Or.inl rfl | exact Or.inr (Or.inl rfl) | exact Or.inr (Or.inr rfl)) (hd:(x == ("__debug__" : Str))=false:=by decide)
    (hcd:(x == ("__classdict__" : Str))=false:=by decide):PE X (.Name x pos) (uz i):=uM hN hv hd hcd
end
theorem ya {A B:Prop} (h:B):if false=true then A else B:=by
  rw [if_neg zL]
  exact h
theorem gx {c A B:Prop} [Decidable c] (h1:c->A) (h2:¬ c->B):if c then A else B:=by
  by_cases h:c
  · rw [if_pos h]
    exact h1 h
  · rw [if_neg h]
    exact h2 h
def aN (H H':Hp):Prop:=∀ b o,H b=some o->H' b=some o
theorem aN.refl (H:Hp):aN H H:=fun _ _ h=>h
theorem aN.trans {H H1 H2:Hp} (a:aN H H1) (b:aN H1 H2):aN H H2:=fun c o h=>b c o (a c o h)
theorem aN.seq {K:Ao} {H H':Hp} {a:Addr} {xs:List V} (e:aN H H') (h:SqL K H a xs):SqL K H' a xs:=by
  rcases h with (h | ⟨o,h⟩) | h
  · exact .inl (.inl (e _ _ h))
  · exact .inl (.inr ⟨o,e _ _ h⟩)
  · exact .inr h
section
variable {X:Cx} {κ : Type} [DecidableEq κ]
theorem nZ:bV X (.builtin "len") (fun xs H Q=>∃ a kvs,xs=[V.ref a]/\H a=some (.dK kvs)/\Q (.int kvs.length) H):=by
  intro pins s σ H xs us Q I r h
  obtain ⟨a,kvs,rfl,ha,q⟩:=h
  obtain ⟨u,rfl,ru⟩:=vals1 r
  cases ru
  exact xu I (.inl ha) fun t s' I'=>⟨.int kvs.length,H,I',⟨t,rfl⟩,q⟩
end
end L2
namespace L3
open PySem PySem.Spec PyProof.Rows L2
abbrev St:=L2.St
def bQ (CX:CXT):Prop:=∀ outer H s e s',¬ CX outer H s E0 e s'
theorem bQ.pass {CX:CXT} (n:bQ CX) {X:Cx}:Passes CX X E0:=fun _ _ H s e s' _ h=>(n _ H s e s' h).elim
structure Cal (P:Program) (w:World) (K:Ao) (mg:Str->Option Value) (base:Heap) (CX:CXT) (x:Str) (k:Nat) (ps:List Str) (sp:Sp):Prop where
  ex:∃ f fd,cQ P w K mg base CX k f fd ps sp/\Binds K fd ps []/\PySem.W.keepIn K (.ref f)=true/\mg x=some (.ref f)
structure Dat (K:Ao) (mg:Str->Option Value) (x qual:Str) (st:Stmt) (ps:List Str):Prop where
  ex:∃ f fd,Fun K x qual st f fd/\Binds K fd ps []/\mg x=some (.ref f)
section
variable {P:Program} {w:World} {K:Ao} {mg:Str->Option Value} {base:Heap} {CX:CXT} {x qual:Str} {st:Stmt} {N ps:List Str} {k j:Nat} {sp sp':Sp}
theorem Cal.imp (c:Cal P w K mg base CX x k ps sp) (h:∀ vs H Q E,sp' vs H Q E->sp vs H Q E):Cal P w K mg base CX x k ps sp':=by
  obtain ⟨f,fd,F,r⟩:=c.ex
  exact ⟨f,fd,F.imp h,r⟩
theorem lA {f:Addr} {fd:FuncData} (F:Fun K x qual st f fd) (S:aT N ps (aj st)) (len:∀ vs H Q E,sp vs H Q E->vs.length=ps.length)
    (hbody:∀ (f:Addr) (cdv:Value) (A:Around) (outer:List Env) (s:Shared) (H:Hp) (vs:List V) (Q:VK) (E:XK),bB k (A.deeper (envOfC qual (aj st) s.heap.objs.size f cdv))->sp vs H Q E ->
      ∃ t,PSs (bW CX P w K mg base N qual (aj st) f cdv A outer s H E).nox (aO st) t/\t { nx:=fun _ H'=>Q .non H',rt:=Q } (start N vs) H):cQ P w K mg base CX (k+1) f fd ps sp:=by
  obtain ⟨oc,od,kV,doc,pm,an,cdv,ct,osl,rfl,lk,hcd⟩:=F.ex
  refine uf lk hcd S len fun A outer s H vs Q E hr hsp=>?_
  obtain ⟨t,h,q⟩:=hbody f cdv A outer s H vs Q E hr hsp
  exact ⟨t,h.nox,q⟩
theorem Dat.ok (D:Dat K mg x qual st ps) (S:aT N ps (aj st)) (len:∀ vs H Q E,sp vs H Q E->vs.length=ps.length)
    (hbody:∀ (f:Addr) (cdv:Value) (A:Around) (outer:List Env) (s:Shared) (H:Hp) (vs:List V) (Q:VK) (E:XK),bB k (A.deeper (envOfC qual (aj st) s.heap.objs.size f cdv))->sp vs H Q E ->
      ∃ t,PSs (bW CX P w K mg base N qual (aj st) f cdv A outer s H E).nox (aO st) t/\t { nx:=fun _ H'=>Q .non H',rt:=Q } (start N vs) H):Cal P w K mg base CX x (k+1) ps sp:=by
  obtain ⟨f,fd,F,b,m⟩:=D.ex
  exact ⟨f,fd,lA F S len hbody,b,F.kp,m⟩
theorem Dat.okX (D:Dat K mg x qual st ps) (S:aT N ps (aj st)) (len:∀ vs H Q E,sp vs H Q E->vs.length=ps.length)
    (hbody:∀ (f:Addr) (cdv:Value) (A:Around) (outer:List Env) (s:Shared) (H:Hp) (vs:List V) (Q:VK) (E:XK),bB k (A.deeper (envOfC qual (aj st) s.heap.objs.size f cdv))->sp vs H Q E ->
      ∃ t,PSs (bW CX P w K mg base N qual (aj st) f cdv A outer s H E) (aO st) t/\t { nx:=fun _ H'=>Q .non H',rt:=Q } (start N vs) H):Cal P w K mg base CX x (k+1) ps sp:=by
  obtain ⟨f,fd,F,b,m⟩:=D.ex
  have kp:=F.kp
  obtain ⟨oc,od,kV,doc,pm,an,cdv,ct,osl,rfl,lk,hcd⟩:=F.ex
  refine ⟨f,_,uf lk hcd S len fun A outer s H vs Q E hr hsp=>?_,b,kp,m⟩
  exact hbody f cdv A outer s H vs Q E hr hsp
theorem aZ {h:Heap} (X:K.In h) (G:h.Ns mainGlobals mg) {f:Addr} {oc:Value} {od an:Option Addr} {osl:Array (Option Value)} {kV doc pm cdv ct:Value} (a:PySem.W.nsIn K mainGlobals x=some (some (.ref f)))
    (l:K.lookup f=some ⟨oc,od,.func (PySem.W.fnOf x qual (bD st) (aO st) (aj st) .none kV doc pm an cdv ct),osl⟩) (c:PySem.W.codeIn K cdv qual=true) (kp:PySem.W.keepIn K (.ref f)=true)
    (b:∀ (kV doc pm:Value) (an:Option Addr) (cdv ct:Value) (us:List Value),us.length=ps.length->bindArgs (PySem.W.fnOf x qual (bD st) (aO st) (aj st) .none kV doc pm an cdv ct) ⟨us,[]⟩=pure (ps.zip us)):Dat K mg x qual st ps:=by
  have F:=qp (st:=st) l c kp
  exact ⟨f,_,F,F.binds b,PySem.W.mg_of X G a⟩
end
section
variable {X:Cx} {CX:CXT} {k:Nat} {ps:List Str} {sp:Sp} {E:XK} {x:Str} {p pos:Pos} {e:Expr} {es:List Expr} {t:TA}
theorem aB (C:Cal X.prog X.w X.K X.mg X.base CX x k ps sp) (hr:bB k X.A) (hx:Passes CX X E) (ha:PA X (e::es) t) (hg:Gl X x:=by rfl)
    (hdb:(x == ("__debug__" : Str))=false:=by decide) (he:starEach (e::es) X.env=(false,eval e X.env)::starEach es X.env:=by rfl) (hpl:(backTo pos (starEach es X.env)).any (·.1)=false:=by rfl) :
    PE X (.Call (.Name x p) (e::es) [] pos) (oQ sp [] E t):=by
  obtain ⟨f,fd,F,b,kp,m⟩:=C.ex
  exact rF F hr hg m kp b .nil hx ha hdb he hpl
end
def aU (cells:List (Str×Addr)):List (Str×NameKind)->List (Str×Addr)->List (Str×Addr)
  | [],acc=>acc
  | (n,k)::r,acc=>if k == .free then (match cells.lookup n with | some a=>aU cells r ((n,a)::acc) | none=>aU cells r acc) else aU cells r acc
theorem dH {env:Env}:∀ (l:List (Str×NameKind)) (acc:List (Str×Addr)),(∀ y∈l,y.2 = .free->∃ c,env.cells.lookup y.1=some c) ->
    (forIn l acc (fun (y:Str×NameKind) cs=>do
      if y.2 == .free then let c <- cellOf env y.1;pure (ForInStep.yield ((y.1,c)::cs)) else pure (ForInStep.yield cs)):Sem (List (Str×Addr)))=pure (aU env.cells l acc)
  | [],acc,_=>rfl
  | (n,k)::r,acc,h=>by
    have ih:=fun acc=>dH (env:=env) r acc fun y hy=>h y (zH _ hy)
    rw [List.forIn_cons]
    cases hk:k == NameKind.free with
    | true=>
      have ek:k = .free:=by simpa using hk
      obtain ⟨c,hc⟩:=h (n,k) zK ek
      have e1:cellOf env n=pure c:=by unfold cellOf;rw [hc]
      simp only [hk,if_true,e1,pure_bind]
      rw [ih]
      simp only [aU,hk,if_true,hc]
    | false=>
      simp only [hk,Bool.false_eq_true,if_false,pure_bind]
      rw [ih]
      simp only [aU,hk,Bool.false_eq_true,if_false]
theorem iu {scope:Scope} {env:Env} (h:∀ y∈scope.names,y.2 = .free->∃ c,env.cells.lookup y.1=some c):closureFor scope env=pure (aU env.cells scope.names []):=by
  unfold closureFor
  have e:=dH (env:=env) scope.names [] h
  have:(forIn scope.names ([]:List (Str×Addr)) (fun (y:Str×NameKind) cs=>do
      if y.2 == .free then let c <- cellOf env y.1;pure (ForInStep.yield ((y.1,c)::cs)) else pure (ForInStep.yield cs)):Sem (List (Str×Addr))) >>= (fun cs=>pure cs)=pure (aU env.cells scope.names []):=by rw [e];rfl
  exact this
theorem bU {cells:List (Str×Addr)}:∀ (l:List (Str×NameKind)) (acc:List (Str×Addr)) {x:Str} {c:Addr},(aU cells l acc).lookup x=some c->acc.lookup x=some c\/(cells.lookup x=some c/\(x,NameKind.free)∈l)
  | [],acc,x,c,h=>.inl h
  | (n,k)::r,acc,x,c,h=>by
    unfold aU at h
    cases hk:k == NameKind.free with
    | true=>
      have ek:k = .free:=by simpa using hk
      subst ek
      rw [if_pos hk] at h
      cases hc:cells.lookup n with
      | none=>
        rw [hc] at h
        rcases bU r acc h with z | z
        · exact .inl z
        · exact .inr ⟨z.1,zH _ z.2⟩
      | some a=>
        rw [hc] at h
        rcases bU r _ h with z | z
        · rw [List.lookup_cons] at z
          cases hx:x == n with
          | true=>
            rw [hx] at z
            have:x=n:=by simpa using hx
            subst this
            cases z
            exact .inr ⟨hc,zK⟩
          | false=>rw [hx] at z;exact .inl z
        · exact .inr ⟨z.1,zH _ z.2⟩
    | false=>
      rw [if_neg (by rw [hk];exact zL)] at h
      rcases bU r acc h with z | z
      · exact .inl z
      · exact .inr ⟨z.1,zH _ z.2⟩
theorem cy {cells:List (Str×Addr)}:∀ (l:List (Str×NameKind)) (acc:List (Str×Addr)) {x:Str},(∃ c,acc.lookup x=some c)->∃ c,(aU cells l acc).lookup x=some c
  | [],_,_,h=>h
  | (n,k)::r,acc,x,h=>by
    unfold aU
    split
    · split
      · refine cy r _ ?_
        rw [List.lookup_cons]
        split
        · exact ⟨_,rfl⟩
        · exact h
      · exact cy r acc h
    · exact cy r acc h
theorem bL {cells:List (Str×Addr)}:∀ (l:List (Str×NameKind)) (acc:List (Str×Addr)) {x:Str},(x,NameKind.free)∈l->(∃ c,cells.lookup x=some c)->∃ c,(aU cells l acc).lookup x=some c
  | [],_,_,h,_=>by simp at h
  | (n,k)::r,acc,x,h,hc=>by
    unfold aU
    rcases Ak h with e | h
    · cases e
      obtain ⟨c,hc⟩:=hc
      rw [if_pos (by decide),hc]
      exact cy r _ ⟨c,by rw [List.lookup_cons];simp⟩
    · split
      · split
        · exact bL r _ h hc
        · exact bL r _ h hc
      · exact bL r _ h hc
def eX (N own:List Str) (cap:List Nat):List Str:=own++cap.map fun j=>N.getD j Str.empty
def lH (own:Nat) (cap:List Nat) (σ : St):St:=List.replicate own none++cap.map fun j=>(σ[j]?).join
structure Blk (X:Cx) (scope:Scope) (own:List Str) (cap:List Nat):Prop where
  kind:scope.kind = .function
  nocell:∀ y∈scope.names,y.2≠.cell
  names:∀ y∈scope.names,y.2 = .local->scope.names.lookup y.1=some .local
  free:∀ y∈scope.names,y.2 = .free->X.env.kindOf y.1=some .cell
  nd:(eX X.N own cap).Nodup
  caps:∀ j∈cap,∃ x,X.N[j]?=some x/\(x,NameKind.free)∈scope.names/\scope.names.lookup x=some .free
def blk (X:Cx) (scope:Scope) (own:List Str) (cap:List Nat) (C:Addr) (s:Shared) (H:Hp) (fp:List Addr):Cx:=
  { prog:=X.prog,w:=X.w,K:=X.K,mg:=X.mg,base:=X.base,A:=X.A,N:=eX X.N own cap,s₀:=s,H₀:=H,env:=compEnvC scope (aU X.env.cells scope.names []) C X.env,outer:=X.stack,stack:=X.stack,
    ex:=fp,fn:=fun _=>false,calm:=true,pn:=[],xe:=fun _ _=>False }
theorem br {env:Env}:∀ {names:List (Str×NameKind)} {x:Str},env.scope.kind = .function->env.kindOf x=some .cell->names.lookup x=some .free ->
    (names.map fun (n,k)=>if (k == NameKind.free && env.scope.kind == .function && env.kindOf n == some .cell) then (n,NameKind.cell) else (n,k)).lookup x=some .cell
  | [],_,_,_,h=>by simp at h
  | (n,k)::r,x,hf,hc,h=>by
    have ih:=@br env r x hf hc
    show List.lookup x ((if (k == NameKind.free && env.scope.kind == .function && env.kindOf n == some .cell)=true then (n,NameKind.cell) else (n,k))::_)=_
    cases hx:x == n with
    | true=>
      have e:x=n:=by simpa using hx
      subst e
      simp only [List.lookup_cons,hx] at h
      cases h
      rw [if_pos (by simp [hf,hc])]
      simp [List.lookup_cons]
    | false=>
      simp only [List.lookup_cons,hx] at h
      split
      · simp only [List.lookup_cons,hx];exact ih h
      · simp only [List.lookup_cons,hx];exact ih h
theorem dj {env:Env}:∀ {names:List (Str×NameKind)} {x:Str},(∀ y∈names,y.2≠.cell) ->
    ((names.map fun (n,k)=>if (k == NameKind.free && env.scope.kind == .function && env.kindOf n == some .cell) then (n,NameKind.cell) else (n,k)).lookup x=some .cell \/
     (names.map fun (n,k)=>if (k == NameKind.free && env.scope.kind == .function && env.kindOf n == some .cell) then (n,NameKind.cell) else (n,k)).lookup x=some .free)->(x,NameKind.free)∈names
  | [],_,_,h=>by simp at h
  | (n,k)::r,x,hn,h=>by
    have ih:=@dj env r x fun y hy=>hn y (zH _ hy)
    have hk:k≠.cell:=hn (n,k) zK
    rw [List.map_cons] at h
    cases hx:x == n with
    | true=>
      have e:x=n:=by simpa using hx
      subst e
      by_cases hf:k = .free
      · subst hf;exact zK
      · exfalso
        have hb:(k == NameKind.free)=false:=by simpa using hf
        simp only [hb,Bool.false_and,Bool.false_eq_true,if_false,List.lookup_cons,beq_self_eq_true,Option.some.injEq] at h
        rcases h with h | h
        · exact hk h
        · exact hf h
    | false=>
      refine zH _ (ih ?_)
      by_cases hc:(k == NameKind.free && env.scope.kind == .function && env.kindOf n == some .cell)=true
      · simp only [hc,if_true,List.lookup_cons,hx] at h;exact h
      · simp only [Bool.not_eq_true] at hc
        simp only [hc,Bool.false_eq_true,if_false,List.lookup_cons,hx] at h;exact h
section
variable {X:Cx} {pins:List (Addr×Obj)} {σ : St} {H:Hp} {s:Shared} {scope:Scope} {own:List Str} {cap:List Nat} {fp:List Addr}
theorem Blk.cells (B:Blk X scope own cap) (ok:X.Ok):∀ y∈scope.names,y.2 = .free->∃ c,X.env.cells.lookup y.1=some c:=fun y hy hf=>ok.has y.1 (.inl (B.free y hy hf))
theorem Inv.enter {C:Addr} {h4:Heap} {m:Str->Option Value} {t':Nat} (I:Inv X pins σ H s) (hc:X.calm=true) (B:Blk X scope own cap) (f2:∀ b∈fp,cP X pins H b) (flt:∀ b∈fp,b < s.heap.objs.size)
    (k:∀ b o,s.heap.get? b=some o->h4.get? b=some o) (hC:s.heap.objs.size<=C) (hn:h4.Ns C m) (pl:List (Addr×Obj)) (hpl:∀ p∈pl,h4.get? p.1=some p.2/\s.heap.objs.size<=p.1/\p.1≠C/\∀ v,p.2.data≠.cell v) :
    Inv (blk X scope own cap C s H fp) pl (lH own.length cap σ) H { s with heap:=h4,toks:=t' }:=by
  have cls:∀ x c,(aU X.env.cells scope.names []).lookup x=some c->X.env.cells.lookup x=some c/\(x,NameKind.free)∈scope.names:=fun x c e=>(bU _ _ e).elim (fun z=>by simp at z) fun z=>z
  refine ⟨⟨I.ok.mod,B.kind,I.ok.glob,I.ok.blt,hC,fun x y c e1 e2=>I.ok.inj x y c (cls x c e1).1 (cls y c e2).1,fun x hx=>?_,fun x c hf _=>(zL hf).elim,fun _=>I.ok.hd hc,I.ok.frames,.inl rfl,
    fun b hb=>⟨Ab (zM (flt b hb) hC),fun x c e=>(f2 b hb).2.2.2.2.1 x c (cls x c e).1⟩,I.bs,z6 I.ok.bsz I.sz,fun b o e hb=>?_,fun b hb hfs=>?_,I.stack,I.iH⟩,
    rfl,I.bare,Un.kept k,⟨m,hn,fun i x v e1 e2 e3=>?_⟩,fun x c e=>?_,I.hok.fresh hC,fun x c e=>I.freeC x c (cls x c e).1,fun p hp=>?_,I.hok.kept k,?_⟩
  · have hx':((relabel scope X.env).names.lookup x=some .cell\/(relabel scope X.env).names.lookup x=some .free):=hx
    have hf:=dj B.nocell hx'
    exact bL _ _ hf (B.cells I.ok _ hf rfl)
  · rcases (f2 b hb).2.2.2.1 with z | z
    · exact I.ok.noex b o e z
    · exact absurd (zM (Heap.lt_size e) (z6 I.ok.bsz z)) (Nat.lt_irrefl _)
  · rcases Ak (I.iG b hfs) with z | z
    · exact (f2 b hb).2.1 z
    · exact (f2 b hb).2.2.1 z
  · -- the names
    have e2':(List.replicate own.length (none:Option V)++cap.map fun j=>(σ[j]?).join)[i]?=some (some v):=e2
    have e1':(own++cap.map fun j=>X.N.getD j Str.empty)[i]?=some x:=e1
    by_cases hi:i < own.length
    · rw [zC (by simpa using hi),List.getElem?_replicate,if_pos hi] at e2'
      cases e2'
    · rw [zB (by simpa using hi),zO] at e2'
      rw [zB (by simpa using hi),zO] at e1'
      rw [List.length_replicate] at e2'
      cases hj:cap[i - own.length]? with
      | none=>rw [hj] at e2';cases e2'
      | some j=>
        rw [hj] at e1' e2'
        have vt:X.N.getD j Str.empty=x:=zW e1'
        have jg:(σ[j]?).join=some v:=zW e2'
        obtain ⟨y,hy,hm,hl⟩:=B.caps j (zG hj)
        have exy:x=y:=by rw [<- vt,List.getD_eq_getElem?_getD,hy];rfl
        subst exy
        have hσ : σ[j]?=some (some v):=by
          cases q : σ[j]? with
          | none=>rw [q] at jg;cases jg
          | some z=>rw [q] at jg;rw [show z=some v from jg]
        have kc:=B.free _ hm rfl
        obtain ⟨m0,hn0,hl0⟩:=I.loc
        obtain ⟨u,r,lk⟩:=hl0 j x v hy hσ (.inr (.inl kc))
        refine ⟨u,r,.inr ⟨.inl (br I.ok.kind kc hl),?_⟩⟩
        rcases lk with ⟨k1,_⟩ | ⟨_,c,hc1,o,ho,hd⟩
        · rw [kc] at k1;cases k1
        · obtain ⟨c',hc'⟩:=bL (cells:=X.env.cells) scope.names [] hm ⟨c,hc1⟩
          have:=(cls x c' hc').1
          rw [hc1] at this;cases this
          exact ⟨c,hc',o,k c o ho,hd⟩
  · obtain ⟨v,o,ho,hd⟩:=I.cell x c (cls x c e).1
    exact ⟨v,o,k c o ho,hd⟩
  · have hp':p∈pl:=hp
    obtain ⟨h1,h2,h3,h5⟩:=hpl p hp'
    refine ⟨h1,I.hok.fresh h2,h3,fun hfs=>?_,h5⟩
    rcases Ak (I.iG p.1 hfs) with z | z
    · exact absurd (zM I.lt h2) (by rw [z];exact Nat.lt_irrefl _)
    · exact I.wM h2 z
  · show (List.replicate own.length (none:Option V)++cap.map fun j=>(σ[j]?).join).length=(own++cap.map fun j=>X.N.getD j Str.empty).length
    simp
theorem Inv.leave {C D:Addr} {s':Shared} {h':Heap} {H':Hp} {σ':St} {ys:List V} {its:List Value} {n:Nat} (I:Inv X pins σ H s) (f2:∀ b∈fp,cP X pins H b) (hC:s.heap.objs.size<=C) (hD:s.heap.objs.size<=D) (hDC:D≠C)
    (J:Inv (blk X scope own cap C s H fp) [(D,{ cls:=.type "list",data:=.seq its.toArray n })] σ' H' s') (hs:Heap.SameBut C s'.heap h') (r:Vals ys its) (hz:ys.length<=sizeLine) :
    Inv X pins σ (upd H' D (.lst ys)) { s' with heap:=h' }:=by
  obtain ⟨eD,nD,_,_,_⟩:=J.pin (D,{ cls:=.type "list",data:=.seq its.toArray n }) (zF _ (List.mem_singleton.mpr rfl))
  have HD:H D=none:=I.hok.fresh hD
  have nC:H' C=none:=J.free
  have neC:∀ b o,s.heap.get? b=some o->b≠C:=fun b o e=>Ab (zM (Heap.lt_size e) hC)
  have neD:∀ b o,s.heap.get? b=some o->b≠D:=fun b o e=>Ab (zM (Heap.lt_size e) hD)
  have J0:Un (frs X.stack) fp H H' s.heap s'.heap:=J.base
  have u:Un (frs X.stack) fp H (upd H' D (.lst ys)) s.heap h':=by
    refine ⟨fun b o e n hb hx=>?_,fun b o e n hb hx=>?_,fun b o e n hx=>?_,fun b o e hx=>?_,fun b xs e=>?_,fun b o xs e=>?_,fun b ps e=>?_⟩
    · exact (hs.2 b (neC b o e)).trans (J0.keep b o e n hb hx)
    · obtain ⟨sl,q⟩:=J0.slot b o e n hb hx
      exact ⟨sl,(hs.2 b (neC b o e)).trans q⟩
    · rw [az (neD b o e)];exact J0.free b o e n hx
    · obtain ⟨o',q⟩:=J0.there b o e hx
      exact ⟨o',(hs.2 b (neC b o e)).trans q⟩
    · rw [az (au e HD)];exact J0.tups b xs e
    · rw [az (au e HD)];exact J0.eu b o xs e
    · rw [az (au e HD)];exact J0.eS b ps e
  have hok:HOk X.prog X.w (upd H' D (.lst ys)) h':=fun b o e=>by
    by_cases hb:b=D
    · subst hb
      rw [av] at e;cases e
      exact ⟨hz,its,n,r,(hs.2 b hDC).trans eD⟩
    · rw [az hb] at e
      refine (J.hok b o e).stay (fun c v hc q=>(hs.2 c ?_).trans q) (fun c q=>?_) fun c xs q=>?_
      · rcases hc with rfl | hc
        · exact au e nC
        · exact au hc nC
      · rw [az (au q nD)];exact q
      · rw [az (au q nD)];exact q
  obtain ⟨hh,g,d,t,os⟩:=s'
  have eos:os=s.os:=J.os
  subst eos
  exact Inv.call (s:=s) (h':=h') (g':=g) (d':=d) (t':=t) (ch:=fp) I u hok J.bare fun b hb=>⟨(f2 b hb).2.2.2.1,(f2 b hb).2.1,fun x c e=>(f2 b hb).2.2.2.2.1 x c e,(f2 b hb).2.2.2.2.2⟩
end
section
variable {X:Cx} {pins:List (Addr×Obj)} {σ : St} {H:Hp} {s:Shared} {scope:Scope} {own:List Str} {cap:List Nat} {fp:List Addr}
theorem Inv.again {C:Addr} {pl:List (Addr×Obj)} {σ2:St} {H3:Hp} {s3:Shared} (I:Inv X pins σ H s) (B:Blk X scope own cap) (f2:∀ b∈fp,cP X pins H b) (J:Inv (blk X scope own cap C s H fp) pl σ2 H3 s3) :
    Inv (blk X scope own cap C s H fp) pl (lH own.length cap σ) H3 s3:=by
  obtain ⟨m,hn,_⟩:=J.loc
  refine ⟨J.ok,J.os,J.bare,J.base,⟨m,hn,fun i x v e1 e2 e3=>?_⟩,J.cell,J.free,J.freeC,J.pin,J.hok,?_⟩
  · have e2':(List.replicate own.length (none:Option V)++cap.map fun j=>(σ[j]?).join)[i]?=some (some v):=e2
    have e1':(own++cap.map fun j=>X.N.getD j Str.empty)[i]?=some x:=e1
    by_cases hi:i < own.length
    · rw [zC (by simpa using hi),List.getElem?_replicate,if_pos hi] at e2'
      cases e2'
    · rw [zB (by simpa using hi),zO] at e2'
      rw [zB (by simpa using hi),zO] at e1'
      rw [List.length_replicate] at e2'
      cases hj:cap[i - own.length]? with
      | none=>rw [hj] at e2';cases e2'
      | some j=>
        rw [hj] at e1' e2'
        have vt:X.N.getD j Str.empty=x:=zW e1'
        have jg:(σ[j]?).join=some v:=zW e2'
        obtain ⟨y,hy,hm,hl⟩:=B.caps j (zG hj)
        have exy:x=y:=by rw [<- vt,List.getD_eq_getElem?_getD,hy];rfl
        subst exy
        have hσ : σ[j]?=some (some v):=by
          cases q : σ[j]? with
          | none=>rw [q] at jg;cases jg
          | some z=>rw [q] at jg;rw [show z=some v from jg]
        have kc:=B.free _ hm rfl
        obtain ⟨m0,hn0,hl0⟩:=I.loc
        obtain ⟨u,r,lk⟩:=hl0 j x v hy hσ (.inr (.inl kc))
        refine ⟨u,r,.inr ⟨.inl (br I.ok.kind kc hl),?_⟩⟩
        rcases lk with ⟨k1,_⟩ | ⟨_,c,hc1,o,ho,hd⟩
        · rw [kc] at k1;cases k1
        · obtain ⟨c',hc'⟩:=bL (cells:=X.env.cells) scope.names [] hm ⟨c,hc1⟩
          have:=((bU _ _ hc').elim (fun z=>by simp at z) fun z=>z.1:X.env.cells.lookup x=some c')
          rw [hc1] at this;cases this
          have J0:Un (frs X.stack) fp H H3 s.heap s3.heap:=J.base
          obtain ⟨sl,q⟩:=J0.any ho (I.freeC x c hc1) fun z=>(f2 c z).2.2.2.2.1 x c hc1 rfl
          exact ⟨c,hc',_,q,hd⟩
  · show (List.replicate own.length (none:Option V)++cap.map fun j=>(σ[j]?).join).length=(own++cap.map fun j=>X.N.getD j Str.empty).length
    simp
end
theorem j6 {prog:Program} {w:World} {A:Around} {R:Result->Shared->Prop} {s:Shared} {elt target iter:Expr} {ifs:List Expr} {scope:Scope} {pos:Pos} {it acc:Value} {env:Env} (I:Nat->Shared->Prop)
    (turn:∀ n s,I n s->wpAny (model prog w) A (pyNext it) (fun r s₁=>match r with
      | none=>R (.ok .next) s₁
      | some v=>wpAny (model prog w) A (letOwnedTupleGo target it v) (fun _ s₁'=>wpAny (model prog w) A (assign target env v) (fun _ s₂=>
          wpAny (model prog w) A (forIn ifs true fun c r=>if r=true then do let ok <- isTrue c env (eval c env);pure (ForInStep.yield ok) else pure (ForInStep.yield r)) (fun ok s₃=>
            if ok=true then wpAny (model prog w) A (eval elt env) (fun x s₄=>
              wpAny (model prog w) A (call (.builtin "list.append") [acc,x]) (fun _ s₅=>∃ m,m < n/\I m s₅) (fun _ _=>False) s₄) (fun _ _=>False) s₃
            else ∃ m,m < n/\I m s₃) (fun _ _=>False) s₂) (fun _ _=>False) s₁') (fun _ _=>False) s₁) (fun _ _=>False) s)
    (n:Nat) (h:I n s) :
    codeAny (model prog w) A (.compLoop (.ListComp elt [⟨target,iter,ifs,0⟩] scope pos) 0 it acc env) R s:=by
  refine codeAny_loop rfl I (fun n s hI=>?_) n h
  show wpAny _ A ((compTurn (.ListComp elt [⟨target,iter,ifs,0⟩] scope pos) 0 it acc env).onRaise (fun x=>do noteFrame x env;theTreesLotGoes x)) _ _ s
  refine wpAny_noted ?_
  rw [compTurn_list]
  refine wpAny_bind (wpAny_standAt (wpAny_bind (wpAny_mono (turn n s hI) (fun r s₁ h₁=>?_) fun _ _ z=>z.elim)))
  cases r with
  | none=>exact wpAny_pure h₁
  | some v=>
    refine wpAny_bind (wpAny_mono h₁ (fun _ s₁' h₁'=>?_) fun _ _ z=>z.elim)
    refine wpAny_bind (wpAny_mono h₁' (fun _ s₂ h₂=>wpAny_bind (wpAny_mono h₂ (fun ok s₃ h₃=>?_) fun _ _ z=>z.elim)) fun _ _ z=>z.elim)
    cases ok with
    | false=>exact wpAny_pure ⟨rfl,h₃⟩
    | true=>
      exact wpAny_bind (wpAny_bind (wpAny_mono h₃ (fun x s₄ h₄=>wpAny_bind (wpAny_mono h₄ (fun _ s₅ h₅=>wpAny_pure (wpAny_pure ⟨rfl,h₅⟩)) fun _ _ z=>z.elim)) fun _ _ z=>z.elim))
def tE (X:Cx) (ifs:List Expr) (tc:TT):Prop:=
  ∀ (pins:List (Addr×Obj)) (s:Shared) (σ : St) (H:Hp) (Q:Bool->Hp->Prop),Inv X pins σ H s->tc σ H Q ->
    wpAny (model X.prog X.w) X.A (forIn ifs true fun c r=>if r=true then do let ok <- isTrue c X.env (eval c X.env);pure (ForInStep.yield ok) else pure (ForInStep.yield r)) (TP X pins σ Q) X.xe s
def v7:TT:=fun _ H Q=>Q true H
theorem cH {X:Cx}:tE X [] v7:=fun _ _ _ H _ I h=>wpAny_tests_nil ⟨H,I,h⟩
def mW (J:It) (W:Nat->Nat->List V->Hp->Prop) (D:List V->Hp->Prop) (σb:St) (g:TG) (tc:TT) (te:TE):Prop:=
  ∀ i m ys H,W i m ys H->ys.length<=sizeLine /\
    ((J.stop i H/\D ys H)\/(J.go i H/\∃ N:List V->Hp->Prop,(∀ ys' H',N ys' H'->∃ m',m' < m/\W (i+1) m' ys' H')/\∀ x H',J.yld i H x H'->g x σb H' fun σ2 H2=>tc σ2 H2 fun b H3=>
      if b=true then te σ2 H3 fun y H4=>N (ys++[y]) H4 else N ys H3))
def lT (wi:TI) (own:Nat) (cap:List Nat) (g:TG) (tc:TT) (te:TE):TE:=fun σ H Q=>wi σ H fun J H1=>∃ W:Nat->Nat->List V->Hp->Prop,(∃ m,W 0 m [] H1) /\
  mW J W (fun ys H=>∀ p,H p=none->Q (.ref p) (upd H p (.lst ys))) (lH own cap σ) g tc te
section
variable {X:Cx} {scope:Scope} {own:List Str} {cap:List Nat} {tg elt iter:Expr} {ifs:List Expr} {pos:Pos} {wi:TI} {g:TG} {tc:TT} {te:TE}
theorem gi (B:Blk X scope own cap) (hc:X.calm=true) (hg:∀ C s H fp,PG (blk X scope own cap C s H fp) tg g) (ht:∀ C s H fp,tE (blk X scope own cap C s H fp) ifs tc) (he:∀ C s H fp,PE (blk X scope own cap C s H fp) elt te)
    {pins:List (Addr×Obj)} {s2:Shared} {σ : St} {H2:Hp} {it:Addr} {fp:List Addr} {tn:Nat->Heap->Prop} {J:It} {W:Nat->Nat->List V->Hp->Prop} {D:List V->Hp->Prop} {m0:Nat} {E:Value->Shared->Prop} {RR:Value->Addr->Result->Shared->Prop}
    (I2:Inv X pins σ H2 s2) (T:Turn X.prog X.w X.K tg J fp it tn) (st2:tn 0 s2.heap) (f2:∀ b∈fp,cP X pins H2 b) (w0:W 0 m0 [] H2) (turn:mW J W D (lH own.length cap σ) g tc te)
    (done:∀ (C L:Addr) (s':Shared) (H':Hp) (σ':St) (ys:List V) (its:List Value) (n:Nat),s2.heap.objs.size<=C->s2.heap.objs.size<=L->L≠C->Inv (blk X scope own cap C s2 H2 fp) [(L,{ cls:=.type "list",data:=.seq its.toArray n })] σ' H' s'->Vals ys its->ys.length<=sizeLine->D ys H' ->
      RR (.ref L) C (.ok .next) s') :
    wpAny (model X.prog X.w) X.A (newList []) (fun acc s₃=>wpAny (model X.prog X.w) X.A (newFunctionEnv scope X.env.globals (aU X.env.cells scope.names []) [] X.env.qual none .none (some X.env)) (fun cenv s₄=>
      codeAny (model X.prog X.w) X.A (.compStart (.ListComp elt [⟨tg,iter,ifs,0⟩] scope pos) 0 (.ref it) acc { cenv with scope:=relabel scope X.env }) (RR acc cenv.locals) s₄) E s₃) E s2:=by
  refine wpAny_newObj_type (wpAny_newFunctionEnv B.nocell (by intro y hy;simp at hy) (fun h₁ hns₁ hsb₁=>?_) B.kind)
  dsimp only at hns₁ hsb₁ ⊢
  have flt:∀ b∈fp,b < s2.heap.objs.size:=fun b hb=>by
    obtain ⟨o,e,_⟩:=T.obj _ _ st2 b hb
    exact Heap.lt_size e
  generalize hH2:s2.heap.push { cls:=.type "list",dict:=none,data:=.seq ([]:List Value).toArray }=G2 at hns₁ hsb₁ ⊢
  have hCs:G2.objs.size=s2.heap.objs.size+1:=by rw [<- hH2,Heap.size_push]
  have hC:s2.heap.objs.size<=G2.objs.size:=by rw [hCs];exact Af _
  have hDC:s2.heap.objs.size≠G2.objs.size:=by rw [hCs];exact Ab (Nat.lt_succ_self _)
  have old:∀ b o,s2.heap.get? b=some o->h₁.get? b=some o:=fun b o e=>
    hsb₁.extBut b o (Ab (zM (Heap.lt_size e) hC)) (Heap.get?_push_of_some _ (hH2▸Heap.get?_push_of_some _ e))
  have hacc:h₁.get? s2.heap.objs.size=some { cls:=.type "list",data:=.seq ([]:List Value).toArray 0 }:=hsb₁.extBut _ _ hDC (Heap.get?_push_of_some _ (hH2▸Heap.get?_push_size _ rfl))
  have loop:∀ s₃ : Shared,s₃={ s2 with heap:=h₁,toks:=s2.toks+([]:List (Str×Value)).length } ->
      codeAny (model X.prog X.w) X.A (.compLoop (.ListComp elt [⟨tg,iter,ifs,0⟩] scope pos) 0 (.ref it) (.ref s2.heap.objs.size) (compEnvC scope (aU X.env.cells scope.names []) G2.objs.size X.env))
        (RR (.ref s2.heap.objs.size) G2.objs.size) s₃:=by
    rintro s₃ rfl
    refine j6 (fun n s'=>∃ i ys its nn H',Inv (blk X scope own cap G2.objs.size s2 H2 fp) [(s2.heap.objs.size,{ cls:=.type "list",data:=.seq (its:List Value).toArray nn })] (lH own.length cap σ) H' s'/\tn i s'.heap/\(∀ b∈fp,H' b=none)/\Vals ys its/\W i n ys H')
      ?_ m0 ⟨0,[],[],0,H2,L3.Inv.enter I2 hc B f2 flt old hC hns₁ _ (fun p hp=>?_),T.keep _ _ _ st2 (fun b _ o e=>old b o e),fun b hb=>(f2 b hb).1,.nil,w0⟩
    · rintro n s3 ⟨i,ys,its,nn,H3,J3,st3,fr3,rv,w3⟩
      have fpb:∀ {pl:List (Addr×Obj)} {H':Hp},(∀ b∈fp,H' b=none)->(∀ p∈pl,∀ b∈fp,p.1≠b)->∀ b∈fp,cP (blk X scope own cap G2.objs.size s2 H2 fp) pl H' b:=fun {pl H'} hn hp b hb=>
        ⟨hn b hb,Ab (zM (flt b hb) hC),fun z=>J3.ok.exfs b hb z,.inl hb,fun x c e=>(J3.ok.exf b hb).2 x c e,fun p hp'=>by
          rcases Aj hp' with z | z
          · exact absurd (show p∈([]:List (Addr×Obj)) from z) (by simp)
          · exact hp p z b hb⟩
      have nD:∀ (o:Obj),∀ p∈[(s2.heap.objs.size,o)],∀ b∈fp,p.1≠b:=fun o p hp b hb=>by
        have e:p=(s2.heap.objs.size,o):=by simpa using hp
        subst e
        exact (Ab (flt b hb)).symm
      obtain ⟨hz,tr⟩:=turn i n ys H3 w3
      rcases tr with ⟨stop,qD⟩ | ⟨go,N,hN,step⟩
      · refine thn (T.done (blk X scope own cap G2.objs.size s2 H2 fp) rfl rfl rfl rfl i _ s3 _ H3 (fun _ _=>False) J3 (fpb fr3 (nD _)) st3 stop) fun r s4 ⟨hr,J4⟩=>?_
        subst hr
        exact done _ _ s4 H3 _ ys its nn hC (Ad _) hDC J4 rv hz qD
      · refine thn (T.item (blk X scope own cap G2.objs.size s2 H2 fp) rfl rfl rfl rfl i _ s3 _ H3 (fun _ _=>False) J3 (fpb fr3 (nD _)) st3 go) fun r s4 ⟨u,hr,h4⟩=>?_
        subst hr
        refine thn h4 fun _ s5 ⟨x,H5,J5,r5,y5,st5,fr5⟩=>?_
        have J5':=J5.pinned (fpb fr5 (nD _)) (T.obj _ _ st5)
        refine thn (hg _ _ _ _ _ s5 _ H5 x u _ J5' r5 (step x H5 y5)) fun _ s6 ⟨σ6,H6,J6,q6⟩=>?_
        -- a turn's end,the list at L as it stands
        have again:∀ {pl:List (Addr×Obj)} {its':List Value} {nn':Nat} {ys':List V} {s8:Shared} {H8:Hp} {σ8:St} {m':Nat},Inv (blk X scope own cap G2.objs.size s2 H2 fp) ([(s2.heap.objs.size,{ cls:=.type "list",data:=.seq its'.toArray nn' })]++cG fp s5.heap) σ8 H8 s8->Vals ys' its'->m' < n->W (i+1) m' ys' H8 ->
            ∃ m,m < n/\∃ i ys its nn H',Inv (blk X scope own cap G2.objs.size s2 H2 fp) [(s2.heap.objs.size,{ cls:=.type "list",data:=.seq (its:List Value).toArray nn })] (lH own.length cap σ) H' s8/\tn i s8.heap/\(∀ b∈fp,H' b=none)/\Vals ys its/\W i m ys H':=by
          intro pl its' nn' ys' s8 H8 σ8 m' J8 rv' hm w8
          have wF:∀ b∈fp,∀ o,s5.heap.get? b=some o->s8.heap.get? b=some o/\H8 b=none:=fun b hb o e=>by
            have q:=J8.pin (b,o) (zF _ (zF _ (c5 hb e)))
            exact ⟨q.1,q.2.1⟩
          refine ⟨m',hm,i+1,ys',its',nn',H8,Inv.again I2 B f2 J8.dg,T.keep _ _ _ st5 fun b hb o e=>(wF b hb o e).1,fun b hb=>?_,rv',w8⟩
          obtain ⟨o,e,_⟩:=T.obj _ _ st5 b hb
          exact (wF b hb o e).2
        refine thn (ht _ _ _ _ _ s6 _ H6 _ J6 q6) fun ok s7 ⟨H7,J7,q7⟩=>?_
        cases ok with
        | false=>
          rw [if_neg zL]
          rw [if_neg zL] at q7
          obtain ⟨m',hm,w7⟩:=hN _ _ q7
          exact again (pl:=[]) J7 rv hm w7
        | true=>
          rw [if_pos rfl]
          rw [if_pos rfl] at q7
          refine thn (he _ _ _ _ _ s7 _ H7 _ J7 q7) fun v s8 ⟨y,H8,J8,ry,q8⟩=>?_
          obtain ⟨m',hm,w8⟩:=hN _ _ q8
          have pL:=J8.pin (s2.heap.objs.size,{ cls:=.type "list",data:=.seq its.toArray nn }) (zF _ (List.mem_append_left _ (List.mem_singleton.mpr rfl)))
          refine wpAny_list_append_plain (l:=s2.heap.objs.size) (items:=its.toArray) ⟨nn,pL.1⟩ (fun h' hp' hsb=>?_) (by rw [zN,<- rv.length];exact hz)
          obtain ⟨nn',hL'⟩:=hp'
          have J9:Inv (blk X scope own cap G2.objs.size s2 H2 fp) (cG fp s5.heap) σ6 H8 s8:=J8.fj fun p hp=>J8.pin p (zF _ (zF _ hp))
          have xV:∀ p∈(blk X scope own cap G2.objs.size s2 H2 fp).pn++cG fp s5.heap,p.1≠s2.heap.objs.size:=fun p hp=>by
            rcases Aj hp with z | z
            · exact absurd (show p∈([]:List (Addr×Obj)) from z) (by simp)
            · exact Ab (flt _ (gQ z).1)
          have J10:Inv (blk X scope own cap G2.objs.size s2 H2 fp) (cG fp s5.heap) σ6 H8 { s8 with heap:=h' }:=J9.turned (t':=s8.toks) (it:=s2.heap.objs.size) (fun b o hb e=>(hsb.2 b hb).trans e) pL.2.1 pL.2.2.1 (.inr (Ad _))
            (fun x c e z=>by
              obtain ⟨v',o',ho',hd'⟩:=J9.cell x c e
              rw [z,pL.1] at ho';cases ho';cases hd') xV
          refine again (pl:=[]) (its':=its++[v]) (nn':=nn') (J10.fj fun p hp=>?_) (rv.append (.cons ry .nil)) hm w8
          rcases Aj hp with z | z
          · have e:p=(s2.heap.objs.size,{ cls:=.type "list",data:=.seq (its++[v]).toArray nn' }):=by simpa using z
            subst e
            refine ⟨?_,pL.2.1,pL.2.2.1,pL.2.2.2.1,fun v'=>by intro q;cases q⟩
            rw [hL']
            simp
          · exact J10.pin p (zF _ z)
    · have e:p=(s2.heap.objs.size,{ cls:=.type "list",data:=.seq ([]:List Value).toArray 0 }):=by simpa using hp
      subst e
      exact ⟨hacc,Ad _,hDC,fun v'=>by intro q;cases q⟩
  exact codeAny_compStart_list (loop _ rfl) (T.self _ 0 _ _ _ (T.keep _ _ _ st2 fun b _ o e=>old b o e) (loop _ rfl))
theorem iY (hc:X.calm=true) (hi:PI X tg iter wi) (B:Blk X scope own cap) (hg:∀ C s H fp,PG (blk X scope own cap C s H fp) tg g) (ht:∀ C s H fp,tE (blk X scope own cap C s H fp) ifs tc) (he:∀ C s H fp,PE (blk X scope own cap C s H fp) elt te)
    (hs:∀ x,foldedSetIterable iter X.env x=pure x:=by intro _;rfl):PE X (.ListComp elt [⟨tg,iter,ifs,0⟩] scope pos) (lT wi own.length cap g tc te):=by
  intro pins s σ H Q I h
  rw [eval_ListComp]
  refine wpAny_comprehension_free (use:=none) rfl hs (iu (B.cells I.ok)) B.kind B.names (thn (hi pins s σ H _ I h) fun v s1 h1=>thn h1 fun itv s2 h2=>?_)
  obtain ⟨it,fp,tn,J,H2,e,I2,T,st2,f2,W,⟨m0,w0⟩,turn⟩:=h2
  subst e
  refine gi (RR:=fun acc C=>compPost (model X.prog X.w) X.A X.xe none (EP X pins σ Q) acc C) B hc hg ht he I2 T st2 f2 w0 turn ?_
  intro C L s' H' σ' ys its n hC hL hLC J' rv hz hD
  obtain ⟨m,hn,_⟩:=J'.loc
  have nL:=(J'.pin _ (zF _ (List.mem_singleton.mpr rfl))).2.1
  exact ⟨m,hn,fun h' hs'=>⟨.ref L,_,Inv.leave I2 f2 hC hL hLC J' hs' rv hz,rfl,hD L nL⟩⟩
def oO (i:Nat) (wi:TI) (own:Nat) (cap:List Nat) (g:TG) (tc:TT) (te:TE):TS:=fun D σ H=>lT wi own cap g tc te σ H fun v H1=>D.nx (σ.set i (some v)) H1
theorem jK {i:Nat} {x:Str} {px spos:Pos} (hc:X.calm=true) (hN:X.N.Nodup) (hi':X.N[i]?=some x) (hx:Loc X.env.scope x) (hi:PI X tg iter wi) (B:Blk X scope own cap) (hg:∀ C s H fp,PG (blk X scope own cap C s H fp) tg g)
    (ht:∀ C s H fp,tE (blk X scope own cap C s H fp) ifs tc) (he:∀ C s H fp,PE (blk X scope own cap C s H fp) elt te)
    (hsw:swapsWith (.ListComp elt [⟨tg,iter,ifs,0⟩] scope pos) (some (.Name x px)) spos.line X.env=pure true) (hf:X.fn x=true\/X.env.scope.names.lookup x=some .local:=by first | exact .inl rfl | exact .inr rfl | assumption)
    (hs:∀ x,foldedSetIterable iter X.env x=pure x:=by intro _;rfl):PS X (.Assign [.Name x px] (.ListComp elt [⟨tg,iter,ifs,0⟩] scope pos) spos) (oO i wi own.length cap g tc te):=by
  intro pins s σ H D I h
  rw [exec_Assign_Name_used _ _ _ _ hsw]
  refine wpAny_bind (wpAny_standAt (wpAny_bind ?_))
  show wpAny _ X.A (do let _ <- comprehension (.ListComp elt [⟨tg,iter,ifs,0⟩] scope pos) scope X.env _ (newList []) false (eval iter X.env) (some (assign (.Name x px) X.env))) _ _ s
  refine wpAny_bind (thn (wpAny_comprehension_free (use:=some (assign (.Name x px) X.env)) (Q:=fun _ s'=>SP X pins D .next s') rfl hs (iu (B.cells I.ok)) B.kind B.names
    (thn (hi pins s σ H _ I h) fun v s1 h1=>thn h1 fun itv s2 h2=>?_)) (fun _ s' hq=>wpAny_pure (wpAny_pure hq)))
  obtain ⟨it,fp,tn,J,H2,e,I2,T,st2,f2,W,⟨m0,w0⟩,turn⟩:=h2
  subst e
  refine gi (RR:=fun acc C=>compPost (model X.prog X.w) X.A X.xe (some (assign (.Name x px) X.env)) (fun _ s'=>SP X pins D .next s') acc C) B hc hg ht he I2 T st2 f2 w0 turn ?_
  intro C L s' H' σ' ys its n hC hL hLC J' rv hz hD
  obtain ⟨m,hn,_⟩:=J'.loc
  have nL:=(J'.pin _ (zF _ (List.mem_singleton.mpr rfl))).2.1
  have I3:=Inv.leave I2 f2 hC hL hLC J' (.refl ..) rv hz
  show wpAny _ X.A (assign (.Name x px) X.env (.ref L)) _ _ s'
  have cL:C≠X.env.locals:=Ne.symm (Ab (zM I2.lt hC))
  have cc:∀ y c,X.env.cells.lookup y=some c->c≠C:=fun y c e=>by
    obtain ⟨v,q⟩:=I2.cell y c e
    exact Ab (zM q.lt hC)
  refine wpAny_assign_Name (gI I3 hN hi' hx (v:=.ref L) rfl (fun s4 I4 ⟨a,hsb,ha⟩=>?_) hf)
  have aC:C≠a:=by
    rcases ha with rfl | e
    · exact cL
    · exact Ne.symm (cc _ _ e)
  refine ⟨m,hn.sameBut hsb aC,fun h5 hs5=>⟨_,_,I4.turned (t':=s4.toks) (it:=C) (fun b o hb e=>(hs5.2 b hb).trans e) (by rw [az (Ne.symm hLC)];exact J'.free) cL (.inr (z6 I2.sz hC)) cc (fun p hp=>?_),hD L nL⟩⟩
  exact Ab (zM (Heap.lt_size (I2.pin p hp).1) hC)
end
theorem nU {K:Ao} {a:Addr} {xs:List V} {g:TG} {tc:TT} {te:TE} {D:List V->Hp->Prop} {σb:St} {H:Hp} (Pv:Nat->List V->Hp->Prop) (h0:Pv 0 [] H) (hl:∀ i ys H,i<=xs.length->Pv i ys H->SqL K H a xs/\ys.length<=sizeLine)
    (hs:∀ i x ys H,xs[i]?=some x->Pv i ys H->g x σb H fun σ2 H2=>tc σ2 H2 fun b H3=>if b=true then te σ2 H3 fun y H4=>Pv (i+1) (ys++[y]) H4 else Pv (i+1) ys H3) (hd:∀ ys H,Pv xs.length ys H->D ys H) :
    ∃ W:Nat->Nat->List V->Hp->Prop,(∃ m,W 0 m [] H)/\mW (Itl K a) W D σb g tc te:=by
  refine ⟨fun i m ys H=>m=xs.length - i/\i<=xs.length/\Pv i ys H,⟨xs.length,by simp,Ae _,h0⟩,?_⟩
  rintro i m ys H ⟨rfl,hi,p⟩
  obtain ⟨q,hz⟩:=hl i ys H hi p
  refine ⟨hz,?_⟩
  by_cases hlt:i < xs.length
  · refine .inr ⟨⟨xs,xs[i],q,by simp [hlt]⟩,Pv (i+1),fun ys' H' p'=>⟨xs.length - (i+1),by omega,rfl,hlt,p'⟩,fun x H' y=>?_⟩
    obtain ⟨e,y⟩:=y
    subst e
    exact hs i x ys _ (y xs q) p
  · have e:i=xs.length:=by omega
    subst e
    exact .inl ⟨⟨xs,q,Ad _⟩,hd ys H p⟩
structure GlV (mg:Str->Option Value) (x:Str) (v:V):Prop where
  ex:∃ u,mg x=some u/\RelV v u
theorem dY {X:Cx} {x:Str} {v:V} {pos:Pos} (h:GlV X.mg x v) (hg:Gl X x:=by rfl) (hd:(x == ("__debug__" : Str))=false:=by decide):PE X (.Name x pos) (tC v):=by
  obtain ⟨u,m,r⟩:=h.ex
  exact rE hg m r hd
theorem cz:bootBuiltins "len" = some (.builtin "len"):=by decide +kernel
theorem gz:bootBuiltins "isinstance" = some (.builtin "isinstance"):=by decide +kernel
theorem qG:bootBuiltins "max" = some (.builtin "max"):=by decide +kernel
theorem qF:bootBuiltins "min" = some (.builtin "min"):=by decide +kernel
theorem vI:bootBuiltins "all" = some (.builtin "all"):=by decide +kernel
theorem cW:bootBuiltins "sorted" = some (.builtin "sorted"):=by decide +kernel
theorem qE:bootBuiltins "str" = some (.type "str"):=by decide +kernel
theorem vG:bootBuiltins "set" = some (.type "set"):=by decide +kernel
theorem vH:bootBuiltins "int" = some (.type "int"):=by decide +kernel
theorem sW:bootBuiltins "bool" = some (.type "bool"):=by decide +kernel
structure Bt (mg:Str->Option Value):Prop where
  len:mg "len" = none
  range:mg "range" = none
  isinstance:mg "isinstance" = none
  max:mg "max" = none
  min:mg "min" = none
  all:mg "all" = none
  any:mg "any" = none
  sorted:mg "sorted" = none
  sum:mg "sum" = none
  int_:mg "int" = none
  bool_:mg "bool" = none
  str_:mg "str" = none
  list_:mg "list" = none
  tuple_:mg "tuple" = none
  dict_:mg "dict" = none
  set_:mg "set" = none
  zip_:mg "zip" = none
  ValueError_:mg "ValueError" = none
section
variable {X:Cx}
def xM (_ j:Int):Prop:=0 < j/\j < 2 ^ 250
def xK (i j:Int):Prop:=(-(2 ^ 250) < i/\i < 2 ^ 250)/\(-(2 ^ 250) < j/\j < 2 ^ 250)
theorem log2_lt {n k:Nat} (h:n < 2 ^ k) (hk : 0 < k):n.log2 < k:=by
  by_cases h0:n=0
  · subst h0;simpa using hk
  · exact (Nat.log2_lt h0).mpr h
theorem bO:OpR X (binaryOp .FloorDiv) (rI xM fun i j=>.int (i / j)):=opI fun i j t u A s Q hc q=>by
  have e:i.fdiv j=i / j:=Int.fdiv_eq_ediv_of_nonneg _ (Int.le_of_lt hc.1)
  refine floordiv_int (by have:=hc.1;omega) (by rw [e];exact q) (.inl (PyProof.noPylong_of_log2 ?_))
  refine zM (log2_lt (k:=250) ?_ (by decide)) (by decide)
  have h1:=hc.1
  have h2:=hc.2
  have e2:((2:Int) ^ 250)=((2 ^ 250:Nat):Int):=by norm_cast
  rw [e2] at h2
  omega
theorem bC:OpR X (binaryOp .Mult) (rI xK fun i j=>.int (i * j)):=opI fun i j t u A s Q hc q=>by
  have bits:∀ {k:Int},-(2 ^ 250) < k->k < 2 ^ 250->Builtin.Int.intBits k<=2 ^ 20:=fun {k} h1 h2=>by
    have e2:((2:Int) ^ 250)=((2 ^ 250:Nat):Int):=by norm_cast
    rw [e2] at h1 h2
    have h3:k.natAbs < 2 ^ 250:=by omega
    have h4:=log2_lt h3 (by decide)
    unfold Builtin.Int.intBits
    split
    · exact Ae _
    · exact z6 (Nat.succ_le_succ (Aa h4)) (by decide)
  exact mul_int q (IntMulOk.of_bits (bits hc.1.1 hc.1.2) (bits hc.2.1 hc.2.2))
theorem lU:∀ {ys:List Str} {us:List Value},Vals (ys.map V.str) us->StrsAre us ys
  | [],_,.nil=>.nil
  | y::ys,_,.cons r t=>by
    obtain ⟨tk,rfl⟩:=r
    exact .cons y tk (lU t)
def uJ (K:Ao):List V->Hp->VK->Prop:=fun xs H Q=>∃ x c t b,xs=[x,c]/\dN K H x t/\((∃ T,c = .ty T/\PySem.W.kitOne K t (.type T)=some b)\/∃ C,c = .ref C/\PySem.W.kitOne K t (.ref C)=some b)/\Q (.bl b) H
theorem qz:bV X (.builtin "isinstance") (uJ X.K):=by
  intro pins s σ H xs us Q I r h
  obtain ⟨x,c,t,b,rfl,ty,e,q⟩:=h
  obtain ⟨u,w',rfl,rx,rc⟩:=vals2 r
  rcases e with ⟨T,rfl,e⟩ | ⟨C,rfl,e⟩
  · cases (show w'=Value.type T from rc)
    exact gZ I rx ty e fun tk=>⟨.bl b,H,I.tok _,rfl,q⟩
  · cases (show w'=Value.ref C from rc)
    exact gZ I rx ty e fun tk=>⟨.bl b,H,I.tok _,rfl,q⟩
theorem iX {e:Expr} {te:TE} {c:Str} {T:String} {p p' pos:Pos} (hm:X.mg "isinstance" = none) (hc:X.mg c=none) (hv:bootBuiltins c=some (.type T)) (he:PE X e te) (hg:Gl X "isinstance" := by rfl) (hg':Gl X c:=by rfl) (hn:c ≠ "__name__" := by decide) (hd:(c == ("__debug__" : Str))=false:=by decide)
    (hs:starEach [e,.Name c p'] X.env=(false,eval e X.env)::starEach [.Name c p'] X.env:=by rfl) (hs2:starEach [.Name c p'] X.env=(false,eval (.Name c p') X.env)::starEach [] X.env:=by rfl) (hpl:(backTo pos (starEach [.Name c p'] X.env)).any (·.1)=false:=by rfl) :
    PE X (.Call (.Name "isinstance" p) [e,.Name c p'] [] pos) (tCB (uJ X.K) (lS te (lS (tC (.ty T)) uA))):=
  aK qz hg hm gz (aa he (aa (rG hg' hc hv rfl hn hd) ai hs2) hs) (by decide) (by decide) hs hpl
end
def uq (names:List (Str×NameKind)) (N:List Str) (scope:Scope) (own:List Str) (cap:List Nat):Bool:=
  scope.names.all (fun y=>y.2 != .cell && (y.2 != .local || scope.names.lookup y.1 == some .local) && (y.2 != .free || names.lookup y.1 == some .cell)) &&
  decide (eX N own cap).Nodup &&
  cap.all (fun j=>match N[j]? with | some x=>scope.names.any (fun y=>y.1 == x && y.2 == .free) && scope.names.lookup x == some .free | none=>false)
theorem gk {X:Cx} {scope:Scope} {own:List Str} {cap:List Nat} (names:List (Str×NameKind)) (N:List Str) (hn:X.env.scope.names=names) (hN:X.N=N) (hk:scope.kind = .function) (h:uq names N scope own cap=true):Blk X scope own cap:=by
  unfold uq at h
  simp only [Bool.and_eq_true,List.all_eq_true,decide_eq_true_eq] at h
  obtain ⟨⟨h1,h2⟩,h3⟩:=h
  refine ⟨hk,fun y hy e=>?_,fun y hy e=>?_,fun y hy e=>?_,by rw [hN];exact h2,fun j hj=>?_⟩
  · have:=(h1 y hy).1.1
    rw [e] at this;exact absurd this (by decide)
  · have:=(h1 y hy).1.2
    rw [e] at this;simpa using this
  · have:=(h1 y hy).2
    rw [e] at this
    show X.env.scope.names.lookup y.1=some .cell
    rw [hn]
    simpa using this
  · have:=h3 j hj
    rw [hN]
    split at this
    · rename_i x e
      simp only [Bool.and_eq_true,List.any_eq_true,beq_iff_eq] at this
      obtain ⟨⟨y,hy,e1,e2⟩,e3⟩:=this
      obtain ⟨y1,y2⟩:=y
      dsimp only at e1 e2
      subst e1 e2
      exact ⟨_,e,hy,e3⟩
    · cases this
structure Mak (P:Program) (w:World) (K:Ao) (mg:Str->Option Value) (base:Heap) (CX:CXT) (x:Str) (C:Addr) (k:Nat) (ps:List Str) (sp:Sp):Prop where
  ex:∃ f fd,Mk K C f/\cQ P w K mg base CX k f fd ps sp/\Binds K fd ps []/\mg x=some (.ref C)
structure jr (K:Ao) (mg:Str->Option Value) (x qual:Str) (C:Addr) (st:Stmt) (ps:List Str):Prop where
  ex:∃ f fd,Fun K "__init__" qual st f fd/\Binds K fd ps []/\mg x=some (.ref C)/\Mk K C f/\Cls K C
structure zu (K:Ao) (C:Addr) (x qual:Str) (st:Stmt) (ps:List Str):Prop where
  ex:∃ f fd,Fun K x qual st f fd/\Binds K fd ps []/\Meth K C x f/\Cls K C
section
variable {P:Program} {w:World} {K:Ao} {mg:Str->Option Value} {base:Heap} {CX:CXT} {x qual:Str} {C:Addr} {st:Stmt} {N ps:List Str} {k j:Nat} {sp sp':Sp}
theorem jr.ok (D:jr K mg x qual C st ps) (S:aT N ps (aj st)) (len:∀ vs H Q E,sp vs H Q E->vs.length=ps.length)
    (hbody:∀ (f:Addr) (cdv:Value) (A:Around) (outer:List Env) (s:Shared) (H:Hp) (vs:List V) (Q:VK) (E:XK),bB k (A.deeper (envOfC qual (aj st) s.heap.objs.size f cdv))->sp vs H Q E ->
      ∃ t,PSs (bW CX P w K mg base N qual (aj st) f cdv A outer s H E).nox (aO st) t/\t { nx:=fun _ H'=>Q .non H',rt:=Q } (start N vs) H):Mak P w K mg base CX x C (k+1) ps sp:=by
  obtain ⟨f,fd,F,b,m,M,_⟩:=D.ex
  exact ⟨f,fd,M,lA F S len hbody,b,m⟩
theorem jr.cls (D:jr K mg x qual C st ps):Cls K C:=D.ex.elim fun _ h=>h.elim fun _ h=>h.2.2.2.2
theorem sP {h:Heap} (X:K.In h) (G:h.Ns mainGlobals mg) {f:Addr} {oc:Value} {od an:Option Addr} {osl:Array (Option Value)} {kV doc pm cdv ct:Value} (aC:PySem.W.nsIn K mainGlobals x=some (some (.ref C)))
    (a:PySem.W.findIn K (.ref C) "__init__" = some (some (.ref f))) (i:PySem.W.isFn K (.ref f)=true)
    (l:K.lookup f=some ⟨oc,od,.func (PySem.W.fnOf "__init__" qual (bD st) (aO st) (aj st) .none kV doc pm an cdv ct),osl⟩) (c:PySem.W.codeIn K cdv qual=true) (kp:PySem.W.keepIn K (.ref f)=true)
    (pg:PySem.W.plainGet K C Str.empty=true) (hd:PySem.W.hasDictIn K C=true) (po:PySem.W.plainOver K C=true) (sa:PySem.W.findIn K (.ref C) "__setattr__" = some (some (.builtin "object.__setattr__"))) (mk:PySem.W.makesIn K C=true) (kc:PySem.W.keepIn K (.ref C)=true)
    (b:∀ (kV doc pm:Value) (an:Option Addr) (cdv ct:Value) (us:List Value),us.length=ps.length->bindArgs (PySem.W.fnOf "__init__" qual (bD st) (aO st) (aj st) .none kV doc pm an cdv ct) ⟨us,[]⟩=pure (ps.zip us)):jr K mg x qual C st ps:=by
  have F:=qp (st:=st) l c kp
  exact ⟨f,_,F,F.binds b,PySem.W.mg_of X G aC,⟨mk,a,i,kc⟩,⟨pg,hd,po,sa⟩⟩
end
section
variable {X:Cx} {CX:CXT} {k:Nat} {ps:List Str} {sp:Sp} {E:XK} {x:Str} {C:Addr} {p pos:Pos} {e:Expr} {es:List Expr} {t:TA}
theorem wH (M:Mak X.prog X.w X.K X.mg X.base CX x C k ps sp) (hr:bB (k+1) X.A) (hx:Passes CX X E) (ha:PA X (e::es) t) (hg:Gl X x:=by rfl)
    (hdb:(x == ("__debug__" : Str))=false:=by decide) (he:starEach (e::es) X.env=(false,eval e X.env)::starEach es X.env:=by rfl) (hpl:(backTo pos (starEach es X.env)).any (·.1)=false:=by rfl) :
    PE X (.Call (.Name x p) (e::es) [] pos) (oK C sp [] E t):=by
  obtain ⟨f,fd,m,F,b,g⟩:=M.ex
  exact rD m F hr hg g b .nil hx ha hdb he hpl
end
end L3
namespace L4
open PySem PySem.Spec PyProof.Rows L2 L3
def dO (H H':Hp):Prop:=∀ q xs,H q=some (.tup xs)->H' q=some (.tup xs)
theorem dO.trans {H H1 H2:Hp} (a:dO H H1) (b:dO H1 H2):dO H H2:=fun q xs h=>b q xs (a q xs h)
theorem fM {H H':Hp} (s:aN H H'):dO H H':=fun q _ h=>s q _ h
theorem uy {H:Hp} {p:Addr} {o u:HO} (h:H p=some u) (n:∀ xs,u≠.tup xs):dO H (upd H p o):=fun q xs e=>by
  have:q≠p:=fun z=>by subst z;rw [h] at e;exact n xs (zW e)
  rw [az this];exact e
structure Ob where
  p:Hp->HO->Prop
  mono:∀ {H H':Hp} {o:HO},dO H H'->p H o->p H' o
def Eo (o:HO):Ob:=⟨fun _ u=>u=o,fun _ h=>h⟩
structure Pr where
  p:Hp->Prop
  mono:∀ {H H':Hp},dO H H'->p H->p H'
def eE (r:Addr) (xs:List V):Pr:=⟨fun H=>H r=some (.tup xs),fun t h=>t _ _ h⟩
structure Led (P:Addr->Prop) (H0 H:Hp) (l:List (Addr×Ob)) (fs:List Pr):Prop where
  at_:∀ x∈l,∃ o,H x.1=some o/\x.2.p H o
  nd:(l.map (·.1)).Nodup
  own:∀ x∈l,P x.1\/H0 x.1=none
  fr:∀ q o,H0 q=some o->¬ P q->H q=some o
  st:∀ f∈fs,f.p H
inductive Put (p:Addr) (a b:Ob):List (Addr×Ob)->List (Addr×Ob)->Prop
  | head {l}:Put p a b ((p,a)::l) ((p,b)::l)
  | tail {x l l'}:Put p a b l l'->Put p a b (x::l) (x::l')
section
variable {P:Addr->Prop} {H0 H H':Hp} {l l':List (Addr×Ob)} {fs:List Pr} {p:Addr} {a b:Ob} {o:HO}
theorem Put.mem (h:Put p a b l l'):(p,a)∈l:=by
  induction h with
  | head=>exact zK
  | tail _ ih=>exact zH _ ih
theorem Put.keys (h:Put p a b l l'):l'.map (·.1)=l.map (·.1):=by
  induction h with
  | head=>rfl
  | tail _ ih=>rw [List.map_cons,List.map_cons,ih]
theorem Put.or (h:Put p a b l l'):∀ x∈l',x=(p,b)\/x∈l:=by
  induction h with
  | head=>
    intro x hx
    rcases Ak hx with e | e
    · exact .inl e
    · exact .inr (zH _ e)
  | tail _ ih=>
    intro x hx
    rcases Ak hx with e | e
    · exact .inr (by rw [e];exact zK)
    · exact (ih x e).imp_right (zH _)
theorem p7:∀ {l:List (Addr×Ob)},(l.map (·.1)).Nodup->∀ {x y},x∈l->y∈l->x.1=y.1->x=y
  | [],_,_,_,hx,_,_=>by simp at hx
  | z::l,hn,x,y,hx,hy,e=>by
    rw [List.map_cons,List.nodup_cons] at hn
    rcases Ak hx with e1 | h1
    · rcases Ak hy with e2 | h2
      · rw [e1,e2]
      · exact absurd (show z.1∈l.map (·.1) from List.mem_map.mpr ⟨y,h2,by rw [<- e1];exact e.symm⟩) hn.1
    · rcases Ak hy with e2 | h2
      · exact absurd (show z.1∈l.map (·.1) from List.mem_map.mpr ⟨x,h1,by rw [<- e2];exact e⟩) hn.1
      · exact p7 hn.2 h1 h2 e
theorem Put.or' (h:Put p a b l l') (nd:(l.map (·.1)).Nodup):∀ x∈l',x=(p,b)\/(x∈l/\x.1≠p):=by
  intro x hx
  have nd':(l'.map (·.1)).Nodup:=by rw [h.keys];exact nd
  have hb:(p,b)∈l':=by
    clear nd nd' hx
    induction h with
    | head=>exact zK
    | tail _ ih=>exact zH _ ih
  by_cases e:x.1=p
  · exact .inl (p7 nd' hx hb e)
  · rcases h.or x hx with z | z
    · exact .inl z
    · exact .inr ⟨z,e⟩
theorem Led.get (L:Led P H0 H l fs) (m:Put p a a l l'):∃ o,H p=some o/\a.p H o:=L.at_ _ m.mem
theorem Led.eo (L:Led P H0 H l fs) (m:Put p (Eo o) (Eo o) l l'):H p=some o:=by
  obtain ⟨u,e,h⟩:=L.get m
  have:u=o:=h
  rw [<- this];exact e
theorem Led.tup (L:Led P H0 H l fs) {r:Addr} {xs:List V} (m:eE r xs∈fs):H r=some (.tup xs):=L.st _ m
theorem Led.fact (L:Led P H0 H l fs) {f:Pr} (m:f∈fs):f.p H:=L.st _ m
theorem Led.more (L:Led P H0 H l fs) (f:Pr) (h:f.p H):Led P H0 H l (f::fs):=
  ⟨L.at_,L.nd,L.own,L.fr,fun g hg=>(Ak hg).elim (fun e=>e▸h) (L.st g)⟩
theorem Led.start (H:Hp) (P:Addr->Prop):Led P H H [] []:=⟨fun _ h=>by simp at h,List.nodup_nil,fun _ h=>by simp at h,fun _ _ h _=>h,fun _ h=>by simp at h⟩
theorem Led.same (L:Led (fun _=>False) H0 H l fs):aN H0 H:=fun q o h=>L.fr q o h id
theorem Led.keep (L:Led P H0 H l fs) (s:aN H H'):Led P H0 H' l fs:=
  ⟨fun x hx=>let ⟨o,e,h⟩:=L.at_ x hx;⟨o,s _ _ e,x.2.mono (fM s) h⟩,L.nd,L.own,fun q o h n=>s _ _ (L.fr q o h n),fun f hf=>f.mono (fM s) (L.st f hf)⟩
theorem Led.fresh (L:Led P H0 H l fs) (h:H p=none):(∀ x∈l,x.1≠p)/\(P p\/H0 p=none):=by
  refine ⟨fun x hx e=>?_,?_⟩
  · obtain ⟨o,q,_⟩:=L.at_ x hx
    rw [e,h] at q;cases q
  · by_cases hp:P p
    · exact .inl hp
    · cases q:H0 p with
      | none=>exact .inr rfl
      | some o=>rw [L.fr p o q hp] at h;cases h
theorem bJ (h:H p=none):aN H (upd H p o):=fun b u q=>by rw [az (au q h)];exact q
theorem Led.xX (L:Led P H0 H l fs) {xs:List V} (h:H p=none):Led P H0 (upd H p (.tup xs)) l (eE p xs::fs):=(L.keep (bJ h)).more _ av
theorem Led.rS (L:Led P H0 H l fs) (h:H p=none) (ho:a.p (upd H p o) o):Led P H0 (upd H p o) ((p,a)::l) fs:=by
  have K:=L.keep (bJ (o:=o) h)
  obtain ⟨f1,f2⟩:=L.fresh h
  refine ⟨fun x hx=>?_,?_,fun x hx=>?_,K.fr,K.st⟩
  · rcases Ak hx with rfl | hx
    · exact ⟨o,av,ho⟩
    · exact K.at_ x hx
  · rw [List.map_cons,List.nodup_cons]
    refine ⟨fun z=>?_,L.nd⟩
    obtain ⟨x,hx,e⟩:=Al z
    exact f1 x hx e
  · rcases Ak hx with rfl | hx
    · exact f2
    · exact L.own x hx
structure Chg (p:Addr) (H H':Hp):Prop where
  oth:∀ q o,H q=some o->q≠p->H' q=some o
  ts:dO H H'
theorem Chg.upd {u:HO} (h:H p=some u) (n:∀ xs,u≠.tup xs):Chg p H (upd H p o):=⟨fun q o e z=>by rw [az z];exact e,uy h n⟩
theorem Chg.trans {H1:Hp} (x:Chg p H H1) (y:Chg p H1 H'):Chg p H H':=⟨fun q o e n=>y.oth q o (x.oth q o e n) n,x.ts.trans y.ts⟩
theorem Led.set (L:Led P H0 H l fs) (m:Put p a b l l') (c:Chg p H H') (ho:∃ o,H' p=some o/\b.p H' o):Led P H0 H' l' fs:=by
  have own:=L.own _ m.mem
  refine ⟨fun x hx=>?_,by rw [m.keys];exact L.nd,fun x hx=>?_,fun q o h n=>?_,fun f hf=>f.mono c.ts (L.st f hf)⟩
  · rcases m.or' L.nd x hx with rfl | ⟨hx,n⟩
    · exact ho
    · obtain ⟨u,e,h⟩:=L.at_ x hx
      exact ⟨u,c.oth _ _ e n,x.2.mono c.ts h⟩
  · rcases m.or x hx with rfl | hx
    · exact own
    · exact L.own x hx
  · have:q≠p:=fun z=>by
      subst z
      rcases own with h1 | h1
      · exact n h1
      · rw [h] at h1;cases h1
    exact c.oth _ _ (L.fr q o h n) this
theorem Led.add (L:Led P H0 H l fs) (s:aN H H') (n:H p=none) (ho:∃ o,H' p=some o/\a.p H' o):Led P H0 H' ((p,a)::l) fs:=by
  have K:=L.keep s
  obtain ⟨f1,f2⟩:=L.fresh n
  refine ⟨fun x hx=>?_,?_,fun x hx=>?_,K.fr,K.st⟩
  · rcases Ak hx with rfl | hx
    · exact ho
    · exact K.at_ x hx
  · rw [List.map_cons,List.nodup_cons]
    refine ⟨fun z=>?_,L.nd⟩
    obtain ⟨x,hx,e⟩:=Al z
    exact f1 x hx e
  · rcases Ak hx with rfl | hx
    · exact f2
    · exact L.own x hx
end
abbrev St:=L2.St
def wC:R2:=fun x y H Q=>∃ i j:Str,x = .str i/\y = .str j/\i.length+j.length<=sizeLine/\Q (.str (i++j)) H
def wA:R2:=fun x y H Q=>∃ i j,x = .str i/\y = .str j/\Q (.bl (!(Builtin.Str.occurrences j i 0 j.length 1).isEmpty)) H
abbrev RL:=List V->Hp->VK->Prop
def wm:RL:=fun xs H Q=>∃ i j,xs=[.int i,.int j]/\Q (.int (if j > i then j else i)) H
def wk:RL:=fun xs H Q=>∃ i j,xs=[.int i,.int j]/\Q (.int (if j < i then j else i)) H
def wo (K:Ao):RL:=fun xs H Q=>∃ p ys,xs=[.ref p]/\(SqL K H p ys\/SqT K H p ys)/\Q (.int ys.length) H
def tV:RL:=fun xs H Q=>∃ z:Str,xs=[.str z]/\z.length<=sizeLine/\Q (.int z.length) H
section
variable {X:Cx}
theorem pZ:OpR X (binaryOp .Add) wC:=kX
theorem wK:OpR X (compareOp .In) wA:=nq
theorem um (hc:X.calm=true):bV X (.builtin "max") wm:=nY hc
theorem uh (hc:X.calm=true):bV X (.builtin "min") wk:=nX hc
theorem uo:bV X (.builtin "len") (wo X.K):=jj
theorem gj:bV X (.builtin "len") tV:=ji
end
def xC (xs:List V) (H:Hp) (Q:VK):Prop:=xs.length<=sizeLine/\∀ p,H p=none->Q (.ref p) (upd H p (.tup xs))
def xD (xs:List V) (H:Hp) (Q:VK):Prop:=xs.length<=sizeLine/\∀ p,H p=none->Q (.ref p) (upd H p (.lst xs))
def IsB (x:V) (H:Hp) (Q:Bool->Hp->Prop):Prop:=∃ k,x = .bl k/\Q k H
def Fld (K:Ao) (f:Str) (x:V) (H:Hp) (Q:VK):Prop:=∃ a C dx fs v,x = .ref a/\H a=some (.ins C dx fs)/\Cls K C/\bE K C f/\fs.lookup f=some v/\Q v H
section
variable {K:Ao} {σ : St} {H:Hp} {Q:VK} {D:Ends} {t u:TS} {ta tb te:TE} {tt tt':TT} {tl:TA} {v x y:V} {i:Nat} {B:Bool->Hp->Prop}
-- statements
theorem g_seq (h:t { D with nx:=u D } σ H):qR t u D σ H:=h
theorem yp (h:D.nx σ H):tQ D σ H:=h
theorem zb {g:TG} (h:te σ H fun x H1=>g x σ H1 D.nx):uC te g D σ H:=h
theorem yt (h:te σ H fun _ H1=>D.nx σ H1):tR te D σ H:=h
theorem yO (h:te σ H D.rt):vU te D σ H:=h
theorem zm (h:tt σ H fun b H1=>if b=true then t D σ H1 else u D σ H1):vY tt t u D σ H:=h
-- expressions
theorem w4 (e : σ[i]?=some (some v)) (h:Q v H):uz i σ H Q:=⟨v,e,h⟩
theorem g_c (h:Q v H):tC v σ H Q:=h
theorem zl {r:R2} (h:ta σ H fun x H1=>tb σ H1 fun y H2=>r x y H2 Q):tOp r ta tb σ H Q:=h
theorem yx (h:ta σ H fun x H1=>IsB x H1 fun c H1=>if c=true then tb σ H1 Q else Q (.bl false) H1):tS ta tb σ H Q:=h
theorem yQ (h:ta σ H fun x H1=>IsB x H1 fun c H1=>if c=true then Q (.bl true) H1 else tb σ H1 Q):vV ta tb σ H Q:=h
theorem yo (h:ta σ H fun x H1=>IsB x H1 fun c H1=>Q (.bl (!c)) H1):tP ta σ H Q:=h
theorem yN (h:tl σ H fun xs H1=>xC xs H1 Q):vS tl σ H Q:=h
theorem yX (h:tl σ H fun xs H1=>xD xs H1 Q):vX tl σ H Q:=h
theorem yS {W:List V->Hp->Prop} (h:W [] H):uA σ H W:=h
theorem yu {W:List V->Hp->Prop} (h:te σ H fun x H1=>tl σ H1 fun xs H2=>W (x::xs) H2):lS te tl σ H W:=h
theorem zo {r:List V->Hp->VK->Prop} (h:tl σ H fun vs H1=>r vs H1 Q):tCB r tl σ H Q:=h
theorem yw {sp:Sp} {E:XK} (h:tl σ H fun vs H1=>sp vs H1 Q E):oQ sp [] E tl σ H Q:=by
  have e:(fun (vs:List V) H1=>sp (vs++[]) H1 Q E)=fun vs H1=>sp vs H1 Q E:=by funext vs H1;rw [zV]
  show tl σ H (fun vs H1=>sp (vs++[]) H1 Q E)
  rw [e];exact h
def Made (C:Addr) (sp:Sp) (E:XK) (vs:List V) (H:Hp) (Q:VK):Prop:=∀ x dx,H x=none->H dx=none->dx≠x->sp (.ref x::vs) (upd (upd H dx (.own x)) x (.ins C dx [])) (fun v H2=>v = .non/\Q (.ref x) H2) E
theorem yq {C:Addr} {sp:Sp} {E:XK} (h:tl σ H fun vs H1=>Made C sp E vs H1 Q):oK C sp [] E tl σ H Q:=by
  have e:(fun (vs:List V) H1=>∀ x dx,H1 x=none->H1 dx=none->dx≠x->sp (.ref x::(vs++[])) (upd (upd H1 dx (.own x)) x (.ins C dx [])) (fun v H2=>v = .non/\Q (.ref x) H2) E)=fun vs H1=>Made C sp E vs H1 Q:=by
    funext vs H1;rw [zV];rfl
  show tl σ H (fun vs H1=>∀ x dx,H1 x=none->H1 dx=none->dx≠x->sp (.ref x::(vs++[])) (upd (upd H1 dx (.own x)) x (.ins C dx [])) (fun v H2=>v = .non/\Q (.ref x) H2) E)
  rw [e];exact h
def yF (K:Ao) (f:Str) (y x:V) (H:Hp) (R:Hp->Prop):Prop:=∃ a C dx fs,x = .ref a/\H a=some (.ins C dx fs)/\Cls K C/\bE K C f/\fs.length < 1000/\R (upd H a (.ins C dx (cj f y fs)))
theorem yh {f:Str} (h:tb σ H fun y H1=>ta σ H1 fun x H2=>yF K f y x H2 fun H3=>D.nx σ H3):v9 K ta tb f D σ H:=h
theorem y9 {f:Str} (h:ta σ H fun x H1=>Fld K f x H1 Q):v5 K ta f σ H Q:=h
theorem zp {T:String} {r:V->List V->Hp->VK->Prop} (h:ta σ H fun x H1=>tyV K T x H1/\tl σ H1 fun xs H2=>r x xs H2 Q):tBM K T r ta tl σ H Q:=h
theorem zj {r:V->Option Int->Option Int->Hp->VK->Prop} {a b:TO} (h:te σ H fun x H1=>a σ H1 fun l H2=>b σ H2 fun u H3=>r x l u H3 Q):tSl r te a b σ H Q:=h
theorem xg {W:Option Int->Hp->Prop} (h:W none H):lR σ H W:=h
def Prt (x:V) (H:Hp) (W:Option Int->Hp->Prop):Prop:=∃ i,x = .int i/\W (some i) H
theorem yk {W:Option Int->Hp->Prop} (h:te σ H fun x H1=>Prt x H1 W):tO te σ H W:=h
-- tests
theorem g_b (h:te σ H fun x H1=>IsB x H1 B):tB te σ H B:=h
theorem yf (h:te σ H fun x H1=>IsB x H1 B):tN te σ H B:=h
theorem zk (h:tt σ H fun c H1=>if c=true then B true H1 else tt' σ H1 B):tOr tt tt' σ H B:=h
theorem yR (h:tt σ H fun c H1=>B (!c) H1):vW tt σ H B:=h
theorem yY {k:Bool} (h:B k H):IsB (.bl k) H B:=⟨k,rfl,h⟩
-- values
theorem yP {g:Int->Int->V} {i j:Int} (h:Q (g i j) H):rI0 g (.int i) (.int j) H Q:=⟨i,j,rfl,rfl,h⟩
theorem yj {C:Int->Int->Prop} {g:Int->Int->V} {i j:Int} (c:C i j) (h:Q (g i j) H):rI C g (.int i) (.int j) H Q:=⟨i,j,rfl,rfl,c,h⟩
theorem za {i j:Int} (h:Q (.bl (decide (i=j))) H):rEq (.int i) (.int j) H Q:=⟨rfl,by
  have e:decide (V.int i=V.int j)=decide (i=j):=by
    by_cases z:i=j
    · subst z;simp
    · rw [zX z,zX fun w=>z (V.int.inj w)]
  rw [e];exact h⟩
theorem yU {i j:Int} (h:Q (.bl (!decide (i=j))) H):rNe (.int i) (.int j) H Q:=⟨rfl,by
  have e:decide (V.int i=V.int j)=decide (i=j):=by
    by_cases z:i=j
    · subst z;simp
    · rw [zX z,zX fun w=>z (V.int.inj w)]
  rw [e];exact h⟩
theorem yT {i j:Str} (h:Q (.bl (!decide (i=j))) H):rNe (.str i) (.str j) H Q:=⟨rfl,by
  have e:decide (V.str i=V.str j)=decide (i=j):=by
    by_cases z:i=j
    · subst z;simp
    · rw [zX z,zX fun w=>z (V.str.inj w)]
  rw [e];exact h⟩
-- branches
theorem xh {A B:Prop} (h:A):if true=true then A else B:=by rw [if_pos rfl];exact h
theorem xj {A B:Prop} (h:B):if false=true then A else B:=by rw [if_neg zL];exact h
theorem f9 {p A B:Prop} [Decidable p] (h1:p->A) (h2:¬ p->B):if decide p=true then A else B:=by
  by_cases h:p
  · rw [if_pos (zY h)];exact h1 h
  · rw [if_neg (by rw [zX h];exact zL)];exact h2 h
theorem ud {p A B:Prop} [Decidable p] (h1:p->B) (h2:¬ p->A):if (!decide p)=true then A else B:=by
  by_cases h:p
  · rw [if_neg (by rw [zY h];exact zL)];exact h1 h
  · rw [if_pos (by rw [zX h];rfl)];exact h2 h
theorem vh {p A B:Prop} [Decidable p] (h:p) (b:B):if (!decide p)=true then A else B:=by rw [if_neg (by rw [zY h];exact zL)];exact b
theorem xP {A B:Prop} (h:B):if (!true)=true then A else B:=xj h
theorem xQ {A B:Prop} (h:A):if (!false)=true then A else B:=xh h
-- sizes of things,text
theorem xO {W:Option Int->Hp->Prop} {j:Int} (h:W (some j) H):Prt (.int j) H W:=⟨j,rfl,h⟩
end
theorem lk_hit {f:Str} {v:V} {r:List (Str×V)}:List.lookup f ((f,v)::r)=some v:=by simp
theorem lk_miss {f g:Str} {v:V} {r:List (Str×V)} (h:(f == g)=false):List.lookup f ((g,v)::r)=List.lookup f r:=by simp only [List.lookup_cons,h]
section
variable {K:Ao} {P:Addr->Prop} {H0 H H':Hp} {l l':List (Addr×Ob)} {fs:List Pr} {p:Addr} {a b:Ob} {o:HO} {Q:VK} {xs:List V} {v:V} {i:Int}
-- what the ledger knows
theorem vd (L:Led P H0 H l fs) (hz:xs.length<=sizeLine) (h:∀ p H',H p=none->Led P H0 H' l (eE p xs::fs)->aN H H'->Q (.ref p) H'):xC xs H Q:=
  ⟨hz,fun p hp=>h p _ hp (L.xX hp) (bJ hp)⟩
theorem ve (L:Led P H0 H l fs) (hz:xs.length<=sizeLine) (h:∀ p H',H p=none->Led P H0 H' ((p,Eo (.lst xs))::l) fs->aN H H'->Q (.ref p) H'):xD xs H Q:=
  ⟨hz,fun p hp=>h p _ hp (L.rS hp rfl) (bJ hp)⟩
theorem uc (L:Led P H0 H l fs) (m:Put p (Eo (.lst xs)) (Eo (.lst xs)) l l') (e:atI xs i=some v) (h:Q v H):wz K (.ref p) (.int i) H Q:=⟨p,xs,i,v,rfl,rfl,SqL.of (L.eo m),e,h⟩
theorem qo (L:Led P H0 H l fs) (m:Put p (Eo (.lst xs)) (Eo (.lst (xs++[v]))) l l') (hz:xs.length < sizeLine) (h:∀ H',Led P H0 H' l' fs->Chg p H H'->Q .non H'):lZ (.ref p) [v] H Q:=by
  obtain ⟨o,ho,hp⟩:=L.at_ _ m.mem
  have hp':o = .lst xs:=hp
  subst hp'
  have c:Chg p H (upd H p (.lst (xs++[v]))):=Chg.upd ho fun _ z=>by cases z
  exact ⟨p,xs,v,rfl,rfl,ho,hz,h _ (L.set m c ⟨_,av,rfl⟩) c⟩
theorem w5 {R:Prop} (hs:SqL K H p xs) (h:R):tyV K "list" (.ref p) H/\R:=⟨.inl ⟨rfl,_,hs⟩,h⟩
theorem yM {R:Prop} {z:Str} (h:R):tyV K "str" (.str z) H/\R:=⟨rfl,h⟩
theorem vj {n:Nat} {t:TGs} {σ : St} {R:St->Hp->Prop} (L:Led P H0 H l fs) (m:eE p xs∈fs) (e:xs.length=n) (h:t xs σ H R):sG K n t (.ref p) σ H R:=⟨p,xs,rfl,SqT.of (L.tup m),e,h⟩
theorem xR {t:TG} {u:TGs} {σ : St} {R:St->Hp->Prop} (h:t v σ H fun σ' H'=>u xs σ' H' R):eK t u (v::xs) σ H R:=⟨v,xs,rfl,h⟩
theorem yr {σ : St} {R:St->Hp->Prop} (h:R σ H):sH [] σ H R:=⟨rfl,h⟩
end
def tG (J:It) (g:TG) (tb:TS) (D:Ends) (σ : St) (H:Hp):Prop:=∃ W:Nat->Nat->St->Hp->Prop,(∃ m,W 0 m σ H)/\∀ i m σ H,W i m σ H ->
  (J.stop i H/\D.nx σ H)\/(J.go i H/\∃ N:St->Hp->Prop,(∀ σ' H',N σ' H'->∃ m',m' < m/\W (i+1) m' σ' H')/\∀ x H',J.yld i H x H'->g x σ H' fun σ2 H2=>tb { D with nx:=N,ct:=N,bk:=D.nx } σ2 H2)
def xA (vs:List V) (H:Hp) (R:It->Hp->Prop):Prop:=∃ i j:Int,vs=[.int i,.int j]/\(-(2 ^ 62)<=i/\i < 2 ^ 62/\-(2 ^ 62)<=j/\j < 2 ^ 62)/\R (Itr i (j - i).toNat) H
def WkL (K:Ao) (x:V) (H:Hp) (R:It->Hp->Prop):Prop:=∃ a,x = .ref a/\(∃ xs,SqL K H a xs)/\R (Itl K a) H
def qK (J:It) (Q:VK) (σb:St) (g:TG) (tc:TT) (te:TE) (H:Hp):Prop:=∃ W:Nat->Nat->List V->Hp->Prop,(∃ m,W 0 m [] H)/\mW J W (fun ys H=>∀ p,H p=none->Q (.ref p) (upd H p (.lst ys))) σb g tc te
section
variable {K:Ao} {σ : St} {H:Hp} {Q:VK} {D:Ends} {wi:TI} {g:TG} {tb:TS} {ta:TE} {tl:TA} {R:It->Hp->Prop} {tc:TT} {te:TE}
theorem yZ (h:wi σ H fun J H1=>tG J g tb D σ H1):vZ wi g tb D σ H:=h
theorem yi (h:tl σ H fun vs H1=>xA vs H1 R):t6 tl σ H R:=h
theorem yL (h:ta σ H fun x H1=>WkL K x H1 R):t7 K ta σ H R:=h
theorem sC {i j:Int} (b:(-(2 ^ 62)<=i/\i < 2 ^ 62)/\-(2 ^ 62)<=j/\j < 2 ^ 62) (h:R (Itr i (j - i).toNat) H):xA [.int i,.int j] H R:=⟨i,j,rfl,⟨b.1.1,b.1.2,b.2.1,b.2.2⟩,h⟩
theorem f6 {a:Addr} {xs:List V} (s:SqL K H a xs) (h:R (Itl K a) H):WkL K (.ref a) H R:=⟨a,rfl,⟨xs,s⟩,h⟩
theorem vn {lo:Int} {n:Nat} (Pv:Nat->St->Hp->Prop) (h0:Pv 0 σ H) (hs:∀ i σ H,i < n->Pv i σ H->g (.int (lo+i)) σ H fun σ2 H2=>tb { D with nx:=Pv (i+1),ct:=Pv (i+1),bk:=D.nx } σ2 H2)
    (hd:∀ σ H,Pv n σ H->D.nx σ H):tG (Itr lo n) g tb D σ H:=ig Pv h0 hs hd
theorem yv {own:Nat} {cap:List Nat} (h:wi σ H fun J H1=>qK J Q (lH own cap σ) g tc te H1):lT wi own cap g tc te σ H Q:=h
theorem xS {i own:Nat} {cap:List Nat} (h:lT wi own cap g tc te σ H fun v H1=>D.nx (σ.set i (some v)) H1):oO i wi own cap g tc te D σ H:=h
theorem fC {a:Addr} (xs:List V) {σb:St} (Pv:Nat->List V->Hp->Prop) (h0:Pv 0 [] H) (hl:∀ i ys H,i<=xs.length->Pv i ys H->SqL K H a xs/\ys.length<=sizeLine)
    (hs:∀ i x ys H,xs[i]?=some x->Pv i ys H->g x σb H fun σ2 H2=>tc σ2 H2 fun b H3=>if b=true then te σ2 H3 fun y H4=>Pv (i+1) (ys++[y]) H4 else Pv (i+1) ys H3) (hd:∀ ys H,Pv xs.length ys H->∀ p,H p=none->Q (.ref p) (upd H p (.lst ys))) :
    qK (Itl K a) Q σb g tc te H:=nU (xs:=xs) Pv h0 hl hs hd
theorem yg {B:Bool->Hp->Prop} (h:B true H):v7 σ H B:=h
-- builtins
theorem yW {a b:Int} (h:Q (.int (max a b)) H):wm [V.int a,V.int b] H Q:=⟨a,b,rfl,by
  have e:(if b > a then b else a)=max a b:=by omega
  rw [e];exact h⟩
theorem yV {a b:Int} (h:Q (.int (min a b)) H):wk [V.int a,V.int b] H Q:=⟨a,b,rfl,by
  have e:(if b < a then b else a)=min a b:=by omega
  rw [e];exact h⟩
theorem qk {z:Str} (hz:z.length<=sizeLine) (h:Q (.int z.length) H):tV [V.str z] H Q:=⟨z,rfl,hz,h⟩
theorem vf {P:Addr->Prop} {H0:Hp} {l:List (Addr×Ob)} {fs:List Pr} {a:Addr} {ns:List Int} (L:Led P H0 H l fs) (s:SqL K H0 a (ns.map V.int)) (n:¬ P a) (h:Q (.int ns.length) H):wo K [V.ref a] H Q:=
  ⟨a,ns.map V.int,rfl,.inl (by
    rcases s with (s | ⟨o,s⟩) | s
    · exact .inl (.inl (L.fr _ _ s n))
    · exact .inl (.inr ⟨o,L.fr _ _ s n⟩)
    · exact .inr s),by rw [zS];exact h⟩
theorem Led.seq {P:Addr->Prop} {H0:Hp} {l:List (Addr×Ob)} {fs:List Pr} {a:Addr} {xs:List V} (L:Led P H0 H l fs) (s:SqL K H0 a xs) (n:¬ P a):SqL K H a xs:=by
  rcases s with (s | ⟨o,s⟩) | s
  · exact .inl (.inl (L.fr _ _ s n))
  · exact .inl (.inr ⟨o,L.fr _ _ s n⟩)
  · exact .inr s
theorem ua {z:Str} {i:Int} {c:Nat} (hz:z.length<=sizeLine) (e:atI z.cps.toList i=some c) (h:Q (.str ⟨#[c]⟩) H):wu (.str z) (.int i) H Q:=⟨z,i,c,rfl,rfl,hz,e,h⟩
end
inductive Dt where
  | non | bl (b:Bool) | int (i:Int) | str (x:Str) | tup (ds:List Dt) | lst (ds:List Dt)
mutual
def eqD:Dt->Dt->Bool
  | .non,.non=>true
  | .bl a,.bl b=>a == b
  | .bl a,.int b=>(if a then 1 else 0) == b
  | .int a,.bl b=>a == (if b then 1 else 0)
  | .int a,.int b=>a == b
  | .str a,.str b=>a == b
  | .tup a,.tup b=>c8 a b
  | .lst a,.lst b=>c8 a b
  | _,_=>false
def c8:List Dt->List Dt->Bool
  | [],[]=>true
  | x::xs,y::ys=>eqD x y && c8 xs ys
  | _,_=>false
end
mutual
def dep:Dt->Nat
  | .tup ds=>deps ds+1
  | .lst ds=>deps ds+1
  | _=>0
def deps:List Dt->Nat
  | []=>0
  | d::ds=>max (dep d) (deps ds)
end
theorem cV:∀ {ds:List Dt} {d:Dt},d∈ds->dep d<=deps ds
  | [],_,h=>by simp at h
  | x::ds,d,h=>by
    rw [deps]
    rcases Ak h with rfl | h
    · exact Nat.le_max_left _ _
    · exact z6 (cV h) (Nat.le_max_right _ _)
mutual
theorem b9:∀ d:Dt,eqD d d=true
  | .non=>by rw [eqD]
  | .bl b=>by rw [eqD];exact beq_self_eq_true b
  | .int i=>by rw [eqD];exact beq_self_eq_true i
  | .str x=>by rw [eqD];exact beq_self_eq_true x
  | .tup ds=>by rw [eqD];exact eB ds
  | .lst ds=>by rw [eqD];exact eB ds
theorem eB:∀ ds:List Dt,c8 ds ds=true
  | []=>by rw [c8]
  | d::ds=>by rw [c8,b9 d,eB ds];rfl
end
theorem bT:∀ (ds es:List Dt),((List.range (min ds.length es.length)).all (fun j=>eqD (ds.getD j .non) (es.getD j .non)) && ds.length == es.length)=c8 ds es
  | [],[]=>by rw [c8];rfl
  | [],_::_=>by simp [c8]
  | _::_,[]=>by simp [c8]
  | d::ds,e::es=>by
    have ih:=bT ds es
    rw [c8,<- ih]
    have h1:min (d::ds).length (e::es).length=min ds.length es.length+1:=by simp only [zP];omega
    rw [h1,List.range_succ_eq_map,List.all_cons,List.all_map]
    have h2:((d::ds).length == (e::es).length)=(ds.length == es.length):=by
      rw [Bool.eq_iff_iff];simp
    rw [h2,Bool.and_assoc]
    rfl
theorem ir:∀ {ds es:List Dt},ds.length≠es.length->c8 ds es=false:=fun {ds es} h=>by
  rw [<- bT,show (ds.length == es.length)=false from by simpa using h,Bool.and_false]
mutual
inductive At (K:Ao) (H:Hp):V->Dt->Prop
  | non:At K H .non .non
  | bl (b:Bool):At K H (.bl b) (.bl b)
  | int (i:Int):At K H (.int i) (.int i)
  | str (x:Str):At K H (.str x) (.str x)
  | tup {a:Addr} {xs:List V} {ds:List Dt} (h:SqT K H a xs) (r:Ats K H xs ds):At K H (.ref a) (.tup ds)
  | lst {a:Addr} {xs:List V} {ds:List Dt} (h:SqL K H a xs) (r:Ats K H xs ds):At K H (.ref a) (.lst ds)
inductive Ats (K:Ao) (H:Hp):List V->List Dt->Prop
  | nil:Ats K H [] []
  | cons {x:V} {d:Dt} {xs:List V} {ds:List Dt} (h:At K H x d) (r:Ats K H xs ds):Ats K H (x::xs) (d::ds)
end
theorem Ats.len {K:Ao} {H:Hp}:∀ {xs:List V} {ds:List Dt},Ats K H xs ds->xs.length=ds.length
  | _,_,.nil=>rfl
  | _,_,.cons _ r=>by rw [zP,zP,r.len]
theorem Ats.get {K:Ao} {H:Hp}:∀ {xs:List V} {ds:List Dt} {j:Nat} {x:V},Ats K H xs ds->xs[j]?=some x->∃ d,ds[j]?=some d/\At K H x d
  | _,_,_,_,.nil,e=>by simp at e
  | _,_,0,_,.cons h _,e=>by simp at e;subst e;exact ⟨_,rfl,h⟩
  | _,_,j+1,x,.cons _ r,e=>by
    obtain ⟨d,h1,h2⟩:=Ats.get (j:=j) (x:=x) r (by simpa using e)
    exact ⟨d,by simpa using h1,h2⟩
section
variable {X:Cx} {pins:List (Addr×Obj)} {σ : St} {H:Hp} {s:Shared}
mutual
theorem At.inj (I:Inv X pins σ H s) {x:V}:∀ {d e:Dt},At X.K H x d->At X.K H x e->d=e
  | _,_,.non,h=>by cases h;rfl
  | _,_,.bl _,h=>by cases h;rfl
  | _,_,.int _,h=>by cases h;rfl
  | _,_,.str _,h=>by cases h;rfl
  | _,_,.tup h r,g=>by
    cases g with
    | tup h' r'=>
      have e:=I.dQ h h'
      subst e
      rw [Ats.inj I r r']
    | lst h' r'=>
      obtain ⟨_,_,⟨o,e,c,_⟩,_⟩:=I.tuple h
      obtain ⟨_,_,⟨o',n',e',c',_⟩,_⟩:=I.list h'
      rw [e] at e';cases e'
      rw [c] at c';injection c' with z;exact absurd z (by decide)
  | _,_,.lst h r,g=>by
    cases g with
    | lst h' r'=>
      have e:=I.dm h h'
      subst e
      rw [Ats.inj I r r']
    | tup h' r'=>
      obtain ⟨_,_,⟨o,e,c,_⟩,_⟩:=I.tuple h'
      obtain ⟨_,_,⟨o',n',e',c',_⟩,_⟩:=I.list h
      rw [e] at e';cases e'
      rw [c] at c';injection c' with z;exact absurd z (by decide)
theorem Ats.inj (I:Inv X pins σ H s) {xs:List V}:∀ {ds es:List Dt},Ats X.K H xs ds->Ats X.K H xs es->ds=es
  | _,_,.nil,h=>by cases h;rfl
  | _,_,.cons h r,g=>by
    cases g with
    | cons h' r'=>rw [At.inj I h h',Ats.inj I r r']
end
end
theorem uI {A:Around} {s:Shared} {y x:V} {u v:Value} (ry:RelV y u) (rx:RelV x v) (fy:bS y=true) (fx:bS x=true):SeqAt.RcNeAt A s u v (!eqV y x):=by
  cases y with
  | non=>
    cases ry
    cases x with
    | non=>cases rx;exact SeqAt.RcNeAt.none_none
    | bl b=>cases rx;exact SeqAt.RcNeAt.none_bool b
    | int b=>obtain ⟨t,rfl⟩:=rx;exact SeqAt.RcNeAt.none_int b t
    | str b=>obtain ⟨t,rfl⟩:=rx;exact SeqAt.RcNeAt.none_str b t
    | _=>exact absurd (show false=true from fx) zL
  | bl a=>
    cases ry
    cases x with
    | non=>cases rx;exact SeqAt.RcNeAt.bool_none a
    | bl b=>cases rx;exact SeqAt.RcNeAt.bool_bool a b
    | int b=>obtain ⟨t,rfl⟩:=rx;exact SeqAt.RcNeAt.bool_int a b t
    | str b=>obtain ⟨t,rfl⟩:=rx;exact SeqAt.RcNeAt.bool_str a b t
    | _=>exact absurd (show false=true from fx) zL
  | int a=>
    obtain ⟨t',rfl⟩:=ry
    cases x with
    | non=>cases rx;exact SeqAt.RcNeAt.int_none a t'
    | bl b=>cases rx;exact SeqAt.RcNeAt.int_bool a t' b
    | int b=>obtain ⟨t,rfl⟩:=rx;exact SeqAt.RcNeAt.int_int a t' b t
    | str b=>obtain ⟨t,rfl⟩:=rx;exact SeqAt.RcNeAt.int_str a t' b t
    | _=>exact absurd (show false=true from fx) zL
  | str a=>
    obtain ⟨t',rfl⟩:=ry
    cases x with
    | non=>cases rx;exact SeqAt.RcNeAt.str_none a t'
    | bl b=>cases rx;exact SeqAt.RcNeAt.str_bool a t' b
    | int b=>obtain ⟨t,rfl⟩:=rx;exact SeqAt.RcNeAt.str_int a t' b t
    | str b=>obtain ⟨t,rfl⟩:=rx;exact SeqAt.RcNeAt.str_str a t' b t
    | _=>exact absurd (show false=true from fx) zL
  | _=>exact absurd (show false=true from fy) zL
theorem bM {A:Around} {s:Shared} {x:V} {u:Value} {a:Addr} {its:Array Value} (rx:RelV x u) (fx:bS x=true) (h:s.heap.IsTuple a its) (hu:A.units < cLine):SeqAt.EqAt A s u (.ref a) false:=by
  cases x with
  | non=>cases rx;exact SeqAt.EqAt.none_tuple h hu
  | bl b=>cases rx;exact SeqAt.EqAt.bool_tuple b h hu
  | int b=>obtain ⟨t,rfl⟩:=rx;exact SeqAt.EqAt.int_tuple b t h hu
  | str b=>obtain ⟨t,rfl⟩:=rx;exact SeqAt.EqAt.str_tuple b t h hu
  | _=>exact absurd (show false=true from fx) zL
theorem cY {A:Around} {s:Shared} {x:V} {u:Value} {a:Addr} {its:Array Value} (rx:RelV x u) (fx:bS x=true) (h:s.heap.IsTuple a its) (hu:A.units < cLine):SeqAt.EqAt A s (.ref a) u false:=by
  cases x with
  | non=>cases rx;exact SeqAt.EqAt.tuple_none h hu
  | bl b=>cases rx;exact SeqAt.EqAt.tuple_bool b h hu
  | int b=>obtain ⟨t,rfl⟩:=rx;exact SeqAt.EqAt.tuple_int b t h hu
  | str b=>obtain ⟨t,rfl⟩:=rx;exact SeqAt.EqAt.tuple_str b t h hu
  | _=>exact absurd (show false=true from fx) zL
theorem dG {A:Around} {s:Shared} {x:V} {u:Value} {a:Addr} {its:Array Value} (rx:RelV x u) (fx:bS x=true) (h:s.heap.IsList a its) (hu:A.units < cLine):SeqAt.EqAt A s u (.ref a) false:=by
  cases x with
  | non=>cases rx;exact SeqAt.EqAt.none_list h hu
  | bl b=>cases rx;exact SeqAt.EqAt.bool_list b h hu
  | int b=>obtain ⟨t,rfl⟩:=rx;exact SeqAt.EqAt.int_list b t h hu
  | str b=>obtain ⟨t,rfl⟩:=rx;exact SeqAt.EqAt.str_list b t h hu
  | _=>exact absurd (show false=true from fx) zL
theorem je {A:Around} {s:Shared} {x:V} {u:Value} {a:Addr} {its:Array Value} (rx:RelV x u) (fx:bS x=true) (h:s.heap.IsList a its) (hu:A.units < cLine):SeqAt.EqAt A s (.ref a) u false:=by
  cases x with
  | non=>cases rx;exact SeqAt.EqAt.list_none h hu
  | bl b=>cases rx;exact SeqAt.EqAt.list_bool b h hu
  | int b=>obtain ⟨t,rfl⟩:=rx;exact SeqAt.EqAt.list_int b t h hu
  | str b=>obtain ⟨t,rfl⟩:=rx;exact SeqAt.EqAt.list_str b t h hu
  | _=>exact absurd (show false=true from fx) zL
theorem gv {A:Around} {s:Shared} {x:V} {u:Value} {a:Addr} {its:Array Value} (rx:RelV x u) (fx:bS x=true) (h:s.heap.IsTuple a its) (hu:A.units < cLine):SeqAt.RcNeAt A s u (.ref a) true:=by
  cases x with
  | non=>cases rx;exact SeqAt.RcNeAt.none_tuple h hu
  | bl b=>cases rx;exact SeqAt.RcNeAt.bool_tuple b h hu
  | int b=>obtain ⟨t,rfl⟩:=rx;exact SeqAt.RcNeAt.int_tuple b t h hu
  | str b=>obtain ⟨t,rfl⟩:=rx;exact SeqAt.RcNeAt.str_tuple b t h hu
  | _=>exact absurd (show false=true from fx) zL
theorem gu {A:Around} {s:Shared} {x:V} {u:Value} {a:Addr} {its:Array Value} (rx:RelV x u) (fx:bS x=true) (h:s.heap.IsTuple a its) (hu:A.units < cLine):SeqAt.RcNeAt A s (.ref a) u true:=by
  cases x with
  | non=>cases rx;exact SeqAt.RcNeAt.tuple_none h hu
  | bl b=>cases rx;exact SeqAt.RcNeAt.tuple_bool b h hu
  | int b=>obtain ⟨t,rfl⟩:=rx;exact SeqAt.RcNeAt.tuple_int b t h hu
  | str b=>obtain ⟨t,rfl⟩:=rx;exact SeqAt.RcNeAt.tuple_str b t h hu
  | _=>exact absurd (show false=true from fx) zL
theorem iP {A:Around} {s:Shared} {x:V} {u:Value} {a:Addr} {its:Array Value} (rx:RelV x u) (fx:bS x=true) (h:s.heap.IsList a its) (hu:A.units < cLine):SeqAt.RcNeAt A s u (.ref a) true:=by
  cases x with
  | non=>cases rx;exact SeqAt.RcNeAt.none_list h hu
  | bl b=>cases rx;exact SeqAt.RcNeAt.bool_list b h hu
  | int b=>obtain ⟨t,rfl⟩:=rx;exact SeqAt.RcNeAt.int_list b t h hu
  | str b=>obtain ⟨t,rfl⟩:=rx;exact SeqAt.RcNeAt.str_list b t h hu
  | _=>exact absurd (show false=true from fx) zL
theorem iO {A:Around} {s:Shared} {x:V} {u:Value} {a:Addr} {its:Array Value} (rx:RelV x u) (fx:bS x=true) (h:s.heap.IsList a its) (hu:A.units < cLine):SeqAt.RcNeAt A s (.ref a) u true:=by
  cases x with
  | non=>cases rx;exact SeqAt.RcNeAt.list_none h hu
  | bl b=>cases rx;exact SeqAt.RcNeAt.list_bool b h hu
  | int b=>obtain ⟨t,rfl⟩:=rx;exact SeqAt.RcNeAt.list_int b t h hu
  | str b=>obtain ⟨t,rfl⟩:=rx;exact SeqAt.RcNeAt.list_str b t h hu
  | _=>exact absurd (show false=true from fx) zL
inductive Top (K:Ao) (H:Hp) (x:V) (d:Dt):Prop
  | flat (f:bS x=true) (h:∀ y e,At K H y e->bS y=true->eqV x y=eqD d e) (h1:∀ es,eqD d (.tup es)=false/\eqD (.tup es) d=false/\eqD d (.lst es)=false/\eqD (.lst es) d=false)
  | tup (a:Addr) (xs:List V) (ds:List Dt) (e1:x = .ref a) (e2:d = .tup ds) (h:SqT K H a xs) (r:Ats K H xs ds)
  | lst (a:Addr) (xs:List V) (ds:List Dt) (e1:x = .ref a) (e2:d = .lst ds) (h:SqL K H a xs) (r:Ats K H xs ds)
theorem At.top {K:Ao} {H:Hp} {x:V} {d:Dt} (h:At K H x d):Top K H x d:=by
  cases h with
  | tup h r=>exact .tup _ _ _ rfl rfl h r
  | lst h r=>exact .lst _ _ _ rfl rfl h r
  | _=>exact .flat rfl (fun y e g f=>by cases g <;> first | (exact absurd f zL) | (simp only [eqV,eqD])) (fun es=>by simp [eqD])
theorem dD {X:Cx} {H:Hp} {xs ys:List V} {ds es:List Dt} {us vs:List Value} {C:Value->Value->Bool->Prop} (h:∀ x y d e u v,d∈ds->At X.K H x d->At X.K H y e->RelV x u->RelV y v->C u v (eqD d e))
    (r:Ats X.K H xs ds) (r':Ats X.K H ys es) (rv:Vals xs us) (rv':Vals ys vs):∀ j (h1:j < us.toArray.size) (h2:j < vs.toArray.size),C us.toArray[j] vs.toArray[j] (eqD (ds.getD j .non) (es.getD j .non)):=fun j h1 h2=>by
  have l1:j < xs.length:=by rw [rv.length];simpa using h1
  have l2:j < ys.length:=by rw [rv'.length];simpa using h2
  obtain ⟨u,e1,q1⟩:=rv.get (zD l1)
  obtain ⟨v,e2,q2⟩:=rv'.get (zD l2)
  obtain ⟨d,e3,q3⟩:=r.get (zD l1)
  obtain ⟨e,e4,q4⟩:=r'.get (zD l2)
  have a1:us.toArray[j]=u:=by
    have:=Ah e1
    obtain ⟨_,z⟩:=this
    simpa using z
  have a2:vs.toArray[j]=v:=by
    obtain ⟨_,z⟩:=Ah e2
    simpa using z
  rw [a1,a2,List.getD_eq_getElem?_getD,List.getD_eq_getElem?_getD,e3,e4]
  exact h _ _ _ _ _ _ (zG e3) q3 q4 q1 q2
theorem ug {X:Cx} {pins:List (Addr×Obj)} {σ : St} {H:Hp} {s:Shared} (I:Inv X pins σ H s):∀ (n:Nat) {x y:V} {d e:Dt} {u v:Value},dep d<=n->At X.K H x d->At X.K H y e->RelV x u->RelV y v->∀ A:Around,A.units+n < cLine->SeqAt.EqAt A s u v (eqD d e):=by
  intro n
  induction n with
  | zero=>
    intro x y d e u v hd hx hy rx ry A hA
    rcases hx.top with ⟨f,h,h1⟩ | ⟨a,xs,ds,rfl,rfl,h,r⟩ | ⟨a,xs,ds,rfl,rfl,h,r⟩
    · rcases hy.top with ⟨f',h',h1'⟩ | ⟨b,ys,es,rfl,rfl,h',r'⟩ | ⟨b,ys,es,rfl,rfl,h',r'⟩
      · rw [<- h y e hy f'];exact jf rx ry f f'
      · obtain ⟨its,rv,ht,_⟩:=I.tuple h'
        cases ry;rw [(h1 es).1];exact bM rx f ht (by omega)
      · obtain ⟨its,rv,ht,_⟩:=I.list h'
        cases ry;rw [(h1 es).2.2.1];exact dG rx f ht.isList (by omega)
    · simp [dep] at hd
    · simp [dep] at hd
  | succ n ih=>
    intro x y d e u v hd hx hy rx ry A hA
    have hu:A.units < cLine:=by omega
    rcases hx.top with ⟨f,h,h1⟩ | ⟨a,xs,ds,rfl,rfl,h,r⟩ | ⟨a,xs,ds,rfl,rfl,h,r⟩
    · rcases hy.top with ⟨f',h',h1'⟩ | ⟨b,ys,es,rfl,rfl,h',r'⟩ | ⟨b,ys,es,rfl,rfl,h',r'⟩
      · rw [<- h y e hy f'];exact jf rx ry f f'
      · obtain ⟨its,rv,ht,_⟩:=I.tuple h'
        cases ry;rw [(h1 es).1];exact bM rx f ht hu
      · obtain ⟨its,rv,ht,_⟩:=I.list h'
        cases ry;rw [(h1 es).2.2.1];exact dG rx f ht.isList hu
    · obtain ⟨its,rv,ht,_⟩:=I.tuple h
      cases rx
      rw [dep] at hd
      rcases hy.top with ⟨f',h',h1'⟩ | ⟨b,ys,es,rfl,rfl,h',r'⟩ | ⟨b,ys,es,rfl,rfl,h',r'⟩
      · rw [(h1' ds).2.1];exact cY ry f' ht hu
      · cases ry
        obtain ⟨its',rv',ht',_⟩:=I.tuple h'
        by_cases hab:a=b
        · subst hab
          have e:=I.dQ h h'
          subst e
          rw [Ats.inj I r r',b9]
          exact SeqAt.EqAt.same _
        · have q:=SeqAt.RcAt.tuples (A:=A) (e:=fun j=>eqD (ds.getD j .non) (es.getD j .non)) ht ht' hu (dD (C:=fun u v k=>SeqAt.EqAt A.in1 s u v k) (fun x y d e u v hm hx hy rx ry=>ih (z6 (cV hm) (by omega)) hx hy rx ry A.in1 (by show A.units+1+n < _;omega)) r r' rv rv')
          have l1:its.toArray.size=ds.length:=by rw [zN,<- rv.length,r.len]
          have l2:its'.toArray.size=es.length:=by rw [zN,<- rv'.length,r'.len]
          rw [l1,l2,bT] at q
          rw [eqD]
          exact SeqAt.EqAt.of_refs hab q
      · cases ry
        obtain ⟨its',rv',ht',_⟩:=I.list h'
        rw [show eqD (.tup ds) (.lst es)=false by simp [eqD]]
        exact SeqAt.EqAt.tuple_list ht ht'.isList hu
    · obtain ⟨its,rv,ht,_⟩:=I.list h
      cases rx
      rw [dep] at hd
      rcases hy.top with ⟨f',h',h1'⟩ | ⟨b,ys,es,rfl,rfl,h',r'⟩ | ⟨b,ys,es,rfl,rfl,h',r'⟩
      · rw [(h1' ds).2.2.2];exact je ry f' ht.isList hu
      · cases ry
        obtain ⟨its',rv',ht',_⟩:=I.tuple h'
        rw [show eqD (.lst ds) (.tup es)=false by simp [eqD]]
        exact SeqAt.EqAt.list_tuple ht.isList ht' hu
      · cases ry
        obtain ⟨its',rv',ht',_⟩:=I.list h'
        by_cases hab:a=b
        · subst hab
          have e:=I.dm h h'
          subst e
          rw [Ats.inj I r r',b9]
          exact SeqAt.EqAt.same _
        · refine SeqAt.EqAt.of_refs hab ?_
          have l1:its.toArray.size=ds.length:=by rw [zN,<- rv.length,r.len]
          have l2:its'.toArray.size=es.length:=by rw [zN,<- rv'.length,r'.len]
          rw [eqD]
          by_cases hl:ds.length=es.length
          · have q:=SeqAt.RcAt.lists (A:=A) (e:=fun j=>eqD (ds.getD j .non) (es.getD j .non)) ht.isList ht'.isList (by rw [l1,l2,hl]) hu (dD (C:=fun u v k=>SeqAt.EqAt A.in1 s u v k) (fun x y d e u v hm hx hy rx ry=>ih (z6 (cV hm) (by omega)) hx hy rx ry A.in1 (by show A.units+1+n < _;omega)) r r' rv rv')
            have z:=bT ds es
            rw [hl,Nat.min_self,beq_self_eq_true,Bool.and_true] at z
            rw [l1,hl,z] at q
            exact q
          · rw [ir hl]
            exact SeqAt.RcAt.lists_lengths ht.isList ht'.isList (by rw [l1,l2];simpa using hl) hu
theorem rf {X:Cx} {pins:List (Addr×Obj)} {σ : St} {H:Hp} {s:Shared} (I:Inv X pins σ H s) {n:Nat} {x y:V} {d e:Dt} {u v:Value} (hd:dep d<=n) (hx:At X.K H x d) (hy:At X.K H y e) (rx:RelV x u) (ry:RelV y v) (A:Around) (hA:A.units+1+n < cLine):SeqAt.RcNeAt A s u v (!eqD d e):=by
  have hu:A.units < cLine:=by omega
  rcases hx.top with ⟨f,h,h1⟩ | ⟨a,xs,ds,rfl,rfl,h,r⟩ | ⟨a,xs,ds,rfl,rfl,h,r⟩
  · rcases hy.top with ⟨f',h',h1'⟩ | ⟨b,ys,es,rfl,rfl,h',r'⟩ | ⟨b,ys,es,rfl,rfl,h',r'⟩
    · rw [<- h y e hy f'];exact uI rx ry f f'
    · obtain ⟨its,rv,ht,_⟩:=I.tuple h'
      cases ry;rw [(h1 es).1];exact gv rx f ht hu
    · obtain ⟨its,rv,ht,_⟩:=I.list h'
      cases ry;rw [(h1 es).2.2.1];exact iP rx f ht.isList hu
  · obtain ⟨its,rv,ht,_⟩:=I.tuple h
    cases rx
    rw [dep] at hd
    rcases hy.top with ⟨f',h',h1'⟩ | ⟨b,ys,es,rfl,rfl,h',r'⟩ | ⟨b,ys,es,rfl,rfl,h',r'⟩
    · rw [(h1' ds).2.1];exact gu ry f' ht hu
    · cases ry
      obtain ⟨its',rv',ht',_⟩:=I.tuple h'
      have q:=SeqAt.RcNeAt.tuples (A:=A) (e:=fun j=>eqD (ds.getD j .non) (es.getD j .non)) ht ht' hu (dD (C:=fun u v k=>SeqAt.EqAt A.in1 s u v k) (fun x y d e u v hm hx hy rx ry=>ug I n (z6 (cV hm) (by omega)) hx hy rx ry A.in1 (by show A.units+1+n < _;omega)) r r' rv rv')
      have l1:its.toArray.size=ds.length:=by rw [zN,<- rv.length,r.len]
      have l2:its'.toArray.size=es.length:=by rw [zN,<- rv'.length,r'.len]
      rw [l1,l2,bT] at q
      rw [eqD]
      exact q
    · cases ry
      obtain ⟨its',rv',ht',_⟩:=I.list h'
      rw [show eqD (.tup ds) (.lst es)=false by simp [eqD]]
      exact SeqAt.RcNeAt.tuple_list ht ht'.isList hu
  · obtain ⟨its,rv,ht,_⟩:=I.list h
    cases rx
    rw [dep] at hd
    rcases hy.top with ⟨f',h',h1'⟩ | ⟨b,ys,es,rfl,rfl,h',r'⟩ | ⟨b,ys,es,rfl,rfl,h',r'⟩
    · rw [(h1' ds).2.2.2];exact iO ry f' ht.isList hu
    · cases ry
      obtain ⟨its',rv',ht',_⟩:=I.tuple h'
      rw [show eqD (.lst ds) (.tup es)=false by simp [eqD]]
      exact SeqAt.RcNeAt.list_tuple ht.isList ht' hu
    · cases ry
      obtain ⟨its',rv',ht',_⟩:=I.list h'
      have l1:its.toArray.size=ds.length:=by rw [zN,<- rv.length,r.len]
      have l2:its'.toArray.size=es.length:=by rw [zN,<- rv'.length,r'.len]
      rw [eqD]
      by_cases hl:ds.length=es.length
      · have q:=SeqAt.RcNeAt.lists (A:=A) (e:=fun j=>eqD (ds.getD j .non) (es.getD j .non)) ht.isList ht'.isList (by rw [l1,l2,hl]) hu (dD (C:=fun u v k=>SeqAt.EqAt A.in1 s u v k) (fun x y d e u v hm hx hy rx ry=>ug I n (z6 (cV hm) (by omega)) hx hy rx ry A.in1 (by show A.units+1+n < _;omega)) r r' rv rv')
        have z:=bT ds es
        rw [hl,Nat.min_self,beq_self_eq_true,Bool.and_true] at z
        rw [l1,hl,z] at q
        exact q
      · rw [ir hl]
        exact SeqAt.RcNeAt.lists_lengths ht.isList ht'.isList (by rw [l1,l2];simpa using hl) hu
def wj (K:Ao):R2:=fun x y H Q=>∃ d e,At K H x d/\At K H y e/\dep d<=100/\Q (.bl (!eqD d e)) H
theorem iZ {X:Cx} (hr:bB 0 X.A):OpR X (compareOp .NotEq) (wj X.K):=by
  intro pins s σ H x y v u Q I rx ry h
  obtain ⟨d,e,hx,hy,hd,q⟩:=h
  exact rf I hd hx hy rx ry X.A (by have:=hr.un;omega) _ _ _ _ ⟨.bl _,H,I,rfl,q⟩
theorem f7 {K:Ao} {x y:V} {H:Hp} {Q:VK} {d:Dt} (hx:At K H x d) (hy:At K H y d) (hd:dep d<=100) (h:Q (.bl false) H):wj K x y H Q:=⟨d,d,hx,hy,hd,by rw [b9];exact h⟩
theorem ints_of:∀ {ns:List Int} {us:List Value},Vals (ns.map V.int) us->IntsAre us ns
  | [],_,.nil=>.nil
  | n::ns,_,.cons r t=>by
    obtain ⟨tk,rfl⟩:=r
    exact .cons n tk (ints_of t)
theorem b8:∀ {ns:List Int} {us:List Value},IntsAre us ns->Vals (ns.map V.int) us
  | _,_,.nil=>.nil
  | _,_,.cons n t r=>.cons ⟨t,rfl⟩ (b8 r)
theorem gE:∀ {ns:List Str} {us:List Value},StrsAre us ns->Vals (ns.map V.str) us
  | _,_,.nil=>.nil
  | _,_,.cons n t r=>.cons ⟨t,rfl⟩ (gE r)
def pq (K:Ao):RL:=fun xs H Q=>∃ (p:Addr) (ns:List Int),xs=[.ref p]/\SqL K H p (ns.map V.int)/\ns.length < 64/\∀ (l:Addr) (ms:List Int),H l=none->ms.Perm ns->ms.Pairwise (·<=·)->Q (.ref l) (upd H l (.lst (ms.map V.int)))
def pe (K:Ao):RL:=fun xs H Q=>∃ (p:Addr) (ns:List Str),xs=[.ref p]/\SqL K H p (ns.map V.str)/\ns.length < 64/\∀ (l:Addr) (ms:List Str),H l=none->ms.Perm ns->sortedS ms=true->Q (.ref l) (upd H l (.lst (ms.map V.str)))
section
variable {X:Cx}
theorem sU:bV X (.builtin "sorted") (pq X.K):=by
  intro pins s σ H xs us Q I r h
  obtain ⟨p,ns,rfl,hq,h64,q⟩:=h
  obtain ⟨u,rfl,rx⟩:=vals1 r
  cases rx
  obtain ⟨its,rv,pl,hz⟩:=I.list hq
  have hl:its.length=ns.length:=by rw [<- rv.length,zS]
  refine sorted_ints pl.isList (ints_of rv) (by omega) fun out ms a1 a2 a3=>?_
  obtain ⟨e,he⟩:=sortedAll_at s.heap its out
  have ro:=b8 a1
  have hz2:(ms.map V.int).length<=sizeLine:=by rw [zS,a2.length_eq];exact Aa (small1000 (by omega))
  refine ⟨.ref (s.heap.objs.size+1),_,I.laid (a:=s.heap.objs.size+1) (o:=.lst (ms.map V.int)) (t':=s.toks) (fun b o hb=>sortedAll_old hb) (Af _) ⟨hz2,out.toList,e,ro,?_⟩,rfl,q _ ms (I.hok.fresh (Af _)) a2 a3⟩
  rw [he]
theorem mQ:bV X (.builtin "sorted") (pe X.K):=by
  intro pins s σ H xs us Q I r h
  obtain ⟨p,ns,rfl,hq,h64,q⟩:=h
  obtain ⟨u,rfl,rx⟩:=vals1 r
  cases rx
  obtain ⟨its,rv,pl,hz⟩:=I.list hq
  have hl:its.length=ns.length:=by rw [<- rv.length,zS]
  refine sorted_strs pl.isList (lU rv) (by omega) fun out ms a1 a2 a3=>?_
  obtain ⟨e,he⟩:=sortedAll_at s.heap its out
  have ro:=gE a1
  have hz2:(ms.map V.str).length<=sizeLine:=by rw [zS,a2.length_eq];exact Aa (small1000 (by omega))
  refine ⟨.ref (s.heap.objs.size+1),_,I.laid (a:=s.heap.objs.size+1) (o:=.lst (ms.map V.str)) (t':=s.toks) (fun b o hb=>sortedAll_old hb) (Af _) ⟨hz2,out.toList,e,ro,?_⟩,rfl,q _ ms (I.hok.fresh (Af _)) a2 a3⟩
  rw [he]
end
def ZIt (k:Bool) (h:Heap) (i a:Addr) (n:Nat):Prop:=match k with | true=>h.IsListIter i a n | false=>h.IsTupleIter i a n
def ZSr (k:Bool) (h:Heap) (a:Addr) (xs:Array Value):Prop:=match k with | true=>h.IsList a xs | false=>h.IsTuple a xs
theorem ZIt.keep {k:Bool} {h h':Heap} {i a:Addr} {n:Nat} (x:ZIt k h i a n) (e:∀ o,h.get? i=some o->h'.get? i=some o):ZIt k h' i a n:=by
  cases k <;> (obtain ⟨o,ho,r⟩:=x;exact ⟨o,e o ho,r⟩)
theorem ZSr.keep {k:Bool} {h h':Heap} {a:Addr} {xs:Array Value} (x:ZSr k h a xs) (e:∀ o,h.get? a=some o->h'.get? a=some o):ZSr k h' a xs:=by
  cases k <;> (obtain ⟨o,ho,r⟩:=x;exact ⟨o,e o ho,r⟩)
theorem ZIt.ob {k:Bool} {h:Heap} {i a:Addr} {n:Nat} (x:ZIt k h i a n):∃ o vs,h.get? i=some o/\o.data = .fields vs/\(o.cls = .type "list_iterator" \/ o.cls = .type "tuple_iterator"):=by
  cases k
  · obtain ⟨o,ho,c,d⟩:=x;exact ⟨o,_,ho,d,.inr c⟩
  · obtain ⟨o,ho,c,d⟩:=x;exact ⟨o,_,ho,d,.inl c⟩
section
variable {prog:Program} {w:World} {A:Around} {E:Value->Shared->Prop} {s:Shared}
structure ZAp (z T O i j:Addr):Prop where
  nd:[z,T,O,i,j].Nodup
structure ZAt (k1 k2:Bool) (h:Heap) (z T O i j a b:Addr) (f:Value) (n:Nat):Prop where
  z:IsZip h z T O f
  t:IsPair h T (.ref i) (.ref j)
  o:∃ x y,IsPair h O x y
  i:ZIt k1 h i a n
  j:ZIt k2 h j b n
def uu (k:Bool):String:=match k with | true => "list_iterator" | false => "tuple_iterator"
theorem iF {k:Bool} {h:Heap} {i a:Addr} (e:h.get? i=some { cls:=.type (uu k),data:=.fields #[.ref a,.int 0 0] }):ZIt k h i a 0:=by
  cases k <;> exact ⟨_,e,rfl,rfl⟩
end
section
variable {X:Cx} {pins:List (Addr×Obj)} {σ : St} {H:Hp} {s:Shared} {h':Heap} {ch:List Addr}
theorem tM {t':Nat} (I:Inv X pins σ H s) (hf:∀ b∈ch,cP X pins H b) (k:∀ b o,b∉ch->s.heap.get? b=some o->h'.get? b=some o):Inv X pins σ H { s with heap:=h',toks:=t' }:=by
  have nit:∀ b u,H b=some u->b∉ch:=fun b u e z=>by rw [(hf b z).1] at e;cases e
  refine I.step (g':=s.gens) (d':=s.drawn) (ch:=ch) (fun b hb=>⟨(hf b hb).2.2.2.1,(hf b hb).2.1,(hf b hb).2.2.2.2.1,(hf b hb).2.2.2.2.2⟩) (fun b o _ _ hc e _=>k b o hc e) (fun b o _ _ hc e _=>⟨o.slots,k b o hc e⟩) (fun _ _ _ _ n=>n)
    (fun b o hc e=>⟨o,k b o hc e⟩) (fun _ _ e=>e) (fun _ _ _ e=>e) (fun b ps e=>⟨#[],by rw [e];simp⟩) (fun m hm=>?_) (fun b u e=>?_) I.bare
  · obtain ⟨o,es,ep,ho,r⟩:=hm
    exact ⟨o,es,ep,k _ o (fun z=>(hf _ z).2.1 rfl) ho,r⟩
  · exact (I.hok b u e).stay (fun c v hc q=>k c v (hc.elim (fun z=>z▸nit b u e) fun z=>nit c _ z) q) (fun _ q=>q) fun _ _ q=>q
theorem turnT {t':Nat} {T:Addr} {xs:List V} (I:Inv X pins σ H s) (hf:∀ b∈ch,cP X pins H b) (k:∀ b o,b∉ch->s.heap.get? b=some o->h'.get? b=some o) (hT:s.heap.objs.size<=T) (new:aS X.prog X.w (upd H T (.tup xs)) h' T (.tup xs)) :
    Inv X pins σ (upd H T (.tup xs)) { s with heap:=h',toks:=t' }:=by
  have nT:=I.hok.fresh hT
  have neT:∀ b o,s.heap.get? b=some o->b≠T:=fun b o e=>Ab (zM (Heap.lt_size e) hT)
  have nit:∀ b u,H b=some u->b∉ch:=fun b u e z=>by rw [(hf b z).1] at e;cases e
  refine I.step (g':=s.gens) (d':=s.drawn) (ch:=ch) (fun b hb=>⟨(hf b hb).2.2.2.1,(hf b hb).2.1,(hf b hb).2.2.2.2.1,(hf b hb).2.2.2.2.2⟩) (fun b o _ _ hc e _=>k b o hc e) (fun b o _ _ hc e _=>⟨o.slots,k b o hc e⟩) (fun b o _ e n=>by rw [az (neT b o e)];exact n)
    (fun b o hc e=>⟨o,k b o hc e⟩) (fun b ys e=>by rw [az (au e nT)];exact e) (fun b o u e=>by rw [az (au e nT)];exact e) (fun b ps e=>⟨#[],by rw [az (au e nT),e];simp⟩) (fun m hm=>?_) (fun b u e=>?_) I.bare
  · obtain ⟨o,es,ep,ho,r⟩:=hm
    exact ⟨o,es,ep,k _ o (fun z=>(hf _ z).2.1 rfl) ho,r⟩
  · by_cases hb:b=T
    · subst hb;rw [av] at e;cases e;exact new
    · rw [az hb] at e
      exact (I.hok b u e).stay (fun c v hc q=>k c v (hc.elim (fun z=>z▸nit b u e) fun z=>nit c _ z) q) (fun c q=>by rw [az (au q nT)];exact q) fun c ys q=>by rw [az (au q nT)];exact q
def SqK (k:Bool) (K:Ao) (H:Hp) (a:Addr) (xs:List V):Prop:=match k with | true=>SqL K H a xs | false=>SqT K H a xs
theorem SqK.get {k:Bool} {a:Addr} {xs:List V} (I:Inv X pins σ H s) (q:SqK k X.K H a xs):∃ its:List Value,Vals xs its/\ZSr k s.heap a its.toArray:=by
  cases k with
  | true=>obtain ⟨its,r,p,_⟩:=I.list q;exact ⟨its,r,p.isList⟩
  | false=>obtain ⟨its,r,p,_⟩:=I.tuple q;exact ⟨its,r,p⟩
theorem SqK.inj {k:Bool} {a:Addr} {xs ys:List V} (I:Inv X pins σ H s) (q:SqK k X.K H a xs) (q':SqK k X.K H a ys):xs=ys:=by
  cases k with
  | true=>exact I.dm q q'
  | false=>exact I.dQ q q'
theorem ue {a b:Addr} {o:Obj} (I:Inv X pins σ H s) (hk:X.K.lookup a=some o) (f:cP X pins H b):a≠b:=fun e=>by
  subst e
  have hb:=I.ok.mod.kin a o hk
  rcases f.2.2.2.1 with z | z
  · exact I.ok.noex a o hb z
  · exact absurd (zM (Heap.lt_size hb) (z6 I.ok.bsz z)) (Nat.lt_irrefl _)
theorem SqK.ne {k:Bool} {a b:Addr} {xs:List V} (I:Inv X pins σ H s) (q:SqK k X.K H a xs) (f:cP X pins H b):a≠b:=by
  have nn:∀ {u:HO},H a=some u->a≠b:=fun h z=>by rw [z,f.1] at h;cases h
  cases k with
  | true=>
    rcases q with (h | ⟨o,h⟩) | ⟨o,_,_,hk,_⟩
    · exact nn h
    · exact nn h
    · exact ue I hk f
  | false=>
    rcases q with (h | ⟨o,h⟩) | ⟨o,_,_,hk,_⟩
    · exact nn h
    · exact nn h
    · exact ue I hk f
end
theorem boot_zip:bootBuiltins "zip" = some (.type "zip"):=by decide +kernel
end L4
namespace L4
open PySem PySem.Spec PyProof.Rows
def ExcAt (h:Heap) (x:Addr) (C:Value) (dx T:Option Addr) (fl:Value):Prop:=
  ∃ oe vs,h.get? x=some oe/\oe.cls=C/\oe.dict=dx/\oe.data = .fields vs/\vs[1]?=some (T.elim .none .ref)/\∀ t,T=some t->t≠x/\∃ oT ts,h.get? t=some oT/\oT.data = .fields ts/\ts[3]?=some fl
def vq (l:List Env):List Addr:=l.filterMap (·.frame)
structure But (x:Addr) (T:Option Addr) (fs:List Addr) (h h':Heap):Prop where
  keep:∀ b o,h.get? b=some o->b≠x->some b≠T->b∉fs->h'.get? b=some o
  slot:∀ b o,h.get? b=some o->b≠x->some b≠T->∃ sl,h'.get? b=some { o with slots:=sl }
  there:∀ b o,h.get? b=some o->∃ o',h'.get? b=some o'
theorem But.refl {x:Addr} {T:Option Addr} {fs:List Addr} {h:Heap}:But x T fs h h:=⟨fun _ _ e _ _ _=>e,fun _ o e _ _=>⟨o.slots,e⟩,fun _ o e=>⟨o,e⟩⟩
section
variable {M:Model} {A:Around} {E:Value->Shared->Prop} {s:Shared} {base:Heap} {env:Env} {outer:List Env} {L x t:Addr} {C fl:Value} {dx T:Option Addr} {Q:Unit->Shared->Prop}
theorem fP {fr:Option Addr} (he:ExcAt s.heap x C dx (some t) fl) (h:∀ h',ExcAt h' x C dx (some t) (fr.elim .none fun f=>rawInt f)->But x (some t) [] s.heap h'->Q () { s with heap:=h' }):wpAny M A (setFlight (.ref x) fr) Q E s:=by
  obtain ⟨oe,vs,e1,e2,e3,e4,e5,e6⟩:=he
  obtain ⟨ne,oT,ts,f1,f2,f3⟩:=e6 t rfl
  have hz : 3 < ts.size:=(Array.getElem?_eq_some_iff.mp f3).1
  have oth:∀ b,b≠t->(s.heap.update t (Obj.mapFields (·.setIfInBounds 3 (fr.elim .none fun f=>rawInt f)))).get? b=s.heap.get? b:=fun b hb=>Heap.get?_update_other _ _ (Ne.symm hb)
  have d3:=Obj.data_mapFields f2 (·.setIfInBounds 3 (fr.elim .none fun f=>rawInt f))
  have self:=Heap.get?_update_self (Obj.mapFields (·.setIfInBounds 3 (fr.elim .none fun f=>rawInt f))) f1 (Obj.isFreed_of_fields d3)
  unfold setFlight
  refine wpAny_bind (wpAny_field e1 e4 e5 ?_)
  rw [if_pos (show (((some t).elim Value.none Value.ref) != Value.none)=true from by simp)]
  refine wpAny_setField f1 f2 hz (h _ ⟨oe,vs,(oth x (Ne.symm ne)).trans e1,e2,e3,e4,e5,fun t' ht=>?_⟩ ⟨fun b o q _ n _=>?_,fun b o q _ n=>?_,fun b o q=>?_⟩)
  · cases ht
    exact ⟨ne,_,_,self,d3,by simp [hz]⟩
  · exact (oth b fun z=>n (by rw [z])).trans q
  · exact ⟨o.slots,(oth b fun z=>n (by rw [z])).trans q⟩
  · by_cases z:b=t
    · exact ⟨_,by rw [z];exact self⟩
    · exact ⟨o,(oth b z).trans q⟩
theorem gR {head:Value} {hadNext:Bool} {oe:Obj} {vs:Array Value} (hfr:A.frames=some (env::outer)) (hl:s.heap.FunFrames base (env::outer)) (hf:env.frame=some L)
    (e1:s.heap.get? x=some oe) (e4:oe.data = .fields vs) (hz : 1 < vs.size)
    (h:∀ h' t',ExcAt h' x oe.cls oe.dict (some t') (rawInt L)->But x none (vq (env::outer)) s.heap h'->s.heap.objs.size<=t'->Q () { s with heap:=h' }) :
    wpAny M A (do let a <- frameOf env;let pl <- entryPlaceOf L hadNext;let b <- EntryCells.newEntry head a .none (rawInt L) .none pl;setField (.ref x) 1 b) Q E s:=by
  have nfr:x∉(env::outer).filterMap (·.frame):=fun hm=>by
    obtain ⟨_,o,ho,hn⟩:=hl.mem hm
    rw [e1] at ho;cases ho;exact hn vs e4
  refine wpAny_bind (wpAny_frameOf_fun hfr hl hf fun h1 s1=>?_)
  refine wpAny_bind (wpAny_entryPlaceOf fun pl hpl=>?_)
  unfold EntryCells.newEntry newFields
  refine wpAny_bind (wpAny_newObj_type ?_ (hpl.sizeOk5 _ _ _ _ _))
  have x1:h1.get? x=some oe:=(s1.2.1 x nfr).trans e1
  generalize hnew:({ cls:=.type "traceback",dict:=none,data:=.fields ([head,.ref L,.none,rawInt L,.none]++(if pl.isEmpty then List.replicate 6 Value.none else pl)).toArray }:Obj)=new
  have x2:=Heap.get?_push_of_some (h:=h1) new x1
  have x3:h1.objs.size≠x:=Nat.ne_of_gt (Heap.lt_size x1)
  have d3:=Obj.data_mapFields e4 (·.setIfInBounds 1 (Value.ref h1.objs.size))
  have x4:=Heap.get?_update_self (Obj.mapFields (·.setIfInBounds 1 (Value.ref h1.objs.size))) x2 (Obj.isFreed_of_fields d3)
  have x5:=(Heap.get?_update_other (h1.push new) (Obj.mapFields (·.setIfInBounds 1 (Value.ref h1.objs.size))) (Ne.symm x3)).trans (Heap.get?_push_size h1 (by subst hnew;rfl))
  have up:∀ b o,b≠x->h1.get? b=some o->((h1.push new).update x (Obj.mapFields (·.setIfInBounds 1 (Value.ref h1.objs.size)))).get? b=some o:=fun b o n q=>by
    rw [Heap.get?_update_other _ _ (Ne.symm n)];exact Heap.get?_push_of_some _ q
  refine wpAny_setField x2 e4 hz (h _ h1.objs.size ⟨_,_,x4,Obj.cls_mapFields _ _,?_,d3,by simp [hz],fun t' ht=>?_⟩ ⟨fun b o q n _ nf=>?_,fun b o q n _=>?_,fun b o q=>?_⟩ ?_)
  · cases oe with | mk c d da sl=>cases da <;> rfl
  · cases ht
    refine ⟨x3,new,_,x5,by subst hnew;rfl,?_⟩
    first | (simp;done) | (rcases hpl with rfl | ⟨_,_,_,_,_,_,_,rfl⟩ <;> simp)
  · exact up b o n ((s1.2.1 b nf).trans q)
  · obtain ⟨sl,e⟩:=s1.2.2 b o q
    exact ⟨sl,up b _ n e⟩
  · by_cases z:b=x
    · exact ⟨_,by rw [z];exact x4⟩
    · obtain ⟨sl,e⟩:=s1.2.2 b o q
      exact ⟨_,up b _ z e⟩
  · exact s1.1▸Ad _
theorem fV (hfr:A.frames=some (env::outer)) (hl:s.heap.FunFrames base (env::outer)) (hf:env.frame=some L) (he:ExcAt s.heap x C dx T fl) (hfl:fl = .none\/fl=rawInt L)
    (h:∀ h' t',ExcAt h' x C dx (some t') (rawInt L)->But x T (vq (env::outer)) s.heap h'->(some t'=T\/s.heap.objs.size<=t')->Q () { s with heap:=h' }):wpAny M A (noteFrame (.ref x) env) Q E s:=by
  obtain ⟨oe,vs,e1,rfl,rfl,e4,e5,e6⟩:=he
  have hz : 1 < vs.size:=(Array.getElem?_eq_some_iff.mp e5).1
  unfold noteFrame
  simp only [hf]
  refine wpAny_bind (wpAny_field e1 e4 e5 ?_)
  cases T with
  | none=>
    rw [if_neg (by decide)]
    exact gR hfr hl hf e1 e4 hz fun h' t' a b c=>h h' t' a b (.inr c)
  | some t=>
    obtain ⟨ne,oT,ts,f1,f2,f3⟩:=e6 t rfl
    rw [if_pos (show (((some t).elim Value.none Value.ref) != Value.none)=true from by simp)]
    refine wpAny_bind (wpAny_field f1 f2 f3 ?_)
    by_cases z:fl=rawInt L
    · subst z
      rw [if_pos (by simp)]
      exact wpAny_pure (h _ t ⟨oe,vs,e1,rfl,rfl,e4,e5,fun t' ht=>by cases ht;exact ⟨ne,oT,ts,f1,f2,f3⟩⟩ But.refl (.inl rfl))
    · obtain rfl:fl = .none:=hfl.resolve_right z
      rw [if_neg (show ¬ ((Value.none == rawInt L)=true) from by simp [rawInt])]
      refine wpAny_bind (wpAny_setField f1 f2 (Array.getElem?_eq_some_iff.mp f3).1 ?_)
      have oth:∀ b,b≠t->(s.heap.update t (Obj.mapFields (·.setIfInBounds 3 Value.none))).get? b=s.heap.get? b:=fun b hb=>Heap.get?_update_other _ _ (Ne.symm hb)
      have self:=Heap.get?_update_self (Obj.mapFields (·.setIfInBounds 3 Value.none)) f1 (Obj.isFreed_of_fields (Obj.data_mapFields f2 _))
      refine gR (base:=base) (outer:=outer) hfr (hl.of_keeps fun b o q hn=>⟨o,(oth b fun z=>?_).trans q,rfl⟩) hf ((oth x (Ne.symm ne)).trans e1) e4 hz fun h' t' a b c=>h h' t' a ⟨fun b' o q n m nf=>?_,fun b' o q n m=>?_,fun b' o q=>?_⟩ (.inr ?_)
      · subst z;rw [f1] at q;cases q;exact hn ts f2
      · exact b.keep b' o ((oth b' fun z=>m (by rw [z])).trans q) n (by simp) nf
      · exact b.slot b' o ((oth b' fun z=>m (by rw [z])).trans q) n (by simp)
      · by_cases z:b'=t
        · exact b.there b' _ (by rw [z];exact self)
        · exact b.there b' o ((oth b' z).trans q)
      · simpa using c
theorem nG (hfr:A.frames=some (env::outer)) (hl:s.heap.FunFrames base (env::outer)) (hf:env.frame=some L) (he:ExcAt s.heap x C dx T fl) (hfl:fl = .none\/fl=rawInt L)
    (h:∀ h' t',ExcAt h' x C dx (some t') .none->But x T (vq (env::outer)) s.heap h'->(some t'=T\/s.heap.objs.size<=t')->Q () { s with heap:=h' }):wpAny M A (leaving env (.ref x)) Q E s:=by
  unfold leaving
  refine wpAny_bind (fV hfr hl hf he hfl fun h1 t1 a b c=>?_)
  refine fP (fr:=none) a fun h2 a2 b2=>h h2 t1 a2 ⟨fun b' o q n m nf=>?_,fun b' o q n m=>?_,fun b' o q=>?_⟩ c
  · refine b2.keep b' o (b.keep b' o q n m nf) n (fun z=>?_) (by simp)
    rcases c with c | c
    · exact m (z.trans c)
    · have lt:=Heap.lt_size q;cases z;exact absurd lt (Nat.not_lt.mpr c)
  · obtain ⟨sl,e⟩:=b.slot b' o q n m
    refine ⟨sl,b2.keep b' _ e n (fun z=>?_) (by simp)⟩
    rcases c with c | c
    · exact m (z.trans c)
    · have lt:=Heap.lt_size q;cases z;exact absurd lt (Nat.not_lt.mpr c)
  · obtain ⟨o1,e⟩:=b.there b' o q
    exact b2.there b' o1 e
end
end L4
namespace L4
open PySem PySem.Spec PyProof.Rows L2 L3
structure gA (X:Cx) (pins:List (Addr×Obj)) (H:Hp) (b:Addr):Prop where
  no:H b=none
  ab:X.s₀.heap.objs.size<=b
  lo:b≠X.env.locals
  ce:∀ x c,X.env.cells.lookup x=some c->c≠b
  pi:∀ p∈X.pn++pins,p.1≠b
def CX1 (P:Program) (w:World):CXT:=fun outer H s E e s'=>∃ x C dx t H',e=Value.ref x/\s'.os=s.os/\AllBare s'.gens/\Un (frs outer) [] H H' s.heap s'.heap/\HOk P w H' s'.heap /\
  ExcAt s'.heap x C dx (some t) .none/\s.heap.objs.size<=x/\s.heap.objs.size<=t/\H' x=none/\H' t=none/\E C dx H'
theorem p6 {P:Program} {w:World}:bQ (CX1 P w):=fun _ _ _ _ _ ⟨_,_,_,_,_,_,_,_,_,_,_,_,_,_,_,h⟩=>h
def XS (X:Cx) (Ex:St->XK) (e:Value) (s':Shared):Prop:=∃ pins σ H x C dx T fl,e=Value.ref x/\Inv X pins σ H s'/\ExcAt s'.heap x C dx T fl/\(fl = .none\/fl=rawInt X.env.locals)/\gA X pins H x/\(∀ t,T=some t->gA X pins H t)/\Ex σ C dx H
def PaX (X:Cx) (Ex:St->XK):Prop:=∀ e s',XS X Ex e s'->X.xe e s'
section
variable {X:Cx} {pins:List (Addr×Obj)} {σ : St} {H H':Hp} {s s':Shared} {Ex:St->XK} {e:Value}
theorem l8 (I:Inv X pins σ H s) {b:Addr} (hb:s.heap.objs.size<=b) (n:H' b=none):gA X pins H' b:=
  ⟨n,z6 I.sz hb,Nat.ne_of_gt (zM I.lt hb),fun x c e z=>by
    obtain ⟨v,o,ho,_⟩:=I.cell x c e
    exact absurd (Heap.lt_size ho) (by rw [z];exact Nat.not_lt.mpr hb),fun p hp z=>by
    have:=(I.pin p hp).1
    exact absurd (Heap.lt_size this) (by rw [z];exact Nat.not_lt.mpr hb)⟩
theorem jb {x:Addr} {T:Option Addr} {h':Heap} (I:Inv X pins σ H s) (hx:gA X pins H x) (hT:∀ t,T=some t->gA X pins H t) (b:But x T (frs X.stack) s.heap h'):Inv X pins σ H { s with heap:=h' }:=by
  have nx:∀ c,c∉x::T.toList->c≠x/\some c≠T:=fun c hc=>⟨fun z=>hc (by rw [z];exact zK),fun z=>hc (zH _ (by rw [<- z];simp))⟩
  refine I.xx (s':={ s with heap:=h' }) (ch:=x::T.toList) rfl ⟨fun c o q _ nf nc=>b.keep c o q (nx c nc).1 (nx c nc).2 nf,fun c o q _ _ nc=>b.slot c o q (nx c nc).1 (nx c nc).2,fun _ _ _ n _=>n,fun c o q _=>b.there c o q,fun _ _ q=>q,fun _ _ _ q=>q,fun _ ps q=>⟨#[],by rw [q];simp⟩⟩ (fun a o q=>?_) I.bare (fun c hc=>?_)
  · refine (I.hok a o q).stay (fun c u hc r=>?_) (fun _ r=>r) fun _ _ r=>r
    obtain ⟨v,hv⟩:∃ v,H c=some v:=by
      rcases hc with rfl | hc
      · exact ⟨_,q⟩
      · exact ⟨_,hc⟩
    refine b.keep c u r (fun z=>?_) (fun z=>?_) (fun z=>?_)
    · rw [z,hx.no] at hv;cases hv
    · rw [(hT c z.symm).no] at hv;cases hv
    · rw [I.iH c z] at hv;cases hv
  · have w:gA X pins H c:=by
      rcases Ak hc with rfl | hc
      · exact hx
      · exact hT c (by simpa using hc)
    exact ⟨.inr w.ab,w.lo,w.ce,w.pi⟩
theorem oq {P:Program} {w:World} {K:Ao} {mg:Str->Option Value} {base:Heap} {N:List Str} {qual:Str} {scope:Scope} {f:Addr} {cd:Value} {A:Around} {outer:List Env} {s0:Shared} {H0:Hp} {E:XK} :
    PaX (bW (CX1 P w) P w K mg base N qual scope f cd A outer s0 H0 E) (fun _=>E):=fun e s' h=>by
  obtain ⟨pins,σ,H,x,C,dx,T,fl,rfl,I,ex,hfl,ox,oT,q⟩:=h
  refine nG (base:=base) (outer:=outer) I.ok.frames I.stack rfl ex hfl fun h' t' a b c=>?_
  have J:=jb I ox oT b
  have ot:s0.heap.objs.size<=t'/\H t'=none:=by
    rcases c with c | c
    · exact ⟨(oT t' c.symm).ab,(oT t' c.symm).no⟩
    · exact ⟨z6 I.sz c,I.hok.fresh c⟩
  exact ⟨x,C,dx,t',H,rfl,J.os,J.bare,J.base,J.hok,a,ox.ab,ot.1,ox.no,ot.2,q⟩
end
end L4
namespace L4
open PySem PySem.Spec PyProof.Rows L2 L3 PySem.W
section
variable {prog:Program} {w:World} {A:Around} {E:Value->Shared->Prop} {h:Heap} {g:Array GenState} {d:Drawn} {t:Nat} {os:OsState}
variable {nm q:Str} {C N:Addr} {bs bm bmB:List Value} {hdct:Bool} {sn:List Str} {sub:List Value} {ab:Bool} {col:Option Bool} {dd:Option Addr} {k0 k1 k2 k3 k5:Option Value} {B newId initId:String}
abbrev nP (h:Heap) (C:Addr) (rest:List Value):Heap:=(h.push { cls:=.type "tuple",data:=.seq rest.toArray }).push { cls:=.ref C,data:=.fields #[.ref h.objs.size,.none,.none,.none,.bool false,.none] }
theorem bK {rest:List Value}:∀ b o,h.get? b=some o->(nP h C rest).get? b=some o:=fun _ _ e=>Heap.get?_push_of_some _ (Heap.get?_push_of_some _ e)
theorem gf {rest:List Value}:(nP h C rest).get? (h.objs.size+1)=some { cls:=.ref C,data:=.fields #[.ref h.objs.size,.none,.none,.none,.bool false,.none] }:=by heap_get
theorem gy (F:ExcBaseFacts B newId initId bmB) (T:OwnTail h bmB bm) {rest:List Value} {init:Value} {Q:Fin->Shared->Prop}
    (hC:h.get? C=some (excClassObj nm q C N bs bm hdct sn sub ab col dd k0 k1 k2 k3 k5 newId)) (hi:Looks (model prog w) h (typeLookup (.ref C) "__init__") (some init)) (hb:∀ self,Looks (model prog w) h (bindSpecial init self) (init,[self]))
    (hq:wpAny (model prog w) A (call init (.ref (h.objs.size+1)::rest)) (fun r s'=>r = .none/\Q (.done (.ret (.ref (h.objs.size+1)))) s') E ⟨nP h C rest,g,d,t,os⟩) (hrest:rest.length<=sizeLine) :
    wpAny (model prog w) A (Builtin.«type.__call__» ⟨.ref C::rest,[]⟩) Q E ⟨h,g,d,t,os⟩:=by
  repeat (first | with_reducible refine wpAny_loadPart_at hC ?_ | with_reducible refine wpAny_madeBy_exc hC ?_ | wp_step)
  refine codeAny_call_builtin_code (Code.quiet_builtin _ F.quiet) (wpAny_check_new_subT F T hC ?_)
  refine codeAny_exc_new_subT F T hC ?_ hrest
  show wpAny _ _ _ _ _ _
  have hC1:=bK (C:=C) (rest:=rest) _ _ hC
  have hg:=gf (h:=h) (C:=C) (rest:=rest)
  have hcC:(Value.ref C::bm).contains (.ref C)=true:=by simp
  unfold isInstance
  repeat (first | with_reducible refine wpAny_loadPart_at hg ?_ | (with_reducible refine wpAny_isSubtype_exc hC1 ?_;rw [hcC]) | wp_step)
  show wpAny _ _ (typeLookup (.ref C) _) _ _ _
  refine hi _ _ _ _ bK ?_
  refine wpAny_holding (wpAny_bind (hb _ _ _ _ _ bK ?_))
  refine wpAny_bind (wpAny_mono hq (fun r s' hr=>?_) fun _ _ x=>x)
  obtain ⟨rfl,hQ⟩:=hr
  wp_walk
  exact hQ
theorem qt (F:ExcBaseFacts B newId initId bmB) (T:OwnTail h bmB bm) {rest:List Value} {init:Value} {Q:Value->Shared->Prop}
    (hC:h.get? C=some (excClassObj nm q C N bs bm hdct sn sub ab col dd k0 k1 k2 k3 k5 newId)) (hi:Looks (model prog w) h (typeLookup (.ref C) "__init__") (some init)) (hb:∀ self,Looks (model prog w) h (bindSpecial init self) (init,[self]))
    (hq:wpAny (model prog w) (A.under (.builtin "type.__call__" ⟨.ref C::rest,[]⟩)) (call init (.ref (h.objs.size+1)::rest)) (fun r s'=>r = .none/\Q (.ref (h.objs.size+1)) s') E ⟨nP h C rest,g,d,t,os⟩) (hrest:rest.length<=sizeLine) :
    wpAny (model prog w) A (call (.ref C) rest) Q E ⟨h,g,d,t,os⟩:=by
  have f1:=tc_lookup
  have f2:=tc_bind (.ref C)
  have hT:(⟨h,g,d,t,os⟩:Shared).TypeIs (.ref C) "type" := ⟨_,hC,rfl⟩
  refine wpAny_call (codeAny_of_tree ?_)
  show wpAny _ _ (callAny (.ref C) _) _ _ _
  repeat (any_goals (first | assumption | with_reducible refine wpAny_loadPart_at hC ?_ | wp_step))
  refine ⟨rfl,?_⟩
  exact codeAny_call_builtin_at (Code.quiet_builtin _ (by decide +kernel)) entry_typeCall (wpAny_check_type_call_sub hC (gy F T hC hi hb hq hrest))
theorem qq (F:ExcBaseFacts B newId initId bmB) (T:OwnTail h bmB bm) {e a0:Addr} {oe:Obj} {vs:Array Value} {rest:List Value} {Q:Value->Shared->Prop}
    (hC:h.get? C=some (excClassObj nm q C N bs bm hdct sn sub ab col dd k0 k1 k2 k3 k5 newId)) (he:h.get? e=some oe) (hcls:oe.cls = .ref C) (hd:oe.data = .fields vs) (hz : 0 < vs.size) (h0:vs[0]?=some (.ref a0))
    (hq:∀ h',h'=(h.push { cls:=.type "tuple",data:=.seq rest.toArray }).update e (Obj.mapFields (·.setIfInBounds 0 (.ref h.objs.size)))->Q .none ⟨h',g,d,t,os⟩) (hrest:rest.length<=sizeLine) :
    wpAny (model prog w) A (call (.builtin initId) (.ref e::rest)) Q E ⟨h,g,d,t,os⟩:=by
  refine wpAny_call (codeAny_call_builtin F.init.plain F.initEntry (wpAny_check_init_subT F T hC he hcls ?_))
  obtain ⟨oc,od,da,sl⟩:=oe
  dsimp only at hcls hd
  subst hcls hd
  unfold Builtin.«BaseException.__init__»
  repeat (first | with_reducible refine wpAny_loadPart_at he ?_ | wp_step)
  rw [h0]
  refine wpAny_pure ?_
  refine wpAny_bind (wpAny_setField (Heap.get?_push_of_some _ he) rfl hz (wpAny_letGo ?_))
  exact wpAny_pure (hq _ rfl)
end
section
variable {M:Model} {A:Around} {E:Value->Shared->Prop} {env:Env}
variable {nm q:Str} {C N:Addr} {bs bm:List Value} {hdct:Bool} {sn:List Str} {sub:List Value} {ab:Bool} {col:Option Bool} {dd:Option Addr} {k0 k1 k2 k3 k5:Option Value} {newId:String}
theorem kQ {s:Shared} {x:Sem Value} {Q:Flow->Shared->Prop} (hbase:bm.contains (.type "BaseException")=true) (hh:A.handled=none)
    (h:wpAny M A x (fun v s₁=>∃ e oe vs,v = .ref e/\s₁.heap.get? C=some (excClassObj nm q C N bs bm hdct sn sub ab col dd k0 k1 k2 k3 k5 newId) /\
      s₁.heap.get? e=some oe/\oe.cls = .ref C/\oe.data = .fields vs/\vs[1]?=some .none/\E (.ref e) s₁) E s) :
    wpAny M A (raiseStmt env (some x) none) Q E s:=by
  have hcB:(Value.ref C::bm).contains (.type "BaseException")=true:=by rw [List.contains_cons,hbase,Bool.or_true]
  unfold raiseStmt
  refine wpAny_bind (wpAny_mono h (fun v s₁ h₁=>?_) fun _ _ x=>x)
  obtain ⟨e,oe,vs,rfl,hC,he,hcls,hd,h1,hE⟩:=h₁
  obtain ⟨hp,g,d,tk,os⟩:=s₁
  have hnd:∀ cd,oe.data≠.cls cd:=fun cd z=>by rw [hd] at z;cases z
  obtain ⟨oc,od,da,sl⟩:=oe
  dsimp only at hcls hd
  subst hcls hd
  repeat (first | with_reducible refine wpAny_loadPart_at he ?_ | with_reducible refine wpAny_loadPart_at hC ?_ | (with_reducible refine wpAny_isSubtype_exc hC ?_;rw [hcB]) | wp_step)
  rw [h1]
  refine wpAny_pure ?_
  rw [if_neg (by decide)]
  exact wpAny_pure (wpAny_raiseNew_none hh hE)
end
abbrev xcx (X:Cx) (Ex:St->XK):Cx:=X.dP (XS X Ex)
section
variable {X:Cx} {Ex:St->XK} {st:List Stmt} {t:TS}
theorem gA.bI {E:Value->Shared->Prop} {pins:List (Addr×Obj)} {H:Hp} {b:Addr} (o:gA (X.dP E) pins H b):gA X pins H b:=⟨o.no,o.ab,o.lo,o.ce,o.pi⟩
theorem pP:PaX (xcx X Ex) Ex:=fun _ _ ⟨pins,σ,H,x,C,dx,T,fl,a,I,b,c,o,oT,q⟩=>
  ⟨pins,σ,H,x,C,dx,T,fl,a,I.bI,b,c,o.bI,fun t ht=>(oT t ht).bI,q⟩
theorem PSs.x (h:PSs (xcx X Ex) st t) (hx:PaX X Ex):PSs X st t:=fun pins s σ H D I hw=>wpAny_mono (h pins s σ H D (I.dP _) hw) (fun _ _ q=>q.bI) hx
theorem But.mono {x:Addr} {T:Option Addr} {fs fs':List Addr} {h h':Heap} (b:But x T fs h h') (m:∀ a∈fs,a∈fs'):But x T fs' h h':=⟨fun c o q n k f=>b.keep c o q n k fun z=>f (m c z),b.slot,b.there⟩
theorem rH (hs:X.stack=X.env::X.outer) (hf:X.env.frame=some X.env.locals):PassesOwn (model X.prog X.w) X.A X.env (XS X Ex):=by
  rintro e s' ⟨pins,σ,H,x,C,dx,T,fl,rfl,I,ex,hfl,ox,oT,q⟩
  have hfr:=I.ok.frames
  have hst:=I.stack
  rw [hs] at hfr hst
  unfold notedBy
  refine fV (base:=X.base) hfr hst hf ex hfl fun h1 t1 a b c=>?_
  have ot:gA X pins H t1:=by
    rcases c with c | c
    · exact oT t1 c.symm
    · exact l8 I c (I.hok.fresh c)
  have J:=jb I ox oT (by rw [hs];exact b)
  obtain ⟨oe,vs,e1,e2,e3,e4,e5,e6⟩:=id a
  unfold cameBackBy
  refine wpAny_bind (wpAny_field e1 e4 e5 ?_)
  rw [if_neg (by simp)]
  refine fP (fr:=X.env.frame) a fun h2 a2 b2=>?_
  exact ⟨pins,σ,H,x,C,dx,some t1,_,rfl,jb J ox (fun t ht=>by cases ht;exact ot) (b2.mono fun _ z=>absurd z (by simp)),a2,.inr (by rw [hf];rfl),ox,fun t ht=>by cases ht;exact ot,q⟩
end
section
variable {P:Program} {w:World} {K:Frag} {mg:Str->Option Value} {base:Heap} {x qual:Str} {st:Stmt} {N ps:List Str} {k:Nat} {sp:Sp} {C:Addr}
theorem _root_.L3.Dat.okR (D:Dat K mg x qual st ps) (S:aT N ps (aj st)) (len:∀ vs H Q E,sp vs H Q E->vs.length=ps.length)
    (hbody:∀ (f:Addr) (cdv:Value) (A:Around) (outer:List Env) (s:Shared) (H:Hp) (vs:List V) (Q:VK) (E:XK),bB k (A.deeper (envOfC qual (aj st) s.heap.objs.size f cdv))->sp vs H Q E ->
      ∃ t,PSs (xcx (bW (CX1 P w) P w K mg base N qual (aj st) f cdv A outer s H E) (fun _=>E)) (aO st) t/\t { nx:=fun _ H'=>Q .non H',rt:=Q } (start N vs) H):Cal P w K mg base (CX1 P w) x (k+1) ps sp:=
  D.okX S len fun f cdv A outer s H vs Q E hr h=>by
    obtain ⟨t,ht,q⟩:=hbody f cdv A outer s H vs Q E hr h
    exact ⟨t,L4.PSs.x ht oq,q⟩
end
def oE:List Value:=[.type "ValueError",.type "Exception",.type "BaseException",.type "object"]
def vN (K:Frag) (C:Addr) (bmB:List Value) (newId:String):Prop:=∃ dd cd sl bm k0 k1 k2 k3 k5,K.lookup C=some ⟨.type "type",dd,.cls cd,sl⟩/\cd.mro = .ref C::bm/\sl.toList=[k0,k1,k2,k3,some (.builtin newId),k5]/\cd.hasDel=false/\tailIn K bmB bm=true
open Classical in
noncomputable def gg (K:Frag) (C:Addr) (bmB:List Value) (newId:String):Bool:=decide (vN K C bmB newId)
theorem sJ {K:Frag} {h:Heap} {C:Addr} {bmB:List Value} {newId:String} (X:K.In h) (z:gg K C bmB newId=true):∃ nm q N bs bm hdct sn sub ab col dd k0 k1 k2 k3 k5,
    h.get? C=some (excClassObj nm q C N bs bm hdct sn sub ab col dd k0 k1 k2 k3 k5 newId)/\OwnTail h bmB bm:=by
  obtain ⟨dd,cd,sl,bm,k0,k1,k2,k3,k5,ho,hm,hs,hdel,ht⟩:=@of_decide_eq_true (vN K C bmB newId) (Classical.propDecidable _) z
  obtain ⟨nm,bs,mro,ns,qn,hd,sn,sub,ab,col,del⟩:=cd
  dsimp only at hm hdel
  subst hm hdel
  obtain ⟨l⟩:=sl
  simp only at hs
  subst hs
  exact ⟨nm,qn,ns,bs,bm,hd,sn,sub,ab,col,dd,k0,k1,k2,k3,k5,X _ _ ho,tail_of_in X ht⟩
structure tH (K:Frag) (mg:Str->Option Value) (x:Str) (C:Addr):Prop where
  ok:gg K C oE "ValueError.__new__" = true
  init:findIn K (.ref C) "__init__" = some (some (.builtin "ValueError.__init__"))
  kp:keepIn K (.ref C)=true
  mg:mg x=some (.ref C)
def oJ (C:Addr) (Ex:St->XK) (tl:TA):TS:=fun _ σ H=>tl σ H fun vs H1=>vs.length<=1000/\Ex σ (.ref C) none H1
theorem pD {X:Cx} {Ex:St->XK} {x:Str} {C:Addr} {e:Expr} {es:List Expr} {t:TA} {np cpos pos:Pos} (O:tH X.K X.mg x C) (hc:X.calm=true) (hx:PaX X Ex) (ha:PA X (e::es) t) (hg:Gl X x:=by rfl)
    (hdb:(x == ("__debug__" : Str))=false:=by decide) (he:starEach (e::es) X.env=(false,eval e X.env)::starEach es X.env:=by rfl) (hpl:(backTo cpos (starEach es X.env)).any (·.1)=false:=by rfl) :
    PS X (.Raise (some (.Call (.Name x np) (e::es) [] cpos)) none pos) (oJ C Ex t):=by
  intro pins s σ H D I h
  obtain ⟨nm,q,N,bs,bm,hdct,sn,sub,ab,col,dd,k0,k1,k2,k3,k5,hC,T⟩:=sJ I.ok.mod.kin O.ok
  rw [arm_exec_Raise]
  refine wpAny_bind (wpAny_standAt (kQ (C:=C) (nm:=nm) (q:=q) (N:=N) (bs:=bs) (bm:=bm) (hdct:=hdct) (sn:=sn) (sub:=sub) (ab:=ab) (col:=col) (dd:=dd) (k0:=k0) (k1:=k1) (k2:=k2) (k3:=k3) (k5:=k5) (newId:="ValueError.__new__") (T.hasType (by decide +kernel)) (I.ok.hd hc) (wpAny_bind ?_)))
  refine wpAny_Call_Name_kw (fq I hg O.mg ?_ hdb)
  refine callWith_K (h₀:=X.base) I.ok.mod.kin O.kp (thn (ha cpos pins s σ H _ I h) fun us s1 ⟨vs,H1,I1,r,hz,qx⟩=>⟨I1.kIn,?_⟩) he hpl
  have hl:us.length<=sizeLine:=by rw [<- r.length];exact Aa (small1000 hz)
  have T1:=T.keeps I1.bk
  have hC1:=I1.bk _ _ hC
  obtain ⟨hp,g,d,tk,os⟩:=s1
  show wpAny (model X.prog X.w) X.A (call (.ref C) us) _ _ _
  refine qt PySem.F.excBase_ValueError T1 hC1 (looks_findIn I1.kIn O.init) (fun self=>Looks.of_pure (PySem.F.excBase_ValueError.init.bind self)) ?_ hl
  refine qq PySem.F.excBase_ValueError (T1.keeps bK) (bK _ _ hC1) gf rfl rfl (Nat.zero_lt_succ _) rfl (fun h3 e3=>⟨rfl,?_⟩) hl
  have kp:∀ b o,hp.get? b=some o->h3.get? b=some o:=fun b o z=>by
    rw [e3,Heap.get?_update_other _ _ (Nat.ne_of_gt (Nat.lt_succ_of_lt (Heap.lt_size z)))]
    exact Heap.get?_push_of_some _ (bK _ _ z)
  have hz3:(nP hp C us).objs.size=hp.objs.size+2:=by rw [Heap.size_push,Heap.size_push]
  have g3:=Heap.get?_update_self (Obj.mapFields (·.setIfInBounds 0 (.ref (nP hp C us).objs.size))) (Heap.get?_push_of_some { cls:=.type "tuple",data:=.seq us.toArray } (gf (h:=hp) (C:=C) (rest:=us))) rfl
  rw [<- e3] at g3
  have I3:Inv X pins σ H1 ⟨h3,g,d,tk,os⟩:=I1.kept (t':=tk) kp
  refine wpAny_bind (wpAny_standAt (wpAny_pure ⟨_,_,_,rfl,kp _ _ hC1,g3,rfl,rfl,rfl,hx _ _ ⟨pins,σ,H1,hp.objs.size+1,.ref C,none,none,.none,rfl,I3,⟨_,_,g3,rfl,rfl,rfl,rfl,fun t ht=>by cases ht⟩,.inl rfl,l8 I1 (Af _) (I1.hok.fresh (Af _)),(fun t ht=>by cases ht),qx⟩⟩))
def yH (x:Addr) (C:Value) (dx:Option Addr):Heap->Prop:=fun h=>∃ oe vs,h.get? x=some oe/\oe.cls=C/\oe.dict=dx/\oe.data = .fields vs
abbrev yI (x:Addr) (C:Value) (dx:Option Addr):HO:=.ext (yH x C dx)
abbrev Cx.pinned (X:Cx) (pins:List (Addr×Obj)):Cx:={ X with pn:=X.pn++pins }
abbrev Cx.hand (X:Cx) (x:Addr):Cx:={ X with A:=X.A.mark (some (.ref x)),calm:=false,xe:=fun _ _=>False }
structure vO (K:Frag) (C:Addr):Prop where
  ga:findIn K (.ref C) "__getattribute__" = some (some (.builtin "BaseException.__getattribute__"))
  gh:findIn K (.ref C) "__getattr__" = some none
  bs:mroIn K C (.type "BaseException")=some true
  ob:mroIn K C (.type "object")=some true
  ca:findIn K (.ref C) "__class__" = some (some (.builtin "object.__class__"))
  cg:specialIn K (.builtin "object.__class__") "__get__" = some (some (.builtin "getset_descriptor.__get__"))
  ct:takesIn K (.builtin "object.__class__")=some true
  cd:(clsIn K C).isSome=true
def ExD (H:Hp):Option Addr->Prop
  | none=>True
  | some d=>∃ fs,H d=some (.xd fs)
structure ExA (K:Frag) (H:Hp) (x C:Addr) (dx:Option Addr):Prop where
  at_:H x=some (yI x (.ref C) dx)
  g:vO K C
  d:ExD H dx
section
variable {K:Frag} {σ : St} {H:Hp} {Q:VK} {D:Ends} {tl:TA} {ta:TE} {sp:Sp} {Ex:St->XK} {C:Addr}
def Raises (C:Addr) (Ex:XK) (vs:List V) (H:Hp):Prop:=vs.length<=1000/\Ex (.ref C) none H
theorem xN (h:tl σ H fun vs H1=>Raises C (Ex σ) vs H1):oJ C Ex tl D σ H:=h
theorem w9 {E:XK} {v:V} (h:E (.ref C) none H):Raises C E [v] H:=⟨(by show 1<=1000;decide),h⟩
end
open Builtin Builtin.ObjectAttr
inductive fF:List Value->Prop
  | base:fF oE
  | own {c:Addr} {r:List Value}:fF r->fF (.ref c::r)
structure zc (K:Frag) (mg:Str->Option Value) (R:Str) (CR:Addr):Prop where
  gm:mg R=some (.ref CR)
  sg:specialIn K (.ref CR) "__getattribute__" = some (some (.builtin "type.__getattribute__"))
  rd:readsIn K CR (.type "type")=true
  fc:findCls K (.ref CR) (.type "type") "__init__" = some (.val (.builtin "ValueError.__init__"))
structure zw (K:Frag) (C:Addr) (f:Str):Prop where
  g:vO K C
  sa:findIn K (.ref C) "__setattr__" = some (some (.builtin "object.__setattr__"))
  cd:∃ cd,clsIn K C=some cd/\fF cd.mro/\cd.hasDict=true
  tk:takerIn K C f=some none
structure zx (P:Program) (w:World) (K:Frag) (mg:Str->Option Value) (base:Heap) (x:Str) (C:Addr) (k:Nat) (ps:List Str) (sp:Sp):Prop where
  ok:gg K C oE "ValueError.__new__" = true
  kp:keepIn K (.ref C)=true
  gm:mg x=some (.ref C)
  fn:∃ f fd,findIn K (.ref C) "__init__" = some (some (.ref f))/\typeIn K (.ref f)=some (.type "function")/\cQ P w K mg base (CX1 P w) k f fd ps sp/\Binds K fd ps []
structure ur (k:Nat) (A:Around):Prop where
  dp:A.depth+3 * k+5 < recursionLimit
  un:A.units+16 * k+200 < cLine
theorem wc {k:Nat} {A:Around} (r:bB k A):ur k A:=⟨r.dp,r.un⟩
structure xF (P:Program) (w:World) (K:Frag) (mg:Str->Option Value) (base:Heap) (CX:CXT) (k:Nat) (f:Addr) (fd:FuncData) (ps:List Str) (sp:Sp):Prop where
  len:∀ vs H Q E,sp vs H Q E->vs.length=ps.length
  run:∀ (A:Around) (outer:List Env) (s:Shared) (H:Hp) (args:Args) (us:List Value) (vs:List V) (Q:VK) (E:XK),ur k A->ko P w K mg base A outer s H->BindsTo s fd args (ps.zip us)->Vals vs us->sp vs H Q E ->
    codeAny (model P w) A (.call (.ref f) args) (CR CX outer P w H s Q E) s
structure zA (P:Program) (w:World) (K:Frag) (mg:Str->Option Value) (base:Heap) (CX:CXT) (x:Str) (k:Nat) (ps:List Str) (sp:Sp):Prop where
  ex:∃ f fd,xF P w K mg base CX k f fd ps sp/\Binds K fd ps []/\PySem.W.keepIn K (.ref f)=true/\mg x=some (.ref f)
theorem nQ {K:Frag} {C:Addr} {bmB:List Value} {newId:String} (q:excIn K C bmB newId=true):gg K C bmB newId=true:=by
  unfold excIn at q
  split at q
  · rename_i dd cd sl ho
    split at q
    · rename_i C' bm k0 k1 k2 k3 n k5 hm hs
      simp only [Bool.and_eq_true,beq_iff_eq,Bool.not_eq_true'] at q
      obtain ⟨⟨⟨⟨⟨rfl,rfl⟩,hdel⟩,ht⟩,_⟩,_⟩:=q
      exact @decide_eq_true (vN _ _ _ _) (Classical.propDecidable _) ⟨dd,cd,sl,bm,k0,k1,k2,k3,k5,ho,hm,hs,hdel,ht⟩
    · cases q
  · cases q
structure zy (K:Frag) (mg:Str->Option Value) (x qual:Str) (C:Addr) (st:Stmt) (ps:List Str):Prop where
  ok:gg K C oE "ValueError.__new__" = true
  kp:keepIn K (.ref C)=true
  gm:mg x=some (.ref C)
  ex:∃ f fd,Fun K "__init__" qual st f fd/\Binds K fd ps []/\findIn K (.ref C) "__init__" = some (some (.ref f))/\typeIn K (.ref f)=some (.type "function")
section
theorem oA {l:PySem.W.OpenLaw} {n k:Nat} {q:Program} {loose:List Str} {XP:(Str->Option Value)->Heap->Prop} {YP:World->Heap->Prop} {d:DefRec} {K:Params->Ao} {CX:Program->World->CXT} {sp:Ao->Sp} {x:Str}
    (hn:l.most=some n) (hn2:n<=sizeLine) (hdf:d.params.defaults=[]) (hr:bB k callerA)
    (hY:∀ (w:World) (h:Heap),YP w h->(K w.params).In h)
    (F:∀ (w:World) (mg:Str->Option Value) (fa:Addr) (h:Heap),(K w.params).In h->h.Ns mainGlobals mg->mg d.name=some (.ref fa) ->
      ∃ fd:FuncData,(∀ (s:Shared) (u:Value),BindsTo s fd ⟨[u],[]⟩ [(x,u)]) /\
        ∀ base:Heap,(K w.params).In base->base.Ns mainGlobals mg->cQ l.prog w (K w.params) mg base (CX l.prog w) k fa fd [x] (sp (K w.params)))
    (hsp:∀ (K:Ao) (H:Hp) (a:Addr) (ns:List Int),ns.length<=n->tF H->SqL K H a (ns.map V.int)->sp K [.ref a] H (fun v _=>v = .bl true) fun _ _ _=>False)
    (hCX:∀ (P:Program) (w:World) (H:Hp) (s:Shared) (e:Value) (s':Shared),CX P w [] H s (fun _ _ _=>False) e s'->False) :
    PySem.W.WalkO q loose XP YP l.row.toRowW d [] (fun f vs=>PySem.call f vs):=
  qN (K:=K) (CX:=fun w=>CX l.prog w) (sp:=fun w=>sp (K w.params)) hn hn2 hdf hr hY F (fun w H a ns h1 h2 h3=>hsp (K w.params) H a ns h1 h2 h3) fun w H s e s'=>hCX l.prog w H s e s'
end
end L4
namespace L4
open PySem PySem.Spec PyProof.Rows L2 L3
theorem xy {bs:List Bool} {us:List Value} (rv:Vals (bs.map V.bl) us) {i:Nat} {v:Value} (e:us[i]?=some v):∃ b,bs[i]?=some b/\v = .bool b:=by
  have hi:i < bs.length:=by
    have h1:=(Ah e).1
    have h2:=rv.length
    rw [zS] at h2
    omega
  obtain ⟨u,hu,ru⟩:=rv.get (i:=i) (x:=V.bl bs[i]) (by rw [zO,zD hi];rfl)
  rw [e] at hu
  cases hu
  cases ru
  exact ⟨_,zD hi,rfl⟩
theorem kP (bs:List Bool):((List.range bs.length).all fun i=>(bs[i]?).getD true)=bs.all id:=by
  rw [Bool.eq_iff_iff,List.all_eq_true,List.all_eq_true]
  constructor
  · intro h b hb
    obtain ⟨i,hi,e⟩:=zI hb
    have:=h i (List.mem_range.mpr hi)
    rw [zD hi,Option.getD_some,e] at this
    exact this
  · intro h i hi
    have hi':=List.mem_range.mp hi
    rw [zD hi',Option.getD_some]
    exact h _ (List.getElem_mem hi')
theorem r8 {s:Shared} {h':Heap} {o:Obj} (hk:∀ b x,b∉[s.heap.objs.size]->(s.heap.push o).get? b=some x->h'.get? b=some x):∀ b x,s.heap.get? b=some x->h'.get? b=some x:=
  fun b x e=>hk b x (fun hm=>by rw [Ai hm] at e;exact Nat.lt_irrefl _ (Heap.lt_size e)) (Heap.get?_push_of_some _ e)
def wB (K:Ao):RL:=fun xs H Q=>∃ (p:Addr) (bs:List Bool),xs=[.ref p]/\SqL K H p (bs.map V.bl)/\Q (.bl (bs.all id)) H
section
variable {X:Cx}
theorem qA (hc:X.calm=true):bV X (.builtin "all") (wB X.K):=by
  intro pins s σ H xs us Q I r h
  obtain ⟨p,bs,rfl,hq,q⟩:=h
  obtain ⟨u,rfl,rx⟩:=vals1 r
  cases rx
  obtain ⟨its,rv,pl,hz⟩:=I.list hq
  have hl:=pl.isList
  have hlt:p < s.heap.objs.size:=by obtain ⟨_,e,_⟩:=hl;exact Heap.lt_size e
  have hlen:its.length=bs.length:=by rw [<- rv.length,zS]
  refine call_all_walk (wpAny_pyIter_list hl ?_)
  refine ⟨s.heap.objs.size,[s.heap.objs.size,p],[s.heap.objs.size],its.toArray.size,_,_,fun i=>(bs[i]?).getD true,rfl,Walks.list (A:=X.A.in1) (I.ok.hd hc) _ p (Ab hlt) its.toArray,
    ⟨⟨_,Heap.get?_push_size _ rfl,rfl,rfl⟩,hl.push _⟩,fun i v s' Q' E' hP hQ=>?_,fun h' tk hk=>?_⟩
  · obtain ⟨b,e,rfl⟩:=xy rv (i:=i) (v:=v) (by simpa using hP)
    simp only [e,Option.getD_some] at hQ
    exact wpAny_truthy_bool hQ
  · have e:((List.range its.toArray.size).all fun i=>(bs[i]?).getD true)=bs.all id:=by
      rw [zN,hlen];exact kP bs
    rw [e]
    exact ⟨.bl _,H,I.kept (r8 hk),rfl,q⟩
end
section
variable {K:Ao} {H:Hp} {Q:VK} {p:Addr} {P:Addr->Prop} {H0:Hp} {l:List (Addr×Ob)} {fs:List Pr} {a b:Addr} {xs ys:List V}
theorem vo {bs:List Bool} (s:SqL K H p (bs.map V.bl)) (h:Q (.bl (bs.all id)) H):wB K [.ref p] H Q:=⟨p,bs,rfl,s,h⟩
end
end L4
namespace L4
open PySem PySem.Spec PyProof.Rows L2 L3 PySem.W
structure zv (P:Program) (w:World) (K:Frag) (mg:Str->Option Value) (base:Heap) (CX:CXT) (C:Addr) (m:Str) (k:Nat) (ps:List Str) (sp:Sp):Prop where
  cl:Cls K C
  ex:∃ f fd,Meth K C m f/\cQ P w K mg base CX k f fd ps sp/\Binds K fd ps []
end L4
namespace L4
open PySem PySem.Spec PyProof.Rows L2 L3
section
variable {K:Ao} {H:Hp} {Q:VK} {p:Addr} {ns:List Int} {P:Addr->Prop} {H0:Hp} {l:List (Addr×Ob)} {fs:List Pr}
theorem sA (L:Led P H0 H l fs) (s:SqL K H p (ns.map V.int)) (hl:ns.length < 64) (h:∀ (b:Addr) (ms:List Int) (H':Hp),H b=none->ms.Perm ns->ms.Pairwise (·<=·)->Led P H0 H' ((b,Eo (.lst (ms.map V.int)))::l) fs->aN H H'->Q (.ref b) H'):pq K [.ref p] H Q:=
  ⟨p,ns,rfl,s,hl,fun b ms nb pm pw=>h b ms _ nb pm pw (L.rS nb rfl) (bJ nb)⟩
end
theorem fO:∀ {xs ys:List Int},xs.Perm ys->xs.Pairwise (·<=·)->ys.Pairwise (·<=·)->xs=ys
  | [],ys,p,_,_=>(List.nil_perm.mp p).symm▸rfl
  | x::xs,[],p,_,_=>by cases List.perm_nil.mp p
  | x::xs,y::ys,p,hx,hy=>by
    rw [List.pairwise_cons] at hx hy
    have e:x=y:=by
      have h1:x∈y::ys:=p.subset zK
      have h2:y∈x::xs:=p.symm.subset zK
      rcases Ak h1 with e | h1
      · exact e
      · rcases Ak h2 with e | h2
        · exact e.symm
        · exact Int.le_antisymm (hx.1 y h2) (hy.1 x h1)
    subst e
    rw [fO (List.perm_cons x |>.mp p) hx.2 hy.2]
structure ze (K:Ao) (mg:Str->Option Value) (x qual:Str) (C:Addr) (st:Stmt) (ps:List Str):Prop where
  ex:∃ (f:Addr) (oc dV kV doc pm cdv ct:Value) (od an:Option Addr) (osl:Array (Option Value)),K.lookup f=some ⟨oc,od,.func (PySem.W.fnOf "__init__" qual (bD st) (aO st) (aj st) dV kV doc pm an cdv ct),osl⟩/\PySem.W.codeIn K cdv qual=true /\
    Binds K (PySem.W.fnOf "__init__" qual (bD st) (aO st) (aj st) dV kV doc pm an cdv ct) ps []/\mg x=some (.ref C)/\Mk K C f
  cl:Cls K C
section
variable {K:Ao} {H:Hp} {Q:VK} {p a:Addr} {z:Str} {ws:List Str} {P:Addr->Prop} {H0:Hp} {l:List (Addr×Ob)} {fs:List Pr}
theorem mG (L:Led P H0 H l fs) (s:SqL K H p (ws.map V.str)) (hl:ws.length < 64) (h:∀ (b:Addr) (ms:List Str) (H':Hp),H b=none->ms.Perm ws->sortedS ms=true->Led P H0 H' ((b,Eo (.lst (ms.map V.str)))::l) fs->aN H H'->Q (.ref b) H'):pe K [.ref p] H Q:=
  ⟨p,ws,rfl,s,hl,fun b ms nb pm pw=>h b ms _ nb pm pw (L.rS nb rfl) (bJ nb)⟩
end
end L4
namespace LS
open PySem PySem.W PyProof.Rows
def gC (n:Nat) (f:Nat->Int) (cmp:Nat->Nat->(Bool->Shared->Prop)->Shared->Prop) (s:Shared):Prop:=
  ∀ i j C,i < n->j < n->C (decide (f i < f j)) s->cmp i j C s
def Ky (f:Nat->Int) (p:Array Nat) (i:Nat):Int:=f (p.getD i 0)
structure Pm (n:Nat) (p:Array Nat):Prop where
  size:p.size=n
  perm:p.toList.Perm (List.range n)
theorem getD_eq (p:Array Nat) (i:Nat):p.getD i 0=(p[i]?).getD 0:=by
  rw [Array.getD_eq_getD_getElem?]
theorem Pm.lt {n:Nat} {p:Array Nat} (h:Pm n p) (h0 : 0 < n) (i:Nat):p.getD i 0 < n:=by
  rw [getD_eq]
  by_cases hi:i < p.size
  · rw [getElem?_pos p i hi]
    have hm:p[i]∈p.toList:=by simp
    exact List.mem_range.mp (h.perm.mem_iff.mp hm)
  · rw [getElem?_neg p i hi];exact h0
def Up (f:Nat->Int) (p:Array Nat) (b:Nat):Prop:=∀ i j,i<=j->j < b->Ky f p i<=Ky f p j
def Dn (f:Nat->Int) (p:Array Nat) (b:Nat):Prop:=∀ i j,i<=j->j < b->Ky f p j<=Ky f p i
def Eqs (f:Nat->Int) (p:Array Nat) (a b:Nat):Prop:=∀ i,a<=i->i < b->Ky f p i=Ky f p (b - 1)
theorem iQ {n:Nat} {p:Array Nat} (h:Pm n p) (i j:Nat):Pm n (kas_rev p i j):=
  ⟨(mirror_size _ _ _ _).trans h.size,(Array.perm_iff_toList_perm.mp (mirror_perm _ _ _ _)).trans h.perm⟩
theorem vF {n:Nat} {p:Array Nat} (h:Pm n p) (i j:Nat):Pm n (bubble p i j):=
  ⟨(bubble_size _ _ _).trans h.size,(Array.perm_iff_toList_perm.mp (bubble_perm _ _ _)).trans h.perm⟩
theorem kN (f:Nat->Int) {n:Nat} {p:Array Nat} (h:Pm n p) {i j:Nat} (hj:j<=n) (k:Nat):Ky f (kas_rev p i j) k=if i<=k/\k < j then Ky f p (i+j - 1 - k) else Ky f p k:=by
  unfold Ky kas_rev
  rw [getD_eq,getElem?_mirror_all (by rw [h.size];exact hj)]
  by_cases c:i<=k/\k < j
  · rw [if_pos c,if_pos c,getD_eq]
  · rw [if_neg c,if_neg c,getD_eq]
theorem qC (f:Nat->Int) {n:Nat} {p:Array Nat} (h:Pm n p) {k l:Nat} (hk:k < n) (hl:l<=k) (i:Nat) :
    Ky f (bubble p k (k - l)) i=if i=l then Ky f p k else if l < i/\i<=k then Ky f p (i - 1) else Ky f p i:=by
  have e:=getElem?_bubble (xs:=p) (src:=k) (by rw [h.size];exact hk) (k - l) (by omega) i
  rw [show k - (k - l)=l by omega] at e
  unfold Ky
  rw [getD_eq,e]
  by_cases c:i=l
  · rw [if_pos c,if_pos c,getD_eq]
  · rw [if_neg c,if_neg c]
    by_cases c2:l < i/\i<=k
    · rw [if_pos c2,if_pos c2,getD_eq]
    · rw [if_neg c2,if_neg c2,getD_eq]
theorem di {f:Nat->Int} {n:Nat} {p:Array Nat} (h:Pm n p) {a b:Nat} (hb:b<=n) (e:Eqs f p a b) (k:Nat):Ky f (kas_rev p a b) k=Ky f p k:=by
  rw [kN f h hb]
  by_cases c:a<=k/\k < b
  · rw [if_pos c,e k c.1 c.2,e (a+b - 1 - k) (by omega) (by omega)]
  · rw [if_neg c]
section
variable {n:Nat} {f:Nat->Int} {cmp:Nat->Nat->(Bool->Shared->Prop)->Shared->Prop} {s:Shared}
theorem lI {p:Array Nat} (P:Pm n p) (A:gC n f cmp s) (h0 : 0 < n) {Q:Nat->Shared->Prop}:∀ (fu m:Nat),1<=m->Up f p m ->
    (∀ m',m<=m'->m'<=m+fu->Up f p m'->(m'=m+fu\/Ky f p m' < Ky f p (m' - 1))->Q m' s)->(kas_asc p fu m).kasWp cmp Q s
  | 0,m,_,u,h=>h m (Ad _) (Ad _) u (.inl rfl)
  | fu+1,m,h1,u,h=>by
    refine A _ _ _ (P.lt h0 _) (P.lt h0 _) ?_
    show (if decide (Ky f p m < Ky f p (m - 1))=true then KasT.ret m else kas_asc p fu (m+1)).kasWp cmp Q s
    by_cases c:Ky f p m < Ky f p (m - 1)
    · rw [if_pos (by simpa using c)]
      exact h m (Ad _) (by omega) u (.inr c)
    · rw [if_neg (by simpa using c)]
      refine lI P A h0 fu (m+1) (by omega) (fun i j hij hj=>?_) fun m' a1 a2 a3 a4=>h m' (by omega) (by omega) a3 (a4.imp (fun e=>by omega) id)
      by_cases e:j=m
      · subst e
        by_cases e2:i=j
        · subst e2;exact Ag _
        · have:=u i (j - 1) (by omega) (by omega)
          omega
      · exact u i j hij (by omega)
theorem jh (A:gC n f cmp s) (h0 : 0 < n) {Q:Array Nat×Nat×Nat->Shared->Prop}:∀ (fu:Nat) (p:Array Nat) (m q:Nat),Pm n p->m+fu<=n->1<=m->q+1<=m->Dn f p m->Eqs f p (m - (q+1)) m ->
    (∀ p' m' q',Pm n p'->m<=m'->m'<=m+fu->q'+1<=m'->Dn f p' m'->Eqs f p' (m' - (q'+1)) m'->Q (p',m',q') s)->(kas_desc fu p m q).kasWp cmp Q s
  | 0,p,m,q,P,_,_,hq,d,e,h=>h p m q P (Ad _) (Ad _) hq d e
  | fu+1,p,m,q,P,hm,h1,hq,d,e,h=>by
    refine A _ _ _ (P.lt h0 _) (P.lt h0 _) ?_
    show (if decide (Ky f p m < Ky f p (m - 1))=true then (if q > 0 then kas_desc fu (kas_rev p (m - (q+1)) m) (m+1) 0 else kas_desc fu p (m+1) 0)
      else .ask (p.getD (m - 1) 0) (p.getD m 0) fun d=>if d=true then .ret (p,m,q) else kas_desc fu p (m+1) (q+1)).kasWp cmp Q s
    by_cases c:Ky f p m < Ky f p (m - 1)
    · rw [if_pos (by simpa using c)]
      have go:∀ p1,Pm n p1->(∀ k,Ky f p1 k=Ky f p k)->(kas_desc fu p1 (m+1) 0).kasWp cmp Q s:=fun p1 P1 k1=>by
        refine jh A h0 fu p1 (m+1) 0 P1 (by omega) (by omega) (by omega) (fun i j hij hj=>?_) (fun i a b=>?_) fun p' m' q' b1 b2 b3 b4 b5 b6=>h p' m' q' b1 (by omega) (by omega) b4 b5 b6
        · rw [k1,k1]
          by_cases e1:j=m
          · subst e1
            by_cases e2:i=j
            · subst e2;exact Ag _
            · have:=d i (j - 1) (by omega) (by omega)
              omega
          · exact d i j hij (by omega)
        · rw [show i=m+1 - 1 by omega]
      by_cases q0:q > 0
      · rw [if_pos q0];exact go _ (iQ P _ _) (di P (by omega) e)
      · rw [if_neg q0];exact go _ P fun _=>rfl
    · rw [if_neg (by simpa using c)]
      refine A _ _ _ (P.lt h0 _) (P.lt h0 _) ?_
      show (if decide (Ky f p (m - 1) < Ky f p m)=true then KasT.ret (p,m,q) else kas_desc fu p (m+1) (q+1)).kasWp cmp Q s
      by_cases c2:Ky f p (m - 1) < Ky f p m
      · rw [if_pos (by simpa using c2)]
        exact h p m q P (Ad _) (by omega) hq d e
      · rw [if_neg (by simpa using c2)]
        have em:Ky f p m=Ky f p (m - 1):=by omega
        refine jh A h0 fu p (m+1) (q+1) P (by omega) (by omega) (by omega) (fun i j hij hj=>?_) (fun i a b=>?_) fun p' m' q' b1 b2 b3 b4 b5 b6=>h p' m' q' b1 (by omega) (by omega) b4 b5 b6
        · by_cases e1:j=m
          · subst e1
            by_cases e2:i=j
            · subst e2;exact Ag _
            · have:=d i (j - 1) (by omega) (by omega)
              omega
          · exact d i j hij (by omega)
        · rw [show m+1 - 1=m by omega]
          by_cases e1:i=m
          · subst e1;rfl
          · rw [em];exact e i (by omega) (by omega)
theorem jy (A:gC n f cmp s) (h0 : 0 < n) {p:Array Nat} (P:Pm n p) {m:Nat} (h1 : 1<=m) (hm:m<=n) (d:Dn f p m) {Q:Nat×Array Nat->Shared->Prop}
    (h:∀ m' p',Pm n p'->1<=m'->m'<=n->Up f p' m'->Q (m',p') s):(kas_tail3 m n p).kasWp cmp Q s:=by
  unfold kas_tail3
  rw [KasT.kasWp_bind]
  have P':=iQ P 0 m
  have u:Up f (kas_rev p 0 m) m:=fun i j hij hj=>by
    rw [kN f P hm,kN f P hm,if_pos (by omega),if_pos (by omega)]
    exact d _ _ (by omega) (by omega)
  exact lI P' A h0 (n - m) m h1 u fun m' a1 a2 a3 _=>h m' _ P' (by omega) (by omega) a3
theorem eL (A:gC n f cmp s) (h0 : 0 < n) {p:Array Nat} (P:Pm n p) {m:Nat} (h1 : 1<=m) (hm:m+1<=n) (e:Eqs f p 0 m) (hlt:Ky f p m < Ky f p (m - 1)) {Q:Nat×Array Nat->Shared->Prop}
    (h:∀ m' p',Pm n p'->1<=m'->m'<=n->Up f p' m'->Q (m',p') s):(kas_descPart m n p).kasWp cmp Q s:=by
  unfold kas_descPart
  rw [KasT.kasWp_bind]
  refine jh A h0 _ p (m+1) 0 P (by omega) (by omega) (by omega) (fun i j hij hj=>?_) (fun i a b=>?_) fun p' m' q' b1 b2 b3 b4 b5 b6=>?_
  · by_cases e1:j=m
    · subst e1
      by_cases e2:i=j
      · subst e2;exact Ag _
      · have:=e i (by omega) (by omega)
        omega
    · have a:=e i (by omega) (by omega)
      have b:=e j (by omega) (by omega)
      omega
  · rw [show i=m+1 - 1 by omega]
  · show (if q' > 0 then kas_tail3 m' n (kas_rev p' (m' - (q'+1)) m') else kas_tail3 m' n p').kasWp cmp Q s
    by_cases q0:q' > 0
    · rw [if_pos q0]
      refine jy A h0 (iQ b1 _ _) (by omega) (by omega) (fun i j hij hj=>?_) h
      rw [di b1 (by omega) b6,di b1 (by omega) b6]
      exact b5 i j hij hj
    · rw [if_neg q0]
      exact jy A h0 b1 (by omega) (by omega) b5 h
theorem qy (A:gC n f cmp s) (h0 : 0 < n) {p:Array Nat} (P:Pm n p) {Q:Nat×Array Nat->Shared->Prop}
    (h:∀ m' p',Pm n p'->1<=m'->m'<=n->Up f p' m'->Q (m',p') s):(kas_count n p).kasWp cmp Q s:=by
  unfold kas_count
  rw [KasT.kasWp_bind]
  refine lI P A h0 (n - 1) 1 (Ad _) (fun i j hij hj=>by rw [show i=j by omega];exact Ag _) fun m a1 a2 a3 a4=>?_
  show (if (m == n)=true then KasT.ret (m,p) else if m > 1 then .ask (p.getD 0 0) (p.getD (m - 1) 0) fun c=>if c=true then .ret (m,p) else kas_descPart m n (kas_rev p 0 m) else kas_descPart m n p).kasWp cmp Q s
  by_cases e:m=n
  · rw [if_pos (by simpa using e)]
    exact h m p P (by omega) (by omega) a3
  · rw [if_neg (by simpa using e)]
    have hlt:Ky f p m < Ky f p (m - 1):=a4.resolve_left (by omega)
    by_cases m1:m > 1
    · rw [if_pos m1]
      refine A _ _ _ (P.lt h0 _) (P.lt h0 _) ?_
      show (if decide (Ky f p 0 < Ky f p (m - 1))=true then KasT.ret (m,p) else kas_descPart m n (kas_rev p 0 m)).kasWp cmp Q s
      by_cases c:Ky f p 0 < Ky f p (m - 1)
      · rw [if_pos (by simpa using c)]
        exact h m p P (by omega) (by omega) a3
      · rw [if_neg (by simpa using c)]
        have eqs:Eqs f p 0 m:=fun i a b=>by
          have x:=a3 0 i (by omega) (by omega)
          have y:=a3 i (m - 1) (by omega) (by omega)
          omega
        have k:=di P (a:=0) (b:=m) (by omega) eqs
        refine eL A h0 (iQ P 0 m) (by omega) (by omega) (fun i a b=>?_) ?_ h
        · rw [k,k];exact eqs i a b
        · rw [k,k];exact hlt
    · rw [if_neg m1]
      exact eL A h0 P (by omega) (by omega) (fun i a b=>by rw [show i=m - 1 by omega]) hlt h
theorem fS (A:gC n f cmp s) (h0 : 0 < n) {p:Array Nat} (P:Pm n p) {k:Nat} (u:Up f p k) {Q:Nat->Shared->Prop}
    (h:∀ l,l<=k->(∀ i,i < l->Ky f p i<=Ky f p k)->(∀ i,l<=i->i < k->Ky f p k < Ky f p i)->Q l s) :
    ∀ (fu l r:Nat),l<=r->r<=k->r - l<=fu->(∀ i,i < l->Ky f p i<=Ky f p k)->(∀ i,r<=i->i < k->Ky f p k < Ky f p i)->(kas_place p k fu l r).kasWp cmp Q s
  | 0,l,r,a,b,c,d,e=>h l (by omega) d fun i x y=>e i (by omega) y
  | fu+1,l,r,a,b,c,d,e=>by
    unfold kas_place
    by_cases lr:l>=r
    · rw [if_pos lr];exact h l (by omega) d fun i x y=>e i (by omega) y
    · rw [if_neg lr]
      refine A _ _ _ (P.lt h0 _) (P.lt h0 _) ?_
      show (if decide (Ky f p k < Ky f p ((l+r) / 2))=true then kas_place p k fu l ((l+r) / 2) else kas_place p k fu ((l+r) / 2+1) r).kasWp cmp Q s
      by_cases cc:Ky f p k < Ky f p ((l+r) / 2)
      · rw [if_pos (by simpa using cc)]
        refine fS A h0 P u h fu l _ (by omega) (by omega) (by omega) d fun i x y=>?_
        have:=u ((l+r) / 2) i x y
        omega
      · rw [if_neg (by simpa using cc)]
        refine fS A h0 P u h fu _ r (by omega) b (by omega) (fun i x=>?_) e
        have:=u i ((l+r) / 2) (by omega) (by omega)
        omega
theorem qH (A:gC n f cmp s) (h0 : 0 < n) {Q:Array Nat->Shared->Prop} (h:∀ p,Pm n p->Up f p n->Q p s) :
    ∀ (fu:Nat) (p:Array Nat) (k:Nat),Pm n p->k+fu=n->Up f p k->(kas_bin fu p k).kasWp cmp Q s
  | 0,p,k,P,e,u=>h p P (by rw [<- e];exact u)
  | fu+1,p,k,P,e,u=>by
    unfold kas_bin
    rw [KasT.kasWp_bind]
    refine fS A h0 P u (fun l hl d1 d2=>?_) k 0 k (Ae _) (Ad _) (by omega) (fun i x=>absurd x (by omega)) fun i x y=>absurd y (by omega)
    refine qH A h0 h fu _ (k+1) (vF P _ _) (by omega) fun i j hij hj=>?_
    rw [qC f P (by omega) hl,qC f P (by omega) hl]
    by_cases i1:i=l
    · rw [if_pos i1]
      by_cases j1:j=l
      · rw [if_pos j1];exact Ag _
      · rw [if_neg j1,if_pos (by omega)]
        exact Int.le_of_lt (d2 (j - 1) (by omega) (by omega))
    · rw [if_neg i1]
      by_cases i2:l < i/\i<=k
      · rw [if_pos i2,if_neg (by omega),if_pos (by omega)]
        exact u _ _ (by omega) (by omega)
      · rw [if_neg i2]
        by_cases j1:j=l
        · rw [if_pos j1];exact d1 i (by omega)
        · rw [if_neg j1]
          by_cases j2:l < j/\j<=k
          · rw [if_pos j2];exact u _ _ (by omega) (by omega)
          · rw [if_neg j2];exact u _ _ hij (by omega)
theorem qT (A:gC n f cmp s) (h0 : 0 < n) {Q:Array Nat->Shared->Prop} (h:∀ p,Pm n p->Up f p n->Q p s):(kas_sort n).kasWp cmp Q s:=by
  unfold kas_sort
  rw [KasT.kasWp_bind]
  refine qy A h0 ⟨by simp,by simp⟩ fun m p P h1 h2 u=>?_
  show (if m < n then kas_bin (n - max m 1) p (max m 1) else KasT.ret p).kasWp cmp Q s
  by_cases c:m < n
  · rw [if_pos c]
    exact qH A h0 h _ p _ P (by omega) (by rw [show max m 1=m by omega];exact u)
  · rw [if_neg c]
    exact h p P (by rw [show n=m by omega];exact u)
end
end LS
namespace LS
open PySem PySem.W PyProof.Rows
def ee:List Int->List Int->Bool
  | a::r,b::t=>if (a == b)=true then ee r t else decide (a < b)
  | _,_=>false
section
variable {prog:Program} {w:World} {A:Around} {E:Value->Shared->Prop} {s:Shared}
theorem qd {b:Bool} {Q:Bool->Shared->Prop}:∀ {xs ys:List Value} {ns ms:List Int} (i:Nat),IntsAre xs ns->IntsAre ys ms->ns.length=ms.length->Q (ee ns ms) s->KatLex prog w A b false Q (xs.zip ys) i s
  | _,_,_,_,_,.nil,.nil,_,h=>h
  | _,_,_,_,_,.nil,.cons ..,e,_=>by simp at e
  | _,_,_,_,_,.cons ..,.nil,e,_=>by simp at e
  | _,_,_,_,i,.cons n t r,.cons m u q,e,h=>by
    refine kat_cons (wpAny_eqBool_int ?_)
    cases c:n == m with
    | true=>
      refine kat_yes (qd (i+1) r q (by simpa using e) ?_)
      simpa [ee,c] using h
    | false=>
      have h':Q (decide (n < m)) s:=by simpa [ee,c] using h
      refine kat_no ?_
      cases b && i == 0 with
      | true=>exact oneLt_int h'
      | false=>exact kat_one _ _ (lt_int h')
theorem jS {f:Nat->Int} {a:Addr} {vs:List Value} {n:Nat} {P:PySem.Fin->Shared->Prop} (ho:s.heap.get? a=some (seqObj "list" vs.toArray n)) (h64:vs.length < 64)
    (hk:∀ h',(∀ b o,b≠a->s.heap.get? b=some o->h'.get? b=some o)->2<=vs.length->∃ κ,(∀ Q:SortKind->Shared->Prop,Q κ { s with heap:=h' }->wpAny (model prog w) A (keyKind' vs.toArray) Q E { s with heap:=h' })/\gC vs.length f (kas_ask prog w A κ vs) { s with heap:=h' })
    (h:∀ p:Array Nat,Pm vs.length p->Up f p vs.length->P (.done (.ret .none)) { s with heap:=sortedHeap s.heap a vs (List.toArray (p.toList.map fun i=>vs.getD i Value.none)) }) :
    wpAny (model prog w) A (Builtin.«list.sort» ⟨[.ref a],[]⟩) P E s:=by
  rw [list_sort_plain]
  have ha:a < s.heap.objs.size:=Heap.lt_size ho
  have hz1:vs.toArray.size<=sizeLine:=by rw [zN,sizeLine_eq];omega
  refine wpAny_bind (listItems_at ho rfl ?_)
  refine wpAny_bind (listUpdate_at ho rfl ?_ hz1 (Ae _))
  obtain ⟨e1,ho1⟩:∃ e1,(s.heap.update a (Obj.mapSeq fun _=>(#[]:Array Value))).get? a=some (seqObj "list" #[] e1):=⟨_,get?_update_seq ho (fun _=>#[])⟩
  refine wpAny_bind (seqEpoch_at ho1 rfl ?_)
  refine wpAny_bind (wpAny_newTuple ?_ (by show vs.length<=_;rw [sizeLine_eq];omega))
  refine wpAny_bind (wpAny_newList ?_ (Ae _))
  refine wpAny_holding ?_
  have wU:∀ b o,b≠a->s.heap.get? b=some o->(((s.heap.update a (Obj.mapSeq fun _=>(#[]:Array Value))).push (seqObj "tuple" vs.toArray 0)).push (seqObj "list" #[] 0)).get? b=some o:=fun b o hb q=>by
    refine Heap.get?_push_of_some _ (Heap.get?_push_of_some _ ?_)
    rw [Heap.get?_update_ne _ _ _ _ hb];exact q
  have ho6:(((s.heap.update a (Obj.mapSeq fun _=>(#[]:Array Value))).push (seqObj "tuple" vs.toArray 0)).push (seqObj "list" #[] 0)).get? a=some (seqObj "list" #[] e1):=
    Heap.get?_push_of_some _ (Heap.get?_push_of_some _ ho1)
  show wpAny (model prog w) A _ P E { s with heap:=((s.heap.update a (Obj.mapSeq fun _=>(#[]:Array Value))).push (seqObj "tuple" vs.toArray 0)).push (seqObj "list" #[] 0) }
  dsimp only
  by_cases h2:vs.toArray.size < 2
  · rw [if_pos h2,if_pos h2]
    refine wpAny_bind (wpAny_pure ?_)
    rw [StateT.run_pure]
    refine wpAny_bind (wpAny_pure ?_)
    dsimp only
    have h2':vs.length < 2:=by simpa using h2
    have e:(arrOf (SortSt.mk' general' (vs.toArray.zip vs.toArray) #[] 7 none)).map (·.2)=List.toArray ((List.toArray (List.range vs.length)).toList.map fun i=>vs.getD i Value.none):=by
      refine kat_snds rfl ?_
      have e:=kas_range (vs.toArray.zip vs.toArray)
      rw [show (vs.toArray.zip vs.toArray).size=vs.length by simp] at e
      exact e.symm
    have fin:=h (List.toArray (List.range vs.length)) ⟨by simp,by simp⟩ (fun i j hij hj=>by rw [show i=j by omega];exact Ag _)
    refine wpAny_bind (seqEpoch_at ho6 rfl ?_)
    rw [e]
    refine wpAny_bind (listUpdate_at ho6 rfl ?_ (Ae _) (by simp only [zN,zS,List.length_range];rw [sizeLine_eq];omega))
    simp only [bne_self_eq_false,Bool.false_eq_true,if_false]
    exact wpAny_pure fin
  · rw [if_neg h2,if_neg h2]
    have h2' : 2<=vs.length:=by
      have:=h2
      rw [zN] at this
      omega
    obtain ⟨κ,hκ,ask⟩:=hk _ wU h2'
    refine wpAny_bind (hκ _ ?_)
    refine wpAny_bind (wpAny_mono (kat_run (Q:=fun st' s'=>s'={ s with heap:=((s.heap.update a (Obj.mapSeq fun _=>(#[]:Array Value))).push (seqObj "tuple" vs.toArray 0)).push (seqObj "list" #[] 0) }/\∃ p:Array Nat,arrOf st'=p.map (kas_item (vs.toArray.zip vs.toArray))/\failedOf st'=none/\Pm vs.length p/\Up f p vs.length)
      (G:=fun p s'=>s'={ s with heap:=((s.heap.update a (Obj.mapSeq fun _=>(#[]:Array Value))).push (seqObj "tuple" vs.toArray 0)).push (seqObj "list" #[] 0) }/\Pm vs.length p/\Up f p vs.length)
      rfl h2' h64 (fun p' st' s' a1 a2 a3 a4=>⟨a4.1,p',a2,a3,a4.2⟩) (qT ask (by omega) fun p P U=>⟨rfl,P,U⟩)) ?_ fun _ _ e=>e)
    rintro ⟨⟨⟩,st'⟩ s' ⟨rfl,p,har,hf,hp,hu⟩
    dsimp only
    rw [kat_snds rfl har]
    refine wpAny_bind (seqEpoch_at ho6 rfl ?_)
    refine wpAny_bind (listUpdate_at ho6 rfl ?_ (Ae _) (by simp only [zN,zS,Array.length_toList,hp.size];rw [sizeLine_eq];omega))
    rw [hf]
    simp only [bne_self_eq_false,Bool.false_eq_true,if_false]
    exact wpAny_pure (h p hp hu)
theorem oW {f:Nat->Int} {l:Addr} {vs:List Value} {Q:Value->Shared->Prop} (hl:s.heap.IsList l vs.toArray) (h64:vs.length < 64)
    (hk:∀ h' A' (E':Value->Shared->Prop),(∀ b o,s.heap.get? b=some o->h'.get? b=some o)->2<=vs.length->∃ κ,(∀ Q:SortKind->Shared->Prop,Q κ { s with heap:=h' }->wpAny (model prog w) A' (keyKind' vs.toArray) Q E' { s with heap:=h' })/\gC vs.length f (kas_ask prog w A' κ vs) { s with heap:=h' })
    (h:∀ p:Array Nat,Pm vs.length p->Up f p vs.length->Q (.ref (s.heap.objs.size+1)) { s with heap:=sortedAll s.heap vs (List.toArray (p.toList.map fun i=>vs.getD i Value.none)) }) :
    wpAny (model prog w) A (call (.builtin "sorted") [.ref l]) Q E s:=by
  refine Calls.call_function_entry kind_sorted plain_sorted entry_sorted (args_sorted1 _) ?_
  unfold Builtin.«sorted»
  refine wpAny_bind (m:=checkCount "sorted" 1 1 _) (wpAny_pure ?_)
  refine wpAny_bind (collect_list hl ?_ (by rw [sizeLine_eq];omega))
  refine wpAny_bind (wpAny_newList ?_ (by rw [sizeLine_eq];omega))
  have hsz:((s.heap.push (seqObj "list" #[] 0)).update s.heap.objs.size (Obj.mapSeq (· ++ vs.toArray))).objs.size=s.heap.objs.size+1:=by
    rw [Heap.size_update,size_push']
  have hoL:(((s.heap.push (seqObj "list" #[] 0)).update s.heap.objs.size (Obj.mapSeq (· ++ vs.toArray))).push (seqObj "list" vs.toArray 0)).get? (s.heap.objs.size+1)=some (seqObj "list" vs.toArray 0):=by
    rw [<- hsz];exact Heap.get?_push_size _ rfl
  have keep:∀ b o,s.heap.get? b=some o->(((s.heap.push (seqObj "list" #[] 0)).update s.heap.objs.size (Obj.mapSeq (· ++ vs.toArray))).push (seqObj "list" vs.toArray 0)).get? b=some o:=fun b o q=>by
    have hlt:b < s.heap.objs.size:=Heap.lt_size q
    rw [Heap.get?_push_ne _ _ _ (by rw [hsz];exact Ab (Nat.lt_succ_of_lt hlt)),Heap.get?_update_ne _ _ _ _ (Ab hlt),Heap.get?_push_ne _ _ _ (Ab hlt)]
    exact q
  show wpAny _ _ _ _ _ { s with heap:=((s.heap.push (seqObj "list" #[] 0)).update s.heap.objs.size (Obj.mapSeq (· ++ vs.toArray))).push (seqObj "list" vs.toArray 0) }
  rw [hsz]
  refine wpAny_bind (wpAny_holding (wpAny_call_entry slot_list_sort ⟨_,hoL,rfl⟩ entry_list_sort (jS (f:=f)
    (s:={ s with heap:=((s.heap.push (seqObj "list" #[] 0)).update s.heap.objs.size (Obj.mapSeq (· ++ vs.toArray))).push (seqObj "list" vs.toArray 0) })
    hoL h64 (fun h' k=>hk h' _ _ fun b o q=>k b o (Ab (Nat.lt_succ_of_lt (Heap.lt_size q))) (keep b o q)) fun p P U=>⟨_,rfl,?_⟩) (args_list_sort _)))
  exact wpAny_pure ⟨_,rfl,h p P U⟩
section
variable {α : Type}
def vL (h:Heap) (ad : α->Addr) (T : α->List Int) (k:Nat) (ps:List α):Prop:=
  ∀ a∈ps,∃ o xs n,h.get? (ad a)=some o/\o.cls = .type "tuple" /\ o.data = .seq xs n/\IntsAre xs.toList (T a)/\(T a).length=k
def mz (g : α->Int) (ps:List α) (i:Nat):Int:=match ps[i]? with
  | some x=>g x
  | none=>0
theorem jW {g : α->Int} {ps:List α} {i:Nat} (hi:i < ps.length):mz g ps i=g ps[i]:=by
  unfold mz;rw [zD hi]
theorem dS {ad : α->Addr} {ps:List α} {i:Nat} (hi:i < ps.length):(ps.map fun x=>Value.ref (ad x)).getD i Value.none = .ref (ad ps[i]):=by
  simp [List.getD,hi]
theorem jG {ad : α->Addr} {T : α->List Int} {g : α->Int} {k:Nat} {l:Addr} {ps:List α} {Q:Value->Shared->Prop} (hl:s.heap.IsList l (ps.map fun x=>Value.ref (ad x)).toArray) (h64:ps.length < 64) (ht:vL s.heap ad T k ps) (hk : 1<=k)
    (hg:∀ a∈ps,∀ b∈ps,ee (T a) (T b)=decide (g a < g b))
    (h:∀ qs:List α,qs.Perm ps->qs.Pairwise (fun a b=>g a<=g b)->Q (.ref (s.heap.objs.size+1)) { s with heap:=sortedAll s.heap (ps.map fun x=>Value.ref (ad x)) (qs.map fun x=>Value.ref (ad x)).toArray }) :
    wpAny (model prog w) A (call (.builtin "sorted") [.ref l]) Q E s:=by
  have hlen:(ps.map fun x=>Value.ref (ad x)).length=ps.length:=zS _
  refine oW (f:=mz g ps) hl (by omega) (fun h' A' E' keep h2=>?_) fun p P U=>?_
  · refine ⟨tuples' (Value.type "int" != Value.type "tuple"),fun Q hq=>?_,fun i j C hi hj hc=>?_⟩
    · have firsts:∀ cs:List α,(∀ a∈cs,a∈ps)->∃ fs:List Value,KatTups h' (cs.map fun x=>Value.ref (ad x)) fs/\fs.length=cs.length/\∀ v∈fs,∃ n t,v = .int n t:=by
        intro cs
        induction cs with
        | nil=>intro _;exact ⟨[],KatTups.nil,rfl,fun v hv=>by cases hv⟩
        | cons a cs ih=>
          intro hm
          obtain ⟨fs,f1,f2,f3⟩:=ih fun b hb=>hm b (.tail _ hb)
          obtain ⟨o,xs,n,x1,x2,x3,x4,x5⟩:=ht a (hm a (.head _))
          cases hT:T a with
          | nil=>rw [hT] at x5;simp at x5;omega
          | cons z zs=>
            rw [hT] at x4
            cases hxs:xs.toList with
            | nil=>rw [hxs] at x4;cases x4
            | cons v vs=>
              rw [hxs] at x4
              cases x4 with
              | cons _ t _=>
                have e0:xs[0]?=some (.int z t):=by rw [<- Array.getElem?_toList,hxs];rfl
                refine ⟨.int z t::fs,KatTups.cons (keep _ _ x1) x2 x3 e0 f1,by simp [f2],fun v hv=>?_⟩
                rcases Ak hv with rfl | hv
                · exact ⟨z,t,rfl⟩
                · exact f3 v hv
      obtain ⟨fs,f1,f2,f3⟩:=firsts ps fun _ x=>x
      refine kat_kind (T:=Value.type "int") f1 (by omega) (fun v hv=>?_) (by decide) hq
      obtain ⟨n,t,rfl⟩:=f3 v hv
      exact Looks.of_pure rfl
    · have hi':i < ps.length:=by omega
      have hj':j < ps.length:=by omega
      unfold kas_ask
      rw [dS hi',dS hj']
      obtain ⟨o,xs,n,x1,x2,x3,x4,x5⟩:=ht ps[i] (List.getElem_mem hi')
      obtain ⟨o',xs',n',y1,y2,y3,y4,y5⟩:=ht ps[j] (List.getElem_mem hj')
      have lx:xs.toList.length=(T ps[i]).length:=x4.length
      have ly:xs'.toList.length=(T ps[j]).length:=y4.length
      refine kat_lt (keep _ _ x1) x3 (keep _ _ y1) y3 ?_
      rw [show decide (xs.size < xs'.size)=false by simp only [decide_eq_false_iff_not];rw [<- Array.length_toList,<- Array.length_toList];omega]
      refine qd 0 x4 y4 (by omega) ?_
      rw [hg _ (List.getElem_mem hi') _ (List.getElem_mem hj')]
      rw [jW hi',jW hj'] at hc
      exact hc
  · obtain ⟨qs,e,e2⟩:∃ qs:List α,p.toList.map (fun i=>ps[i]?)=qs.map some/\qs.Perm ps:=by
      have hr:∀ is:List Nat,(∀ i∈is,i < ps.length)->∃ qs:List α,is.map (fun i=>ps[i]?)=qs.map some:=by
        intro is
        induction is with
        | nil=>intro _;exact ⟨[],rfl⟩
        | cons i is ih=>
          intro hm
          obtain ⟨qs,e⟩:=ih fun j hj=>hm j (.tail _ hj)
          exact ⟨ps[i]'(hm i (.head _))::qs,by rw [List.map_cons,List.map_cons,e,zD (hm i (.head _))]⟩
      obtain ⟨qs,e⟩:=hr p.toList fun i hi=>by
        have:=List.mem_range.mp (P.perm.mem_iff.mp hi)
        omega
      refine ⟨qs,e,?_⟩
      have p1:=P.perm.map fun i=>ps[i]?
      have e3:(List.range (ps.map fun x=>Value.ref (ad x)).length).map (fun i=>ps[i]?)=ps.map some:=by
        rw [hlen]
        refine List.ext_getElem (by simp) fun i h1 h2=>?_
        have hi:i < ps.length:=by simpa using h2
        simp [zD hi]
      rw [e,e3] at p1
      have p2:=p1.filterMap id
      simpa using p2
    have hql:qs.length=p.toList.length:=by
      have:=congrArg List.length e
      simpa using this.symm
    have qAt:∀ i (h1:i < p.toList.length) (h2:i < qs.length),ps[p.toList[i]]?=some qs[i]:=fun i h1 h2=>by
      have:=congrArg (fun l=>l[i]?) e
      simp only [zO] at this
      rw [zD h1,zD h2] at this
      simpa using this
    have e4:(p.toList.map fun i=>(ps.map fun x=>Value.ref (ad x)).getD i Value.none)=qs.map fun x=>Value.ref (ad x):=by
      refine List.ext_getElem (by simp [hql]) fun i h1 h2=>?_
      have h1':i < p.toList.length:=by simpa using h1
      have h2':i < qs.length:=by simpa using h2
      have q:=qAt i h1' h2'
      have hlt:=(Ah q).1
      rw [List.getElem_map,List.getElem_map,dS hlt]
      rw [zD hlt] at q
      rw [zW q]
    rw [e4]
    refine h qs e2 ?_
    rw [List.pairwise_iff_getElem]
    intro i j h1 h2 hij
    have h1':i < p.toList.length:=by omega
    have h2':j < p.toList.length:=by omega
    have z:p.size=ps.length:=by rw [P.size,hlen]
    have zz:p.toList.length=p.size:=Array.length_toList
    have u:=U i j (Aa hij) (by omega)
    unfold Ky at u
    have g1:p.getD i 0=p.toList[i]:=by
      have:i < p.size:=by omega
      simp [Array.getD,this]
    have g2:p.getD j 0=p.toList[j]:=by
      have:j < p.size:=by omega
      simp [Array.getD,this]
    rw [g1,g2] at u
    have q1:=qAt i h1' h1
    have q2:=qAt j h2' h2
    unfold mz at u
    rw [q1,q2] at u
    exact u
end
end
end LS
namespace L4
open PySem PySem.Spec PyProof.Rows L2 L3
def o9 (K:Ao):RL:=fun xs H Q=>∃ (p:Addr) (α : Type) (ps:List α) (ad : α->Addr) (T : α->List Int) (g : α->Int) (k:Nat),xs=[.ref p]/\SqL K H p (ps.map fun x=>V.ref (ad x))/\ps.length < 64/\1<=k /\
  (∀ x∈ps,H (ad x)=some (.tup ((T x).map V.int))/\(T x).length=k)/\(∀ x∈ps,∀ y∈ps,LS.ee (T x) (T y)=decide (g x < g y)) /\
  ∀ (l:Addr) (qs:List α),H l=none->qs.Perm ps->qs.Pairwise (fun x y=>g x<=g y)->Q (.ref l) (upd H l (.lst (qs.map fun x=>V.ref (ad x))))
theorem fG {α : Type} {ad : α->Addr}:∀ {ps:List α} {us:List Value},Vals (ps.map fun x=>V.ref (ad x)) us->us=ps.map fun x=>Value.ref (ad x)
  | [],_,.nil=>rfl
  | x::ps,_,.cons r t=>by
    rw [List.map_cons,fG t];cases (show _=Value.ref (ad x) from r);rfl
theorem fR {α : Type} {ad : α->Addr}:∀ (ps:List α),Vals (ps.map fun x=>V.ref (ad x)) (ps.map fun x=>Value.ref (ad x))
  | []=>.nil
  | _::ps=>.cons rfl (fR ps)
section
variable {X:Cx}
theorem sS:bV X (.builtin "sorted") (o9 X.K):=by
  intro pins s σ H xs us Q I r h
  obtain ⟨p,α,ps,ad,T,g,k,rfl,hq,h64,hk,ht,hg,q⟩:=h
  obtain ⟨u,rfl,rx⟩:=vals1 r
  cases rx
  obtain ⟨its,rv,pl,hz⟩:=I.list hq
  have ei:=fG rv
  subst ei
  refine LS.jG (g:=g) pl.isList h64 (fun x hx=>?_) hk hg fun qs a1 a2=>?_
  · obtain ⟨h1,h2⟩:=ht x hx
    obtain ⟨_,its,rv,⟨o,z1,z2,n,z3⟩⟩:=(show aS X.prog X.w H s.heap (ad x) (.tup ((T x).map V.int)) from I.hok _ _ h1)
    exact ⟨o,its.toArray,n,z1,z2,z3,by simpa using ints_of rv,h2⟩
  · obtain ⟨e,he⟩:=sortedAll_at s.heap (ps.map fun x=>Value.ref (ad x)) (qs.map fun x=>Value.ref (ad x)).toArray
    have hz2:(qs.map fun x=>V.ref (ad x)).length<=sizeLine:=by rw [zS,a1.length_eq];exact Aa (small1000 (by omega))
    exact ⟨.ref (s.heap.objs.size+1),_,I.laid (a:=s.heap.objs.size+1) (o:=.lst (qs.map fun x=>V.ref (ad x))) (t':=s.toks) (fun b o hb=>sortedAll_old hb) (Af _) ⟨hz2,_,e,fR qs,he⟩,rfl,q _ qs (I.hok.fresh (Af _)) a1 a2⟩
end
section
variable {K:Ao} {H:Hp} {Q:VK} {p:Addr} {P:Addr->Prop} {H0:Hp} {l:List (Addr×Ob)} {fs:List Pr} {α : Type} {ps:List α} {ad : α->Addr}
theorem sy (T : α->List Int) (g : α->Int) (k:Nat) (L:Led P H0 H l fs) (s:SqL K H p (ps.map fun x=>V.ref (ad x))) (hl:ps.length < 64) (hk : 1<=k) (ht:∀ x∈ps,H (ad x)=some (.tup ((T x).map V.int))/\(T x).length=k) (hg:∀ x∈ps,∀ y∈ps,LS.ee (T x) (T y)=decide (g x < g y))
    (h:∀ (b:Addr) (qs:List α) (H':Hp),H b=none->qs.Perm ps->qs.Pairwise (fun x y=>g x<=g y)->Led P H0 H' ((b,Eo (.lst (qs.map fun x=>V.ref (ad x))))::l) fs->aN H H'->Q (.ref b) H'):o9 K [.ref p] H Q:=
  ⟨p,α,ps,ad,T,g,k,rfl,s,hl,hk,ht,hg,fun b qs nb pm pw=>h b qs _ nb pm pw (L.rS nb rfl) (bJ nb)⟩
theorem x6 {m l k m' l' k':Int}:LS.ee [m,l,k] [m',l',k']=decide (m < m'\/(m=m'/\(l < l'\/(l=l'/\k < k')))):=by
  unfold LS.ee LS.ee LS.ee LS.ee
  simp only [beq_iff_eq]
  by_cases z:m=m'
  · rw [if_pos z]
    by_cases y:l=l'
    · rw [if_pos y]
      by_cases x:k=k'
      · rw [if_pos x];exact (zX (by omega)).symm
      · rw [if_neg x]
        by_cases v:k < k'
        · rw [zY v];exact (zY (by omega)).symm
        · rw [zX v];exact (zX (by omega)).symm
    · rw [if_neg y]
      by_cases x:l < l'
      · rw [zY x];exact (zY (by omega)).symm
      · rw [zX x];exact (zX (by omega)).symm
  · rw [if_neg z]
    by_cases x:m < m'
    · rw [zY x];exact (zY (by omega)).symm
    · rw [zX x];exact (zX (by omega)).symm
end
end L4
set_option hygiene false
local macro_rules | `(tactic| fail $s:str)=>do
  let c:=s.getString.toList
  if c.contains ' ' then Lean.Macro.throwUnsupported
  if c.head!.isDigit then
    let a:=Lean.Syntax.mkApp (Lean.mkIdent (.str `L4 (String.ofList c.tail))) (Array.replicate (c.head!.toNat - 48) (<- `(?_)))
    `(tactic| with_reducible fail_if_success fail_if_success refine' $a)
  else `(tactic| with_reducible refine $(Lean.mkIdent (.str `L4 s.getString)) ?_)
local macro_rules | `(tactic| fail "put")=>`(tactic| first | exact L4.Put.head | (apply L4.Put.tail;fail "put"))
local macro_rules | `(tactic| fail "mem")=>`(tactic| first | exact zK | (refine zH _ ?_;fail "mem"))
local macro_rules | `(tactic| fail "lk")=>`(tactic| first | exact L4.lk_hit | (refine (L4.lk_miss (by decide +kernel)).trans ?_;fail "lk"))
local macro_rules | `(tactic| fail "om")=>`(tactic| first | omega | assumption | exact rfl | (simp only [zP,zT,zJ,zS];omega))
local macro_rules | `(tactic| fail "de")=>`(tactic| first | decide | omega | (simp only [zP,zT,zJ,zS];omega))
local macro_rules | `(tactic| fail "sz")=>`(tactic| first | (show (_:Nat)<=sizeLine;exact Aa (L2.small1000 (by fail "de"))) | exact L2.small1000 (by fail "de"))
local macro_rules | `(tactic| fail "side")=>`(tactic| first
  | omega
  | (show (0:Int) < _;first | omega | decide)
  | (refine ⟨⟨?_,?_⟩,?_,?_⟩ <;> first | omega | decide)
  | (refine ⟨?_,?_⟩ <;> first | omega | decide)
  | (refine ⟨?_,?_,?_⟩ <;> first | omega | decide))
local macro_rules | `(tactic| fail "h0")=>`(tactic| first
  | fail "zb"
  | (fail "2w4";with_reducible refine L4.w4 (by with_unfolding_all exact rfl) ?_)
  | fail "g_c"
  | fail "yu"
  | fail "yS"
  | fail "zl"
  | fail "yP"
  | fail "zm"
  | fail "yf"
  | fail "yY")
local macro_rules | `(tactic| fail "h1")=>`(tactic| first
  | fail "za"
  | fail "g_eqS"
  | fail "g_eqB"
  | fail "yU"
  | fail "yT"
  | fail "yw"
  | fail "zo"
  | fail "yO"
  | fail "yp"
  | fail "yt")
local macro_rules | `(tactic| fail "h2")=>`(tactic| first
  | fail "g_b"
  | fail "g_and"
  | fail "zk"
  | fail "yR"
  | fail "yx"
  | fail "yQ"
  | fail "yo"
  | fail "g_isN"
  | fail "g_notN"
  | fail "g_un")
local macro_rules | `(tactic| fail "h3")=>`(tactic| first
  | fail "g_rU"
  | fail "yN"
  | fail "yX"
  | fail "y9"
  | fail "yq"
  | fail "yh"
  | fail "g_ifE"
  | fail "zj"
  | fail "xg"
  | fail "yk")
local macro_rules | `(tactic| fail "h4")=>`(tactic| first
  | fail "xO"
  | fail "xR"
  | fail "yr"
  | fail "g_gSub"
  | fail "g_retN"
  | fail "g_break"
  | fail "g_cont"
  | fail "xh"
  | fail "xj"
  | fail "xP")
local macro_rules | `(tactic| fail "h5")=>`(tactic| first
  | fail "xQ"
  | fail "zp"
  | fail "g_bm0"
  | fail "yZ"
  | fail "g_rng1"
  | fail "yi"
  | fail "yL"
  | fail "g_wkT"
  | fail "g_zip"
  | fail "g_enum")
local macro_rules | `(tactic| fail "h6")=>`(tactic| first
  | fail "g_meth"
  | fail "g_methX"
  | fail "yv"
  | fail "xS"
  | fail "yg"
  | fail "g_rev"
  | fail "g_maxd"
  | fail "g_lenSet"
  | fail "g_chain"
  | (fail "3g_revSq";with_reducible refine L4.g_revSq (by assumption) (L2.SqL.of (L4.Led.eo (by assumption) (by fail "put"))) fun l' H' n' L' _=>?_))
local macro_rules | `(tactic| fail "h7")=>`(tactic| first
  | (fail "3g_divm";with_reducible refine L4.g_divm (by assumption) (by constructor <;> omega) fun t' H' n' L' _=>?_)
  | fail "g_tTru"
  | (fail "2g_addS";with_reducible refine L4.g_addS (by fail "sz") ?_)
  | (fail "2qk";with_reducible refine L4.qk (by first | assumption | fail "sz") ?_)
  | (fail "2g_mulS";with_reducible refine L4.g_mulS (by refine ⟨?_,?_,?_⟩ <;> first | omega | decide) ?_)
  | (fail "5g_cat";with_reducible refine L4.g_cat (by assumption) (by fail "put") (by fail "put") (by first | assumption | fail "sz") fun l' H' n' L' _=>?_)
  | (fail "4g_slI";with_reducible refine L4.g_slI (by assumption) (by assumption) (by first | exact not_false | assumption) fun l' H' n' L' _=>?_)
  | fail "g_callX"
  | fail "g_makeX"
  | fail "xN")
local macro_rules | `(tactic| fail "h8")=>`(tactic| first
  | fail "w9"
  | fail "g_baseI"
  | fail "g_sfldN"
  | fail "g_raiseI"
  | fail "g_undo"
  | fail "g_undoR"
  | fail "g_tryAs"
  | fail "g_try"
  | fail "g_fldX"
  | fail "yW")
local macro_rules | `(tactic| fail "h9")=>`(tactic| first
  | fail "g_max3"
  | fail "g_isBlB"
  | fail "g_isNotBlB"
  | fail "g_intB"
  | fail "g_neB"
  | fail "yV"
  | ((with_reducible refine L4.g_rng1v ?_ ?_);(focus (fail "side";done)))
  | ((with_reducible refine L4.sC ?_ ?_);(focus (fail "side";done)))
  | (fail "2w5";with_reducible refine L4.w5 (L2.SqL.of (L4.Led.eo (by assumption) (by fail "put"))) ?_)
  | fail "yM")
local macro_rules | `(tactic| fail "h10")=>`(tactic| first
  | (fail "2f6";with_reducible refine L4.f6 (L2.SqL.of (L4.Led.eo (by assumption) (by fail "put"))) ?_)
  | (fail "2g_wkTv";with_reducible refine L4.g_wkTv (L2.SqT.of (L4.Led.tup (by assumption) (by fail "mem"))) ?_)
  | (fail "4vf";with_reducible refine L4.vf (by assumption) (by assumption) (by first | exact not_false | assumption) ?_)
  | (fail "2g_lenSq";with_reducible refine L4.g_lenSq (L2.SqL.of (L4.Led.eo (by assumption) (by fail "put"))) ?_)
  | (fail "2g_lenTu";with_reducible refine L4.g_lenTu (L2.SqT.of (L4.Led.tup (by assumption) (by fail "mem"))) ?_)
  | (fail "4qo";with_reducible refine L4.qo (by assumption) (by fail "put") (by fail "sz") fun H' L' _=>?_)
  | (fail "3vd";with_reducible refine L4.vd (by assumption) (by fail "sz") fun t' H' n' L' _=>?_)
  | (fail "3ve";with_reducible refine L4.ve (by assumption) (by fail "sz") fun l' H' n' L' _=>?_)
  | ((with_reducible refine L4.yj ?_ ?_);(focus (fail "side";done)))
  | (fail "4vj";with_reducible refine L4.vj (by assumption) (by fail "mem") (by with_unfolding_all exact rfl) ?_))
local macro_rules | `(tactic| fail "h11")=>`(tactic| first
  | (fail "3g_geT2";with_reducible refine L4.g_geT2 (L4.Led.tup (by assumption) (by fail "mem")) (L4.Led.tup (by assumption) (by fail "mem")) ?_)
  | (fail "3g_leT2";with_reducible refine L4.g_leT2 (L4.Led.tup (by assumption) (by fail "mem")) (L4.Led.tup (by assumption) (by fail "mem")) ?_)
  | (fail "4uc";with_reducible refine L4.uc (by assumption) (by fail "put") (by with_unfolding_all exact rfl) ?_)
  | (fail "4g_ixT";with_reducible refine L4.g_ixT (by assumption) (by fail "mem") (by with_unfolding_all exact rfl) ?_)
  | (fail "3g_ixTq";with_reducible refine L4.g_ixTq (by assumption) (by with_unfolding_all exact rfl) ?_)
  | (fail "6g_fldL";with_reducible refine L4.g_fldL (by assumption) (by fail "put") (by assumption) (by assumption) (by fail "lk") ?_)
  | (fail "2g_ifDT";with_reducible refine L4.g_ifDT (by fail "om") ?_)
  | (fail "2g_ifDF";with_reducible refine L4.g_ifDF (by fail "om") ?_)
  | (fail "2g_ifNT";with_reducible refine L4.g_ifNT (by fail "om") ?_)
  | (fail "2vh";with_reducible refine L4.vh (by fail "om") ?_))
local macro_rules | `(tactic| fail "g0")=>`(tactic| first | fail "h0" | fail "h1" | fail "h2" | fail "h3" | fail "h4" | fail "h5" | fail "h6" | fail "h7" | fail "h8" | fail "h9" | fail "h10" | fail "h11")
local macro_rules | `(tactic| fail "k7")=>`(tactic| first | (with_reducible refine kk7.n _ _ ?_) | (with_reducible refine kk7.r _ _ ?_) | (with_reducible refine kk7.b _ _ ?_) | (with_reducible refine kk7.c _ _ ?_) | (clear kk7 D7;fail "k7"))
local macro_rules | `(tactic| fail "ga")=>`(tactic| with_reducible refine L4.seq_all fun D7 kk7=>?_)
local macro_rules | `(tactic| fail "gb")=>`(tactic| with_reducible refine L4.g_seq ?_)
local macro_rules | `(tactic| fail "gq")=>`(tactic| fail "gb")
local macro_rules | `(tactic| fail "g1")=>`(tactic| first | fail "gq" | fail "g0" | fail "k7")
local macro_rules | `(tactic| fail "one")=>`(tactic| repeat first | fail "g0" | fail "k7")
local macro_rules | `(tactic| fail "go")=>`(tactic| repeat fail "g1")
namespace L4
open PySem PySem.Spec PyProof.Rows L2 L3
structure Ge (D' D:Ends) (u:TS):Prop where
  n:∀ σ H,u D σ H->D'.nx σ H
  r:∀ v H,D.rt v H->D'.rt v H
  b:∀ σ H,D.bk σ H->D'.bk σ H
  c:∀ σ H,D.ct σ H->D'.ct σ H
theorem seq_all {t u:TS} {D:Ends} {σ : L2.St} {H:Hp} (h:∀ D':Ends,Ge D' D u->t D' σ H):qR t u D σ H:=h { D with nx:=u D } ⟨fun _ _ h=>h,fun _ _ h=>h,fun _ _ h=>h,fun _ _ h=>h⟩
theorem _root_.L3.jr.sc {K mg x q C st ps N} (_:L3.jr K mg x q C st ps) (h:aT N ps (aj st)):aT N ps (aj st):=h
theorem _root_.L3.Dat.sc {K mg x q st ps N} (_:L3.Dat K mg x q st ps) (h:aT N ps (aj st)):aT N ps (aj st):=h
end L4
namespace L4
open PySem PySem.Spec PySem.W PyProof.Rows L2 L3
section
variable {P:Program} {w:World} {K:Frag} {mg:Str->Option Value} {base:Heap} {CX:CXT} {x qual:Str} {st:Stmt} {N ps:List Str} {k:Nat} {sp:Sp} {C:Addr}
theorem _root_.L3.Dat.ok2 (D:Dat K mg x qual st ps) (S:aT N ps (aj st)) (F:∀ vs H Q E,sp vs H Q E->vs.length=ps.length/\∀ (f:Addr) (cdv:Value) (A:Around) (outer:List Env) (s:Shared),bB k (A.deeper (envOfC qual (aj st) s.heap.objs.size f cdv))->∃ t,PSs (bW CX P w K mg base N qual (aj st) f cdv A outer s H E).nox (aO st) t/\t { nx:=fun _ H'=>Q .non H',rt:=Q } (start N vs) H):Cal P w K mg base CX x (k+1) ps sp:=D.ok S (fun vs H Q E h=>(F vs H Q E h).1) fun f cdv A outer s H vs Q E hr h=>(F vs H Q E h).2 f cdv A outer s hr
theorem _root_.L3.Dat.okR2 (D:Dat K mg x qual st ps) (S:aT N ps (aj st)) (F:∀ vs H Q E,sp vs H Q E->vs.length=ps.length/\∀ (f:Addr) (cdv:Value) (A:Around) (outer:List Env) (s:Shared),bB k (A.deeper (envOfC qual (aj st) s.heap.objs.size f cdv))->∃ t,PSs (xcx (bW (CX1 P w) P w K mg base N qual (aj st) f cdv A outer s H E) (fun _=>E)) (aO st) t/\t { nx:=fun _ H'=>Q .non H',rt:=Q } (start N vs) H):Cal P w K mg base (CX1 P w) x (k+1) ps sp:=D.okR S (fun vs H Q E h=>(F vs H Q E h).1) fun f cdv A outer s H vs Q E hr h=>(F vs H Q E h).2 f cdv A outer s hr
end
end L4
set_option hygiene false
local macro_rules | `(tactic| fail "d5")=>`(tactic| refine ⟨rfl,fun _ _ _ _ _ hr=>?_⟩)
local macro_rules | `(tactic| fail "d1")=>`(tactic| refine D.ok2 S fun vs H Q E h=>?_)
local macro_rules | `(tactic| fail "d2")=>`(tactic| refine D.okR2 S fun vs H Q E h=>?_)
set_option hygiene false
local macro_rules | `(tactic| fail "o")=>`(tactic| first | exact Or.inl rfl | exact Or.inr rfl)
local macro_rules | `(tactic| fail "r")=>`(tactic| exact hr.mono (by first | decide | omega))
local macro_rules | `(tactic| fail "s")=>`(tactic| exact ⟨rfl,rfl,rfl,by decide +kernel,rfl,by decide +kernel,by decide +kernel⟩)
local macro_rules | `(tactic| fail "d")=>`(tactic| refine D.ok S (fun vs H Q E h=>?_) (fun f cdv A outer s H vs Q E hr h=>?_))
namespace Law
open PySem PySem.Spec PyProof.Rows L2 L3 L4
variable {w:World} {K:Ao} {mg:Str->Option Value} {base:Heap} {CX:CXT}
abbrev St:=L2.St
def top (i:Nat):Stmt:=PySem.Challenge.pw_risemarks_k17_whole_texts_sorted.main.body.getD i (.Pass ⟨0,0,0,0⟩)
theorem qP:(10:Int) ^ Int.toNat 30=10 ^ 30:=rfl
theorem iL {t u:TS} {D:Ends} {σ : St} {H:Hp} (P:St->Hp->Prop) (h1:∀ nx:St->Hp->Prop,(∀ σ H,P σ H->nx σ H)->t { D with nx:=nx } σ H) (h2:∀ σ H,P σ H->u D σ H):qR t u D σ H:=h1 (u D) h2
def Oth (p:Addr) (H H':Hp):Prop:=∀ q o,H q=some o->q≠p->H' q=some o
theorem Oth.refl (p:Addr) (H:Hp):Oth p H H:=fun _ _ h _=>h
theorem Oth.trans {p:Addr} {H H1 H2:Hp} (a:Oth p H H1) (b:Oth p H1 H2):Oth p H H2:=fun q o h n=>b q o (a q o h n) n
theorem Oth.upd {p:Addr} {H H1:Hp} (a:Oth p H H1) (o:HO):Oth p H (upd H1 p o):=fun q u h n=>by rw [az n];exact a q u h n
theorem bA {H:Hp} {p:Addr} (h:H p=none) (o:HO):aN H (upd H p o):=fun b u q=>by rw [az (au q h)];exact q
def aH (H:Hp) (p:Addr) (n:Int):Prop:=∃ a b c:Int,H p=some (.lst [.int a,.int b,.int c])/\0<=a/\a < 10 ^ 121/\0<=b/\b<=n
theorem aH.mono {H:Hp} {p:Addr} {n m:Int} (h:aH H p n) (l:n<=m):aH H p m:=by
 obtain ⟨a,b,c,e,h1,h2,h3,h4⟩:=h
 exact ⟨a,b,c,e,h1,h2,h3,Ac h4 l⟩
theorem aH.same {H H':Hp} {p:Addr} {n:Int} (h:aH H p n) (o:aN H H'):aH H' p n:=by
 obtain ⟨a,b,c,e,r⟩:=h
 exact ⟨a,b,c,o _ _ e,r⟩
theorem aH.p5 {H:Hp} {p:Addr} {n:Int} (h:aH H p n):H p≠none:=by
 obtain ⟨a,b,c,e,r⟩:=h
 rw [e];exact fun z=>nomatch z
section
variable {P:Program}
theorem Dat.none {x qual:Str} {st:Stmt} {ps:List Str} {sp:Sp} (D:Dat K mg x qual st ps) (no:∀ vs H Q E,¬ sp vs H Q E):Cal P w K mg base CX x 0 ps sp:=by
 obtain ⟨f,fd,F,b,m⟩:=D.ex
 exact ⟨f,fd,⟨fun vs H Q E h=>absurd h (no vs H Q E),fun A outer s H args us vs Q E _ _ _ _ h=>absurd h (no vs H Q E)⟩,b,F.kp,m⟩
end
section
variable {P:Program}
inductive iJ (K:Ao) (vs:List V) (H:Hp) (Q:VK) (_x3:XK):Prop
 | mk (a:Addr) (ns:List Int) (k:Int) (_:vs=[.ref a,.int k]) (_:SqL K H a (ns.map V.int)) (_:ns.length<=63) (_ : 0<=k) (_:∀ (p:Addr) (H':Hp),H p=none->aH H' p 0->aN H H'->Q (.ref p) H'):iJ K vs H Q _x3
theorem kh {ns:List Int} {k:Int} (h0 : 0<=k) (h:k < (ns.length:Int)):∃ v:Int,atI (ns.map V.int) k=some (.int v):=by
 have hk:k.toNat < ns.length:=by omega
 have ek:k=((k.toNat:Nat):Int):=by omega
 have q:atI (ns.map V.int) ((k.toNat:Nat):Int)=some (.int ns[k.toNat]):=fE (by rw [zO,zD hk] <;> rfl)
 rw [<- ek] at q
 exact ⟨_,q⟩
theorem rP (D:Dat K mg "_law_hand" "_law_hand" (top 20) ["_law_script", "_law_k"]) (BT:Bt mg):Cal P w K mg base CX "_law_hand" 1 ["_law_script", "_law_k"] (iJ K):=by
 have S:=D.sc (N:=["_law_script", "_law_k", "_law_hand_here"]) (by fail "s")
 fail "d1"
 obtain ⟨a,ns,k,rfl,hS,h63,h0,q⟩:=h
 fail "d5"
 refine ⟨_,(@ah _ _ _ _ _ (@aI _ _ 2 _ _ _ _ S.nd rfl (by fail "o") (@iW _ _ _ _ (@aa _ _ _ _ _ (@af _ _ _ _) (@aa _ _ _ _ _ (@af _ _ _ _) (@aa _ _ _ _ _ (@af _ _ _ _) (@ai _) (by rfl)) (by rfl)) (by rfl))) (by rfl) (by first | exact .inl rfl | exact .inr rfl | assumption)) (@ah _ _ _ _ _ (@aW _ _ _ _ _ _ _ _ (@aF _ _ _ _ _ _ _ _ (@pR _) (@pv _ 1 _ _ (by rfl) (by first | exact Or.inl rfl | exact Or.inr (Or.inl rfl) | exact Or.inr (Or.inr rfl)) (by decide) (by decide)) (@aK _ _ _ _ _ _ _ _ _ (@uo _) rfl BT.len L3.cz (@aa _ _ _ _ _ (@pv _ 0 _ _ (by rfl) (by first | exact Or.inl rfl | exact Or.inr (Or.inl rfl) | exact Or.inr (Or.inr rfl)) (by decide) (by decide)) (@ai _) (by rfl)) (by decide) (by decide) (by rfl) (by rfl)) (@aJ _ _ (by decide) (by decide))) (@ak _ _ _ (@dX _ _ _ _ _ _ (@ao _ _ _ _ _ _ _ _ (@bq _) (@bF _ _ _ _ _ _ _ (@bg _) (@pv _ 0 _ _ (by rfl) (by first | exact Or.inl rfl | exact Or.inr (Or.inl rfl) | exact Or.inr (Or.inr rfl)) (by decide) (by decide)) (@pv _ 1 _ _ (by rfl) (by first | exact Or.inl rfl | exact Or.inr (Or.inl rfl) | exact Or.inr (Or.inr rfl)) (by decide) (by decide)) (fun _ _=>rfl)) (@ao _ _ _ _ _ _ _ _ (@bC _) (@ao _ _ _ _ _ _ _ _ (@d8 _) (@af _ _ _ _) (@af _ _ _ _)) (@ao _ _ _ _ _ _ _ _ (@d8 _) (@af _ _ _ _) (@af _ _ _ _)))) (@fT _ _ _ _ _ _ _ (@pv _ 2 _ _ (by rfl) (by first | exact Or.inl rfl | exact Or.inr (Or.inl rfl) | exact Or.inr (Or.inr rfl)) (by decide) (by decide)) (@af _ _ _ _) (@set_list _) (by intro _;rfl)) (by rfl) (by rfl) (by rfl))) (@aG _)) (@ah _ _ _ _ _ (@aW _ _ _ _ _ _ _ _ (@PW.pt _ _ _ (@uK _ _ _ _ _ _ _ (@aF _ _ _ _ _ _ _ _ (@wI _) (@bF _ _ _ _ _ _ _ (@bg _) (@pv _ 2 _ _ (by rfl) (by first | exact Or.inl rfl | exact Or.inr (Or.inl rfl) | exact Or.inr (Or.inr rfl)) (by decide) (by decide)) (@af _ _ _ _) (fun _ _=>rfl)) (@ao _ _ _ _ _ _ _ _ (@d8 _) (@af _ _ _ _) (@af _ _ _ _)) (@aJ _ _ (by decide) (by decide))) (@rg _ _ _ _ (@aF _ _ _ _ _ _ _ _ (@cB _) (@ao _ _ _ _ _ _ _ _ (@bq _) (@bF _ _ _ _ _ _ _ (@bg _) (@pv _ 0 _ _ (by rfl) (by first | exact Or.inl rfl | exact Or.inr (Or.inl rfl) | exact Or.inr (Or.inr rfl)) (by decide) (by decide)) (@af _ _ _ _) (fun _ _=>rfl)) (@af _ _ _ _)) (@af _ _ _ _) (@aJ _ _ (by decide) (by decide)))))) (@ak _ _ _ (@dX _ _ _ _ _ _ (@af _ _ _ _) (@fT _ _ _ _ _ _ _ (@pv _ 2 _ _ (by rfl) (by first | exact Or.inl rfl | exact Or.inr (Or.inl rfl) | exact Or.inr (Or.inr rfl)) (by decide) (by decide)) (@af _ _ _ _) (@set_list _) (by intro _;rfl)) (by rfl) (by rfl) (by rfl))) (@aG _)) (@ah _ _ _ _ _ (@aW _ _ _ _ _ _ _ _ (@aF _ _ _ _ _ _ _ _ (@cB _) (@pv _ 1 _ _ (by rfl) (by first | exact Or.inl rfl | exact Or.inr (Or.inl rfl) | exact Or.inr (Or.inr rfl)) (by decide) (by decide)) (@af _ _ _ _) (@aJ _ _ (by decide) (by decide))) (@ak _ _ _ (@dX _ _ _ _ _ _ (@ao _ _ _ _ _ _ _ _ (@bO _) (@bF _ _ _ _ _ _ _ (@bg _) (@pv _ 2 _ _ (by rfl) (by first | exact Or.inl rfl | exact Or.inr (Or.inl rfl) | exact Or.inr (Or.inr rfl)) (by decide) (by decide)) (@af _ _ _ _) (fun _ _=>rfl)) (@af _ _ _ _)) (@fT _ _ _ _ _ _ _ (@pv _ 2 _ _ (by rfl) (by first | exact Or.inl rfl | exact Or.inr (Or.inl rfl) | exact Or.inr (Or.inr rfl)) (by decide) (by decide)) (@af _ _ _ _) (@set_list _) (by intro _;rfl)) (by rfl) (by rfl) (by rfl))) (@aG _)) (@ak _ _ _ (@aA _ _ _ _ (@pv _ 2 _ _ (by rfl) (by first | exact Or.inl rfl | exact Or.inr (Or.inl rfl) | exact Or.inr (Or.inr rfl)) (by decide) (by decide)))))))),?_⟩
 have hl:(ns.map V.int).length=ns.length:=zS _
 refine ⟨(by show 3<=sizeLine;decide),fun p hp=>?_⟩
 have sq:∀ o,SqL K (upd H p o) a (ns.map V.int):=fun o=>(bA hp o).seq hS
 -- the number
 dsimp only [bH]
 refine iL (fun σ H'=>∃ x:Int,σ=[some (.ref a),some (.int k),some (.ref p)]/\H'=upd H p (.lst [.int x,.int 0,.int 1])/\0<=x/\x < 10 ^ 121/\(x=0\/k < (ns.length:Int))) (fun nx kk=>?_) ?_
 ·refine ⟨_,rfl,_,rfl,a,_,rfl,.inl (sq _),_,_,rfl,rfl,_,rfl,?_⟩
  refine gx (fun c=>?_) (fun c=>?_)
  ·have c':k < ((ns.map V.int).length:Int):=of_decide_eq_true c
   rw [hl] at c'
   obtain ⟨v,hv⟩:=kh h0 c'
   refine ⟨_,rfl,_,rfl,a,_,_,_,rfl,rfl,sq _,hv,_,_,rfl,rfl,⟨by decide,by decide,by decide⟩,_,_,rfl,rfl,⟨by decide,by decide,by decide⟩,_,_,rfl,rfl,⟨⟨by decide,by decide⟩,by decide,by decide⟩,_,_,rfl,rfl,(by show (0:Int) < _;decide),?_⟩
   refine ⟨_,rfl,p,_,_,0,rfl,rfl,av,rfl,?_⟩
   refine kk _ _ ⟨_,rfl,ff,?_,?_,.inr c'⟩
   ·exact Int.emod_nonneg _ (by decide)
   ·exact Int.lt_trans (Int.emod_lt_of_pos _ (by decide)) (by decide)
  ·exact kk _ _ ⟨0,rfl,rfl,by decide,by decide,.inl rfl⟩
 rintro σ H' ⟨x,rfl,rfl,x0,x1,xk⟩
 -- the way
 refine iL (fun σ H'=>∃ m:Int,σ=[some (.ref a),some (.int k),some (.ref p)]/\H'=upd H p (.lst [.int x,.int 0,.int m])) (fun nx kk=>?_) ?_
 ·refine ⟨_,rfl,p,_,_,_,rfl,rfl,SqL.of av,rfl,_,_,rfl,rfl,⟨by decide,by decide,by decide⟩,_,_,rfl,rfl,_,rfl,?_⟩
  refine gx (fun c=>?_) (fun c=>?_)
  ·have c':(10:Int) ^ 18<=x:=of_decide_eq_true c
   have hk:k < (ns.length:Int):=by
    rcases xk with z | z
    ·rw [z] at c';exact absurd c' (by decide)
    ·exact z
   obtain ⟨v,hv⟩:=kh (k:=0) (ns:=ns) (Ag 0) (by omega)
   refine ⟨_,rfl,a,_,_,_,rfl,rfl,sq _,hv,_,_,rfl,rfl,(by show (0:Int) < _;decide),rfl,_,rfl,?_⟩
   refine gx (fun c=>?_) (fun c=>?_)
   ·refine ⟨_,rfl,p,_,_,2,rfl,rfl,av,rfl,?_⟩
    exact kk _ _ ⟨0,rfl,ff⟩
   ·exact kk _ _ ⟨1,rfl,rfl⟩
  ·refine ya ?_
   exact kk _ _ ⟨1,rfl,rfl⟩
 rintro σ H' ⟨m,rfl,rfl⟩
 refine iL (fun σ H'=>∃ y:Int,σ=[some (.ref a),some (.int k),some (.ref p)]/\H'=upd H p (.lst [.int y,.int 0,.int m])/\0<=y/\y < 10 ^ 121) (fun nx kk=>?_) ?_
 ·refine ⟨_,rfl,rfl,_,rfl,?_⟩
  refine gx (fun c=>?_) (fun c=>?_)
  ·refine ⟨_,rfl,p,_,_,_,rfl,rfl,SqL.of av,rfl,_,_,rfl,rfl,⟨by decide,by decide⟩,_,rfl,p,_,_,0,rfl,rfl,av,rfl,?_⟩
   exact kk _ _ ⟨x / 2,rfl,ff,by omega,by omega⟩
  ·exact kk _ _ ⟨x,rfl,rfl,x0,x1⟩
 rintro σ H' ⟨y,rfl,rfl,y0,y1⟩
 refine ⟨_,rfl,?_⟩
 exact q p _ hp ⟨y,0,m,av,y0,y1,Ag _,Ag _⟩ (bA hp _)
theorem q9:aT ["_law_hand_here", "_law_many", "_law_found", "_law_low", "_law_by", "_law_one", "_law_two"] ["_law_hand_here", "_law_many"] (aj (top 21)):=by fail "s"
def lim (n:Nat):Int:=10 ^ (6+5 * n)
def qS:Nat->Sp
 | 0=>fun _ _ _ _=>False
 | n+1=>fun vs H Q _=>∃ (p:Addr) (many b:Int),vs=[.ref p,.int many]/\0 < many/\many<=lim n/\aH H p b/\b+2 ^ n<=2 ^ 60/\n<=12 /\
  ∀ (r:Int) (H':Hp),0<=r->r < many->aH H' p (b+2 ^ n)->Oth p H H'->Q (.int r) H'
theorem qb {n:Nat} {m:Int} (h0 : 0 < m) (h:m<=lim (n+1)):m / 1000000+1<=lim n:=by
 have e:lim (n+1)=100000 * lim n:=by
  unfold lim
  rw [show 6+5 * (n+1)=(6+5 * n)+5 from by omega,Int.pow_add]
  rw [show (10:Int) ^ 5=100000 from by decide,Int.mul_comm]
 have e1:(1000000:Int)<=lim n:=by
  unfold lim
  rw [Int.pow_add]
  have:(0:Int) < 10 ^ (5 * n):=Int.pow_pos (by decide)
  rw [show (10:Int) ^ 6=1000000 from by decide]
  have h1:(1:Int)<=10 ^ (5 * n):=this
  have:=Int.mul_le_mul_of_nonneg_left h1 (show (0:Int)<=1000000 by decide)
  rw [Int.mul_one] at this
  exact this
 omega
theorem rW {n:Nat}:(1000000:Int)<=lim n:=by
 unfold lim
 rw [Int.pow_add]
 have:(0:Int) < 10 ^ (5 * n):=Int.pow_pos (by decide)
 rw [show (10:Int) ^ 6=1000000 from by decide]
 have h1:(1:Int)<=10 ^ (5 * n):=this
 have:=Int.mul_le_mul_of_nonneg_left h1 (show (0:Int)<=1000000 by decide)
 rw [Int.mul_one] at this
 exact this
theorem qc {n:Nat} (h:n<=12):lim n < 2 ^ 250:=by
 unfold lim
 refine Int.lt_of_le_of_lt (b:=10 ^ 66) ?_ (by decide)
 have:(10:Nat) ^ (6+5 * n)<=10 ^ 66:=Nat.pow_le_pow_right (by decide) (by omega)
 exact_mod_cast this
theorem k6 {u v A B:Int} (h1 : 0<=u) (h2:u<=A) (h3 : 0<=v) (h4:v<=B) : 0<=u * v/\u * v<=A * B:=
 ⟨Int.mul_nonneg h1 h3,Ac (Int.mul_le_mul_of_nonneg_right h2 h3) (Int.mul_le_mul_of_nonneg_left h4 (Ac h1 h2))⟩
theorem tW {n:Nat} (h:n<=12):(1:Int)<=2 ^ n/\(2:Int) ^ n<=1048576:=by
 have h1 : 1<=2 ^ n:=Nat.one_le_two_pow
 have h2 : 2 ^ n<=2 ^ 20:=Nat.pow_le_pow_right (by decide) (by omega)
 have e:((2:Int) ^ n)=((2 ^ n:Nat):Int):=by norm_cast
 rw [e]
 omega
theorem jM (D:Dat K mg "_law_pick" "_law_pick" (top 21) ["_law_hand_here", "_law_many"]) (NE:bQ CX):∀ n:Nat,Cal P w K mg base CX "_law_pick" n ["_law_hand_here", "_law_many"] (qS n)
 | 0=>Dat.none D fun _ _ _ _ h=>h
 | n+1=>by
  have aq:=jM D NE n
  have S:=q9
  fail "d1"
  obtain ⟨p,many,b,rfl,hm,hlm,hh,hb,hn,q⟩:=h
  fail "d5"
  have hm6:=Int.lt_of_le_of_lt hlm (qc hn)
  refine ⟨_,(@ah _ _ _ _ _ (@aW _ _ _ _ _ _ _ _ (@aF _ _ _ _ _ _ _ _ (@cB _) (@bF _ _ _ _ _ _ _ (@bg _) (@pv _ 0 _ _ (by rfl) (by first | exact Or.inl rfl | exact Or.inr (Or.inl rfl) | exact Or.inr (Or.inr rfl)) (by decide) (by decide)) (@af _ _ _ _) (fun _ _=>rfl)) (@af _ _ _ _) (@aJ _ _ (by decide) (by decide))) (@ah _ _ _ _ _ (@aI _ _ 2 _ _ _ _ S.nd rfl (by fail "o") (@ao _ _ _ _ _ _ _ _ (@bq _) (@bF _ _ _ _ _ _ _ (@bg _) (@pv _ 0 _ _ (by rfl) (by first | exact Or.inl rfl | exact Or.inr (Or.inl rfl) | exact Or.inr (Or.inr rfl)) (by decide) (by decide)) (@af _ _ _ _) (fun _ _=>rfl)) (@pv _ 1 _ _ (by rfl) (by first | exact Or.inl rfl | exact Or.inr (Or.inl rfl) | exact Or.inr (Or.inr rfl)) (by decide) (by decide))) (by rfl) (by first | exact .inl rfl | exact .inr rfl | assumption)) (@ah _ _ _ _ _ (@dX _ _ _ _ _ _ (@ao _ _ _ _ _ _ _ _ (@bO _) (@bF _ _ _ _ _ _ _ (@bg _) (@pv _ 0 _ _ (by rfl) (by first | exact Or.inl rfl | exact Or.inr (Or.inl rfl) | exact Or.inr (Or.inr rfl)) (by decide) (by decide)) (@af _ _ _ _) (fun _ _=>rfl)) (@pv _ 1 _ _ (by rfl) (by first | exact Or.inl rfl | exact Or.inr (Or.inl rfl) | exact Or.inr (Or.inr rfl)) (by decide) (by decide))) (@fT _ _ _ _ _ _ _ (@pv _ 0 _ _ (by rfl) (by first | exact Or.inl rfl | exact Or.inr (Or.inl rfl) | exact Or.inr (Or.inr rfl)) (by decide) (by decide)) (@af _ _ _ _) (@set_list _) (by intro _;rfl)) (by rfl) (by rfl) (by rfl)) (@ak _ _ _ (@aA _ _ _ _ (@pv _ 2 _ _ (by rfl) (by first | exact Or.inl rfl | exact Or.inr (Or.inl rfl) | exact Or.inr (Or.inr rfl)) (by decide) (by decide)))))) (@aG _)) (@ah _ _ _ _ _ (@aW _ _ _ _ _ _ _ _ (@aF _ _ _ _ _ _ _ _ (@pS _) (@pv _ 1 _ _ (by rfl) (by first | exact Or.inl rfl | exact Or.inr (Or.inl rfl) | exact Or.inr (Or.inr rfl)) (by decide) (by decide)) (@af _ _ _ _) (@aJ _ _ (by decide) (by decide))) (@ah _ _ _ _ _ (@aI _ _ 3 _ _ _ _ S.nd rfl (by fail "o") (@aB _ _ _ _ _ _ _ _ _ _ _ _ aq (by fail "r") NE.pass (@aa _ _ _ _ _ (@pv _ 0 _ _ (by rfl) (by first | exact Or.inl rfl | exact Or.inr (Or.inl rfl) | exact Or.inr (Or.inr rfl)) (by decide) (by decide)) (@aa _ _ _ _ _ (@af _ _ _ _) (@ai _) (by rfl)) (by rfl)) (by rfl) (by decide) (by rfl) (by rfl)) (by rfl) (by first | exact .inl rfl | exact .inr rfl | assumption)) (@ak _ _ _ (@aA _ _ _ _ (@ao _ _ _ _ _ _ _ _ (@bq _) (@ao _ _ _ _ _ _ _ _ (@aY _) (@pv _ 3 _ _ (by rfl) (by first | exact Or.inl rfl | exact Or.inr (Or.inl rfl) | exact Or.inr (Or.inr rfl)) (by decide) (by decide)) (@ao _ _ _ _ _ _ _ _ (@bC _) (@af _ _ _ _) (@aB _ _ _ _ _ _ _ _ _ _ _ _ aq (by fail "r") NE.pass (@aa _ _ _ _ _ (@pv _ 0 _ _ (by rfl) (by first | exact Or.inl rfl | exact Or.inr (Or.inl rfl) | exact Or.inr (Or.inr rfl)) (by decide) (by decide)) (@aa _ _ _ _ _ (@ao _ _ _ _ _ _ _ _ (@aY _) (@ao _ _ _ _ _ _ _ _ (@bO _) (@pv _ 1 _ _ (by rfl) (by first | exact Or.inl rfl | exact Or.inr (Or.inl rfl) | exact Or.inr (Or.inr rfl)) (by decide) (by decide)) (@af _ _ _ _)) (@af _ _ _ _)) (@ai _) (by rfl)) (by rfl)) (by rfl) (by decide) (by rfl) (by rfl)))) (@pv _ 1 _ _ (by rfl) (by first | exact Or.inl rfl | exact Or.inr (Or.inl rfl) | exact Or.inr (Or.inr rfl)) (by decide) (by decide)))))) (@aG _)) (@ah _ _ _ _ _ (@dX _ _ _ _ _ _ (@ao _ _ _ _ _ _ _ _ (@aY _) (@bF _ _ _ _ _ _ _ (@bg _) (@pv _ 0 _ _ (by rfl) (by first | exact Or.inl rfl | exact Or.inr (Or.inl rfl) | exact Or.inr (Or.inr rfl)) (by decide) (by decide)) (@af _ _ _ _) (fun _ _=>rfl)) (@af _ _ _ _)) (@fT _ _ _ _ _ _ _ (@pv _ 0 _ _ (by rfl) (by first | exact Or.inl rfl | exact Or.inr (Or.inl rfl) | exact Or.inr (Or.inr rfl)) (by decide) (by decide)) (@af _ _ _ _) (@set_list _) (by intro _;rfl)) (by rfl) (by rfl) (by rfl)) (@ah _ _ _ _ _ (@aI _ _ 4 _ _ _ _ S.nd rfl (by fail "o") (@ao _ _ _ _ _ _ _ _ (@aY _) (@af _ _ _ _) (@ao _ _ _ _ _ _ _ _ (@bC _) (@ao _ _ _ _ _ _ _ _ (@bC _) (@af _ _ _ _) (@bF _ _ _ _ _ _ _ (@bg _) (@pv _ 0 _ _ (by rfl) (by first | exact Or.inl rfl | exact Or.inr (Or.inl rfl) | exact Or.inr (Or.inr rfl)) (by decide) (by decide)) (@af _ _ _ _) (fun _ _=>rfl))) (@bF _ _ _ _ _ _ _ (@bg _) (@pv _ 0 _ _ (by rfl) (by first | exact Or.inl rfl | exact Or.inr (Or.inl rfl) | exact Or.inr (Or.inr rfl)) (by decide) (by decide)) (@af _ _ _ _) (fun _ _=>rfl)))) (by rfl) (by first | exact .inl rfl | exact .inr rfl | assumption)) (@ah _ _ _ _ _ (@aI _ _ 5 _ _ _ _ S.nd rfl (by fail "o") (@ao _ _ _ _ _ _ _ _ (@bq _) (@ao _ _ _ _ _ _ _ _ (@bC _) (@ao _ _ _ _ _ _ _ _ (@aY _) (@ao _ _ _ _ _ _ _ _ (@bq _) (@bF _ _ _ _ _ _ _ (@bg _) (@pv _ 0 _ _ (by rfl) (by first | exact Or.inl rfl | exact Or.inr (Or.inl rfl) | exact Or.inr (Or.inr rfl)) (by decide) (by decide)) (@af _ _ _ _) (fun _ _=>rfl)) (@af _ _ _ _)) (@af _ _ _ _)) (@pv _ 4 _ _ (by rfl) (by first | exact Or.inl rfl | exact Or.inr (Or.inl rfl) | exact Or.inr (Or.inr rfl)) (by decide) (by decide))) (@af _ _ _ _)) (by rfl) (by first | exact .inl rfl | exact .inr rfl | assumption)) (@ah _ _ _ _ _ (@aI _ _ 6 _ _ _ _ S.nd rfl (by fail "o") (@ao _ _ _ _ _ _ _ _ (@bq _) (@ao _ _ _ _ _ _ _ _ (@aY _) (@ao _ _ _ _ _ _ _ _ (@bC _) (@pv _ 5 _ _ (by rfl) (by first | exact Or.inl rfl | exact Or.inr (Or.inl rfl) | exact Or.inr (Or.inr rfl)) (by decide) (by decide)) (@pv _ 5 _ _ (by rfl) (by first | exact Or.inl rfl | exact Or.inr (Or.inl rfl) | exact Or.inr (Or.inr rfl)) (by decide) (by decide))) (@ao _ _ _ _ _ _ _ _ (@bC _) (@af _ _ _ _) (@pv _ 5 _ _ (by rfl) (by first | exact Or.inl rfl | exact Or.inr (Or.inl rfl) | exact Or.inr (Or.inr rfl)) (by decide) (by decide)))) (@af _ _ _ _)) (by rfl) (by first | exact .inl rfl | exact .inr rfl | assumption)) (@ak _ _ _ (@aA _ _ _ _ (@ao _ _ _ _ _ _ _ _ (@bq _) (@ao _ _ _ _ _ _ _ _ (@bO _) (@ao _ _ _ _ _ _ _ _ (@bq _) (@ao _ _ _ _ _ _ _ _ (@bC _) (@pv _ 6 _ _ (by rfl) (by first | exact Or.inl rfl | exact Or.inr (Or.inl rfl) | exact Or.inr (Or.inr rfl)) (by decide) (by decide)) (@af _ _ _ _)) (@af _ _ _ _)) (@af _ _ _ _)) (@pv _ 1 _ _ (by rfl) (by first | exact Or.inl rfl | exact Or.inr (Or.inl rfl) | exact Or.inr (Or.inr rfl)) (by decide) (by decide))))))))))),?_⟩
  obtain ⟨a,d,c,hp,a0,a1,d0,d1⟩:=id hh
  have p20:=tW hn
  refine L4.seq_all fun D1 k1=>?_
  refine ⟨_,rfl,p,_,_,_,rfl,rfl,SqL.of hp,rfl,rfl,_,rfl,?_⟩
  refine gx (fun cc=>?_) (fun cc=>?_)
  ·refine ⟨_,rfl,p,_,_,_,rfl,rfl,SqL.of hp,rfl,_,rfl,_,_,rfl,rfl,hm,?_⟩
   refine ⟨_,rfl,p,_,_,_,rfl,rfl,SqL.of hp,rfl,_,rfl,_,_,rfl,rfl,⟨hm,hm6⟩,_,rfl,p,_,_,0,rfl,rfl,hp,rfl,_,rfl,?_⟩
   exact k1.r _ _ (q _ _ (Int.emod_nonneg _ (by omega)) (Int.emod_lt_of_pos _ hm) ⟨a / many,d,c,av,Int.ediv_nonneg a0 (by omega),Int.lt_of_le_of_lt (Int.ediv_le_self _ a0) a1,d0,by omega⟩ ((Oth.refl p H).upd _))
  refine k1.n _ _ ?_
  clear k1 D1
  refine L4.seq_all fun D1 k1=>?_
  refine ⟨_,rfl,_,_,rfl,rfl,_,rfl,?_⟩
  refine gx (fun cg=>?_) (fun cg=>?_)
  ·have cg':(1000000:Int) < many:=of_decide_eq_true cg
   -- two smaller ones
   cases n with
   | zero=>
    have:many<=1000000:=hlm
    omega
   | succ n=>
    have p21:=tW (n:=n) (by omega)
    have e2:(2:Int) ^ (n+1)=2 * 2 ^ n:=by rw [Int.pow_succ,Int.mul_comm]
    have hm2:=qb hm hlm
    have hm3:=qc (n:=n) (by omega)
    have hm4:=Int.ediv_nonneg (Int.le_of_lt hm) (show (0:Int)<=1000000 by decide)
    rw [e2] at hb
    refine ⟨_,rfl,p,1000000,b,rfl,by decide,rW,hh,by omega,by omega,fun r1 H1 r10 r11 hh1 o1=>?_⟩
    refine ⟨_,rfl,_,rfl,_,rfl,_,_,rfl,rfl,⟨by decide,by decide⟩,_,_,rfl,rfl,p,_,_,rfl,by omega,hm2,hh1,by omega,by omega,fun r2 H2 r20 r21 hh2 o2=>?_⟩
    ·refine ⟨_,_,rfl,rfl,⟨⟨by decide,by decide⟩,by omega,by omega⟩,_,_,rfl,rfl,_,rfl,_,_,rfl,rfl,hm,?_⟩
     refine k1.r _ _ (q _ _ (Int.emod_nonneg _ (by omega)) (Int.emod_lt_of_pos _ hm) (hh2.mono ?_) (o1.trans o2))
     show b+2 ^ n+2 ^ n<=b+2 ^ (n+1)
     omega
  ·have zh:b<=1152921504606846976:=by omega
   refine k1.n _ _ ?_
   clear k1 D1
   refine L4.seq_all fun D1 k1=>?_
   refine ⟨_,rfl,p,_,_,_,rfl,rfl,SqL.of hp,rfl,_,_,rfl,rfl,_,rfl,p,_,_,1,rfl,rfl,hp,rfl,?_⟩
   refine k1.n _ _ ?_
   clear k1 D1
   have hp1:(upd H p (HO.lst [.int a,.int (d+1),.int c])) p=some (.lst [.int a,.int (d+1),.int c]):=av
   have m1:=k6 (u:=39916801 * (d+1)) (v:=d+1) (A:=2 ^ 90) (B:=2 ^ 62) (by omega) (by omega) (by omega) (by omega)
   have m0:=Int.emod_nonneg a (show (2147483629:Int)≠0 by decide)
   have m0':=Int.emod_lt_of_pos a (show (0:Int) < 2147483629 by decide)
   refine L4.seq_all fun D1 k1=>?_
   refine ⟨_,rfl,p,_,_,_,rfl,rfl,SqL.of hp1,rfl,_,_,rfl,rfl,⟨⟨by decide,by decide⟩,by omega,by omega⟩,_,rfl,p,_,_,_,rfl,rfl,SqL.of hp1,rfl,_,_,rfl,rfl,⟨⟨by omega,by omega⟩,by omega,by omega⟩,_,_,rfl,rfl,?_⟩
   refine k1.n _ _ ?_
   clear k1 D1
   refine L4.seq_all fun D1 k1=>?_
   refine ⟨_,rfl,p,_,_,_,rfl,rfl,SqL.of hp1,rfl,_,_,rfl,rfl,(by show (0:Int) < _;decide),_,_,rfl,rfl,_,rfl,_,_,rfl,rfl,⟨⟨by omega,by omega⟩,by omega,by omega⟩,_,_,rfl,rfl,(by show (0:Int) < _;decide),?_⟩
   generalize hx:(a % 2147483629+11) * (716151937+39916801 * (d+1) * (d+1)) % 998244353=x
   have x0 : 0<=x:=hx▸Int.emod_nonneg _ (by decide)
   have x1:x < 998244353:=hx▸Int.emod_lt_of_pos _ (by decide)
   refine k1.n _ _ ?_
   clear k1 D1
   refine L4.seq_all fun D1 k1=>?_
   refine ⟨_,rfl,_,rfl,_,_,rfl,rfl,⟨⟨by omega,by omega⟩,by omega,by omega⟩,_,rfl,_,_,rfl,rfl,⟨⟨by decide,by decide⟩,by omega,by omega⟩,_,_,rfl,rfl,_,_,rfl,rfl,(by show (0:Int) < _;decide),?_⟩
   generalize hy:(x * x+48271 * x) % 1000000007=y
   have y0 : 0<=y:=hy▸Int.emod_nonneg _ (by decide)
   have y1:y < 1000000007:=hy▸Int.emod_lt_of_pos _ (by decide)
   refine k1.n _ _ ?_
   clear k1 D1
   refine ⟨_,rfl,_,_,rfl,rfl,⟨⟨by omega,by omega⟩,by decide,by decide⟩,_,_,rfl,rfl,(by show (0:Int) < _;decide),_,_,rfl,rfl,⟨by decide,by decide⟩,_,rfl,_,_,rfl,rfl,hm,?_⟩
   exact q _ _ (Int.emod_nonneg _ (by omega)) (Int.emod_lt_of_pos _ hm) ⟨a,d+1,c,hp1,a0,a1,by omega,by omega⟩ ((Oth.refl p H).upd _)
inductive cZ  (vs:List V) (H:Hp) (Q:VK) (_x3:XK):Prop
 | mk (p:Addr) (many b:Int) (_:vs=[.ref p,.int many]) (_ : 0 < many) (_:many<=10 ^ 50) (_:aH H p b) (_:b<=1000000000) (_:∀ (r:Int) (H':Hp),0<=r->r < many->aH H' p (b+1024)->Oth p H H'->Q (.int r) H'):cZ  vs H Q _x3
theorem rN (D:Dat K mg "_law_pick" "_law_pick" (top 21) ["_law_hand_here", "_law_many"]) (NE:bQ CX):Cal P w K mg base CX "_law_pick" 11 ["_law_hand_here", "_law_many"] cZ:=
 (jM D NE 11).imp fun vs H Q E ⟨p,many,b,e,h1,h2,hh,hb,q⟩=>⟨p,many,b,e,h1,Ac h2 (by decide),hh,(by show b+1024<=1152921504606846976;omega),by decide,q⟩
inductive cF  (vs:List V) (H:Hp) (Q:VK) (_x3:XK):Prop
 | mk (p:Addr) (bound b:Int) (_:vs=[.ref p,.int bound]) (_ : 0<=bound) (_:bound < 10 ^ 50) (_:aH H p b) (_:b<=100000000) (_:∀ (r:Int) (H':Hp),0<=r->r<=bound->aH H' p (b+8192)->Oth p H H'->Q (.int r) H'):cF  vs H Q _x3
theorem fD {r:Int} (h0 : 0<=r) (h:r < 3):∃ v:Int,atI [V.int 2,V.int 10,V.int 32] r=some (.int v)/\2<=v/\v<=32:=by
 obtain rfl | rfl | rfl:r=0\/r=1\/r=2:=by omega
 ·exact ⟨2,rfl,by decide,by decide⟩
 ·exact ⟨10,rfl,by decide,by decide⟩
 ·exact ⟨32,rfl,by decide,by decide⟩
theorem wD {i:Nat} (h:i<=40):(32:Int) ^ i<=2 ^ 200:=by
 have h2:(32:Nat) ^ i<=32 ^ 40:=Nat.pow_le_pow_right (by decide) h
 have e:((32:Int) ^ i)=((32 ^ i:Nat):Int):=by norm_cast
 rw [e]
 have e2:(32:Nat) ^ 40=2 ^ 200:=by decide +kernel
 rw [e2] at h2
 exact_mod_cast h2
theorem nu (D:Dat K mg "_law_number" "_law_number" (top 22) ["_law_hand_here", "_law_bound"]) (BT:Bt mg) (NE:bQ CX) (aq:Cal P w K mg base CX "_law_pick" 11 ["_law_hand_here", "_law_many"] cZ):Cal P w K mg base CX "_law_number" 12 ["_law_hand_here", "_law_bound"] cF:=by
 have S:=D.sc (N:=["_law_hand_here", "_law_bound", "_law_way", "_law_power", "_law_base", "_law_k"]) (by fail "s")
 fail "d1"
 obtain ⟨p,bound,b,rfl,hb0,hb1,hh,hb,q⟩:=h
 fail "d5"
 have hb2:bound < 100000000000000000000000000000000000000000000000000:=hb1
 refine ⟨_,(@ah _ _ _ _ _ (@aI _ _ 2 _ _ _ _ S.nd rfl (by fail "o") (@aB _ _ _ _ _ _ _ _ _ _ _ _ aq (by fail "r") NE.pass (@aa _ _ _ _ _ (@pv _ 0 _ _ (by rfl) (by first | exact Or.inl rfl | exact Or.inr (Or.inl rfl) | exact Or.inr (Or.inr rfl)) (by decide) (by decide)) (@aa _ _ _ _ _ (@af _ _ _ _) (@ai _) (by rfl)) (by rfl)) (by rfl) (by decide) (by rfl) (by rfl)) (by rfl) (by first | exact .inl rfl | exact .inr rfl | assumption)) (@ah _ _ _ _ _ (@aW _ _ _ _ _ _ _ _ (@aF _ _ _ _ _ _ _ _ (@cB _) (@pv _ 2 _ _ (by rfl) (by first | exact Or.inl rfl | exact Or.inr (Or.inl rfl) | exact Or.inr (Or.inr rfl)) (by decide) (by decide)) (@af _ _ _ _) (@aJ _ _ (by decide) (by decide))) (@ak _ _ _ (@aA _ _ _ _ (@ao _ _ _ _ _ _ _ _ (@bq _) (@aB _ _ _ _ _ _ _ _ _ _ _ _ aq (by fail "r") NE.pass (@aa _ _ _ _ _ (@pv _ 0 _ _ (by rfl) (by first | exact Or.inl rfl | exact Or.inr (Or.inl rfl) | exact Or.inr (Or.inr rfl)) (by decide) (by decide)) (@aa _ _ _ _ _ (@af _ _ _ _) (@ai _) (by rfl)) (by rfl)) (by rfl) (by decide) (by rfl) (by rfl)) (@ao _ _ _ _ _ _ _ _ (@aY _) (@pv _ 1 _ _ (by rfl) (by first | exact Or.inl rfl | exact Or.inr (Or.inl rfl) | exact Or.inr (Or.inr rfl)) (by decide) (by decide)) (@af _ _ _ _))))) (@aG _)) (@ah _ _ _ _ _ (@aW _ _ _ _ _ _ _ _ (@aF _ _ _ _ _ _ _ _ (@cB _) (@pv _ 2 _ _ (by rfl) (by first | exact Or.inl rfl | exact Or.inr (Or.inl rfl) | exact Or.inr (Or.inr rfl)) (by decide) (by decide)) (@af _ _ _ _) (@aJ _ _ (by decide) (by decide))) (@ak _ _ _ (@aA _ _ _ _ (@ao _ _ _ _ _ _ _ _ (@d7 _) (@pv _ 1 _ _ (by rfl) (by first | exact Or.inl rfl | exact Or.inr (Or.inl rfl) | exact Or.inr (Or.inr rfl)) (by decide) (by decide)) (@ao _ _ _ _ _ _ _ _ (@bq _) (@aB _ _ _ _ _ _ _ _ _ _ _ _ aq (by fail "r") NE.pass (@aa _ _ _ _ _ (@pv _ 0 _ _ (by rfl) (by first | exact Or.inl rfl | exact Or.inr (Or.inl rfl) | exact Or.inr (Or.inr rfl)) (by decide) (by decide)) (@aa _ _ _ _ _ (@af _ _ _ _) (@ai _) (by rfl)) (by rfl)) (by rfl) (by decide) (by rfl) (by rfl)) (@ao _ _ _ _ _ _ _ _ (@aY _) (@pv _ 1 _ _ (by rfl) (by first | exact Or.inl rfl | exact Or.inr (Or.inl rfl) | exact Or.inr (Or.inr rfl)) (by decide) (by decide)) (@af _ _ _ _)))))) (@aG _)) (@ah _ _ _ _ _ (@aW _ _ _ _ _ _ _ _ (@aF _ _ _ _ _ _ _ _ (@cB _) (@pv _ 2 _ _ (by rfl) (by first | exact Or.inl rfl | exact Or.inr (Or.inl rfl) | exact Or.inr (Or.inr rfl)) (by decide) (by decide)) (@af _ _ _ _) (@aJ _ _ (by decide) (by decide))) (@ah _ _ _ _ _ (@aI _ _ 3 _ _ _ _ S.nd rfl (by fail "o") (@af _ _ _ _) (by rfl) (by first | exact .inl rfl | exact .inr rfl | assumption)) (@ah _ _ _ _ _ (@aI _ _ 4 _ _ _ _ S.nd rfl (by fail "o") (@bF _ _ _ _ _ _ _ (@bg _) (@iW _ _ _ _ (@aa _ _ _ _ _ (@af _ _ _ _) (@aa _ _ _ _ _ (@af _ _ _ _) (@aa _ _ _ _ _ (@af _ _ _ _) (@ai _) (by rfl)) (by rfl)) (by rfl))) (@aB _ _ _ _ _ _ _ _ _ _ _ _ aq (by fail "r") NE.pass (@aa _ _ _ _ _ (@pv _ 0 _ _ (by rfl) (by first | exact Or.inl rfl | exact Or.inr (Or.inl rfl) | exact Or.inr (Or.inr rfl)) (by decide) (by decide)) (@aa _ _ _ _ _ (@af _ _ _ _) (@ai _) (by rfl)) (by rfl)) (by rfl) (by decide) (by rfl) (by rfl)) (fun _ _=>rfl)) (by rfl) (by first | exact .inl rfl | exact .inr rfl | assumption)) (@ah _ _ _ _ _ (@iS _ _ _ _ _ _ _ _ PassesOwn.never rfl (@nk _ _ _ _ _ _ rfl BT.range (@aa _ _ _ _ _ (@aB _ _ _ _ _ _ _ _ _ _ _ _ aq (by fail "r") NE.pass (@aa _ _ _ _ _ (@pv _ 0 _ _ (by rfl) (by first | exact Or.inl rfl | exact Or.inr (Or.inl rfl) | exact Or.inr (Or.inr rfl)) (by decide) (by decide)) (@aa _ _ _ _ _ (@af _ _ _ _) (@ai _) (by rfl)) (by rfl)) (by rfl) (by decide) (by rfl) (by rfl)) (@ai _) (by rfl)) (by rfl)) (@aP _ _ 5 _ S.nd rfl (by fail "o") (by first | exact .inl rfl | exact .inr rfl | assumption)) (@ak _ _ _ (@aI _ _ 3 _ _ _ _ S.nd rfl (by fail "o") (@ao _ _ _ _ _ _ _ _ (@bC _) (@pv _ 3 _ _ (by rfl) (by first | exact Or.inl rfl | exact Or.inr (Or.inl rfl) | exact Or.inr (Or.inr rfl)) (by decide) (by decide)) (@pv _ 4 _ _ (by rfl) (by first | exact Or.inl rfl | exact Or.inr (Or.inl rfl) | exact Or.inr (Or.inr rfl)) (by decide) (by decide))) (by rfl) (by first | exact .inl rfl | exact .inr rfl | assumption))) (by intro _;rfl)) (@ak _ _ _ (@aA _ _ _ _ (@ao _ _ _ _ _ _ _ _ (@bq _) (@ao _ _ _ _ _ _ _ _ (@d7 _) (@ao _ _ _ _ _ _ _ _ (@aY _) (@pv _ 3 _ _ (by rfl) (by first | exact Or.inl rfl | exact Or.inr (Or.inl rfl) | exact Or.inr (Or.inr rfl)) (by decide) (by decide)) (@aB _ _ _ _ _ _ _ _ _ _ _ _ aq (by fail "r") NE.pass (@aa _ _ _ _ _ (@pv _ 0 _ _ (by rfl) (by first | exact Or.inl rfl | exact Or.inr (Or.inl rfl) | exact Or.inr (Or.inr rfl)) (by decide) (by decide)) (@aa _ _ _ _ _ (@af _ _ _ _) (@ai _) (by rfl)) (by rfl)) (by rfl) (by decide) (by rfl) (by rfl))) (@af _ _ _ _)) (@ao _ _ _ _ _ _ _ _ (@aY _) (@pv _ 1 _ _ (by rfl) (by first | exact Or.inl rfl | exact Or.inr (Or.inl rfl) | exact Or.inr (Or.inr rfl)) (by decide) (by decide)) (@af _ _ _ _)))))))) (@aG _)) (@ak _ _ _ (@aA _ _ _ _ (@aB _ _ _ _ _ _ _ _ _ _ _ _ aq (by fail "r") NE.pass (@aa _ _ _ _ _ (@pv _ 0 _ _ (by rfl) (by first | exact Or.inl rfl | exact Or.inr (Or.inl rfl) | exact Or.inr (Or.inr rfl)) (by decide) (by decide)) (@aa _ _ _ _ _ (@ao _ _ _ _ _ _ _ _ (@aY _) (@pv _ 1 _ _ (by rfl) (by first | exact Or.inl rfl | exact Or.inr (Or.inl rfl) | exact Or.inr (Or.inr rfl)) (by decide) (by decide)) (@af _ _ _ _)) (@ai _) (by rfl)) (by rfl)) (by rfl) (by decide) (by rfl) (by rfl)))))))),?_⟩
 refine ⟨_,rfl,p,_,b,rfl,by decide,by decide,hh,by omega,fun r1 H1 r10 r11 hh1 o1=>?_⟩
 refine ⟨_,rfl,rfl,_,rfl,?_⟩
 refine gx (fun cc=>?_) (fun cc=>?_)
 ·refine ⟨_,rfl,p,_,_,rfl,by decide,by decide,hh1,by omega,fun r2 H2 r20 r21 hh2 o2=>?_⟩
  refine ⟨_,rfl,_,_,rfl,rfl,_,_,rfl,rfl,by omega,?_⟩
  have e0:=Int.emod_nonneg r2 (show bound+1≠0 by omega)
  have e1:=Int.emod_lt_of_pos r2 (show 0 < bound+1 by omega)
  exact q _ _ e0 (by omega) (hh2.mono (by omega)) (o1.trans o2)
 refine ⟨_,rfl,rfl,_,rfl,?_⟩
 refine gx (fun cc=>?_) (fun cc=>?_)
 ·refine ⟨_,rfl,_,rfl,p,_,_,rfl,by decide,by decide,hh1,by omega,fun r2 H2 r20 r21 hh2 o2=>?_⟩
  refine ⟨_,rfl,_,_,rfl,rfl,_,_,rfl,rfl,by omega,_,_,rfl,rfl,?_⟩
  have e0:=Int.emod_nonneg r2 (show bound+1≠0 by omega)
  have e1:=Int.emod_lt_of_pos r2 (show 0 < bound+1 by omega)
  exact q _ _ (by omega) (by omega) (hh2.mono (by omega)) (o1.trans o2)
 refine ⟨_,rfl,rfl,_,rfl,?_⟩
 refine gx (fun cc=>?_) (fun cc=>?_)
 ·-- a power
  refine ⟨(by show 3<=sizeLine;decide),fun l hl=>?_⟩
  have npl:p≠l:=fun z=>hh1.p5 (z▸hl)
  refine ⟨_,rfl,p,_,_,rfl,by decide,by decide,hh1.same (bA hl _),by omega,fun r2 H2 r20 r21 hh2 o2=>?_⟩
  have hl2:H2 l=some (.lst [.int 2,.int 10,.int 32]):=o2 _ _ av (Ne.symm npl)
  have o3:Oth p H H2:=fun x o hx hn=>o2 _ _ (by rw [az (au (o1 _ _ hx hn) hl)];exact o1 _ _ hx hn) hn
  obtain ⟨v,hv,v0,v1⟩:=fD r20 r21
  refine ⟨l,_,_,_,rfl,rfl,SqL.of hl2,hv,?_⟩
  refine ⟨_,rfl,p,_,_,rfl,by decide,by decide,hh2,by omega,fun r3 H3 r30 r31 hh3 o4=>?_⟩
  refine ⟨r3,rfl,by omega,by omega,?_⟩
  refine ig (n:=r3.toNat) (fun i σ H'=>∃ (pw:Int) (u:Option V),σ=[some (.ref p),some (.int bound),some (.int r1),some (.int pw),some (.int v),u]/\H'=H3/\0<=pw/\pw<=32 ^ i)
   ⟨1,none,rfl,rfl,by decide,by decide⟩ ?_ ?_
  ·rintro i σ H' hi ⟨pw,u,rfl,rfl,pw0,pw1⟩
   have p32:=wD (i:=i) (by omega)
   have m1:=k6 pw0 pw1 (Ac (by decide) v0) v1
   refine ⟨_,rfl,_,rfl,_,_,rfl,rfl,⟨⟨by omega,by omega⟩,by omega,by omega⟩,?_⟩
   exact ⟨_,_,rfl,rfl,m1.1,by rw [Int.pow_succ];exact m1.2⟩
  ·rintro σ H' ⟨pw,u,rfl,rfl,pw0,pw1⟩
   refine ⟨_,rfl,_,rfl,p,_,_,rfl,by decide,by decide,hh3,by omega,fun r4 H4 r40 r41 hh4 o5=>?_⟩
   refine ⟨_,_,rfl,rfl,_,_,rfl,rfl,_,rfl,_,_,rfl,rfl,_,_,rfl,rfl,by omega,?_⟩
   have e0:=Int.emod_nonneg (pw+r4 - 1) (show bound+1≠0 by omega)
   have e1:=Int.emod_lt_of_pos (pw+r4 - 1) (show 0 < bound+1 by omega)
   exact q _ _ e0 (by omega) (hh4.mono (by omega)) ((o3.trans o4).trans o5)
 refine ⟨_,rfl,_,rfl,_,_,rfl,rfl,p,_,_,rfl,by omega,?_,hh1,by omega,fun r2 H2 r20 r21 hh2 o2=>?_⟩
 ·show bound+1<=10 ^ 50
  omega
 exact q _ _ r20 (by omega) (hh2.mono (by omega)) (o1.trans o2)
end
def aM (n:Int):Ob:=⟨fun _ o=>∃ a b c:Int,o = .lst [.int a,.int b,.int c]/\0<=a/\a < 10 ^ 121/\0<=b/\b<=n,fun _ h=>h⟩
theorem aM.at {n:Int} {H:Hp} {p:Addr} (h:∃ o,H p=some o/\(aM n).p H o):aH H p n:=by
 obtain ⟨o,e,a,b,c,rfl,r⟩:=h
 exact ⟨a,b,c,e,r⟩
theorem aH.ob {n:Int} {H:Hp} {p:Addr} (h:aH H p n):∃ o,H p=some o/\(aM n).p H o:=by
 obtain ⟨a,b,c,e,r⟩:=h
 exact ⟨_,e,a,b,c,rfl,r⟩
theorem aH.ts {n:Int} {H H':Hp} {p:Addr} (h:aH H p n) (o:Oth p H H'):Chg p H H':=by
 obtain ⟨a,b,c,e,_⟩:=h
 exact ⟨o,fun q xs hq=>o q _ hq fun z=>by rw [z,e] at hq;cases hq⟩
section
variable {P:Addr->Prop} {H0 H:Hp} {l l':List (Addr×Ob)} {fs:List Pr} {p:Addr} {Q:VK} {E:XK}
theorem fK {a:Addr} {ns:List Int} {k:Int} (L:Led P H0 H l fs) (hS:SqL K H a (ns.map V.int)) (h63:ns.length<=63) (h0 : 0<=k)
  (q:∀ p H',H p=none->Led P H0 H' ((p,aM 0)::l) fs->aN H H'->Q (.ref p) H'):iJ K [.ref a,.int k] H Q E:=
 ⟨a,ns,k,rfl,hS,h63,h0,fun p H' np hh s=>q p H' np ⟨fun x hx=>by
   rcases Ak hx with rfl | hx
   ·exact hh.ob
   ·exact (L.keep s).at_ x hx,
  by
   rw [List.map_cons,List.nodup_cons]
   refine ⟨fun z=>?_,L.nd⟩
   obtain ⟨x,hx,e⟩:=Al z
   exact (L.fresh np).1 x hx e,
  fun x hx=>by
   rcases Ak hx with rfl | hx
   ·exact (L.fresh np).2
   ·exact L.own x hx,(L.keep s).fr,(L.keep s).st⟩ s⟩
theorem bN {many b:Int} (L:Led P H0 H l fs) (m:Put p (aM b) (aM (b+1024)) l l') (h0 : 0 < many) (h1:many<=10 ^ 50) (hb:b<=1000000000)
  (q:∀ r H',0<=r->r < many->Led P H0 H' l' fs->Chg p H H'->Q (.int r) H'):cZ [.ref p,.int many] H Q E:=
 have hh:=aM.at (L.at_ _ m.mem)
 ⟨p,many,b,rfl,h0,h1,hh,hb,fun r H' r0 r1 hh' o=>q r H' r0 r1 (L.set m (hh.ts o) hh'.ob) (hh.ts o)⟩
theorem fJ {bound b:Int} (L:Led P H0 H l fs) (m:Put p (aM b) (aM (b+8192)) l l') (h0 : 0<=bound) (h1:bound < 10 ^ 50) (hb:b<=100000000)
  (q:∀ r H',0<=r->r<=bound->Led P H0 H' l' fs->Chg p H H'->Q (.int r) H'):cF [.ref p,.int bound] H Q E:=
 have hh:=aM.at (L.at_ _ m.mem)
 ⟨p,bound,b,rfl,h0,h1,hh,hb,fun r H' r0 r1 hh' o=>q r H' r0 r1 (L.set m (hh.ts o) hh'.ob) (hh.ts o)⟩
theorem dw {b:Int} (h:aH H p b):Led (·=p) H H [(p,aM b)] []:=
 ⟨fun x hx=>by rw [Ai hx];exact h.ob,by simp,fun x hx=>.inl (by rw [Ai hx]),fun _ _ h _=>h,fun _ h=>by simp at h⟩
end
structure ShN (c s:Int):Prop where
 c1 : 1<=c
 c2:c<=1000
 s1 : 1<=s
 s2:s<=1000
theorem xw:¬ (("counts" : Str) = "slots"):=by decide +kernel
def shF (c s:Int):List (Str×V):=[("counts",.int c),("slots",.int s)]
theorem qU (c s:Int):cj "slots" (.int s) (cj "counts" (.int c) [])=shF c s:=by
 show (if ("counts" : Str) = "slots" then _ else (("counts" : Str),V.int c)::[(("slots" : Str),V.int s)])=_
 rw [if_neg xw]
 rfl
theorem oY (c s:Int):(shF c s).lookup ("counts" : Str)=some (.int c):=by unfold shF;fail "lk"
theorem oX (c s:Int):(shF c s).lookup ("slots" : Str)=some (.int s):=by unfold shF;fail "lk"
def qI (C:Addr) (c s:Int):Ob:=⟨fun _ o=>∃ dx,o = .ins C dx (shF c s),fun _ h=>h⟩
structure ShC (K:Ao) (C:Addr):Prop where
 cl:Cls K C
 nc:bE K C "counts"
 ns:bE K C "slots"
section
variable {P:Program} {C:Addr}
def jD:Sp:=fun vs H Q _=>∃ i:Int,vs=[.int i]/\Q (.bl true) H
theorem ck {H:Hp} {Q:VK} {x:V} {t:Value} {T:String} {b:Bool} (ty:dN K H x t) (e:PySem.W.kitOne K t (.type T)=some b) (h:Q (.bl b) H):uJ K [x,.ty T] H Q:=⟨x,_,t,b,rfl,ty,.inl ⟨T,rfl,e⟩,h⟩
theorem pT (D:Dat K mg "is_whole" "is_whole" (top 13) ["thing"]) (BT:Bt mg):Cal P w K mg base CX "is_whole" 1 ["thing"] jD:=by
 have S:=D.sc (N:=["thing"]) (by fail "s")
 fail "d1"
 obtain ⟨i,rfl,q⟩:=h
 fail "d5"
 refine ⟨_,(@ak _ _ _ (@aA _ _ _ _ (@kW _ _ _ _ _ _ _ (@iX _ _ _ _ _ _ _ _ BT.isinstance BT.int_ L3.vH (@pv _ 0 _ _ (by rfl) (by first | exact Or.inl rfl | exact Or.inr (Or.inl rfl) | exact Or.inr (Or.inr rfl)) (by decide) (by decide)) (by rfl) (by rfl) (by decide) (by decide) (by rfl) (by rfl) (by rfl)) (@iV _ _ _ _ _ (@uN _ _ _ _ (@iX _ _ _ _ _ _ _ _ BT.isinstance BT.bool_ L3.sW (@pv _ 0 _ _ (by rfl) (by first | exact Or.inl rfl | exact Or.inr (Or.inl rfl) | exact Or.inr (Or.inr rfl)) (by decide) (by decide)) (by rfl) (by rfl) (by decide) (by decide) (by rfl) (by rfl) (by rfl))))))),?_⟩
 dsimp only [bW]
 fail "go"
 refine ck (.int i) rfl ?_
 fail "go"
 refine ck (.int i) rfl ?_
 fail "go"
 exact q
def lX:Sp:=fun vs H Q _=>∃ i n:Int,vs=[.int i,.int n]/\Q (.bl (decide (n<=i))) H
theorem rQ (D:Dat K mg "is_whole_from" "is_whole_from" (top 14) ["thing", "least"]) (NE:bQ CX) (lG:Cal P w K mg base CX "is_whole" 1 ["thing"] jD):Cal P w K mg base CX "is_whole_from" 2 ["thing", "least"] lX:=by
 have S:=D.sc (N:=["thing", "least"]) (by fail "s")
 fail "d1"
 obtain ⟨i,n,rfl,q⟩:=h
 fail "d5"
 refine ⟨_,(@ak _ _ _ (@aA _ _ _ _ (@kW _ _ _ _ _ _ _ (@aB _ _ _ _ _ _ _ _ _ _ _ _ lG (by fail "r") NE.pass (@aa _ _ _ _ _ (@pv _ 0 _ _ (by rfl) (by first | exact Or.inl rfl | exact Or.inr (Or.inl rfl) | exact Or.inr (Or.inr rfl)) (by decide) (by decide)) (@ai _) (by rfl)) (by rfl) (by decide) (by rfl) (by rfl)) (@iV _ _ _ _ _ (@cT _ _ _ _ _ _ _ _ (@tX _) (@pv _ 1 _ _ (by rfl) (by first | exact Or.inl rfl | exact Or.inr (Or.inl rfl) | exact Or.inr (Or.inr rfl)) (by decide) (by decide)) (@pv _ 0 _ _ (by rfl) (by first | exact Or.inl rfl | exact Or.inr (Or.inl rfl) | exact Or.inr (Or.inr rfl)) (by decide) (by decide)) (@aJ _ _ (by decide) (by decide))))))),?_⟩
 fail "go"
 refine ⟨i,rfl,?_⟩
 fail "go"
 exact q
def oU:Sp:=fun vs H Q _=>∃ i:Int,vs=[.int i]/\1<=i/\i<=1000/\Q (.bl true) H
theorem rL (D:Dat K mg "is_side" "is_side" (top 15) ["thing"]) (NE:bQ CX) (eU:GlV mg "GREATEST_SIDE" (.int 1000)) (eW:Cal P w K mg base CX "is_whole_from" 2 ["thing", "least"] lX):Cal P w K mg base CX "is_side" 3 ["thing"] oU:=by
 have S:=D.sc (N:=["thing"]) (by fail "s")
 fail "d1"
 obtain ⟨i,rfl,h1,h2,q⟩:=h
 fail "d5"
 refine ⟨_,(@ak _ _ _ (@aA _ _ _ _ (@kW _ _ _ _ _ _ _ (@aB _ _ _ _ _ _ _ _ _ _ _ _ eW (by fail "r") NE.pass (@aa _ _ _ _ _ (@pv _ 0 _ _ (by rfl) (by first | exact Or.inl rfl | exact Or.inr (Or.inl rfl) | exact Or.inr (Or.inr rfl)) (by decide) (by decide)) (@aa _ _ _ _ _ (@af _ _ _ _) (@ai _) (by rfl)) (by rfl)) (by rfl) (by decide) (by rfl) (by rfl)) (@iV _ _ _ _ _ (@cT _ _ _ _ _ _ _ _ (@tX _) (@pv _ 0 _ _ (by rfl) (by first | exact Or.inl rfl | exact Or.inr (Or.inl rfl) | exact Or.inr (Or.inr rfl)) (by decide) (by decide)) (@dY _ _ _ _ eU (by rfl) (by decide)) (@aJ _ _ (by decide) (by decide))))))),?_⟩
 fail "go"
 refine ⟨i,1,rfl,?_⟩
 rw [zY h1]
 fail "go"
 rw [zY h2]
 exact q
def iI (C:Addr):Sp:=fun vs H Q _=>∃ (p dx:Addr) (c s:Int),vs=[.ref p,.int c,.int s]/\ShN c s/\H p=some (.ins C dx [])/\∀ H',H' p=some (.ins C dx (shF c s))->(∀ q o,H q=some o->q≠p->H' q=some o)->Q .non H'
theorem pV (D:jr K mg "Shape" "Shape.__init__" C (inClass (top 16) 0) ["self", "counts", "slots"]) (SC:ShC K C) (NE:bQ CX) (iz:Cal P w K mg base CX "is_side" 3 ["thing"] oU):Mak P w K mg base CX "Shape" C 4 ["self", "counts", "slots"] (iI C):=by
 have S:=D.sc (N:=["self", "counts", "slots"]) (by fail "s")
 fail "d"
 ·obtain ⟨p,dx,c,s,rfl,_⟩:=h
  rfl
 obtain ⟨p,dx,c,sl,rfl,n,hp,q⟩:=h
 refine ⟨_,(@ah _ _ _ _ _ (@aW _ _ _ _ _ _ _ _ (@PW.pt _ _ _ (@l5 _ _ _ _ _ _ _ (@dW _ _ _ _ (@dU _ _ _ (@aB _ _ _ _ _ _ _ _ _ _ _ _ iz (by fail "r") NE.pass (@aa _ _ _ _ _ (@pv _ 1 _ _ (by rfl) (by first | exact Or.inl rfl | exact Or.inr (Or.inl rfl) | exact Or.inr (Or.inr rfl)) (by decide) (by decide)) (@ai _) (by rfl)) (by rfl) (by decide) (by rfl) (by rfl)) (by intro _;rfl))) (@kR _ _ _ _ (@dW _ _ _ _ (@dU _ _ _ (@aB _ _ _ _ _ _ _ _ _ _ _ _ iz (by fail "r") NE.pass (@aa _ _ _ _ _ (@pv _ 2 _ _ (by rfl) (by first | exact Or.inl rfl | exact Or.inr (Or.inl rfl) | exact Or.inr (Or.inr rfl)) (by decide) (by decide)) (@ai _) (by rfl)) (by rfl) (by decide) (by rfl) (by rfl)) (by intro _;rfl)))))) (@ak _ _ _ (@pF _ _)) (@aG _)) (@ah _ _ _ _ _ (@pG _ _ _ _ _ _ _ _ (@pv _ 0 _ _ (by rfl) (by first | exact Or.inl rfl | exact Or.inr (Or.inl rfl) | exact Or.inr (Or.inr rfl)) (by decide) (by decide)) (@pv _ 1 _ _ (by rfl) (by first | exact Or.inl rfl | exact Or.inr (Or.inl rfl) | exact Or.inr (Or.inr rfl)) (by decide) (by decide)) rfl) (@ak _ _ _ (@pG _ _ _ _ _ _ _ _ (@pv _ 0 _ _ (by rfl) (by first | exact Or.inl rfl | exact Or.inr (Or.inl rfl) | exact Or.inr (Or.inr rfl)) (by decide) (by decide)) (@pv _ 2 _ _ (by rfl) (by first | exact Or.inl rfl | exact Or.inr (Or.inl rfl) | exact Or.inr (Or.inr rfl)) (by decide) (by decide)) rfl)))),?_⟩
 dsimp only [bW]
 fail "go"
 refine ⟨c,rfl,n.c1,n.c2,?_⟩
 fail "go"
 refine ⟨sl,rfl,n.s1,n.s2,?_⟩
 fail "go"
 refine ⟨p,C,dx,[],rfl,hp,SC.cl,SC.nc,by decide,?_⟩
 fail "go"
 refine ⟨p,C,dx,_,rfl,av,SC.cl,SC.ns,(by show 1 < 1000;decide),?_⟩
 rw [ff,qU]
 exact q _ av fun x o h z=>by rw [az z];exact h
theorem m7 {PP:Addr->Prop} {H0 H:Hp} {l:List (Addr×Ob)} {fs:List Pr} {Q:VK} {E:XK} {c s:Int} (L:Led PP H0 H l fs) (n:ShN c s) (q:∀ x H',H x=none->Led PP H0 H' ((x,qI C c s)::l) fs->aN H H'->Q (.ref x) H'):Made C (iI C) E [.int c,.int s] H Q:=by
 intro x dx nx nd ne
 refine ⟨x,dx,c,s,rfl,n,av,fun H' h1 h2=>⟨rfl,?_⟩⟩
 have sm:aN H H':=fun b o e=>h2 b o (by rw [az (au e nx),az (au e nd)];exact e) (au e nx)
 exact q x H' nx (L.add sm nx ⟨_,h1,dx,rfl⟩) sm
def mk (c s m l k:Int):Int:=(m * s+l) * c+k
def jn (C:Addr) (H:Hp) (p:Addr) (c s:Int):Prop:=∃ dx,H p=some (.ins C dx (shF c s))
def oV (C:Addr):Sp:=fun vs H Q _=>∃ (p:Addr) (c s m l k:Int),vs=[.ref p,.int m,.int l,.int k]/\ShN c s/\jn C H p c s/\0<=m/\m<=10 ^ 60/\0<=l/\l<=1000/\0<=k/\k<=1000/\Q (.int (mk c s m l k)) H
theorem rO (D:Dat K mg "mark_of" "mark_of" (top 17) ["shape", "moment", "slot", "count"]) (SC:ShC K C):Cal P w K mg base CX "mark_of" 1 ["shape", "moment", "slot", "count"] (oV C):=by
 have S:=D.sc (N:=["shape", "moment", "slot", "count"]) (by fail "s")
 fail "d"
 ·obtain ⟨p,c,s,m,l,k,rfl,_⟩:=h
  rfl
 obtain ⟨p,c,sl,m,l,k,rfl,n,⟨dx,hp⟩,m0,m1,l0,l1,k0,k1,q⟩:=h
 obtain ⟨c1,c2,s1,s2⟩:=n
 have m2:=k6 m0 m1 (Ac (by decide) s1) s2
 have m2':m * sl<=1000000000000000000000000000000000000000000000000000000000000000:=m2.2
 refine ⟨_,(@ak _ _ _ (@aA _ _ _ _ (@ao _ _ _ _ _ _ _ _ (@aY _) (@ao _ _ _ _ _ _ _ _ (@bC _) (@ao _ _ _ _ _ _ _ _ (@aY _) (@ao _ _ _ _ _ _ _ _ (@bC _) (@pv _ 1 _ _ (by rfl) (by first | exact Or.inl rfl | exact Or.inr (Or.inl rfl) | exact Or.inr (Or.inr rfl)) (by decide) (by decide)) (@dZ _ _ _ _ _ (@pv _ 0 _ _ (by rfl) (by first | exact Or.inl rfl | exact Or.inr (Or.inl rfl) | exact Or.inr (Or.inr rfl)) (by decide) (by decide)) rfl)) (@pv _ 2 _ _ (by rfl) (by first | exact Or.inl rfl | exact Or.inr (Or.inl rfl) | exact Or.inr (Or.inr rfl)) (by decide) (by decide))) (@dZ _ _ _ _ _ (@pv _ 0 _ _ (by rfl) (by first | exact Or.inl rfl | exact Or.inr (Or.inl rfl) | exact Or.inr (Or.inr rfl)) (by decide) (by decide)) rfl)) (@pv _ 3 _ _ (by rfl) (by first | exact Or.inl rfl | exact Or.inr (Or.inl rfl) | exact Or.inr (Or.inr rfl)) (by decide) (by decide))))),?_⟩
 dsimp only [bW]
 fail "go"
 refine ⟨p,C,dx,_,_,rfl,hp,SC.cl,SC.ns,oX c sl,?_⟩
 fail "go"
 refine ⟨p,C,dx,_,_,rfl,hp,SC.cl,SC.nc,oY c sl,?_⟩
 fail "go"
 exact q
def lW (C:Addr):Sp:=fun vs H Q _=>∃ (p:Addr) (c s m:Int),vs=[.ref p,.int m]/\ShN c s/\jn C H p c s/\0<=m /\
 ∀ t H',H t=none->H' t=some (.tup [.int (m / c / s),.int (m / c % s),.int (m % c)])->aN H H'->Q (.ref t) H'
theorem pW (D:Dat K mg "parts_of" "parts_of" (top 18) ["shape", "mark"]) (SC:ShC K C):Cal P w K mg base CX "parts_of" 1 ["shape", "mark"] (lW C):=by
 have S:=D.sc (N:=["shape", "mark", "count", "rest"]) (by fail "s")
 fail "d"
 ·obtain ⟨p,c,s,m,rfl,_⟩:=h
  rfl
 obtain ⟨p,c,sl,m,rfl,n,⟨dx,hp⟩,m0,q⟩:=h
 obtain ⟨c1,c2,s1,s2⟩:=n
 refine ⟨_,(@ah _ _ _ _ _ (@aI _ _ 2 _ _ _ _ S.nd rfl (by fail "o") (@ao _ _ _ _ _ _ _ _ (@bq _) (@pv _ 1 _ _ (by rfl) (by first | exact Or.inl rfl | exact Or.inr (Or.inl rfl) | exact Or.inr (Or.inr rfl)) (by decide) (by decide)) (@dZ _ _ _ _ _ (@pv _ 0 _ _ (by rfl) (by first | exact Or.inl rfl | exact Or.inr (Or.inl rfl) | exact Or.inr (Or.inr rfl)) (by decide) (by decide)) rfl)) (by rfl) (by first | exact .inl rfl | exact .inr rfl | assumption)) (@ah _ _ _ _ _ (@aI _ _ 3 _ _ _ _ S.nd rfl (by fail "o") (@ao _ _ _ _ _ _ _ _ (@bO _) (@pv _ 1 _ _ (by rfl) (by first | exact Or.inl rfl | exact Or.inr (Or.inl rfl) | exact Or.inr (Or.inr rfl)) (by decide) (by decide)) (@dZ _ _ _ _ _ (@pv _ 0 _ _ (by rfl) (by first | exact Or.inl rfl | exact Or.inr (Or.inl rfl) | exact Or.inr (Or.inr rfl)) (by decide) (by decide)) rfl)) (by rfl) (by first | exact .inl rfl | exact .inr rfl | assumption)) (@ak _ _ _ (@aA _ _ _ _ (@iU _ _ _ _ _ (@aa _ _ _ _ _ (@ao _ _ _ _ _ _ _ _ (@bO _) (@pv _ 3 _ _ (by rfl) (by first | exact Or.inl rfl | exact Or.inr (Or.inl rfl) | exact Or.inr (Or.inr rfl)) (by decide) (by decide)) (@dZ _ _ _ _ _ (@pv _ 0 _ _ (by rfl) (by first | exact Or.inl rfl | exact Or.inr (Or.inl rfl) | exact Or.inr (Or.inr rfl)) (by decide) (by decide)) rfl)) (@aa _ _ _ _ _ (@ao _ _ _ _ _ _ _ _ (@bq _) (@pv _ 3 _ _ (by rfl) (by first | exact Or.inl rfl | exact Or.inr (Or.inl rfl) | exact Or.inr (Or.inr rfl)) (by decide) (by decide)) (@dZ _ _ _ _ _ (@pv _ 0 _ _ (by rfl) (by first | exact Or.inl rfl | exact Or.inr (Or.inl rfl) | exact Or.inr (Or.inr rfl)) (by decide) (by decide)) rfl)) (@aa _ _ _ _ _ (@pv _ 2 _ _ (by rfl) (by first | exact Or.inl rfl | exact Or.inr (Or.inl rfl) | exact Or.inr (Or.inr rfl)) (by decide) (by decide)) (@ai _) (by rfl)) (by rfl)) (by rfl))))))),?_⟩
 dsimp only [bW]
 have L:=Led.start H (fun _=>False)
 fail "go"
 refine ⟨p,C,dx,_,_,rfl,hp,SC.cl,SC.nc,oY c sl,?_⟩
 fail "go"
 refine ⟨p,C,dx,_,_,rfl,hp,SC.cl,SC.nc,oY c sl,?_⟩
 fail "go"
 refine ⟨p,C,dx,_,_,rfl,hp,SC.cl,SC.ns,oX c sl,?_⟩
 fail "go"
 refine ⟨p,C,dx,_,_,rfl,hp,SC.cl,SC.ns,oX c sl,?_⟩
 fail "go"
 exact q _ _ n' (L'.tup (by fail "mem")) (by assumption)
end
section
variable {P:Program}
def kG:Sp:=fun vs H Q _=>∃ (p:Addr) (b:Int),vs=[.ref p]/\aH H p b/\b<=100000000/\∀ (r:Int) (H':Hp),1<=r->r<=1000->aH H' p (b+2048)->Oth p H H'->Q (.int r) H'
theorem rK (D:Dat K mg "_law_wide" "_law_wide" (top 23) ["_law_hand_here"]) (NE:bQ CX) (aq:Cal P w K mg base CX "_law_pick" 11 ["_law_hand_here", "_law_many"] cZ):Cal P w K mg base CX "_law_wide" 12 ["_law_hand_here"] kG:=by
 have S:=D.sc (N:=["_law_hand_here", "_law_way"]) (by fail "s")
 fail "d1"
 obtain ⟨p,b,rfl,hh,hb,q⟩:=h
 fail "d5"
 refine ⟨_,(@ah _ _ _ _ _ (@aI _ _ 1 _ _ _ _ S.nd rfl (by fail "o") (@aB _ _ _ _ _ _ _ _ _ _ _ _ aq (by fail "r") NE.pass (@aa _ _ _ _ _ (@pv _ 0 _ _ (by rfl) (by first | exact Or.inl rfl | exact Or.inr (Or.inl rfl) | exact Or.inr (Or.inr rfl)) (by decide) (by decide)) (@aa _ _ _ _ _ (@af _ _ _ _) (@ai _) (by rfl)) (by rfl)) (by rfl) (by decide) (by rfl) (by rfl)) (by rfl) (by first | exact .inl rfl | exact .inr rfl | assumption)) (@ah _ _ _ _ _ (@aW _ _ _ _ _ _ _ _ (@aF _ _ _ _ _ _ _ _ (@cB _) (@pv _ 1 _ _ (by rfl) (by first | exact Or.inl rfl | exact Or.inr (Or.inl rfl) | exact Or.inr (Or.inr rfl)) (by decide) (by decide)) (@af _ _ _ _) (@aJ _ _ (by decide) (by decide))) (@ak _ _ _ (@aA _ _ _ _ (@ao _ _ _ _ _ _ _ _ (@aY _) (@af _ _ _ _) (@aB _ _ _ _ _ _ _ _ _ _ _ _ aq (by fail "r") NE.pass (@aa _ _ _ _ _ (@pv _ 0 _ _ (by rfl) (by first | exact Or.inl rfl | exact Or.inr (Or.inl rfl) | exact Or.inr (Or.inr rfl)) (by decide) (by decide)) (@aa _ _ _ _ _ (@af _ _ _ _) (@ai _) (by rfl)) (by rfl)) (by rfl) (by decide) (by rfl) (by rfl))))) (@aG _)) (@ah _ _ _ _ _ (@aW _ _ _ _ _ _ _ _ (@aF _ _ _ _ _ _ _ _ (@cB _) (@pv _ 1 _ _ (by rfl) (by first | exact Or.inl rfl | exact Or.inr (Or.inl rfl) | exact Or.inr (Or.inr rfl)) (by decide) (by decide)) (@af _ _ _ _) (@aJ _ _ (by decide) (by decide))) (@ak _ _ _ (@aA _ _ _ _ (@ao _ _ _ _ _ _ _ _ (@d7 _) (@af _ _ _ _) (@aB _ _ _ _ _ _ _ _ _ _ _ _ aq (by fail "r") NE.pass (@aa _ _ _ _ _ (@pv _ 0 _ _ (by rfl) (by first | exact Or.inl rfl | exact Or.inr (Or.inl rfl) | exact Or.inr (Or.inr rfl)) (by decide) (by decide)) (@aa _ _ _ _ _ (@af _ _ _ _) (@ai _) (by rfl)) (by rfl)) (by rfl) (by decide) (by rfl) (by rfl))))) (@aG _)) (@ah _ _ _ _ _ (@aW _ _ _ _ _ _ _ _ (@aF _ _ _ _ _ _ _ _ (@cB _) (@pv _ 1 _ _ (by rfl) (by first | exact Or.inl rfl | exact Or.inr (Or.inl rfl) | exact Or.inr (Or.inr rfl)) (by decide) (by decide)) (@af _ _ _ _) (@aJ _ _ (by decide) (by decide))) (@ak _ _ _ (@aA _ _ _ _ (@af _ _ _ _))) (@aG _)) (@ak _ _ _ (@aA _ _ _ _ (@ao _ _ _ _ _ _ _ _ (@aY _) (@af _ _ _ _) (@aB _ _ _ _ _ _ _ _ _ _ _ _ aq (by fail "r") NE.pass (@aa _ _ _ _ _ (@pv _ 0 _ _ (by rfl) (by first | exact Or.inl rfl | exact Or.inr (Or.inl rfl) | exact Or.inr (Or.inr rfl)) (by decide) (by decide)) (@aa _ _ _ _ _ (@af _ _ _ _) (@ai _) (by rfl)) (by rfl)) (by rfl) (by decide) (by rfl) (by rfl))))))))),?_⟩
 have L:=dw hh
 fail "go"
 refine bN L .head (by decide) (by decide) (by omega) fun r1 H1 a1 a2 L _=>?_
 fail "go"
 refine f9 (fun c=>?_) (fun c=>?_)
 ·fail "go"
  refine bN L .head (by decide) (by decide) (by omega) fun r2 H2 b1 b2 L _=>?_
  fail "go"
  exact q _ _ (by omega) (by omega) ((aM.at (L.at_ _ (.head _))).mono (by omega)) L.fr
 fail "go"
 refine f9 (fun c=>?_) (fun c=>?_)
 ·fail "go"
  refine bN L .head (by decide) (by decide) (by omega) fun r2 H2 b1 b2 L _=>?_
  fail "go"
  exact q _ _ (by omega) (by omega) ((aM.at (L.at_ _ (.head _))).mono (by omega)) L.fr
 fail "go"
 refine f9 (fun c=>?_) (fun c=>?_)
 ·fail "go"
  exact q _ _ (by omega) (by omega) ((aM.at (L.at_ _ (.head _))).mono (by omega)) L.fr
 fail "go"
 refine bN L .head (by decide) (by decide) (by omega) fun r2 H2 b1 b2 L _=>?_
 fail "go"
 exact q _ _ (by omega) (by omega) ((aM.at (L.at_ _ (.head _))).mono (by omega)) L.fr
theorem jw {PP:Addr->Prop} {H0 H:Hp} {l l':List (Addr×Ob)} {fs:List Pr} {p:Addr} {Q:VK} {E:XK} {b:Int} (L:Led PP H0 H l fs) (m:Put p (aM b) (aM (b+2048)) l l') (hb:b<=100000000)
  (q:∀ r H',1<=r->r<=1000->Led PP H0 H' l' fs->Chg p H H'->Q (.int r) H'):kG [.ref p] H Q E:=
 have hh:=aM.at (L.at_ _ m.mem)
 ⟨p,b,rfl,hh,hb,fun r H' r0 r1 hh' o=>q r H' r0 r1 (L.set m (hh.ts o) hh'.ob) (hh.ts o)⟩
def dR:Sp:=fun vs H Q _=>∃ (p:Addr) (b:Int),vs=[.ref p]/\aH H p b/\b<=10000000/\∀ (t:Addr) (c s:Int) (H':Hp),ShN c s->H' t=some (.tup [.int c,.int s])->aH H' p (b+4096)->Oth p H H'->Q (.ref t) H'
theorem kY (D:Dat K mg "_law_shape_numbers" "_law_shape_numbers" (top 24) ["_law_hand_here"]) (NE:bQ CX) (eO:Cal P w K mg base CX "_law_wide" 12 ["_law_hand_here"] kG):Cal P w K mg base CX "_law_shape_numbers" 13 ["_law_hand_here"] dR:=by
 have S:=D.sc (N:=["_law_hand_here", "_law_counts"]) (by fail "s")
 fail "d1"
 obtain ⟨p,b,rfl,hh,hb,q⟩:=h
 fail "d5"
 refine ⟨_,(@ah _ _ _ _ _ (@aI _ _ 1 _ _ _ _ S.nd rfl (by fail "o") (@aB _ _ _ _ _ _ _ _ _ _ _ _ eO (by fail "r") NE.pass (@aa _ _ _ _ _ (@pv _ 0 _ _ (by rfl) (by first | exact Or.inl rfl | exact Or.inr (Or.inl rfl) | exact Or.inr (Or.inr rfl)) (by decide) (by decide)) (@ai _) (by rfl)) (by rfl) (by decide) (by rfl) (by rfl)) (by rfl) (by first | exact .inl rfl | exact .inr rfl | assumption)) (@ak _ _ _ (@aA _ _ _ _ (@iU _ _ _ _ _ (@aa _ _ _ _ _ (@pv _ 1 _ _ (by rfl) (by first | exact Or.inl rfl | exact Or.inr (Or.inl rfl) | exact Or.inr (Or.inr rfl)) (by decide) (by decide)) (@aa _ _ _ _ _ (@aB _ _ _ _ _ _ _ _ _ _ _ _ eO (by fail "r") NE.pass (@aa _ _ _ _ _ (@pv _ 0 _ _ (by rfl) (by first | exact Or.inl rfl | exact Or.inr (Or.inl rfl) | exact Or.inr (Or.inr rfl)) (by decide) (by decide)) (@ai _) (by rfl)) (by rfl) (by decide) (by rfl) (by rfl)) (@ai _) (by rfl)) (by rfl)))))),?_⟩
 have L:=dw hh
 fail "go"
 refine jw L .head (by omega) fun r1 H1 a1 a2 L _=>?_
 fail "go"
 refine jw L .head (by omega) fun r2 H2 b1 b2 L _=>?_
 fail "go"
 exact q _ _ _ _ ⟨a1,a2,b1,b2⟩ (L'.tup (by fail "mem")) ((aM.at (L'.at_ _ (.head _))).mono (by omega)) L'.fr
theorem jx {PP:Addr->Prop} {H0 H:Hp} {l l':List (Addr×Ob)} {fs:List Pr} {p:Addr} {Q:VK} {E:XK} {b:Int} (L:Led PP H0 H l fs) (m:Put p (aM b) (aM (b+4096)) l l') (hb:b<=10000000)
  (q:∀ t c s H',ShN c s->Led PP H0 H' l' (eE t [.int c,.int s]::fs)->Chg p H H'->Q (.ref t) H'):dR [.ref p] H Q E:=
 have hh:=aM.at (L.at_ _ m.mem)
 ⟨p,b,rfl,hh,hb,fun t c s H' n ht hh' o=>q t c s H' n ((L.set m (hh.ts o) hh'.ob).more (eE t _) ht) (hh.ts o)⟩
end
end Law
namespace Law
theorem fU {c s m l k:Int} (n:ShN c s) (l0 : 0<=l) (l1:l < s) (k0 : 0<=k) (k1:k < c):mk c s m l k / c / s=m/\mk c s m l k / c % s=l/\mk c s m l k % c=k:=by
 have c0:c≠0:=by have:=n.c1;omega
 have s0:s≠0:=by have:=n.s1;omega
 have e1:mk c s m l k / c=m * s+l:=by
  unfold mk
  rw [Int.add_comm,Int.add_mul_ediv_right _ _ c0,Int.ediv_eq_zero_of_lt k0 k1,Int.zero_add]
 have e2:mk c s m l k % c=k:=by
  unfold mk
  rw [Int.add_comm,Int.add_mul_emod_self_right,Int.emod_eq_of_lt k0 k1]
 have e3:(m * s+l) / s=m:=by rw [Int.add_comm,Int.add_mul_ediv_right _ _ s0,Int.ediv_eq_zero_of_lt l0 l1,Int.zero_add]
 have e4:(m * s+l) % s=l:=by rw [Int.add_comm,Int.add_mul_emod_self_right,Int.emod_eq_of_lt l0 l1]
 rw [e1]
 exact ⟨e3,e4,e2⟩
theorem nB {c s m l k:Int} (n:ShN c s) (m0 : 0<=m) (l0 : 0<=l) (k0 : 0<=k) : 0<=mk c s m l k:=by
 unfold mk
 have a1:=Int.mul_nonneg m0 (show 0<=s by have:=n.s1;omega)
 have a2:=Int.mul_nonneg (show 0<=m * s+l by omega) (show 0<=c by have:=n.c1;omega)
 omega
end Law
namespace L4
open PySem PySem.Spec PyProof.Rows L2 L3
mutual
def cJ:Dt->Bool
 | .non=>true
 | .int _=>true
 | .tup ds=>cI ds
 | _=>false
def cI:List Dt->Bool
 | []=>true
 | d::ds=>cJ d && cI ds
end
mutual
def drD:Dt->Nat
 | .non=>1
 | .int _=>1
 | .bl _=>1
 | .str _=>1
 | .lst _=>1
 | .tup ds=>nR ds+1
def nR:List Dt->Nat
 | []=>0
 | d::ds=>drD d+nR ds
end
mutual
def hsD:Dt->Int
 | .non=>reduceHash 0xFCA86420
 | .int i=>hashInt i
 | .tup ds=>reduceHash (Builtin.Tuple.tupleHashOf (lu ds))
 | _=>0
def lu:List Dt->List Int
 | []=>[]
 | d::ds=>hsD d::lu ds
end
mutual
theorem mJ:∀ (d e:Dt),cJ d=true->cJ e=true->eqD d e=true->d=e
 | .non,.non,_,_,_=>rfl
 | .int _,.int _,_,_,h=>by rw [eqD] at h;rw [eq_of_beq h]
 | .tup ds,.tup es,a,b,h=>by
  rw [cJ] at a b;rw [eqD] at h;rw [j5 ds es a b h]
 | .non,.int _,_,_,h | .non,.tup _,_,_,h | .int _,.non,_,_,h | .int _,.tup _,_,_,h | .tup _,.non,_,_,h | .tup _,.int _,_,_,h=>by simp [eqD] at h
theorem j5:∀ (ds es:List Dt),cI ds=true->cI es=true->c8 ds es=true->ds=es
 | [],[],_,_,_=>rfl
 | d::ds,e::es,a,b,h=>by
  rw [cI,Bool.and_eq_true] at a b
  rw [c8,Bool.and_eq_true] at h
  rw [mJ d e a.1 b.1 h.1,j5 ds es a.2 b.2 h.2]
 | [],_::_,_,_,h | _::_,[],_,_,h=>by simp [c8] at h
end
noncomputable instance decDt:DecidableEq Dt:=fun _ _=>Classical.propDecidable _
theorem sL {d e:Dt} (a:cJ d=true) (b:cJ e=true):eqD d e=decide (d=e):=by
 by_cases z:d=e
 ·subst z;rw [b9,zY rfl]
 ·rw [zX z]
  cases q:eqD d e with
  | true=>exact absurd (mJ d e a b q) z
  | false=>rfl
mutual
def ay (h:Heap):Dt->Value->Prop
 | .non,v=>v = .none
 | .int i,v=>∃ t,v = .int i t
 | .tup ds,v=>∃ a its,v = .ref a/\h.IsTuple a its/\aL h ds its.toList
 | _,_=>False
def aL (h:Heap):List Dt->List Value->Prop
 | [],vs=>vs=[]
 | d::ds,vs=>∃ v r,vs=v::r/\ay h d v/\aL h ds r
end
theorem gY {h:Heap} {a:Addr} {x y:Array Value} (p:h.IsTuple a x) (q:h.IsTuple a y):x=y:=by
 obtain ⟨o,e,_,n,z⟩:=p
 obtain ⟨o',e',_,n',z'⟩:=q
 rw [e] at e';cases e'
 rw [z] at z';injection z'
mutual
theorem lq {h:Heap}:∀ {d:Dt} {v:Value},ay h d v->cJ d=true
 | .non,_,_=>by rw [cJ]
 | .int _,_,_=>by rw [cJ]
 | .tup ds,_,k=>by
  rw [ay] at k
  obtain ⟨a,its,_,_,r⟩:=k
  rw [cJ];exact mq r
 | .bl _,_,k | .str _,_,k | .lst _,_,k=>by simp [ay] at k
theorem mq {h:Heap}:∀ {ds:List Dt} {vs:List Value},aL h ds vs->cI ds=true
 | [],_,_=>by rw [cI]
 | d::ds,_,k=>by
  rw [aL] at k
  obtain ⟨v,r,_,k1,k2⟩:=k
  rw [cI,lq k1,mq k2];rfl
end
mutual
theorem c7 {h:Heap}:∀ {d e:Dt} {v:Value},ay h d v->ay h e v->d=e
 | .non,e,v,k,l=>by
  rw [ay] at k;subst k
  cases e with
  | non=>rfl
  | int j=>rw [ay] at l;obtain ⟨_,z⟩:=l;cases z
  | tup es=>rw [ay] at l;obtain ⟨_,_,z,_⟩:=l;cases z
  | _=>simp [ay] at l
 | .int i,e,v,k,l=>by
  rw [ay] at k;obtain ⟨t,rfl⟩:=k
  cases e with
  | non=>rw [ay] at l;cases l
  | int j=>rw [ay] at l;obtain ⟨_,z⟩:=l;cases z;rfl
  | tup es=>rw [ay] at l;obtain ⟨_,_,z,_⟩:=l;cases z
  | _=>simp [ay] at l
 | .tup ds,e,v,k,l=>by
  rw [ay] at k;obtain ⟨a,its,rfl,p,r⟩:=k
  cases e with
  | non=>rw [ay] at l;cases l
  | int j=>rw [ay] at l;obtain ⟨_,z⟩:=l;cases z
  | tup es=>
   rw [ay] at l;obtain ⟨b,its',z,p',r'⟩:=l
   cases z
   have:=gY p p';subst this
   rw [i6 r r']
  | _=>simp [ay] at l
 | .bl _,_,_,k,_ | .str _,_,_,k,_ | .lst _,_,_,k,_=>by simp [ay] at k
theorem i6 {h:Heap}:∀ {ds es:List Dt} {vs:List Value},aL h ds vs->aL h es vs->ds=es
 | [],es,vs,k,l=>by
  rw [aL] at k;subst k
  cases es with
  | nil=>rfl
  | cons e es=>rw [aL] at l;obtain ⟨_,_,z,_⟩:=l;cases z
 | d::ds,es,vs,k,l=>by
  rw [aL] at k;obtain ⟨v,r,rfl,k1,k2⟩:=k
  cases es with
  | nil=>rw [aL] at l;cases l
  | cons e es=>
   rw [aL] at l;obtain ⟨v',r',z,l1,l2⟩:=l
   cases z
   rw [c7 k1 l1,i6 k2 l2]
end
mutual
theorem i8 {h h':Heap} (s:∀ a its,h.IsTuple a its->h'.IsTuple a its):∀ {d:Dt} {v:Value},ay h d v->ay h' d v
 | .non,_,k=>by rw [ay] at k ⊢;exact k
 | .int _,_,k=>by rw [ay] at k ⊢;exact k
 | .tup _,_,k=>by
  rw [ay] at k ⊢
  obtain ⟨a,its,e,p,r⟩:=k
  exact ⟨a,its,e,s _ _ p,jV s r⟩
 | .bl _,_,k | .str _,_,k | .lst _,_,k=>by simp [ay] at k
theorem jV {h h':Heap} (s:∀ a its,h.IsTuple a its->h'.IsTuple a its):∀ {ds:List Dt} {vs:List Value},aL h ds vs->aL h' ds vs
 | [],_,k=>by rw [aL] at k ⊢;exact k
 | _::_,_,k=>by
  rw [aL] at k ⊢
  obtain ⟨v,r,e,k1,k2⟩:=k
  exact ⟨v,r,e,i8 s k1,jV s k2⟩
end
theorem kys_len {h:Heap}:∀ {ds:List Dt} {vs:List Value},aL h ds vs->ds.length=vs.length
 | [],_,k=>by rw [aL] at k;subst k;rfl
 | _::_,_,k=>by
  rw [aL] at k
  obtain ⟨v,r,rfl,_,k2⟩:=k
  rw [zP,zP,kys_len k2]
theorem i7 {h:Heap}:∀ {ds:List Dt} {vs:List Value} {j:Nat} {v:Value},aL h ds vs->vs[j]?=some v->∃ d,ds[j]?=some d/\ay h d v
 | [],_,j,v,k,e=>by rw [aL] at k;subst k;simp at e
 | d::_,_,j,v,k,e=>by
  rw [aL] at k
  obtain ⟨v',r,rfl,k1,k2⟩:=k
  cases j with
  | zero=>simp at e;subst e;exact ⟨d,rfl,k1⟩
  | succ j=>
   obtain ⟨d',h1,h2⟩:=i7 (j:=j) k2 (by simpa using e)
   exact ⟨d',by simpa using h1,h2⟩
theorem dB {h:Heap} {d:Dt} {v:Value} (k:ay h d v) (z:dep d=0):∃ x,RelV x v/\bS x=true/\((d = .non/\x = .non)\/∃ i,d = .int i/\x = .int i):=by
 cases d with
 | non=>rw [ay] at k;subst k;exact ⟨.non,rfl,rfl,.inl ⟨rfl,rfl⟩⟩
 | int i=>rw [ay] at k;obtain ⟨t,rfl⟩:=k;exact ⟨.int i,⟨t,rfl⟩,rfl,.inr ⟨i,rfl,rfl⟩⟩
 | tup ds=>simp [dep] at z
 | _=>simp [ay] at k
theorem wQ {s:Shared}:∀ (n:Nat) {d e:Dt} {u v:Value},dep d<=n->ay s.heap d u->ay s.heap e v->∀ A:Around,A.units+n < cLine->SeqAt.EqAt A s u v (eqD d e):=by
 intro n
 induction n with
 | zero=>
  intro d e u v hd kd ke A hA
  obtain ⟨x,rx,fx,hx⟩:=dB kd (by omega)
  by_cases z:dep e=0
  ·obtain ⟨y,ry,fy,hy⟩:=dB ke z
   have q:=jf (A:=A) (s:=s) rx ry fx fy
   have:eqV x y=eqD d e:=by
    rcases hx with ⟨rfl,rfl⟩ | ⟨i,rfl,rfl⟩ <;> rcases hy with ⟨rfl,rfl⟩ | ⟨j,rfl,rfl⟩ <;> simp only [eqV,eqD]
   rw [<- this];exact q
  ·cases e with
   | tup es=>
    rw [ay] at ke;obtain ⟨a,its,rfl,p,_⟩:=ke
    have:eqD d (.tup es)=false:=by rcases hx with ⟨rfl,rfl⟩ | ⟨i,rfl,rfl⟩ <;> simp only [eqD]
    rw [this];exact bM rx fx p (by omega)
   | _=>simp [dep,ay] at z ke
 | succ n ih=>
  intro d e u v hd kd ke A hA
  by_cases zd:dep d=0
  ·obtain ⟨x,rx,fx,hx⟩:=dB kd zd
   by_cases z:dep e=0
   ·obtain ⟨y,ry,fy,hy⟩:=dB ke z
    have q:=jf (A:=A) (s:=s) rx ry fx fy
    have:eqV x y=eqD d e:=by
     rcases hx with ⟨rfl,rfl⟩ | ⟨i,rfl,rfl⟩ <;> rcases hy with ⟨rfl,rfl⟩ | ⟨j,rfl,rfl⟩ <;> simp only [eqV,eqD]
    rw [<- this];exact q
   ·cases e with
    | tup es=>
     rw [ay] at ke;obtain ⟨a,its,rfl,p,_⟩:=ke
     have:eqD d (.tup es)=false:=by rcases hx with ⟨rfl,rfl⟩ | ⟨i,rfl,rfl⟩ <;> simp only [eqD]
     rw [this];exact bM rx fx p (by omega)
    | _=>simp [dep,ay] at z ke
  ·cases d with
   | tup ds=>
    rw [ay] at kd;obtain ⟨a,its,rfl,p,r⟩:=kd
    rw [dep] at hd
    by_cases z:dep e=0
    ·obtain ⟨y,ry,fy,hy⟩:=dB ke z
     have:eqD (.tup ds) e=false:=by rcases hy with ⟨rfl,rfl⟩ | ⟨i,rfl,rfl⟩ <;> simp only [eqD]
     rw [this];exact cY ry fy p (by omega)
    ·cases e with
     | tup es=>
      rw [ay] at ke;obtain ⟨b,its',rfl,p',r'⟩:=ke
      by_cases hab:a=b
      ·subst hab
       have:=gY p p';subst this
       rw [i6 r r',b9]
       exact SeqAt.EqAt.same _
      ·have q:=SeqAt.RcAt.tuples (A:=A) (e:=fun j=>eqD (ds.getD j .non) (es.getD j .non)) p p' (by omega) (fun j h1 h2=>by
        obtain ⟨d1,e1,k1⟩:=i7 r (v:=its[j]) (j:=j) (by simp [h1])
        obtain ⟨d2,e2,k2⟩:=i7 r' (v:=its'[j]) (j:=j) (by simp [h2])
        rw [List.getD_eq_getElem?_getD,List.getD_eq_getElem?_getD,e1,e2]
        exact ih (z6 (cV (zG e1)) (by omega)) k1 k2 A.in1 (by show A.units+1+n < _;omega))
       have l1:its.size=ds.length:=by rw [kys_len r];simp
       have l2:its'.size=es.length:=by rw [kys_len r'];simp
       rw [l1,l2,bT] at q
       rw [eqD]
       exact SeqAt.EqAt.of_refs hab q
     | _=>simp [dep,ay] at z ke
   | lst ds=>simp [ay] at kd
   | _=>simp [dep] at zd
section
variable {P:Program} {w:World}
mutual
theorem i9:∀ (d:Dt) {v:Value} {s:Shared} {A:Around} {E:Value->Shared->Prop} {Q:Int->Shared->Prop},ay s.heap d v->A.units+dep d < cLine->Q (hsD d) { s with toks:=s.toks+drD d }->wpAny (model P w) A (pyHash v) Q E s
 | .non,v,s,A,E,Q,k,hA,q=>by
  rw [ay] at k;subst k
  rw [hsD,drD] at q
  exact PySem.W.pyHash_slot (T:="NoneType") rfl F.slot_NoneType_hash F.entry_NoneType_hash (F.args_NoneType_hash_1 _) (beq_builtin_none _) (.inr (by omega))
   (wpAny_bind (wpAny_pure (wpAny_bind (wpAny_mkInt (wpAny_pure ⟨_,_,rfl,q⟩)))))
 | .int i,v,s,A,E,Q,k,hA,q=>by
  rw [ay] at k;obtain ⟨t,rfl⟩:=k
  rw [hsD,drD] at q
  exact wpAny_pyHash_int q
 | .tup ds,v,s,A,E,Q,k,hA,q=>by
  rw [ay] at k;obtain ⟨a,its,rfl,p,r⟩:=k
  rw [hsD,drD] at q
  rw [dep] at hA
  obtain ⟨o,ho,hc,n,hd⟩:=id p
  refine PySem.W.pyHash_slot (T:="tuple") (s:=s) ⟨o,ho,hc⟩ F.slot_tuple_hash F.entry_tuple_hash (F.args_tuple_hash_1 _) (beq_builtin_none _) (.inr (by omega)) ?_
  show wpAny _ _ (Builtin.Tuple.tupleItemsOf (.ref a) >>= _) _ _ s
  refine wpAny_bind (wpAny_tupleItemsOf ho hd (wpAny_bind ?_))
  rw [<- Array.forIn_toList]
  refine mw ds #[] r (by show A.units+1+deps ds < _;omega) ?_
  refine wpAny_bind (wpAny_mkInt (wpAny_pure ⟨_,_,rfl,?_⟩))
  rw [show ((#[]:Array Int).toList++lu ds).toArray.toList=lu ds from rfl]
  exact q
 | .bl _,_,_,_,_,_,k,_,_ | .str _,_,_,_,_,_,k,_,_ | .lst _,_,_,_,_,_,k,_,_=>by simp [ay] at k
theorem mw:∀ (ds:List Dt) (b:Array Int) {vs:List Value} {s:Shared} {A:Around} {E:Value->Shared->Prop} {Q:Array Int->Shared->Prop},aL s.heap ds vs->A.units+deps ds < cLine->Q (b.toList++lu ds).toArray { s with toks:=s.toks+nR ds } ->
  wpAny (model P w) A (forIn vs b fun (x:Value) (r:Array Int)=>(do let y <- pyHash x;pure (ForInStep.yield (r.push y)):Sem (ForInStep (Array Int)))) Q E s
 | [],b,vs,s,A,E,Q,k,hA,q=>by
  rw [aL] at k;subst k
  rw [List.forIn_nil]
  rw [lu,nR,zV] at q
  exact wpAny_pure q
 | d::ds,b,vs,s,A,E,Q,k,hA,q=>by
  rw [aL] at k;obtain ⟨v,r,rfl,k1,k2⟩:=k
  rw [deps] at hA
  rw [lu,nR] at q
  rw [List.forIn_cons]
  refine wpAny_bind (wpAny_bind (i9 d k1 (by have:=Nat.le_max_left (dep d) (deps ds);omega) (wpAny_pure ?_)))
  refine mw ds _ (s:={ s with toks:=s.toks+drD d }) k2 (by have:=Nat.le_max_right (dep d) (deps ds);omega) ?_
  rw [Array.toList_push,List.append_assoc]
  show Q _ { s with toks:=s.toks+drD d+nR ds }
  rw [Nat.add_assoc]
  exact q
end
mutual
theorem dz:∀ (n:Nat) (d:Dt) {v:Value} {s:Shared} {A:Around} {E:Value->Shared->Prop} {Q:Bool->Shared->Prop},dep d<=n->ay s.heap d v->Q true s->wpAny (model P w) A (eqIsQuiet n v) Q E s
 | n,.non,v,s,A,E,Q,hn,k,q=>by
  rw [ay] at k;subst k
  rw [eqIsQuiet_byValue n rfl];exact wpAny_pure q
 | n,.int i,v,s,A,E,Q,hn,k,q=>by
  rw [ay] at k;obtain ⟨t,rfl⟩:=k
  rw [eqIsQuiet_byValue n rfl];exact wpAny_pure q
 | 0,.tup ds,v,s,A,E,Q,hn,k,q=>by simp [dep] at hn
 | n+1,.tup ds,v,s,A,E,Q,hn,k,q=>by
  rw [ay] at k;obtain ⟨a,its,rfl,p,r⟩:=k
  rw [dep] at hn
  obtain ⟨o,ho,hc,m,hd⟩:=id p
  have hT:s.TypeIs (.ref a) "tuple" := ⟨o,ho,hc⟩
  rw [eqIsQuiet]
  refine wpAny_bind (wpAny_specialOf hT F.slot_tuple_eq.lookup ?_)
  show wpAny _ _ (isInstance (.ref a) (.type "tuple") >>= _) _ _ s
  refine wpAny_bind (wpAny_isInstance hT isSubtype_tuple_tuple ?_)
  simp only [Bool.not_true,Bool.false_eq_true,if_false]
  refine wpAny_bind (wpAny_seqItems ho hd (wpAny_bind ?_))
  show wpAny _ _ (forIn its _ _) _ _ s
  rw [<- Array.forIn_toList]
  refine gT n ds (by omega) r ?_
  exact wpAny_pure q
 | _,.bl _,_,_,_,_,_,_,k,_ | _,.str _,_,_,_,_,_,_,k,_ | _,.lst _,_,_,_,_,_,_,k,_=>by simp [ay] at k
theorem gT:∀ (n:Nat) (ds:List Dt) {vs:List Value} {s:Shared} {A:Around} {E:Value->Shared->Prop} {Q:(Option Bool×Unit)->Shared->Prop},deps ds<=n->aL s.heap ds vs->Q (none,()) s ->
  wpAny (model P w) A (forIn vs ((none,()):Option Bool×Unit) fun (y:Value) (_:Option Bool×Unit)=>(do
   if !(<- eqIsQuiet n y) then pure (ForInStep.done (some false,())) else pure (ForInStep.yield (none,())):Sem (ForInStep (Option Bool×Unit)))) Q E s
 | n,[],vs,s,A,E,Q,hn,k,q=>by
  rw [aL] at k;subst k
  rw [List.forIn_nil]
  exact wpAny_pure q
 | n,d::ds,vs,s,A,E,Q,hn,k,q=>by
  rw [aL] at k;obtain ⟨v,r,rfl,k1,k2⟩:=k
  rw [deps] at hn
  rw [List.forIn_cons]
  refine wpAny_bind (wpAny_bind (dz n d (by have:=Nat.le_max_left (dep d) (deps ds);omega) k1 ?_))
  simp only [Bool.not_true,Bool.false_eq_true,if_false]
  exact wpAny_pure (gT n ds (by have:=Nat.le_max_right (dep d) (deps ds);omega) k2 q)
end
noncomputable def lD (P:Program) (w:World):HeapKind P w Dt where
 is:=fun h d a=>ay h d (.ref a)/\dep d<=7
 hash:=hsD
 draws:=drD
 room:=fun A=>A.units+7 < cLine
 inj:=fun x y=>c7 x.1 y.1
 keeps:=fun {h h' k a d o es ep} x ho hd hs=>⟨i8 (fun b its p=>by
  obtain ⟨o',e,c,n,q⟩:=p
  refine ⟨o',(hs.2 b fun z=>?_).trans e,c,n,q⟩
  subst z
  rw [ho] at e;cases e
  rw [hd] at q;cases q) x.1,x.2⟩
 pyHash:=fun hu x q=>i9 _ x.1 (by omega) q
 eqBool:=fun hu x y q=>by
  have z:=wQ 7 x.2 x.1 y.1 _ hu
  rw [sL (lq x.1) (lq y.1)] at z
  exact z P w _ _ q
 quiet:=fun x q=>dz 8 _ (by omega) x.1 q
end
def KaV (p:Dt×Addr) (q:Dt×Addr×Value):Prop:=p.1=q.1/\p.2=q.2.1
def yE (P:Program) (w:World) (d:Addr) (xs:List (Dt×Addr)) (h:Heap):Prop:=
 (d == sysModules)=false/\xs.length<=sizeLine/\∃ vs:List (Dt×Addr×Value),Paired KaV xs vs/\(vs.map (·.1)).Nodup /\
  ∃ o es ep,h.get? d=some o/\o.ExactDict/\o.data = .dict es ep/\es.toList=vs.map (entryOfKey (lD P w))
noncomputable def sdO (P:Program) (w:World) (d:Addr) (xs:List (Dt×Addr)):HO:=.ext (yE P w d xs)
structure kj (K:Ao) (H:Hp) (t:Addr) (D:Dt):Prop where
 at_:At K H (.ref t) D
 key:cJ D=true
 dep:L4.dep D<=7
structure zq (P:Program) (w:World) (K:Ao) (H:Hp) (d:Addr) (xs:List (Dt×Addr)):Prop where
 ob:H d=some (sdO P w d xs)
 ks:∀ x∈xs,kj K H x.2 x.1
section
variable {X:Cx} {pins:List (Addr×Obj)} {σ : St} {H:Hp} {s:Shared}
mutual
theorem At.ky (I:Inv X pins σ H s):∀ {x:V} {d:Dt} {u:Value},At X.K H x d->cJ d=true->RelV x u->ay s.heap d u
 | _,_,_,.non,_,r=>by rw [ay];exact r
 | _,_,_,.int _,_,r=>by rw [ay];exact r
 | _,_,_,.bl _,k,_=>by simp [cJ] at k
 | _,_,_,.str _,k,_=>by simp [cJ] at k
 | _,_,_,.tup h r,k,q=>by
  rw [cJ] at k
  obtain ⟨its,rv,p,_⟩:=I.tuple h
  rw [ay]
  exact ⟨_,its.toArray,q,p,Ats.ky I r k rv⟩
 | _,_,_,.lst _ _,k,_=>by simp [cJ] at k
theorem Ats.ky (I:Inv X pins σ H s):∀ {xs:List V} {ds:List Dt} {us:List Value},Ats X.K H xs ds->cI ds=true->Vals xs us->aL s.heap ds us
 | _,_,_,.nil,_,.nil=>by rw [aL]
 | _,_,_,.cons h r,k,.cons q qs=>by
  rw [cI,Bool.and_eq_true] at k
  rw [aL]
  exact ⟨_,_,rfl,At.ky I h k.1 q,Ats.ky I r k.2 qs⟩
end
theorem kj.is {t:Addr} {D:Dt} (k:kj X.K H t D) (I:Inv X pins σ H s):(lD X.prog X.w).is s.heap D t:=⟨At.ky I k.at_ k.key rfl,k.dep⟩
end
def Asc (l:List Nat):Prop:=l.Pairwise (· < ·)
theorem Asc.lt {xs:Array Nat} (h:Asc xs.toList) {i j:Nat} (hij:i < j) (hj:j < xs.size):xs[i]'(by omega) < xs[j]:=by
 have:=List.pairwise_iff_getElem.mp h i j (by rw [Array.length_toList];omega) (by rw [Array.length_toList];exact hj) hij
 simpa using this
theorem gn {xs:Array Nat} {j:Nat} (ha:Asc xs.toList):∀ (fuel lo hi:Nat),hi - lo<=fuel->lo<=hi->hi<=xs.size->(∀ i (h:i < xs.size),i < lo->xs[i] < j)->(∀ i (h:i < xs.size),hi<=i->j<=xs[i]) ->
  SetTable.below.go xs j fuel lo hi<=xs.size/\(∀ i (h:i < xs.size),i < SetTable.below.go xs j fuel lo hi->xs[i] < j)/\(∀ i (h:i < xs.size),SetTable.below.go xs j fuel lo hi<=i->j<=xs[i])
 | 0,lo,hi,hf,hl,hs,h1,h2=>by
  obtain rfl:lo=hi:=by omega
  exact ⟨hs,h1,h2⟩
 | fuel+1,lo,hi,hf,hl,hs,h1,h2=>by
  unfold SetTable.below.go
  by_cases c:lo < hi
  ·rw [if_pos c]
   have hm:(lo+hi) / 2 < xs.size:=by omega
   dsimp only
   rw [Array.getD_eq_getD_getElem?,Array.getElem?_eq_getElem hm,Option.getD_some]
   by_cases d:xs[(lo+hi) / 2] < j
   ·rw [if_pos d]
    refine gn ha fuel _ hi (by omega) (by omega) hs (fun i h hx=>?_) h2
    by_cases e:i=(lo+hi) / 2
    ·subst e;exact d
    ·exact Nat.lt_trans (ha.lt (show i < (lo+hi) / 2 by omega) hm) d
   ·rw [if_neg d]
    refine gn ha fuel lo _ (by omega) (by omega) (by omega) h1 (fun i h hx=>?_)
    by_cases e:i=(lo+hi) / 2
    ·subst e;omega
    ·have:=ha.lt (show (lo+hi) / 2 < i by omega) h
     omega
  ·rw [if_neg c]
   obtain rfl:lo=hi:=by omega
   exact ⟨hs,h1,h2⟩
theorem dM {xs:Array Nat} (ha:Asc xs.toList) (j:Nat):SetTable.below xs j<=xs.size/\(∀ i (h:i < xs.size),i < SetTable.below xs j->xs[i] < j)/\(∀ i (h:i < xs.size),SetTable.below xs j<=i->j<=xs[i]):=
 gn ha xs.size 0 xs.size (by omega) (Ae _) (Ad _) (fun i h z=>by omega) (fun i h z=>by omega)
theorem cK {α : Type} (xs:Array α) (p:Nat) (x : α):(SetTable.insertAt xs p x).toList=xs.toList.take p++x::xs.toList.drop p:=by
 unfold SetTable.insertAt
 simp [List.take_of_length_le]
def xE (xs:Array Nat) (j:Nat):Prop:=xs[SetTable.below xs j]?≠some j
theorem lJ {xs:Array Nat} (ha:Asc xs.toList) {j:Nat} (hf:xE xs j):Asc (SetTable.insertAt xs (SetTable.below xs j) j).toList:=by
 obtain ⟨h0,h1,h2⟩:=dM ha j
 have hp:∀ x∈xs.toList.take (SetTable.below xs j),x < j:=fun x hx=>by
  obtain ⟨i,hi,e⟩:=zI hx
  rw [zQ,Array.length_toList] at hi
  rw [List.getElem_take,Array.getElem_toList] at e
  rw [<- e]
  exact h1 i (by omega) (by omega)
 have hq:∀ x∈xs.toList.drop (SetTable.below xs j),j < x:=fun x hx=>by
  obtain ⟨i,hi,e⟩:=zI hx
  rw [List.length_drop,Array.length_toList] at hi
  rw [List.getElem_drop,Array.getElem_toList] at e
  rw [<- e]
  have hb:SetTable.below xs j < xs.size:=by omega
  have b0:=h2 _ hb (Ad _)
  have b1:xs[SetTable.below xs j]≠j:=fun z=>hf (by rw [Array.getElem?_eq_getElem hb,z])
  by_cases c:i=0
  ·subst c
   simp only [Nat.add_zero]
   omega
  ·have:=ha.lt (show SetTable.below xs j < SetTable.below xs j+i by omega) (by omega)
   omega
 rw [cK]
 unfold Asc
 rw [List.pairwise_append]
 refine ⟨ha.sublist (List.take_sublist _ _),List.pairwise_cons.mpr ⟨hq,ha.sublist (List.drop_sublist _ _)⟩,fun a h b h'=>?_⟩
 rcases Ak h' with rfl | h'
 ·exact hp a h
 ·exact Nat.lt_trans (hp a h) (hq b h')
end L4
namespace L4
open PySem PySem.SetTable
theorem cX {xs:Array Nat} (ha:Asc xs.toList) {j:Nat}:j∈xs.toList↔xs[below xs j]?=some j:=by
 obtain ⟨h0,h1,h2⟩:=dM ha j
 constructor
 ·intro h
  obtain ⟨i,hi,e⟩:=zI h
  rw [Array.length_toList] at hi
  rw [Array.getElem_toList] at e
  have:below xs j=i:=by
   rcases Nat.lt_trichotomy i (below xs j) with c | c | c
   ·have:=h1 i hi c;omega
   ·exact c.symm
   ·have:=h2 (below xs j) (by omega) (Ad _)
    have:=ha.lt c hi
    omega
  rw [this,Array.getElem?_eq_getElem hi,e]
 ·intro h
  rw [<- Array.getElem?_toList] at h
  exact zG h
def stp (M:Nat) (p:Probe):Probe:=
 if p.more > 0 then { p with j:=p.j+1,more:=p.more - 1 } else
 { p with j:=(leap M p.i p.perturb).1,more:=runEnd M (leap M p.i p.perturb).1 - (leap M p.i p.perturb).1,i:=(leap M p.i p.perturb).1,perturb:=(leap M p.i p.perturb).2 }
theorem mS (t:SetTable) (p:Probe):t.advance p=stp t.mask p:=rfl
def p0 (M:Nat) (h:Int):Probe:=⟨bits h % (M+1),runEnd M (bits h % (M+1)) - bits h % (M+1),bits h % (M+1),bits h,none⟩
def pth (M:Nat) (h:Int):Nat->Probe
 | 0=>p0 M h
 | n+1=>stp M (pth M h n)
def lpI (M:Nat) (h:Int):Nat->Nat×Nat
 | 0=>(bits h % (M+1),bits h)
 | k+1=>leap M (lpI M h k).1 (lpI M h k).2
theorem uG (M i:Nat):runEnd M i - i<=9:=by unfold runEnd;split <;> omega
theorem iN {M i:Nat} (h:i<=M):runEnd M i<=M:=by unfold runEnd;split <;> omega
theorem kM (M i:Nat):i<=runEnd M i:=by unfold runEnd;split <;> omega
theorem iM {M:Nat} {h:Int} {s i e q:Nat} (hs:pth M h s=⟨i,e,i,q,none⟩):∀ r,r<=e->pth M h (s+r)=⟨i+r,e - r,i,q,none⟩
 | 0,_=>hs
 | r+1,hr=>by
  have ih:=iM hs r (by omega)
  show stp M (pth M h (s+r))=_
  rw [ih]
  unfold stp
  rw [if_pos (show e - r > 0 by omega)]
  simp only [Probe.mk.injEq,and_true,true_and]
  omega
theorem jJ (M:Nat) (h:Int):∀ k,∃ s,s<=10 * k/\pth M h s=⟨(lpI M h k).1,runEnd M (lpI M h k).1 - (lpI M h k).1,(lpI M h k).1,(lpI M h k).2,none⟩
 | 0=>⟨0,Ad _,rfl⟩
 | k+1=>by
  obtain ⟨s,h1,h2⟩:=jJ M h k
  have h3:=iM h2 _ (Ad _)
  have h4:=uG M (lpI M h k).1
  refine ⟨s+(runEnd M (lpI M h k).1 - (lpI M h k).1)+1,by omega,?_⟩
  show stp M (pth M h (s+_))=_
  rw [h3]
  unfold stp
  rw [if_neg (show ¬ (_ - _ > 0) by omega)]
  rfl
theorem qa (M:Nat) (h:Int):∀ k,(lpI M h k).1 < M+1
 | 0=>Nat.mod_lt _ (Nat.succ_pos _)
 | k+1=>Nat.mod_lt _ (Nat.succ_pos _)
theorem mj (M:Nat) (h:Int):∀ k,(lpI M h k).2=bits h / 32 ^ k
 | 0=>by simp [lpI]
 | k+1=>by
  show (lpI M h k).2 / 32=_
  rw [mj M h k,Nat.div_div_eq_div_mul,Nat.pow_succ]
theorem sX (h:Int):bits h < 2 ^ 64:=by unfold bits;omega
theorem rV (M:Nat) (h:Int) (k:Nat):(lpI M h (13+k)).2=0:=by
 rw [mj]
 refine Nat.div_eq_of_lt (zM (sX h) ?_)
 rw [Nat.pow_add]
 have : 1<=32 ^ k:=Nat.one_le_pow _ _ (by decide)
 calc 2 ^ 64<=32 ^ 13 * 1:=by decide
  _<=32 ^ 13 * 32 ^ k:=Nat.mul_le_mul_left _ this
def f5 (M a:Nat):Nat:=(a * 5+1) % (M+1)
def it5 (M a:Nat):Nat->Nat
 | 0=>a
 | k+1=>f5 M (it5 M a k)
theorem fz (M a m:Nat):∀ n,it5 M a (m+n)=it5 M (it5 M a m) n
 | 0=>rfl
 | n+1=>by show f5 M (it5 M a (m+n))=f5 M _;rw [fz M a m n]
theorem uS (M:Nat) (h:Int):∀ k,(lpI M h (13+k)).1=it5 M (lpI M h 13).1 k
 | 0=>rfl
 | k+1=>by
  show (leap M (lpI M h (13+k)).1 (lpI M h (13+k)).2).1=_
  rw [rV,uS M h k]
  rfl
def uO (M:Nat):Nat->Nat->List Nat
 | 0,_=>[]
 | n+1,a=>a::uO M n (f5 M a)
theorem jX (M a:Nat):∀ k,it5 M (f5 M a) k=it5 M a (k+1)
 | 0=>rfl
 | k+1=>by show f5 M (it5 M (f5 M a) k)=_;rw [jX M a k];rfl
theorem l9 (M:Nat):∀ (n a x:Nat),x∈uO M n a->∃ k,k < n/\it5 M a k=x
 | 0,_,_,h=>by cases h
 | n+1,a,x,h=>by
  rcases Ak h with rfl | h
  ·exact ⟨0,Nat.succ_pos _,rfl⟩
  ·obtain ⟨k,h1,h2⟩:=l9 M n _ x h
   exact ⟨k+1,by omega,by rw [<- jX];exact h2⟩
def jY (M:Nat):Bool:=(List.range (M+1)).all (fun a=>(uO M (M+1) 0).elem a) && Nat.beq (it5 M 0 (M+1)) 0
def Msk (M:Nat):Prop:=M=7\/M=31\/M=127
theorem wZ:jY 7=true:=by decide +kernel
theorem u9:jY 31=true:=by decide +kernel
theorem sj:jY 127=true:=by decide +kernel
theorem Msk.good {M:Nat} (h:Msk M):jY M=true:=by
 rcases h with rfl | rfl | rfl
 ·exact wZ
 ·exact u9
 ·exact sj
theorem mD {M:Nat} (hM:Msk M) {a j:Nat} (ha:a < M+1) (hj:j < M+1):∃ k,k < M+1/\it5 M a k=j:=by
 have g:=hM.good
 unfold jY at g
 rw [Bool.and_eq_true] at g
 have z:=Nat.eq_of_beq_eq_true g.2
 have mem:∀ x,x < M+1->∃ k,k < M+1/\it5 M 0 k=x:=fun x hx=>l9 M _ 0 x (List.elem_iff.mp (List.all_eq_true.mp g.1 x (List.mem_range.mpr hx)))
 obtain ⟨p,p1,rfl⟩:=mem a ha
 obtain ⟨q,q1,rfl⟩:=mem j hj
 by_cases c:p<=q
 ·exact ⟨q - p,by omega,by rw [<- fz,Nat.add_sub_cancel' c]⟩
 ·refine ⟨M+1 - p+q,by omega,?_⟩
  rw [<- fz,show p+(M+1 - p+q)=(M+1)+q by omega,fz,z]
theorem cover {M:Nat} (hM:Msk M) (h:Int) {j:Nat} (hj:j<=M):∃ n,n < 10 * turns M/\(pth M h n).j=j:=by
 obtain ⟨k,k1,k2⟩:=mD hM (qa M h 13) (show j < M+1 by omega)
 obtain ⟨s,s1,s2⟩:=jJ M h (13+k)
 refine ⟨s,by unfold turns;omega,?_⟩
 rw [s2,<- k2,<- uS]
theorem kT (M:Nat) (h:Int):∀ n,(pth M h n).j+(pth M h n).more<=M
 | 0=>by
  have h1:bits h % (M+1) < M+1:=Nat.mod_lt _ (Nat.succ_pos _)
  have h2:=iN (M:=M) (i:=bits h % (M+1)) (by omega)
  have h3:=kM M (bits h % (M+1))
  show bits h % (M+1)+(runEnd M (bits h % (M+1)) - bits h % (M+1))<=M
  omega
 | n+1=>by
  have ih:=kT M h n
  show (stp M (pth M h n)).j+(stp M (pth M h n)).more<=M
  unfold stp
  by_cases c:(pth M h n).more > 0
  ·rw [if_pos c]
   dsimp only
   omega
  ·rw [if_neg c]
   have h1:(leap M (pth M h n).i (pth M h n).perturb).1 < M+1:=Nat.mod_lt _ (Nat.succ_pos _)
   have h2:=iN (M:=M) (i:=(leap M (pth M h n).i (pth M h n).perturb).1) (by omega)
   have h3:=kM M (leap M (pth M h n).i (pth M h n).perturb).1
   dsimp only
   omega
theorem gO (M:Nat) (h:Int):∀ n,(pth M h n).dummy=none
 | 0=>rfl
 | n+1=>by
  show (stp M (pth M h n)).dummy=none
  unfold stp
  split <;> exact gO M h n
structure tw (t:SetTable) (hs:List Int):Prop where
 m:Msk t.mask
 d:t.dummies=#[]
 a:Asc t.place.toList
 le:∀ j∈t.place.toList,j<=t.mask
 n:t.place.size=hs.length
 f:t.place.size * 5 < t.mask * 3
 p:∀ (i:Nat) (h:Int),hs[i]?=some h->∃ n,t.place[i]?=some (pth t.mask h n).j/\∀ m,m < n->(pth t.mask h m).j∈t.place.toList
theorem mE (j:Nat):has #[] j=false:=rfl
theorem fh {t:SetTable} (a:Asc t.place.toList) (d:t.dummies=#[]) (j:Nat):t.slot j=if j∈t.place.toList then .live (below t.place j) else .empty:=by
 unfold slot
 dsimp only
 by_cases c:j∈t.place.toList
 ·rw [if_pos c,if_pos (by rw [(cX a).mp c];simp)]
 ·rw [if_neg c,if_neg (fun z=>c ((cX a).mpr (by simpa using z))),d,mE]
  rfl
theorem j3 {l:List Nat} {M:Nat} (nd:l.Nodup) (h:l.length<=M):∃ j,j<=M/\j∉l:=by
 apply Classical.byContradiction
 intro z
 have sub:∀ j∈List.range (M+1),j∈l:=fun j hj=>by
  apply Classical.byContradiction
  exact fun c=>z ⟨j,by have:=List.mem_range.mp hj;omega,c⟩
 have:=(List.nodup_range (n:=M+1)).length_le_of_subset sub
 rw [List.length_range] at this
 omega
theorem least {p:Nat->Prop}:∀ {n:Nat},p n->∃ N,N<=n/\p N/\∀ m,m < N->¬ p m:=by
 intro n
 induction n using Nat.strongRecOn with
 | ind n ih=>
  intro h
  by_cases c:∃ m,m < n/\p m
  ·obtain ⟨m,h1,h2⟩:=c
   obtain ⟨N,a,b,e⟩:=ih m h1 h2
   exact ⟨N,by omega,b,e⟩
  ·exact ⟨n,Ad _,h,fun m hm hp=>c ⟨m,hm,hp⟩⟩
theorem lC {l:List Nat} {M:Nat} (hM:Msk M) (nd:l.Nodup) (hl:l.length<=M) (h:Int):∃ N,N < 10 * turns M/\(pth M h N).j∉l/\∀ m,m < N->(pth M h m).j∈l:=by
 obtain ⟨j,h1,h2⟩:=j3 nd hl
 obtain ⟨n,h3,h4⟩:=cover hM h h1
 obtain ⟨N,h5,h6,h7⟩:=least (p:=fun n=>(pth M h n).j∉l) (n:=n) (by rw [h4];exact h2)
 exact ⟨N,by omega,h6,fun m hm=>Classical.byContradiction fun c=>h7 m hm c⟩
theorem Asc.nodup {l:List Nat} (h:Asc l):l.Nodup:=h.imp fun {a b} (z:a < b)=>Ab z
theorem mF {t:SetTable} {h:Int} {N:Nat} {f:Nat->Int} (a:Asc t.place.toList) (d:t.dummies=#[]) (hN:(pth t.mask h N).j∉t.place.toList) (hl:∀ m,m < N->(pth t.mask h m).j∈t.place.toList):∀ (r n fuel:Nat),N - n=r->n<=N->r < fuel ->
  (∃ m i,n<=m/\m < N/\t.slot (pth t.mask h m).j = .live i/\f i=h/\probe.go t f h fuel (pth t.mask h n)=some (.candidate (pth t.mask h m).j i (pth t.mask h (m+1)))/\∀ m',n<=m'->m' < m->∀ i',t.slot (pth t.mask h m').j = .live i'->f i'≠h) \/
  (probe.go t f h fuel (pth t.mask h n)=some (.empty (pth t.mask h N).j none)/\∀ m',n<=m'->m' < N->∀ i',t.slot (pth t.mask h m').j = .live i'->f i'≠h)
 | _,_,0,_,_,h3=>absurd h3 (Nat.not_lt_zero _)
 | 0,n,fuel+1,h1,h2,h3=>by
  obtain rfl:n=N:=by omega
  refine .inr ⟨?_,fun m' a b=>by omega⟩
  unfold probe.go
  rw [fh a d,if_neg hN,gO]
 | r+1,n,fuel+1,h1,h2,h3=>by
  have hn:n < N:=by omega
  have hs:=fh a d (pth t.mask h n).j
  rw [if_pos (hl n hn)] at hs
  by_cases c:f (below t.place (pth t.mask h n).j)=h
  ·refine .inl ⟨n,_,Ad _,hn,hs,c,?_,fun m' a b=>by omega⟩
   unfold probe.go
   rw [hs]
   dsimp only
   rw [if_pos (by rw [c];exact beq_self_eq_true h),mS]
   rfl
  ·have e:probe.go t f h (fuel+1) (pth t.mask h n)=probe.go t f h fuel (pth t.mask h (n+1)):=by
    rw [probe.go,hs]
    dsimp only
    rw [if_neg (fun z=>c (by simpa using z)),mS]
    rfl
   rw [e]
   have lift:∀ M',(∀ m',n+1<=m'->m' < M'->∀ i',t.slot (pth t.mask h m').j = .live i'->f i'≠h)->∀ m',n<=m'->m' < M'->∀ i',t.slot (pth t.mask h m').j = .live i'->f i'≠h:=fun M' k m' p q i' z=>by
    by_cases x:m'=n
    ·subst x
     rw [hs] at z
     cases z
     exact c
    ·exact k m' (by omega) q i' z
   rcases mF (f:=f) a d hN hl r (n+1) fuel (by omega) (by omega) (by omega) with ⟨m,i,q1,q2,q3,q4,q5,q6⟩ | ⟨q1,q2⟩
   ·exact .inl ⟨m,i,by omega,q2,q3,q4,q5,lift m q6⟩
   ·exact .inr ⟨q1,lift N q2⟩
theorem cU {α : Type} {l:List α} {p:Nat} (hp:p<=l.length) (x : α) (i:Nat):(l.take p++x::l.drop p)[i]?=if i < p then l[i]? else if i=p then some x else l[i - 1]?:=by
 have hl:(l.take p).length=p:=by rw [zQ];omega
 by_cases c:i < p
 ·rw [if_pos c,zC (by omega),List.getElem?_take_of_lt c]
 ·rw [if_neg c,zB (by omega),hl]
  by_cases e:i=p
  ·rw [if_pos e,e,Nat.sub_self];rfl
  ·rw [if_neg e,show i - p=(i - p - 1)+1 by omega,List.getElem?_cons_succ,List.getElem?_drop]
   congr 1
   omega
theorem rj {t:SetTable} {hs:List Int} (I:tw t hs) {h:Int} {N:Nat} (hf:t.place.size+1<=t.mask) (hN:(pth t.mask h N).j∉t.place.toList) (hl:∀ m,m < N->(pth t.mask h m).j∈t.place.toList) :
  let q:=(t.put (pth t.mask h N).j)
  Msk q.1.mask/\q.1.mask=t.mask/\q.1.dummies=#[]/\Asc q.1.place.toList/\(∀ j∈q.1.place.toList,j<=q.1.mask)/\q.1.place.size=t.place.size+1/\q.2<=hs.length/\q.1.led=t.led/\q.1.moves=t.moves/\q.1.plain=t.plain/\q.1.finger=t.finger /\
   ∀ (i:Nat) (k:Int),(hs.take q.2++h::hs.drop q.2)[i]?=some k->∃ n,q.1.place[i]?=some (pth t.mask k n).j/\∀ m,m < n->(pth t.mask k m).j∈q.1.place.toList:=by
 intro q
 have hb:=(dM I.a (pth t.mask h N).j).1
 have hfr:xE t.place (pth t.mask h N).j:=fun z=>hN ((cX I.a).mpr z)
 have ep:q.1.place.toList=t.place.toList.take (below t.place (pth t.mask h N).j)++(pth t.mask h N).j::t.place.toList.drop (below t.place (pth t.mask h N).j):=cK _ _ _
 have eq2:q.2=below t.place (pth t.mask h N).j:=rfl
 have hn:=I.n
 have mem:∀ x,x∈t.place.toList->x∈q.1.place.toList:=fun x hx=>by
  rw [ep]
  rw [<- List.take_append_drop (below t.place (pth t.mask h N).j) t.place.toList] at hx
  rcases Aj hx with z | z
  ·exact List.mem_append_left _ z
  ·exact zF _ (zH _ z)
 refine ⟨I.m,rfl,?_,lJ I.a hfr,fun j hj=>?_,?_,by rw [eq2];omega,rfl,rfl,rfl,rfl,fun i k hk=>?_⟩
 ·show (if has t.dummies _=true then _ else t.dummies)=#[]
  rw [I.d,mE];rfl
 ·rw [ep] at hj
  rcases Aj hj with z | z
  ·exact I.le j (List.mem_of_mem_take z)
  ·rcases Ak z with rfl | z
   ·have:=kT t.mask h N
    show _<=t.mask
    omega
   ·exact I.le j (List.mem_of_mem_drop z)
 ·rw [<- Array.length_toList,ep,zJ,zP,zQ,List.length_drop,Array.length_toList]
  omega
 ·rw [eq2] at hk
  rw [cU (by omega)] at hk
  have hg:∀ i,q.1.place[i]?=(t.place.toList.take (below t.place (pth t.mask h N).j)++(pth t.mask h N).j::t.place.toList.drop (below t.place (pth t.mask h N).j))[i]?:=fun i=>by rw [<- Array.getElem?_toList,ep]
  rw [hg,cU (by rw [Array.length_toList];exact hb)]
  by_cases c1:i < below t.place (pth t.mask h N).j
  ·rw [if_pos c1] at hk ⊢
   obtain ⟨n,h1,h2⟩:=I.p i k hk
   exact ⟨n,by rw [Array.getElem?_toList];exact h1,fun m hm=>mem _ (h2 m hm)⟩
  ·rw [if_neg c1] at hk ⊢
   by_cases c2:i=below t.place (pth t.mask h N).j
   ·rw [if_pos c2] at hk ⊢
    cases hk
    exact ⟨N,rfl,fun m hm=>mem _ (hl m hm)⟩
   ·rw [if_neg c2] at hk ⊢
    obtain ⟨n,h1,h2⟩:=I.p (i - 1) k hk
    exact ⟨n,by rw [Array.getElem?_toList];exact h1,fun m hm=>mem _ (h2 m hm)⟩
structure OwI (M:Nat) (hs:List Int) (ow:Array (Option Nat)) (k:Nat):Prop where
 n:ow.size=M+1
 lt:∀ (j i:Nat),ow[j]?=some (some i)->i < k
 un:∀ (j j' i:Nat),ow[j]?=some (some i)->ow[j']?=some (some i)->j=j'
 p:∀ (i:Nat) (h:Int),i < k->hs[i]?=some h->∃ n,ow[(pth M h n).j]?=some (some i)/\∀ m,m < n->∃ i',ow[(pth M h m).j]?=some (some i')
theorem d9 {α β : Type} {f : α->β}:∀ {l:List α},(∀ a,a∈l->∀ b,b∈l->f a=f b->a=b)->l.Nodup->(l.map f).Nodup
 | [],_,_=>List.nodup_nil
 | x::l,h,n=>by
  have n:=List.nodup_cons.mp n
  rw [List.map_cons,List.nodup_cons]
  refine ⟨fun z=>?_,d9 (fun a ha b hb=>h a (zH _ ha) b (zH _ hb)) n.2⟩
  obtain ⟨y,hy,e⟩:=Al z
  have:=h y (zH _ hy) x zK e
  exact n.1 (this▸hy)
theorem jN {α β : Type} {f : α->β}:∀ {l:List α},(l.map f).Nodup->l.Nodup
 | [],_=>List.nodup_nil
 | x::l,n=>by
  rw [List.map_cons,List.nodup_cons] at n
  exact List.nodup_cons.mpr ⟨fun z=>n.1 (List.mem_map_of_mem z),jN n.2⟩
theorem lB {M:Nat} {hs:List Int} {ow:Array (Option Nat)} {k:Nat} (I:OwI M hs ow k) (hk:k<=M):∃ j,j<=M/\ow[j]?=some none:=by
 let l:=(List.range (M+1)).filter fun j=>(ow.getD j none).isSome
 have lnd:l.Nodup:=List.nodup_range.filter _
 have hl:l.length<=M:=by
  have h1:(l.map fun j=>(ow.getD j none).getD 0).Nodup:=by
   refine d9 ?_ lnd
   intro a ha b hb e
   have ha:=List.mem_filter.mp ha
   have hb:=List.mem_filter.mp hb
   have ga:∃ i,ow[a]?=some (some i):=by
    have z:=ha.2
    rw [Array.getD_eq_getD_getElem?] at z
    cases q:ow[a]? with
    | none=>rw [q] at z;cases z
    | some o=>cases o with
     | none=>rw [q] at z;cases z
     | some i=>exact ⟨i,rfl⟩
   have gb:∃ i,ow[b]?=some (some i):=by
    have z:=hb.2
    rw [Array.getD_eq_getD_getElem?] at z
    cases q:ow[b]? with
    | none=>rw [q] at z;cases z
    | some o=>cases o with
     | none=>rw [q] at z;cases z
     | some i=>exact ⟨i,rfl⟩
   obtain ⟨i,hi⟩:=ga
   obtain ⟨i',hi'⟩:=gb
   simp only [Array.getD_eq_getD_getElem?,hi,hi',Option.getD_some] at e
   subst e
   exact I.un a b i hi hi'
  have h2:∀ x∈(l.map fun j=>(ow.getD j none).getD 0),x∈List.range k:=fun x hx=>by
   obtain ⟨j,hj,rfl⟩:=Al hx
   have hj:=List.mem_filter.mp hj
   have z:=hj.2
   rw [Array.getD_eq_getD_getElem?] at z ⊢
   cases q:ow[j]? with
   | none=>rw [q] at z;cases z
   | some o=>cases o with
    | none=>rw [q] at z;cases z
    | some i=>exact List.mem_range.mpr (I.lt j i q)
  have:=h1.length_le_of_subset h2
  rw [zS,List.length_range] at this
  omega
 obtain ⟨j,h1,h2⟩:=j3 lnd hl
 refine ⟨j,h1,?_⟩
 have hj:j < ow.size:=by rw [I.n];omega
 cases q:ow[j]? with
 | none=>rw [Array.getElem?_eq_getElem hj] at q;cases q
 | some o=>cases o with
  | none=>rfl
  | some i=>exact absurd (List.mem_filter.mpr ⟨List.mem_range.mpr (by omega),by rw [Array.getD_eq_getD_getElem?,q];rfl⟩) h2
theorem vA {M:Nat} (hM:Msk M) (h:Int) {j:Nat} (hj:j<=M):∃ k,k < 14+M/\(lpI M h k).1=j:=by
 obtain ⟨k,k1,k2⟩:=mD hM (qa M h 13) (show j < M+1 by omega)
 exact ⟨13+k,by omega,by rw [uS];exact k2⟩
theorem ie {M:Nat} {h:Int} {ow:Array (Option Nat)} (hn:ow.size=M+1) {kk:Nat} (hk:ow[(lpI M h kk).1]?=some none):∀ (fuel k s:Nat),k<=kk->kk - k < fuel->pth M h s=⟨(lpI M h k).1,runEnd M (lpI M h k).1 - (lpI M h k).1,(lpI M h k).1,(lpI M h k).2,none⟩->(∀ m,m < s->∃ i,ow[(pth M h m).j]?=some (some i)) ->
  ∃ N,layClean.free M ow fuel (lpI M h k).1 (lpI M h k).2=some (pth M h N).j/\ow[(pth M h N).j]?=some none/\∀ m,m < N->∃ i,ow[(pth M h m).j]?=some (some i)
 | 0,_,_,_,h2,_,_=>absurd h2 (Nat.not_lt_zero _)
 | fuel+1,k,s,h1,h2,hs,hp=>by
  have hlt:=qa M h k
  have hre:=iN (M:=M) (i:=(lpI M h k).1) (by omega)
  have hge:=kM M (lpI M h k).1
  have sf:=iM hs
  unfold layClean.free
  cases hf:(List.range (runEnd M (lpI M h k).1+1 - (lpI M h k).1)).find? fun k'=>(ow.getD ((lpI M h k).1+k') (some 0)).isNone with
  | some r=>
   obtain ⟨r1,r2,r3⟩:=List.find?_range_eq_some.mp hf
   have r2:=List.mem_range.mp r2
   have er:=sf r (by omega)
   refine ⟨s+r,by rw [er],?_,fun m hm=>?_⟩
   ·rw [er]
    rw [Array.getD_eq_getD_getElem?] at r1
    show ow[(lpI M h k).1+r]?=some none
    cases q:ow[(lpI M h k).1+r]? with
    | none=>rw [q] at r1;cases r1
    | some o=>cases o with
     | none=>rfl
     | some i=>rw [q] at r1;cases r1
   ·by_cases c:m < s
    ·exact hp m c
    ·obtain ⟨r',rfl⟩:∃ r',m=s+r':=⟨m - s,by omega⟩
     have z:=r3 r' (by omega)
     rw [sf r' (by omega)]
     show ∃ i,ow[(lpI M h k).1+r']?=some (some i)
     rw [Array.getD_eq_getD_getElem?] at z
     have hj:(lpI M h k).1+r' < ow.size:=by omega
     cases q:ow[(lpI M h k).1+r']? with
     | none=>rw [Array.getElem?_eq_getElem hj] at q;cases q
     | some o=>cases o with
      | none=>rw [q] at z;cases z
      | some i=>exact ⟨i,rfl⟩
  | none=>
   have hall:=List.find?_eq_none.mp hf
   have occ:∀ r,r<=runEnd M (lpI M h k).1 - (lpI M h k).1->∃ i,ow[(lpI M h k).1+r]?=some (some i):=fun r hr=>by
    have z:=hall r (List.mem_range.mpr (by omega))
    rw [Array.getD_eq_getD_getElem?] at z
    have hj:(lpI M h k).1+r < ow.size:=by omega
    cases q:ow[(lpI M h k).1+r]? with
    | none=>rw [Array.getElem?_eq_getElem hj] at q;cases q
    | some o=>cases o with
     | none=>rw [q] at z;simp at z
     | some i=>exact ⟨i,rfl⟩
   have hne:k≠kk:=fun e=>by
    subst e
    obtain ⟨i,hi⟩:=occ 0 (Ae _)
    rw [Nat.add_zero,hk] at hi
    cases hi
   have hs':pth M h (s+(runEnd M (lpI M h k).1 - (lpI M h k).1)+1)=⟨(lpI M h (k+1)).1,runEnd M (lpI M h (k+1)).1 - (lpI M h (k+1)).1,(lpI M h (k+1)).1,(lpI M h (k+1)).2,none⟩:=by
    show stp M (pth M h (s+_))=_
    rw [sf _ (Ad _)]
    unfold stp
    rw [if_neg (show ¬ (_ - _ > 0) by omega)]
    rfl
   refine ie hn hk fuel (k+1) _ (by omega) (by omega) hs' fun m hm=>?_
   by_cases c:m < s
   ·exact hp m c
   ·obtain ⟨r,rfl⟩:∃ r,m=s+r:=⟨m - s,by omega⟩
    rw [sf r (by omega)]
    exact occ r (by omega)
theorem rZ {M:Nat} (hM:Msk M) {hs:List Int} {ow:Array (Option Nat)} {k:Nat} {h:Int} (I:OwI M hs ow k) (hk:k<=M) (hh:hs[k]?=some h):∃ j,layClean.free M ow (turns M) (bits h % (M+1)) (bits h)=some j/\OwI M hs (ow.setIfInBounds j (some k)) (k+1):=by
 obtain ⟨j0,j1,j2⟩:=lB I hk
 obtain ⟨kk,k1,k2⟩:=vA hM h j1
 obtain ⟨N,n1,n2,n3⟩:=ie I.n (h:=h) (kk:=kk) (by rw [k2];exact j2) (turns M) 0 0 (Ae _) (by unfold turns;omega) rfl (fun m hm=>absurd hm (Nat.not_lt_zero _))
 refine ⟨_,n1,?_⟩
 have hj:(pth M h N).j < ow.size:=by
  have:=kT M h N
  rw [I.n];omega
 have gs:∀ x,(ow.setIfInBounds (pth M h N).j (some k))[x]?=if (pth M h N).j=x then some (some k) else ow[x]?:=fun x=>by
  rw [Array.getElem?_setIfInBounds]
  by_cases c:(pth M h N).j=x
  ·rw [if_pos c,if_pos c,if_pos hj]
  ·rw [if_neg c,if_neg c]
 have old:∀ x i,ow[x]?=some (some i)->(ow.setIfInBounds (pth M h N).j (some k))[x]?=some (some i):=fun x i hx=>by
  rw [gs,if_neg (fun e=>by rw [e,hx] at n2;cases n2)];exact hx
 refine ⟨by rw [Array.size_setIfInBounds];exact I.n,fun x i hx=>?_,fun x x' i hx hx'=>?_,fun i h' hi hh'=>?_⟩
 ·rw [gs] at hx
  by_cases c:(pth M h N).j=x
  ·rw [if_pos c] at hx;cases hx;omega
  ·rw [if_neg c] at hx
   have:=I.lt x i hx;omega
 ·rw [gs] at hx hx'
  by_cases c:(pth M h N).j=x
  ·rw [if_pos c] at hx
   cases hx
   by_cases c':(pth M h N).j=x'
   ·rw [<- c,<- c']
   ·rw [if_neg c'] at hx'
    have:=I.lt x' k hx';omega
  ·rw [if_neg c] at hx
   by_cases c':(pth M h N).j=x'
   ·rw [if_pos c'] at hx'
    cases hx'
    have:=I.lt x k hx;omega
   ·rw [if_neg c'] at hx'
    exact I.un x x' i hx hx'
 ·by_cases c:i=k
  ·subst c
   rw [hh] at hh'
   cases hh'
   refine ⟨N,by rw [gs,if_pos rfl],fun m hm=>?_⟩
   obtain ⟨i',q⟩:=n3 m hm
   exact ⟨i',old _ _ q⟩
  ·obtain ⟨n,q1,q2⟩:=I.p i h' (by omega) hh'
   refine ⟨n,old _ _ q1,fun m hm=>?_⟩
   obtain ⟨i',q⟩:=q2 m hm
   exact ⟨i',old _ _ q⟩
def uU (M:Nat):Option (Array (Option Nat)×Nat)->Int->Option (Array (Option Nat)×Nat):=fun acc h=>do
 let (owner,k) <- acc
 let j <- layClean.free M owner (turns M) (bits h % (M+1)) (bits h)
 pure (owner.setIfInBounds j (some k),k+1)
theorem jU {M:Nat} (hM:Msk M):∀ (l pre:List Int) (ow:Array (Option Nat)),OwI M (pre++l) ow pre.length->(pre++l).length<=M->∃ ow',l.foldl (uU M) (some (ow,pre.length))=some (ow',(pre++l).length)/\OwI M (pre++l) ow' (pre++l).length
 | [],pre,ow,I,_=>⟨ow,by rw [zV];rfl,by rw [zV] at I ⊢;exact I⟩
 | h::l,pre,ow,I,hl=>by
  obtain ⟨j,h1,h2⟩:=rZ hM (k:=pre.length) (h:=h) I (by rw [zJ] at hl;omega) (by rw [zB (Ad _),Nat.sub_self];rfl)
  have e:pre++h::l=(pre++[h])++l:=by rw [List.append_assoc];rfl
  rw [e] at h2 hl ⊢
  have e2:(pre++[h]).length=pre.length+1:=by rw [zJ];rfl
  rw [<- e2] at h2
  obtain ⟨ow',g1,g2⟩:=jU hM l (pre++[h]) _ h2 hl
  refine ⟨ow',?_,g2⟩
  rw [List.foldl_cons,show uU M (some (ow,pre.length)) h=some (ow.setIfInBounds j (some pre.length),pre.length+1) from by
   show (do let j <- layClean.free M ow (turns M) (bits h % (M+1)) (bits h);pure (ow.setIfInBounds j (some pre.length),pre.length+1))=_
   rw [h1];rfl,<- e2]
  exact g1
theorem nH {M:Nat} (hM:Msk M) (hs:Array Int) (hl:hs.size<=M):∃ ow,layClean M hs=some ow/\OwI M hs.toList ow hs.size:=by
 have I0:OwI M ([]++hs.toList) (Array.replicate (M+1) none) ([]:List Int).length:=by
  have hg:∀ x i,(Array.replicate (M+1) (none:Option Nat))[x]?≠some (some i):=fun x i=>by
   rw [Array.getElem?_replicate]
   split <;> simp
  exact ⟨by simp,fun j i h=>absurd h (hg j i),fun j j' i h=>absurd h (hg j i),fun i h z=>by simp at z⟩
 obtain ⟨ow,h1,h2⟩:=jU hM hs.toList [] _ I0 (by simpa using hl)
 refine ⟨ow,?_,by simpa using h2⟩
 unfold layClean
 rw [<- Array.foldl_toList]
 show (hs.toList.foldl (uU M) (some (Array.replicate (M+1) none,0))).map (·.1)=some ow
 rw [show (0:Nat)=([]:List Int).length from rfl,h1]
 rfl
def bG (M:Nat) (ow:Array (Option Nat)):List (Nat×Nat):=(List.range (M+1)).filterMap fun j=>(ow.getD j none).map (j,·)
theorem bP {M:Nat} {ow:Array (Option Nat)} (hn:ow.size=M+1) {x:Nat×Nat}:x∈bG M ow↔ow[x.1]?=some (some x.2):=by
 unfold bG
 rw [List.mem_filterMap]
 constructor
 ·rintro ⟨j,hj,e⟩
  obtain ⟨i,e1,rfl⟩:=Option.map_eq_some_iff.mp e
  rw [Array.getD_eq_getD_getElem?] at e1
  cases q:ow[j]? with
  | none=>rw [q] at e1;cases e1
  | some o=>
   rw [q] at e1
   have e1:o=some i:=e1
   rw [<- e1]
 ·intro h
  have hj:x.1 < ow.size:=(Array.getElem?_eq_some_iff.mp h).1
  exact ⟨x.1,List.mem_range.mpr (by omega),by rw [Array.getD_eq_getD_getElem?,h];rfl⟩
theorem jR (M:Nat) (ow:Array (Option Nat)):Asc ((bG M ow).map (·.1)):=by
 unfold Asc bG
 rw [List.pairwise_map]
 refine List.Pairwise.filterMap _ (R:=(· < ·)) (fun a b hab x hx y hy=>?_) List.pairwise_lt_range
 simp only [Option.mem_def,Option.map_eq_some_iff] at hx hy
 obtain ⟨_,_,rfl⟩:=hx
 obtain ⟨_,_,rfl⟩:=hy
 exact hab
theorem nF {M:Nat} {hs:List Int} {ow:Array (Option Nat)} (I:OwI M hs ow hs.length):List.Perm ((bG M ow).map (·.2)) (List.range hs.length):=by
 have nd:((bG M ow).map (·.2)).Nodup:=by
  have n1:((bG M ow).map (·.1)).Nodup:=(jR M ow).nodup
  refine d9 ?_ ?_
  ·intro a ha b hb e
   have ha:=(bP I.n).mp ha
   have hb:=(bP I.n).mp hb
   rw [<- e] at hb
   exact Prod.ext (I.un _ _ _ ha hb) e
  ·exact jN n1
 refine (List.perm_ext_iff_of_nodup nd List.nodup_range).mpr fun i=>?_
 rw [List.mem_map,List.mem_range]
 constructor
 ·rintro ⟨x,hx,rfl⟩
  exact I.lt _ _ ((bP I.n).mp hx)
 ·intro hi
  obtain ⟨n,h1,_⟩:=I.p i hs[i] hi (zD hi)
  exact ⟨((pth M hs[i] n).j,i),(bP I.n).mpr h1,rfl⟩
end L4
namespace L4
open PySem PySem.Spec PyProof.Rows L2 L3
section
variable {P:Program} {w:World} {A:Around} {E:Value->Shared->Prop} {s:Shared}
mutual
theorem kC:∀ (n:Nat) (d:Dt) {x:Value} {s:Shared} {A:Around} {E:Value->Shared->Prop} {Q:Bool->Shared->Prop},ay s.heap d x->dep d<=n->Q false s->wpAny (model P w) A (ofAClassStatement n x) Q E s
 | n,.non,x,s,A,E,Q,h,hd,q=>by
  rw [ay] at h;subst h
  cases n <;> exact wpAny_pure q
 | n,.int i,x,s,A,E,Q,h,hd,q=>by
  rw [ay] at h;obtain ⟨t,rfl⟩:=h
  cases n <;> exact wpAny_pure q
 | 0,.tup ds,x,s,A,E,Q,h,hd,q=>by simp [dep] at hd
 | n+1,.tup ds,x,s,A,E,Q,h,hd,q=>by
  rw [ay] at h;obtain ⟨a,its,rfl,p,r⟩:=h
  rw [dep] at hd
  obtain ⟨o,ho,hc,m,hdt⟩:=id p
  rw [ofAClassStatement]
  refine wpAny_bind (wpAny_typeOf ⟨o,ho,hc⟩ ?_)
  refine wpAny_ite_true (by decide) ?_
  refine wpAny_bind (wpAny_pure ?_)
  simp only [Bool.not_true,Bool.false_eq_true,if_false]
  refine wpAny_bind (wpAny_seqItems ho hdt (wpAny_bind ?_))
  show wpAny _ _ (forIn its _ _) _ _ s
  rw [<- Array.forIn_toList]
  refine lP n ds r (by omega) ?_
  exact wpAny_pure q
 | _,.bl _,_,_,_,_,_,h,_,_ | _,.str _,_,_,_,_,_,h,_,_ | _,.lst _,_,_,_,_,_,h,_,_=>by simp [ay] at h
theorem lP:∀ (n:Nat) (ds:List Dt) {vs:List Value} {s:Shared} {A:Around} {E:Value->Shared->Prop} {Q:(Option Bool×Unit)->Shared->Prop},aL s.heap ds vs->deps ds<=n->Q (none,()) s ->
  wpAny (model P w) A (forIn vs ((none,()):Option Bool×Unit) fun (y:Value) (_:Option Bool×Unit)=>(do
   let z <- ofAClassStatement n y
   if z=true then pure (ForInStep.done (some true,())) else pure (ForInStep.yield (none,())):Sem (ForInStep (Option Bool×Unit)))) Q E s
 | n,[],vs,s,A,E,Q,h,hd,q=>by
  rw [aL] at h;subst h
  rw [List.forIn_nil]
  exact wpAny_pure q
 | n,d::ds,vs,s,A,E,Q,h,hd,q=>by
  rw [aL] at h;obtain ⟨v,r,rfl,k1,k2⟩:=h
  rw [deps] at hd
  rw [List.forIn_cons]
  refine wpAny_bind (wpAny_bind (kC n d k1 (by have:=Nat.le_max_left (dep d) (deps ds);omega) ?_))
  simp only [Bool.false_eq_true,if_false]
  exact wpAny_pure (lP n ds k2 (by have:=Nat.le_max_right (dep d) (deps ds);omega) q)
end
mutual
theorem tL:∀ (n:Nat) (d:Dt) {x:Value} {s:Shared} {A:Around} {E:Value->Shared->Prop} {Q:Bool->Shared->Prop},ay s.heap d x->dep d<=n->Q true s->wpAny (model P w) A (hashByValue n x) Q E s
 | n,.non,x,s,A,E,Q,h,hd,q=>by
  rw [ay] at h;subst h
  cases n <;> exact wpAny_pure q
 | n,.int i,x,s,A,E,Q,h,hd,q=>by
  rw [ay] at h;obtain ⟨t,rfl⟩:=h
  cases n <;> exact wpAny_pure q
 | 0,.tup ds,x,s,A,E,Q,h,hd,q=>by simp [dep] at hd
 | n+1,.tup ds,x,s,A,E,Q,h,hd,q=>by
  rw [ay] at h;obtain ⟨a,its,rfl,p,r⟩:=h
  rw [dep] at hd
  obtain ⟨o,ho,hc,m,hdt⟩:=id p
  rw [hashByValue]
  refine wpAny_bind (wpAny_specialOf (T:="tuple") ⟨o,ho,hc⟩ F.slot_tuple_hash.lookup ?_)
  show wpAny _ _ (seqItems? (.ref a) >>= _) _ _ s
  refine wpAny_bind (wpAny_seqItems ho hdt (wpAny_bind ?_))
  show wpAny _ _ (forIn its _ _) _ _ s
  rw [<- Array.forIn_toList]
  refine ou n ds r (by omega) ?_
  exact wpAny_pure q
 | _,.bl _,_,_,_,_,_,h,_,_ | _,.str _,_,_,_,_,_,h,_,_ | _,.lst _,_,_,_,_,_,h,_,_=>by simp [ay] at h
theorem ou:∀ (n:Nat) (ds:List Dt) {vs:List Value} {s:Shared} {A:Around} {E:Value->Shared->Prop} {Q:(Option Bool×Unit)->Shared->Prop},aL s.heap ds vs->deps ds<=n->Q (none,()) s ->
  wpAny (model P w) A (forIn vs ((none,()):Option Bool×Unit) fun (y:Value) (_:Option Bool×Unit)=>(do
   let z <- hashByValue n y
   if (!z)=true then pure (ForInStep.done (some false,())) else pure (ForInStep.yield (none,())):Sem (ForInStep (Option Bool×Unit)))) Q E s
 | n,[],vs,s,A,E,Q,h,hd,q=>by
  rw [aL] at h;subst h
  rw [List.forIn_nil]
  exact wpAny_pure q
 | n,d::ds,vs,s,A,E,Q,h,hd,q=>by
  rw [aL] at h;obtain ⟨v,r,rfl,k1,k2⟩:=h
  rw [deps] at hd
  rw [List.forIn_cons]
  refine wpAny_bind (wpAny_bind (tL n d k1 (by have:=Nat.le_max_left (dep d) (deps ds);omega) ?_))
  simp only [Bool.not_true,Bool.false_eq_true,if_false]
  exact wpAny_pure (ou n ds k2 (by have:=Nat.le_max_right (dep d) (deps ds);omega) q)
end
theorem qL {x:Value}:∀ {l:List Value} {Q:Bool->Shared->Prop},(∃ d,ay s.heap d x/\dep d<=7)->(∀ y∈l,∃ d,ay s.heap d y/\dep d<=7)->Q false s->wpAny (model P w) A (searchCouldBeSeen x l) Q E s:=by
 intro l Q hx hl q
 unfold searchCouldBeSeen
 refine wpAny_bind ?_
 obtain ⟨d,h1,h2⟩:=hx
 induction l with
 | nil=>
  rw [List.forIn_nil]
  exact wpAny_pure (wpAny_pure q)
 | cons y l ih=>
  obtain ⟨e,g1,g2⟩:=hl y zK
  have ih:=ih fun z hz=>hl z (zH _ hz)
  rw [List.forIn_cons]
  refine wpAny_bind ?_
  dsimp only
  refine wpAny_ite_split (fun _=>wpAny_pure ih) fun _=>?_
  refine wpAny_bind (dz 8 d (by omega) h1 ?_)
  simp only [Bool.not_true,Bool.false_eq_true,if_false]
  refine wpAny_bind (dz 8 e (by omega) g1 ?_)
  simp only [Bool.not_true,Bool.false_eq_true,if_false]
  refine wpAny_bind (kC 8 d h1 (by omega) ?_)
  simp only [Bool.false_eq_true,if_false]
  refine wpAny_bind (kC 8 e g1 (by omega) ?_)
  simp only [Bool.false_eq_true,if_false]
  exact wpAny_pure ih
structure SeH (h:Heap) (es:Array (Int×Value)) (t:SetTable):Prop where
 tab:tw t (es.toList.map (·.1))
 el:∀ e∈es.toList,∃ d a,e.2 = .ref a/\ay h d e.2/\e.1=hsD d/\dep d<=7
theorem SeH.size {h:Heap} {es:Array (Int×Value)} {t:SetTable} (I:SeH h es t):t.place.size=es.size:=by rw [I.tab.n,zS,Array.length_toList]
theorem SeH.fits {h:Heap} {es:Array (Int×Value)} {t:SetTable} (I:SeH h es t):t.fits es.size=true:=by
 have f:=I.tab.f
 have d:=I.tab.d
 unfold SetTable.fits SetTable.fill
 rw [I.size,d,Bool.and_eq_true,beq_iff_eq,decide_eq_true_eq]
 refine ⟨rfl,?_⟩
 rw [I.size] at f
 show es.size+0<=t.mask
 omega
theorem jL {t:SetTable} (a:Asc t.place.toList) {i j:Nat} (h:t.place[i]?=some j):SetTable.below t.place j=i:=by
 have hi:=(Array.getElem?_eq_some_iff.mp h).1
 have e:=(Array.getElem?_eq_some_iff.mp h).2
 obtain ⟨h0,h1,h2⟩:=dM a j
 rcases Nat.lt_trichotomy i (SetTable.below t.place j) with c | c | c
 ·have:=h1 i hi c;omega
 ·exact c.symm
 ·have:=h2 (SetTable.below t.place j) (by omega) (Ad _)
  have:=a.lt c hi
  omega
theorem rY {α : Type} {c:Bool} {sc:Sem Bool} {B X:Sem α} {Q : α->Shared->Prop} (hs:∀ Q':Bool->Shared->Prop,Q' false s->wpAny (model P w) A sc Q' E s) (hX:wpAny (model P w) A X Q E s):wpAny (model P w) A (if (!c)=true then (sc >>= fun z=>if z=true then B else X) else X) Q E s:=by
 refine wpAny_ite_split (fun _=>wpAny_bind (hs _ ?_)) fun _=>hX
 rw [if_neg zL]
 exact hX
theorem o7 (t:SetTable):t.sameMemory t.moves t.mask=some true:=by unfold SetTable.sameMemory;rw [if_pos (beq_self_eq_true _)]
theorem gD {S b:Addr} {o:Obj} {es:Array (Int×Value)} {ep:Nat} {t:SetTable} {k:Dt} {N:Nat} {Q:SetFound->Shared->Prop} (ho:s.heap.get? S=some o) (hd:o.data = .set es ep t) (I:SeH s.heap es t) (hk:ay s.heap k (.ref b)) (dk:dep k<=7) (hA:A.units+7 < cLine)
  (hN:(pth t.mask (hsD k) N).j∉t.place.toList) (hl:∀ m,m < N->(pth t.mask (hsD k) m).j∈t.place.toList) (hN2:N < 10 * SetTable.turns t.mask)
  (q1:(∃ e∈es.toList,ay s.heap k e.2)->Q (.there none) s) (q2:(¬ ∃ e∈es.toList,ay s.heap k e.2)->Q (.free (pth t.mask (hsD k) N).j false) s) :
  ∀ (fuel n:Nat) (oR:Option SetTable.Probe),oR.getD (t.probeStart (hsD k))=pth t.mask (hsD k) n->n<=N->N - n < fuel->(∀ m,m < n->∀ i e,t.slot (pth t.mask (hsD k) m).j = .live i->es[i]?=some e->¬ ay s.heap k e.2)->wpAny (model P w) A (setSearchFrom S (.ref b) (hsD k) true fuel oR) Q E s
 | 0,_,_,_,_,h,_=>absurd h (Nat.not_lt_zero _)
 | fuel+1,n,oR,h1,h2,h3,h4=>by
  rw [setSearchFrom]
  refine wpAny_bind (wpAny_setState_of ho hd I.fits ?_)
  have hg:t.gaveWay=false:=by
   unfold SetTable.gaveWay
   rcases I.tab.m with e | e | e <;> rw [e] <;> rfl
  dsimp only
  rw [hg]
  simp only [Bool.false_eq_true,if_false]
  rw [h1]
  generalize hq:t.probe _ _ _=r
  rcases mF (f:=fun i=>(es[i]?.map (·.1)).getD 0) I.tab.a I.tab.d hN hl (N - n) n (10 * SetTable.turns t.mask) rfl h2 (by omega) with ⟨m,i,m1,m2,m3,m4,m5,m6⟩ | ⟨m5,m6⟩
  ·have e:r=_:=hq.symm.trans m5
   subst e
   dsimp only
   have hpl:t.place[i]?=some (pth t.mask (hsD k) m).j:=by
    have z:=fh I.tab.a I.tab.d (pth t.mask (hsD k) m).j
    rw [if_pos (hl m m2),m3] at z
    cases z
    exact (cX I.tab.a).mp (hl m m2)
   have hi:i < es.size:=by rw [<- I.size];exact (Array.getElem?_eq_some_iff.mp hpl).1
   have hei:es[i]?=some es[i]:=Array.getElem?_eq_getElem hi
   obtain ⟨d,a,ea,kd,hh,dd⟩:=I.el es[i] (by rw [<- Array.getElem_toList];exact List.getElem_mem _)
   have rest:(ay s.heap k es[i].2->False)->wpAny (model P w) A (setSearchFrom S (.ref b) (hsD k) true fuel (some (pth t.mask (hsD k) (m+1)))) Q E s:=fun ne=>by
    refine gD ho hd I hk dk hA hN hl hN2 q1 q2 fuel (m+1) _ rfl (by omega) (by omega) fun m' hm' i' e' hs' he'=>?_
    by_cases c1:m' < n
    ·exact h4 m' c1 i' e' hs' he'
    by_cases c2:m'=m
    ·subst c2
     rw [m3] at hs'
     cases hs'
     rw [hei] at he'
     cases he'
     exact ne
    ·intro ke'
     have q:=m6 m' (by omega) (by omega) i' hs'
     obtain ⟨d',a',ea',kd',hh',dd'⟩:=I.el e' (by rw [<- Array.getElem?_toList] at he';exact zG he')
     obtain rfl:=c7 kd' ke'
     refine q ?_
     show (es[i']?.map (·.1)).getD 0=_
     rw [he',Option.map_some,Option.getD_some,hh']
   have yC:∀ y∈(List.map (fun x=>x.snd) (Array.filter (fun x=>x.fst == hsD k) es).toList),∃ d,ay s.heap d y/\dep d<=7:=fun y hy=>by
    obtain ⟨e,he,rfl⟩:=Al hy
    have he:e∈es.toList:=by
     rw [Array.toList_filter] at he
     exact (List.mem_filter.mp he).1
    obtain ⟨d,_,_,h,_,h'⟩:=I.el e he
    exact ⟨d,h,h'⟩
   refine rY (fun Q' q'=>qL ⟨k,hk,dk⟩ yC q') ?_
   have hin:es[i]∈es.toList:=by rw [<- Array.getElem_toList];exact List.getElem_mem _
   rw [hei]
   dsimp only
   generalize es[i]=e0 at *
   obtain ⟨h',y⟩:=e0
   dsimp only at ea hh
   subst ea
   refine wpAny_bind (wpAny_holding ((lD P w).eqBool (x:=d) (y:=k) hA ⟨kd,dd⟩ ⟨hk,dk⟩ ?_))
   refine wpAny_bind (wpAny_setState_of ho hd I.fits ?_)
   dsimp only
   by_cases ce:d=k
   ·subst ce
    rw [zY rfl]
    exact wpAny_pure (q1 ⟨_,hin,kd⟩)
   ·rw [zX ce,o7]
    simp only [Bool.and_false,Bool.false_eq_true,if_false,if_true]
    rw [m3]
    try dsimp only
    rw [hei]
    try dsimp only
    refine wpAny_bind (wpAny_isSame_ref_self ?_)
    refine wpAny_bind (wpAny_pure ?_)
    try dsimp only
    exact rest fun z=>ce (c7 kd z)
  ·have e:r=_:=hq.symm.trans m5
   subst e
   dsimp only
   refine wpAny_pure (q2 ?_)
   rintro ⟨e,he,ke⟩
   obtain ⟨i,hi,rfl⟩:=zI he
   obtain ⟨d,a,ea,kd,hh,dd⟩:=I.el _ he
   obtain rfl:=c7 kd ke
   obtain ⟨n',p1,p2⟩:=I.tab.p i (hsD d) (by rw [zO,zD hi,Option.map_some,hh])
   have pm:(pth t.mask (hsD d) n').j∈t.place.toList:=by rw [<- Array.getElem?_toList] at p1;exact zG p1
   have hn':n' < N:=by
    rcases Nat.lt_trichotomy n' N with c | c | c
    ·exact c
    ·rw [c] at pm;exact absurd pm hN
    ·exact absurd (p2 N c) hN
   have hsl:t.slot (pth t.mask (hsD d) n').j = .live i:=by rw [fh I.tab.a I.tab.d,if_pos pm,jL I.tab.a p1]
   have hei:es[i]?=some es.toList[i]:=by rw [<- Array.getElem?_toList,zD hi]
   by_cases c:n' < n
   ·exact h4 n' c i _ hsl hei ke
   ·refine m6 n' (by omega) hn' i hsl ?_
    show (es[i]?.map (·.1)).getD 0=_
    rw [hei,Option.map_some,Option.getD_some,hh]
end
section
variable {P:Program} {w:World} {A:Around} {E:Value->Shared->Prop} {s:Shared}
theorem fY {h h':Heap} (k:∀ b o,h.get? b=some o->h'.get? b=some o) {d:Dt} {v:Value} (q:ay h d v):ay h' d v:=
 i8 (fun a its p=>by
  obtain ⟨o,e,c,n,z⟩:=p
  exact ⟨o,k _ _ e,c,n,z⟩) q
def eY (h0 h:Heap) (S:Addr) (f:Dt->Bool) (n:Nat):Prop:=∃ o es ep t,h.get? S=some o/\o.ExactSet/\o.data = .set es ep t/\SeH h0 es t/\(∀ d,f d=true↔∃ e∈es.toList,ay h0 d e.2)/\es.size=n
theorem se {l:List (Int×Value)} {p:Nat} {x e:Int×Value}:e∈l.take p++x::l.drop p↔e=x\/e∈l:=by
 rw [List.mem_append,List.mem_cons]
 constructor
 ·rintro (h | h | h)
  ·exact .inr (List.mem_of_mem_take h)
  ·exact .inl h
  ·exact .inr (List.mem_of_mem_drop h)
 ·rintro (h | h)
  ·exact .inr (.inl h)
  ·rw [<- List.take_append_drop p l] at h
   rcases Aj h with h | h
   ·exact .inl h
   ·exact .inr (.inr h)
theorem tu:SetTable.sizeAbove 20=32:=by decide +kernel
theorem sZ:SetTable.sizeAbove 76=128:=by decide +kernel
theorem kO {t:SetTable} {es:Array (Int×Value)} {M wn:Nat} (hM:Msk M) (hw:SetTable.sizeAbove wn=M+1) (hn:es.size<=M) (hf:es.size * 5 < M * 3) :
  ∃ t' order,t.relaid (es.map (·.1)) wn=some (t',order)/\(order.filterMap (es[·]?)).size=es.size/\List.Perm (order.filterMap (es[·]?)).toList es.toList/\tw t' ((order.filterMap (es[·]?)).toList.map (·.1)):=by
 obtain ⟨ow,h1,h2⟩:=nH hM (es.map (·.1)) (by rw [Array.size_map];exact hn)
 have hl:(es.map (·.1)).toList=es.toList.map (·.1):=Array.toList_map ..
 rw [hl,Array.size_map] at h2
 have hlen:(es.toList.map (·.1)).length=es.size:=by rw [zS,Array.length_toList]
 rw [<- hlen] at h2
 have hp:=nF h2
 rw [hlen] at hp
 refine ⟨⟨M,((bG M ow).map (·.1)).toArray,#[],t.finger,t.led,t.movedTo M,t.plain⟩,((bG M ow).map (·.2)).toArray,?_,?_,?_,?_⟩
 ·unfold SetTable.relaid SetTable.laid
  rw [hw,Nat.add_sub_cancel,h1]
  rfl
 all_goals
  have el:(((bG M ow).map (·.2)).toArray.filterMap (es[·]?)).toList=((bG M ow).map (·.2)).filterMap (es[·]?):=by rw [Array.toList_filterMap]
  have pm:List.Perm (((bG M ow).map (·.2)).filterMap (es[·]?)) es.toList:=(hp.filterMap _).trans (by rw [filterMap_getElem?_range])
 ·rw [<- Array.length_toList,el,pm.length_eq,Array.length_toList]
 ·rw [el];exact pm
 ·rw [el]
  have lv:((bG M ow)).length=es.size:=by
   have:=hp.length_eq
   rw [zS,List.length_range] at this
   exact this
  have get:∀ (l:List (Nat×Nat)),(∀ x∈l,x.2 < es.size)->∀ r:Nat,((l.map (·.2)).filterMap (es[·]?))[r]?=(l[r]?).bind fun (x:Nat×Nat)=>es[x.2]?:=by
   intro l
   induction l with
   | nil=>intro _ r;rfl
   | cons x l ih=>
    intro hx r
    have h:=hx x zK
    rw [List.map_cons,List.filterMap_cons,Array.getElem?_eq_getElem h]
    dsimp only
    cases r with
    | zero=>rw [List.getElem?_cons_zero,List.getElem?_cons_zero,Option.bind_some,Array.getElem?_eq_getElem h]
    | succ r=>rw [List.getElem?_cons_succ,List.getElem?_cons_succ,ih (fun y hy=>hx y (zH _ hy))]
  have hlt:∀ x∈bG M ow,x.2 < es.size:=fun x hx=>by
   have:=h2.lt _ _ ((bP h2.n).mp hx)
   omega
  refine ⟨hM,rfl,jR M ow,fun j hj=>?_,?_,?_,fun i k hk=>?_⟩
  ·obtain ⟨x,hx,rfl⟩:=Al hj
   have:=(Array.getElem?_eq_some_iff.mp ((bP h2.n).mp hx)).1
   show x.1<=M
   have:=h2.n
   omega
  ·rw [zS,pm.length_eq,Array.length_toList]
   show ((bG M ow).map (·.1)).toArray.size=_
   rw [zN,zS,lv]
  ·show ((bG M ow).map (·.1)).toArray.size * 5 < M * 3
   rw [zN,zS,lv];exact hf
  ·rw [zO,get _ hlt] at hk
   obtain ⟨e,he,rfl⟩:=Option.map_eq_some_iff.mp hk
   obtain ⟨x,hx,he⟩:=Option.bind_eq_some_iff.mp he
   have hxm:=(bP h2.n).mp (zG hx)
   obtain ⟨n,p1,p2⟩:=h2.p x.2 e.1 (by rw [hlen];exact hlt x (zG hx)) (by rw [zO,Array.getElem?_toList,he];rfl)
   have ej:=h2.un _ _ _ p1 hxm
   refine ⟨n,?_,fun m hm=>?_⟩
   ·show ((bG M ow).map (·.1)).toArray[i]?=some (pth M e.1 n).j
    rw [List.getElem?_toArray,zO,hx,ej];rfl
   ·obtain ⟨i',q⟩:=p2 m hm
    show (pth M e.1 m).j∈((bG M ow).map (·.1)).toArray.toList
    exact List.mem_map.mpr ⟨((pth M e.1 m).j,i'),(bP h2.n).mpr q,rfl⟩
theorem qM {h0:Heap} {S b:Addr} {f:Dt->Bool} {n:Nat} {k:Dt} {Q:Bool->Shared->Prop} (ext:∀ b o,h0.get? b=some o->s.heap.get? b=some o) (hS:eY h0 s.heap S f n) (hk0:ay h0 k (.ref b)) (dk:dep k<=7) (hA:A.units+7 < cLine) (h76:n < 76)
  (q:∀ h',Heap.SameBut S s.heap h'->eY h0 h' S (fun d=>f d || decide (d=k)) (if f k=true then n else n+1)->Q (!f k) { s with heap:=h' }):wpAny (model P w) A (setAddHashed S (.ref b) (hsD k)) Q E s:=by
 obtain ⟨o,es,ep,t,ho,hex,hd,I0,hf,hn⟩:=hS
 have hk:=fY ext hk0
 have I:SeH s.heap es t:=⟨I0.tab,fun e he=>by
  obtain ⟨d,a,z1,z2,z3,z4⟩:=I0.el e he
  exact ⟨d,a,z1,fY ext z2,z3,z4⟩⟩
 have bk:∀ {d:Dt} {e:Int×Value},e∈es.toList->ay s.heap d e.2->ay h0 d e.2:=fun {d e} he z=>by
  obtain ⟨d',a,z1,z2,z3,z4⟩:=I0.el e he
  rw [c7 z (fY ext z2)];exact z2
 unfold setAddHashed setAddHashedIn
 refine wpAny_holding (wpAny_bind (wpAny_setState_of ho hd I.fits ?_))
 dsimp only
 have hb:byScan (.ref b) es=false:=rfl
 rw [hb]
 simp only [Bool.false_eq_true,if_false]
 have hf5:=I.tab.f
 have hsize:=I.size
 have hsz:t.place.toList.length<=t.mask:=by
  rw [Array.length_toList];omega
 obtain ⟨N,n1,n2,n3⟩:=lC I.tab.m I.tab.a.nodup hsz (hsD k)
 unfold setSearch
 have yK:N < 100000:=by
  have : 10 * SetTable.turns t.mask<=1420:=by unfold SetTable.turns;rcases I.tab.m with e | e | e <;> rw [e] <;> decide
  omega
 refine wpAny_bind (gD ho hd I hk dk hA n2 n3 n1 (fun h=>?_) (fun h=>?_) 100000 0 none rfl (Ae _) (by omega) (fun m hm=>absurd hm (Nat.not_lt_zero _)))
 ·dsimp only
  have hfk:=(hf k).mpr (by
   obtain ⟨e,he,z⟩:=h
   exact ⟨e,he,bk he z⟩)
  have:=q s.heap (Heap.SameBut.refl S s.heap) ⟨o,es,ep,t,ho,hex,hd,I0,fun d=>by
   rw [Bool.or_eq_true,decide_eq_true_eq,<- hf d]
   exact ⟨fun z=>z.elim id fun z=>z▸hfk,.inl⟩,by rw [if_pos hfk];exact hn⟩
  rw [hfk] at this
  exact wpAny_pure this
 ·dsimp only
  have hfk:f k=false:=by
   cases c:f k with
   | false=>rfl
   | true=>
    obtain ⟨e,he,z⟩:=(hf k).mp c
    exact absurd ⟨e,he,fY ext z⟩ h
  rw [hfk] at q
  refine wpAny_bind (wpAny_setState_of ho hd I.fits ?_)
  dsimp only
  have hmk:t.place.size+1<=t.mask:=by rcases I.tab.m with e | e | e <;> rw [e] at hf5 ⊢ <;> omega
  obtain ⟨g1,g2,g3,g4,g5,g6,g7,g8,g9,g10,g11,g12⟩:=rj I.tab hmk n2 n3
  have ens:(SetTable.insertAt es (t.put (pth t.mask (hsD k) N).j).2 (hsD k,Value.ref b)).toList=es.toList.take (t.put (pth t.mask (hsD k) N).j).2++(hsD k,Value.ref b)::es.toList.drop (t.put (pth t.mask (hsD k) N).j).2:=cK _ _ _
  rw [zS,Array.length_toList] at g7
  generalize hq:t.put (pth t.mask (hsD k) N).j=tp at *
  obtain ⟨t1,p⟩:=tp
  dsimp only at g1 g2 g3 g4 g5 g6 g7 g8 g9 g10 g11 g12 ens ⊢
  generalize hes1:SetTable.insertAt es p (hsD k,Value.ref b)=es1 at *
  have sz1:es1.size=es.size+1:=by
   rw [<- Array.length_toList,ens,zJ,zP,zQ,List.length_drop,Array.length_toList];omega
  have hs1:es1.toList.map (·.1)=(es.toList.map (·.1)).take p++hsD k::(es.toList.map (·.1)).drop p:=by rw [ens,zU,List.map_cons,List.map_take,List.map_drop]
  have rT:∀ e,e∈es1.toList↔e=(hsD k,Value.ref b)\/e∈es.toList:=fun e=>by rw [ens];exact se
  have el1:∀ e∈es1.toList,∃ d a,e.2 = .ref a/\ay h0 d e.2/\e.1=hsD d/\dep d<=7:=fun e he=>by
   rcases (rT e).mp he with rfl | he
   ·exact ⟨k,b,rfl,hk0,rfl,dk⟩
   ·exact I0.el e he
  have hf1:∀ d,(f d || decide (d=k))=true↔∃ e∈es1.toList,ay h0 d e.2:=fun d=>by
   rw [Bool.or_eq_true,decide_eq_true_eq,hf d]
   constructor
   ·rintro (⟨e,he,z⟩ | rfl)
    ·exact ⟨e,(rT e).mpr (.inr he),z⟩
    ·exact ⟨_,(rT _).mpr (.inl rfl),hk0⟩
   ·rintro ⟨e,he,z⟩
    rcases (rT e).mp he with rfl | he
    ·exact .inr (c7 z hk0)
    ·exact .inl ⟨e,he,z⟩
  have fin:∀ (h':Heap) (o':Obj) (es':Array (Int×Value)) (ep':Nat) (t':SetTable),h'.get? S=some o'->o'.ExactSet->o'.data = .set es' ep' t'->tw t' (es'.toList.map (·.1))->List.Perm es'.toList es1.toList->eY h0 h' S (fun d=>f d || decide (d=k)) (n+1):=fun h' o' es' ep' t' ho' hex' hd' tab' pm=>by
   refine ⟨o',es',ep',t',ho',hex',hd',⟨tab',fun e he=>el1 e (pm.mem_iff.mp he)⟩,fun d=>?_,?_⟩
   ·rw [hf1 d]
    exact ⟨fun ⟨e,he,z⟩=>⟨e,pm.mem_iff.mpr he,z⟩,fun ⟨e,he,z⟩=>⟨e,pm.mem_iff.mp he,z⟩⟩
   ·rw [<- Array.length_toList,pm.length_eq,Array.length_toList,sz1,hn]
  have hz1:es1.size<=sizeLine:=by rw [sizeLine_eq];omega
  have hg:(s.heap.update S (Obj.putSet es1 t1)).get? S=some { o with data:=.set es1 (ep+1) t1 }:=by
   have:=Heap.get?_update_self (Obj.putSet es1 t1) ho (by rw [putSet_of es1 t1 hd];rfl)
   rw [putSet_of es1 t1 hd] at this;exact this
  have sb1:=Heap.SameBut.update s.heap S (Obj.putSet es1 t1)
  have ye:t1.fits es1.size=true:=by
   unfold SetTable.fits SetTable.fill
   rw [g6,g3,Bool.and_eq_true,beq_iff_eq,decide_eq_true_eq]
   exact ⟨by omega,by show t.place.size+1+0<=t1.mask;omega⟩
  have body:wpAny (model P w) A (do
    storeSet S es1 t1
    if (!false && t1.tooFull)=true then do
     setRelay S (SetTable.grown (es.size+1))
     pure true
    else pure true) Q E s:=by
   refine wpAny_bind (wpAny_storeSet_of ho hd ?_ hz1)
   refine wpAny_ite_split (fun full=>?_) fun full=>?_
   ·have full:t1.place.size * 5>=t.mask * 3:=by
     simp only [Bool.not_false,Bool.true_and] at full
     unfold SetTable.tooFull SetTable.fill at full
     rw [g3,decide_eq_true_eq,g2] at full
     exact full
    obtain ⟨M,wn,hM,hw,hwn,hMl⟩:∃ M wn,Msk M/\SetTable.sizeAbove wn=M+1/\SetTable.grown (es.size+1)=wn/\es1.size * 5 < M * 3:=by
     have hgr:SetTable.grown (es.size+1)=(es.size+1) * 4:=by unfold SetTable.grown;rw [if_neg (by omega)]
     rcases I.tab.m with e | e | e
     ·rw [e] at full hf5
      have:es.size=4:=by omega
      exact ⟨31,20,.inr (.inl rfl),tu,by rw [hgr,this],by omega⟩
     ·rw [e] at full hf5
      have:es.size=18:=by omega
      exact ⟨127,76,.inr (.inr rfl),sZ,by rw [hgr,this],by omega⟩
     ·rw [e] at full
      omega
    refine wpAny_bind ?_
    unfold setRelay
    refine wpAny_bind (wpAny_setState_of hg rfl ye ?_)
    dsimp only
    rw [hwn,hw]
    obtain ⟨t',order,r1,r2,r3,r4⟩:=kO (t:=t1) hM hw (es:=es1) (by rcases hM with e | e | e <;> rw [e] at hMl ⊢ <;> omega) hMl
    refine wpAny_ite_split (fun z=>absurd z (by rw [sizeLine_eq];rcases hM with e | e | e <;> rw [e] <;> decide)) fun _=>?_
    rw [r1]
    refine wpAny_bind ?_
    show wpAny _ _ (if ((order.filterMap (es1[·]?)).size != es1.size)=true then (do unsupported "internal:set-table-lost-an-element";pure ((order.filterMap (es1[·]?)),t')) else pure ((order.filterMap (es1[·]?)),t')) _ _ _
    refine wpAny_ite_split (fun z=>absurd z (by rw [r2];simp)) fun _=>?_
    refine wpAny_pure ?_
    dsimp only
    refine wpAny_storeSet_of hg rfl ?_ (by rw [r2];exact hz1)
    refine wpAny_pure ?_
    have hg2:=Heap.get?_update_self (Obj.putSet (order.filterMap (es1[·]?)) t') hg (by rw [putSet_of _ t' rfl];rfl)
    rw [putSet_of _ t' rfl] at hg2
    have sb2:=sb1.trans (Heap.SameBut.update (s.heap.update S (Obj.putSet es1 t1)) S (Obj.putSet (order.filterMap (es1[·]?)) t'))
    exact q _ sb2 (fin _ _ _ _ _ hg2 hex rfl r4 r3)
   ·have full:¬ t1.place.size * 5>=t.mask * 3:=fun z=>full (by
     simp only [Bool.not_false,Bool.true_and]
     unfold SetTable.tooFull SetTable.fill
     rw [g3,decide_eq_true_eq,g2]
     exact z)
    refine wpAny_pure (q _ sb1 (fin _ _ _ _ _ hg hex rfl ⟨g1,g3,g4,g5,?_,by rw [g2];omega,?_⟩ (List.Perm.refl _)))
    ·rw [zS,Array.length_toList];omega
    ·rw [hs1,g2];exact g12
  refine wpAny_ite_split (fun _=>wpAny_bind (tL 8 k hk (by omega) ?_)) fun _=>wpAny_bind (wpAny_pure ?_)
  ·rw [if_pos rfl];exact body
  ·rw [if_pos rfl];exact body
end
noncomputable def aE:List Dt->List Dt->List Dt
 | acc,[]=>acc
 | acc,x::xs=>aE (if x∈acc then acc else acc++[x]) xs
theorem gp:∀ (xs ys acc:List Dt),aE acc (xs++ys)=aE (aE acc xs) ys
 | [],_,_=>rfl
 | x::xs,ys,acc=>gp xs ys _
theorem bX {xs:List Dt} {i:Nat} {x:Dt} (h:xs[i]?=some x):aE [] (xs.take (i+1))=if x∈aE [] (xs.take i) then aE [] (xs.take i) else aE [] (xs.take i)++[x]:=by
 rw [List.take_add_one,h,gp];rfl
theorem cA:∀ (xs acc:List Dt),(aE acc xs).length<=acc.length+xs.length
 | [],_=>Ad _
 | x::xs,acc=>by
  have:=cA xs (if x∈acc then acc else acc++[x])
  show (aE (if x∈acc then acc else acc++[x]) xs).length<=_
  rw [zP]
  by_cases c:x∈acc
  ·rw [if_pos c] at this ⊢;omega
  ·rw [if_neg c] at this ⊢;rw [zJ,zE] at this;omega
section
variable {prog:Program} {w:World} {A:Around} {E:Value->Shared->Prop} {s:Shared} {R:Result->Shared->Prop} {I S:Addr} {fp wr:List Addr} {G:Array GenState->Array GenState->Prop} {P:Nat->Value->Prop} {St:Nat->Shared->Prop} {xs:List Dt} {h0:Heap}
theorem gM {h h':Heap} {f:Dt->Bool} {n:Nat} (hS:eY h0 h S f n) (k:∀ o,h.get? S=some o->h'.get? S=some o):eY h0 h' S f n:=by
 obtain ⟨o,es,ep,t,ho,rest⟩:=hS
 exact ⟨o,es,ep,t,k o ho,rest⟩
theorem qY {h:Heap} {f g:Dt->Bool} {n m:Nat} (hS:eY h0 h S f n) (e:∀ d,f d=g d) (z:n=m):eY h0 h S g m:=by
 have:f=g:=funext e
 rw [<- this,<- z];exact hS
theorem qX (W:WalksS prog w A.in1 I fp wr G xs.length P St) (hSf:S∉fp) (hval:∀ i v,P i v->∃ x a,xs[i]?=some x/\v = .ref a/\ay h0 x (.ref a)/\dep x<=7) (hb:xs.length<=76) (hA:A.units+1+7 < cLine) (nS:h0.get? S=none) (nW:∀ b∈wr,h0.get? b=none) :
  ∀ (r i:Nat) (s:Shared),xs.length - i=r->i<=xs.length->St i s->(∀ b o,h0.get? b=some o->s.heap.get? b=some o)->eY h0 s.heap S (fun k=>decide (k∈aE [] (xs.take i))) (aE [] (xs.take i)).length ->
   (∀ s',Moved (S::wr) G s s'->eY h0 s'.heap S (fun k=>decide (k∈aE [] xs)) (aE [] xs).length->R (.ok (.ret .none)) s') ->
   codeAny (model prog w) A (.builtin "set.update.loop" ⟨[.ref S,.ref I],[]⟩) R s:=by
 have hSw:S∉wr:=fun h=>hSf (W.sub _ h)
 have up:∀ b∈wr,b∈S::wr:=fun b hb=>zH _ hb
 intro r
 induction r with
 | zero=>
  intro i s hr hi st ext hS k
  obtain rfl:i=xs.length:=by omega
  rw [zR] at hS
  refine codeAny_builtin F.entry_set_update_loop ?_
  rw [Around.under_plainId F.plain_set_update_loop _]
  show wpAny _ A.in1 (pyNext (.ref I) >>= _) _ _ s
  refine wpAny_bind (W.done s _ _ st fun s' hm=>?_)
  exact wpAny_pure (k s' (hm.mono up) (gM hS fun o e=>hm.heap S o hSw e))
 | succ r ih=>
  intro i s hr hi st ext hS k
  have hlt:i < xs.length:=by omega
  refine codeAny_builtin F.entry_set_update_loop ?_
  rw [Around.under_plainId F.plain_set_update_loop _]
  show wpAny _ A.in1 (pyNext (.ref I) >>= _) _ _ s
  refine wpAny_bind (W.item i s _ _ hlt st fun v s1 hP st1 hm=>?_)
  obtain ⟨x,a,hx,rfl,kx,dx⟩:=hval i v hP
  have hS1:=gM hS fun o e=>hm.heap S o hSw e
  have ext1:∀ b o,h0.get? b=some o->s1.heap.get? b=some o:=fun b o e=>hm.heap b o (fun z=>by rw [nW b z] at e;cases e) (ext b o e)
  have hl:=cA (xs.take i) []
  rw [zQ] at hl
  show wpAny _ A.in1 (holding [Value.ref a] (setAdd S (.ref a)) >>= _) _ _ s1
  refine wpAny_bind (wpAny_holding ?_)
  unfold setAdd
  refine wpAny_holding (wpAny_bind (i9 x (fY ext1 kx) (show A.units+1+dep x < cLine by omega) ?_))
  refine qM (s:={ s1 with toks:=s1.toks+drD x }) ext1 hS1 kx dx (show A.units+1+7 < cLine from hA) (by simp at hl;omega) fun h2 same hS2=>?_
  have hS3:eY h0 h2 S (fun k=>decide (k∈aE [] (xs.take (i+1)))) (aE [] (xs.take (i+1))).length:=by
   refine qY hS2 (fun k'=>?_) ?_
   ·rw [bX hx]
    by_cases c:x∈aE [] (xs.take i)
    ·rw [if_pos c]
     by_cases e:k'=x
     ·subst e;simp [c]
     ·simp [e]
    ·rw [if_neg c];simp [List.mem_append]
   ·rw [bX hx]
    by_cases c:x∈aE [] (xs.take i)
    ·rw [if_pos c,if_pos (zY c)]
    ·rw [if_neg c,if_neg (by rw [zX c];exact zL),zJ,zE]
  refine wpAny_pure ⟨plainId_quiet F.plain_set_update_loop _,ih (i+1) _ (by omega) hlt (W.frame _ s1 _ _ st1 (Nat.le_add_right _ _) fun b hb o e=>?_) (fun b o e=>?_) hS3 fun s' hm' hS'=>?_⟩
  ·rw [same.2 b (fun h:b=S=>hSf (by rw [<- h];exact hb))];exact e
  ·show h2.get? b=some o
   rw [same.2 b (fun h:b=S=>by rw [h,nS] at e;cases e)]
   exact ext1 b o e
  ·refine k s' (Moved.trans W.gtrans ((hm.mono up).then_heap (Nat.le_add_right _ _) fun b o hb e=>?_) hm') hS'
   rw [same.2 b (fun h:b=S=>hb (by rw [h];exact zK))];exact e
end
section
variable {prog:Program} {w:World} {A:Around} {E:Value->Shared->Prop} {s:Shared} {xs:List Dt}
set_option maxRecDepth 100000 in
set_option maxHeartbeats 3200000 in
theorem o6 {l:Addr} {items:Array Value} {Q:Value->Shared->Prop} (hh:A.handled=none) (hl:s.heap.IsList l items) (hn:items.size=xs.length) (hi:∀ (i:Nat) (v:Value),items[i]?=some v->∃ x a,xs[i]?=some x/\v=Value.ref a/\ay s.heap x (.ref a)/\dep x<=7) (hb:xs.length<=76) (hA:A.units+30 < cLine)
  (h:∀ (h':Heap) (tk:Nat),eY s.heap h' s.heap.objs.size (fun k=>decide (k∈aE [] xs)) (aE [] xs).length->(∀ b o,s.heap.get? b=some o->h'.get? b=some o)->Q (.ref s.heap.objs.size) { s with heap:=h',toks:=tk }) :
  wpAny (model prog w) A (call (.type "set") [.ref l]) Q E s:=by
 obtain ⟨c,tl,hmro⟩:=F.called_set.mro
 have hmade:=F.called_set.made
 have hsub:=F.called_set.sub
 have h1:=F.called_set.notType
 have h2:=F.called_set.canCreate
 have hct:=F.typeCall_set_1 (.ref l)
 refine wpAny_call (codeAny_of_tree ?_)
 show wpAny _ _ (callAny (.type "set") _) _ _ _
 refine wpAny_pure ⟨Code.quiet_builtin _ (by decide +kernel),codeAny_builtin F.entry_type_call ?_⟩
 rw [Around.under_plain (weight_type_call_type "set" [.ref l] []) rfl]
 repeat (any_goals (first | assumption | wp_step))
 refine codeAny_mono (code_set_new_1 (.ref l) (E:=E) (Q₁:=fun obj s₁=>∃ led:Bool,obj = .ref s.heap.objs.size/\s₁={ s with heap:=s.heap.push { cls:=.type "set",dict:=none,data:=.set #[] 0 (.fresh 0 0 led) } }) fun led=>⟨led,rfl,rfl⟩) fun r s₁ hr=>?_
 rcases r with e | fl
 ·exact hr
 cases fl with
 | ret obj=>
  obtain ⟨led,rfl,rfl⟩:=hr
  generalize ho:({ cls:=.type "set",dict:=none,data:=.set #[] 0 (.fresh 0 0 led) }:Obj)=so at *
  have hS:(s.heap.push so).get? s.heap.objs.size=some so:=Heap.get?_push_size _ (by rw [<- ho];rfl)
  have hT:Shared.TypeIs { s with heap:=s.heap.push so } (.ref s.heap.objs.size) "set" := ⟨_,hS,by rw [<- ho]⟩
  have hli:=F.called_set.init.lookup
  have hbi:=F.called_set.init.bind (.ref s.heap.objs.size)
  repeat (any_goals (first | assumption | wp_step))
  refine codeAny_mono (codeAny_call_builtin (R:=wants (fun r s₂=>r = .none/\∃ h' tk,s₂={ s with heap:=h',toks:=tk }/\eY s.heap h' s.heap.objs.size (fun k=>decide (k∈aE [] xs)) (aE [] xs).length/\∀ b o,s.heap.get? b=some o->h'.get? b=some o) E) F.called_set.init.plain F.entry_set_init (check_set_init_1 hT ?_)) fun r₂ s₂ hr₂=>?_
  ·have hlS:l < s.heap.objs.size:=by obtain ⟨_,e,_⟩:=hl;exact Heap.lt_size e
   subst ho
   have hl1:=hl.push { cls:=.type "set",dict:=none,data:=.set #[] 0 (.fresh 0 0 led) }
   obtain ⟨⟨lc,ld,ldat,lsl⟩,e1,e2,nl,e3⟩:=id hl1
   simp only at e2 e3
   subst e2 e3
   have zf:=F.sub_list_set
   have zg:=F.sub_list_frozenset
   have hne:(Value.type "list" == Value.type "dict")=false:=by decide
   unfold Builtin.«set.__init__» noKeywords Builtin.Frozenset.updateFrom
   generalize hPI:pyIter=PI
   wp_walk
   subst hPI
   refine wpAny_pyIter_list hl1 ?_
   refine wpAny_bind (wpAny_runValue ?_)
   have hsz:(s.heap.push { cls:=.type "set",dict:=none,data:=.set #[] 0 (.fresh 0 0 led) }).objs.size=s.heap.objs.size+1:=Heap.size_push ..
   have W:=(Walks.list (prog:=prog) (w:=w) (A:=A.in1.in1.in1) (by simp [hh]) (s.heap.push { cls:=.type "set",dict:=none,data:=.set #[] 0 (.fresh 0 0 led) }).objs.size l (by rw [hsz];exact Ab (Nat.lt_succ_of_lt hlS)) items).toS
   rw [hn] at W
   have none_of:∀ b,s.heap.objs.size<=b->s.heap.get? b=none:=fun b hb=>by
    cases e:s.heap.get? b with
    | none=>rfl
    | some o=>exact absurd (Heap.lt_size e) (Nat.not_lt.mpr hb)
   have yz:∀ b o,s.heap.get? b=some o->(s.heap.push { cls:=.type "set",dict:=none,data:=.set #[] 0 (.fresh 0 0 led) }).get? b=some o:=fun b o e=>Heap.get?_push_of_some _ e
   refine qX (xs:=xs) (h0:=s.heap) W (by rw [hsz];simp only [List.mem_cons,List.not_mem_nil,or_false,not_or];exact ⟨Ab (Nat.lt_succ_self _),Nat.ne_of_gt hlS⟩) (fun i v hv=>hi i v hv) hb ?_ (none_of _ (Ad _)) (fun b hb=>none_of _ (by rw [hsz] at hb;rw [Ai hb];exact Af _)) _ 0 _ rfl (Ae _) ⟨⟨_,Heap.get?_push_size _ rfl,rfl,rfl⟩,hl1.push _⟩ (fun b o e=>Heap.get?_push_of_some _ (yz b o e)) ?_ fun s' hm hS'=>?_
   ·show A.units+1+1+1+7 < cLine
    omega
   ·exact ⟨_,#[],0,.fresh 0 0 led,Heap.get?_push_of_some _ hS,⟨rfl,rfl,rfl⟩,rfl,⟨⟨.inl rfl,rfl,List.Pairwise.nil,(fun j hj=>by cases hj),rfl,(show 0 * 5 < 7 * 3 by decide),fun i h z=>by simp at z⟩,fun e he=>by cases he⟩,fun d=>by simp [aE],rfl⟩
   ·obtain ⟨h',g',d',tk',os'⟩:=s'
    obtain rfl:g'=s.gens:=hm.gens
    obtain rfl:d'=s.drawn:=hm.drawn
    obtain rfl:os'=s.os:=hm.os
    refine wpAny_pure (wpAny_pure ⟨rfl,h',tk',rfl,hS',fun b o e=>?_⟩)
    have hb1:=Heap.lt_size e
    exact hm.heap b o (by rw [hsz];simp only [List.mem_cons,List.not_mem_nil,or_false,not_or];exact ⟨Ab hb1,Ab (Nat.lt_succ_of_lt hb1)⟩) (Heap.get?_push_of_some _ (Heap.get?_push_of_some _ e))
  ·rcases r₂ with e | fl₂
   ·exact hr₂
   cases fl₂ with
   | ret r=>
    obtain ⟨rfl,h',tk,rfl,hS',hk'⟩:=hr₂
    repeat (any_goals (first | assumption | wp_step))
    exact h _ _ hS' hk'
   | _=>exact hr₂.elim
 | _=>exact hr.elim
end
def jI (K:Ao) (x:V) (H:Hp) (Q:VK):Prop:=∃ (a:Addr) (ts:List Addr) (xs:List Dt),x = .ref a/\SqL K H a (ts.map V.ref)/\ts.length=xs.length/\(∀ (i:Nat) (t:Addr) (D:Dt),ts[i]?=some t->xs[i]?=some D->kj K H t D)/\xs.length<=76/\Q (.int (((aE [] xs).length:Nat):Int)) H
def jz (K:Ao) (te:TE):TE:=fun σ H Q=>te σ H fun x H1=>jI K x H1 Q
section
variable {X:Cx} {e:Expr} {te:TE} {p p2 pos pos2:Pos}
theorem kU (hu:X.A.units+40 < cLine) (hc:X.calm=true) (hg:Gl X "len") (hg2:Gl X "set") (hm:X.mg "len" = none) (hm2:X.mg "set" = none) (he:PE X e te) (hs1:starEach [.Call (.Name "set" p2) [e] [] pos2] X.env=[(false,eval (.Call (.Name "set" p2) [e] [] pos2) X.env)]:=by rfl) (hs2:starEach [e] X.env=[(false,eval e X.env)]:=by rfl) :
  PE X (.Call (.Name "len" p) [.Call (.Name "set" p2) [e] [] pos2] [] pos) (jz X.K te):=by
 intro pins s σ H Q I h
 refine wpAny_Call_Name_kw (c6 I hg hm L3.cz ?_)
 refine PyProof.Rows.callWith_builtin1 ?_ (by rw [hs1];rfl) (by rfl)
 rw [hs1]
 show wpAny (model X.prog X.w) X.A (spliced ((false,eval (.Call (.Name "set" p2) [e] [] pos2) X.env)::[])) _ X.xe s
 refine Calls.spliced_cons (wpAny_Call_Name_kw (c6 I hg2 hm2 L3.vG ?_))
 refine PyProof.Rows.callWith_type1 ?_ (by rw [hs2];rfl) (by rfl)
 rw [hs2]
 show wpAny (model X.prog X.w) X.A (spliced ((false,eval e X.env)::[])) _ X.xe s
 refine Calls.spliced_cons (thn (he pins s σ H _ I h) fun u s1 ⟨x,H1,I1,r1,q1⟩=>Calls.spliced_nil ?_)
 obtain ⟨a,ts,xs,rfl,hq,htx,hk,h76,q⟩:=q1
 cases r1
 obtain ⟨its,rv,pl,hz⟩:=I1.list hq
 have hlen:its.length=xs.length:=by rw [<- rv.length,zS,htx]
 refine o6 (I.ok.hd hc) pl.isList (by rw [zN];exact hlen) (fun i v hv=>?_) h76 (by omega) fun h' tk hS hk'=>?_
 ·have hv':its[i]?=some v:=by simpa using hv
  have hi:i < xs.length:=by
   have:=(Ah hv').1
   omega
  have hit:ts[i]?=some (ts[i]'(by omega)):=zD (by omega)
  obtain ⟨u,hu,ru⟩:=rv.get (i:=i) (x:=V.ref (ts[i]'(by omega))) (by rw [zO,hit];rfl)
  rw [hv'] at hu
  cases hu
  have ru:v = .ref (ts[i]'(by omega)):=ru
  subst ru
  obtain ⟨k1,k2⟩:=(hk i _ _ hit (zD hi)).is I1
  exact ⟨_,_,zD hi,rfl,k1,k2⟩
 ·have I2:=I1.kept (t':=tk) hk'
  refine Calls.spliced_nil ?_
  obtain ⟨o,es,ep,t,ho,hex,hd,hI,hf,hn⟩:=hS
  have h63:(es.size:Int) < 2 ^ 63:=by
   have:=cA xs []
   rw [hn]
   simp at this
   omega
  exact call_len_set ho hex hd hI.fits h63 ⟨.int es.size,H1,I2.tok _,⟨_,rfl⟩,by rw [hn];exact q⟩
end
theorem nO {K:Ao} {te:TE} {σ : St} {H:Hp} {Q:VK} (h:te σ H fun x H1=>jI K x H1 Q):jz K te σ H Q:=h
theorem uV {kvs:List (Key×V)} {vs:List (Key×Value)} (h:KV kvs vs):kvs.length=vs.length:=Paired.length h
def oM (td ty tx:TE):TE:=fun σ H Q=>td σ H fun x H1=>∃ a,x = .ref a/\IsD H1 a/\ty σ H1 fun y H2=>tx σ H2 fun z H3=>∃ kvs k,H3 a=some (.dK kvs)/\y=kV k/\kvs.length < sizeLine /\
 (∀ v,bh kvs k=some v->Q v H3)/\(bh kvs k=none->Q z (upd H3 a (.dK (putK kvs k z))))
section
variable {X:Cx} {o e f:Expr} {apos cpos:Pos} {td ty tx:TE} {pins:List (Addr×Obj)} {σ : St} {H:Hp} {s:Shared} {a:Addr} {kvs:List (Key×V)} {k:Key} {u r:Value} {A:Around} {E:Value->Shared->Prop} {z:V}
theorem vz {Q:Value->Shared->Prop} (I:Inv X pins σ H s) (e:H a=some (.dK kvs)) (ry:RelV (kV k) u) (rz:RelV z r) (l:kvs.length < sizeLine)
  (h1:∀ v,bh kvs k=some v->∀ w' s',Inv X pins σ H s'->RelV v w'->Q w' s') (h2:bh kvs k=none->∀ s',Inv X pins σ (upd H a (.dK (putK kvs k z))) s'->Q r s') :
  wpAny (model X.prog X.w) A (call (.builtin "dict.setdefault") [.ref a,u,r]) Q E s:=by
 obtain ⟨hz,hd,vs,rel,dd⟩:=xr I.hok e
 have hl:=uV rel
 have hv:=rel.val k
 refine call_meetsIn PySem.F.slot_dict_setdefault dd.typeIs PySem.F.entry_dict_setdefault (PySem.F.args_dict_setdefault_3 _ _ _) (kt_meets_setdefault (bf X.prog X.w) a (tY ry) hd r) ⟨vs,dd,by omega,fun v ev=>?_,fun ev h' dd' hs=>?_⟩
 ·rw [ev] at hv
  cases hk:bh kvs k with
  | none=>rw [hk] at hv;exact hv.elim
  | some v'=>rw [hk] at hv;exact h1 v' hk _ _ (I.tok _) hv
 ·rw [ev] at hv
  cases hk:bh kvs k with
  | some v'=>rw [hk] at hv;exact hv.elim
  | none=>
   have he:∃ q,h'.get? a=some q:=let ⟨q,_,_,hq,_⟩:=dd';⟨q,hq⟩
   have hp:(putK kvs k z).length<=sizeLine:=by have:=jT kvs k z;omega
   exact h2 hk _ (sO I (by rw [e];exact True.intro) hs he (vv hp hd (rel.put k rz) dd'))
theorem pM (ho:PE X o td) (he:PE X e ty) (hf:PE X f tx) (m:M2 X o "setdefault" apos e f cpos):PE X (.Call (.Attribute o "setdefault" apos) [e,f] [] cpos) (oM td ty tx):=by
 intro pins s σ H Q I h
 refine wpAny_Call_method m.base m.few m.line PySem.F.plainAttrs_dict PySem.F.slot_dict_setdefault PySem.F.type_dict_setdefault (thn (ho pins s σ H _ I h) fun u s1 ⟨x,H1,I1,rx,a,ex,d,q1⟩=>?_)
 subst ex
 obtain rfl:u=Value.ref a:=rx
 obtain ⟨t1,t2,_⟩:=u5 I1 d
 refine ⟨t1,t2,?_⟩
 rw [m.trees]
 refine Calls.callWith_builtin rfl (Calls.evalArgs_plain (Calls.spliced_cons (thn (he pins s1 σ H1 _ I1 q1) fun iv s2 ⟨y,H2,I2,ry,q2⟩=>
  Calls.spliced_cons (thn (hf pins s2 σ H2 _ I2 q2) fun fv s3 ⟨z,H3,I3,rz,kvs,k,ea,ey,l,q3,q4⟩=>Calls.spliced_nil ?_))))
 subst ey
 exact vz I3 ea ry rz l (fun v hv w' s' I' rw'=>⟨v,H3,I',rw',q3 v hv⟩) fun hn s' I'=>⟨z,_,I',rz,q4 hn⟩
end
theorem sE {td ty tx:TE} {σ : St} {H:Hp} {Q:VK} (h:td σ H fun x H1=>∃ a,x = .ref a/\IsD H1 a/\ty σ H1 fun y H2=>tx σ H2 fun z H3=>∃ kvs k,H3 a=some (.dK kvs)/\y=kV k/\kvs.length < sizeLine /\
 (∀ v,bh kvs k=some v->Q v H3)/\(bh kvs k=none->Q z (upd H3 a (.dK (putK kvs k z))))):oM td ty tx σ H Q:=h
abbrev cO (h:Heap) (T:Addr) (a b c:Value):Prop:=h.get? T=some { cls:=.type "tuple",data:=.seq #[a,b,c] }
structure Z3p (z T O i j l:Addr):Prop where
 nd:[z,T,O,i,j,l].Nodup
theorem Z3p.ne {z T O i j l:Addr} (D:Z3p z T O i j l):(T≠z/\O≠z/\i≠z/\j≠z/\l≠z)/\(T≠O/\T≠i/\T≠j/\T≠l)/\(O≠i/\O≠j/\O≠l)/\(i≠j/\i≠l)/\j≠l:=by
 have:=D.nd
 simp only [List.nodup_cons,List.mem_cons,List.not_mem_nil,or_false,not_or,List.nodup_nil,and_true,not_false_eq_true] at this
 obtain ⟨⟨a1,a2,a3,a4,a5⟩,⟨b1,b2,b3,b4⟩,⟨c1,c2,c3⟩,⟨d1,d2⟩,e1⟩:=this
 exact ⟨⟨Ne.symm a1,Ne.symm a2,Ne.symm a3,Ne.symm a4,Ne.symm a5⟩,⟨b1,b2,b3,b4⟩,⟨c1,c2,c3⟩,⟨d1,d2⟩,e1⟩
structure lK (h:Heap) (z T O i j l a b c:Addr) (f:Value) (n:Nat):Prop where
 z:IsZip h z T O f
 t:cO h T (.ref i) (.ref j) (.ref l)
 o:∃ x y u,cO h O x y u
 i:h.IsListIter i a n
 j:h.IsListIter j b n
 l:h.IsListIter l c n
theorem aR {h h':Heap} {i a:Addr} {n:Nat} (x:h.IsListIter i a n) (e:∀ o,h.get? i=some o->h'.get? i=some o):h'.IsListIter i a n:=ZIt.keep (k:=true) x e
section
variable {prog:Program} {w:World} {A:Around} {E:Value->Shared->Prop} {s:Shared}
theorem bZ {T:Addr} {a b c x:Value} {k:Nat} {Q:Unit->Shared->Prop} (hT:cO s.heap T a b c)
  (h:∀ h',h'.get? T=some { cls:=.type "tuple",data:=.seq ((#[a,b,c]:Array Value).setIfInBounds k x) }->Heap.SameBut T s.heap h'->Q () { s with heap:=h' }) :
  wpAny (model prog w) A (updateSeq T (·.setIfInBounds k x)) Q E s:=by
 refine wpAny_updateSeq hT rfl (h _ ?_ (Heap.SameBut.update ..))
 rw [Heap.get?_update_self _ hT rfl]
 simp [Obj.mapSeq]
theorem mX {z T O i j l a b c:Addr} {n:Nat} {xs ys zs:Array Value} {x y r:Value} {Q:Option Value->Shared->Prop} (D:Z3p z T O i j l) (Z:lK s.heap z T O i j l a b c .none n)
  (ha:∀ h':Heap,(∀ o,s.heap.get? a=some o->h'.get? a=some o)->h'.IsList a xs) (na:a∉[z,O,i,j,l]) (hb:∀ h':Heap,(∀ o,s.heap.get? b=some o->h'.get? b=some o)->h'.IsList b ys) (nb:b∉[z,O,i,j,l])
  (hc:∀ h':Heap,(∀ o,s.heap.get? c=some o->h'.get? c=some o)->h'.IsList c zs) (nc:c∉[z,O,i,j,l]) (hx:xs[n]?=some x) (hy:ys[n]?=some y) (hr:zs[n]?=some r)
  (q:∀ h':Heap,lK h' z T O i j l a b c (rawInt s.heap.objs.size) (n+1)->cO h' s.heap.objs.size x y r->(∀ c o,c∉[z,O,i,j,l]->s.heap.get? c=some o->h'.get? c=some o)->Q (some (.ref s.heap.objs.size)) { s with heap:=h' }) :
  wpAny (model prog w) A (pyNext (.ref z)) Q E s:=by
 obtain ⟨hz,hT,⟨u,v,t,hO⟩,hi,hj,hl⟩:=Z
 obtain ⟨⟨d1,d2,d3,d4,d5⟩,⟨b1,b2,b3,b4⟩,⟨c1,c2,c3⟩,⟨f1,f2⟩,f3⟩:=D.ne
 simp only [List.mem_cons,List.not_mem_nil,or_false,not_or] at na nb nc
 have ty:s.TypeIs (.ref z) "zip" := ⟨_,hz,rfl⟩
 unfold pyNext
 refine wpAny_bind (wpAny_attempt (wpAny_callSpecial?_slot (name:=Str.ofString "__next__") ty F.slot_zip_next (wpAny_call_entry F.slot_zip_next ty F.entry_zip_next ?_ (F.args_zip_next_1 _))))
 show wpAny _ _ (field (.ref z) 2 >>= _) _ _ _
 refine wpAny_bind (wpAny_field hz rfl (x:=.bool false) rfl ?_);show wpAny _ _ (field (.ref z) 3 >>= _) _ _ _
 refine wpAny_bind (wpAny_field hz rfl (x:=.ref T) rfl (wpAny_bind (wpAny_seqItems hT rfl ?_)))
 show wpAny _ _ (Builtin.SmallTypes.ownedTupleIsFree (.ref z) >>= _) _ _ _
 refine wpAny_bind ?_;unfold Builtin.SmallTypes.ownedTupleIsFree
 refine wpAny_bind (wpAny_field hz rfl (x:=.none) rfl (wpAny_pure ?_));simp only [if_true]
 refine wpAny_bind (wpAny_rule (wpAny_bind (wpAny_field hz rfl (x:=.ref O) rfl (wpAny_bind (wpAny_setField_rec hz (by simp) fun g1 z1 e1=>?_)))))
 replace z1:IsZip g1 z T O .ellipsis:=z1
 refine wpAny_bind ?_;simp only [List.zipIdx_cons,List.zipIdx_nil,List.forIn_cons,List.forIn_nil]
 refine wpAny_bind (wpAny_bind (wpAny_onRaise ?_));show wpAny _ _ (Builtin.SmallTypes.nextOf (.ref i) >>= _) _ _ _
 refine wpAny_bind (wpAny_nextOf_list_item (aR hi fun o h=>e1.extBut _ _ d3 h) (ha _ fun o h=>e1.extBut _ _ na.1 h) hx fun g2 i2 e2=>wpAny_pure ?_)
 have O2:cO g2 O u v t:=e2.extBut _ _ c1 (e1.extBut _ _ d2 hO)
 refine wpAny_bind (wpAny_seqItems O2 rfl (wpAny_bind (bZ O2 fun g3 O3 e3=>?_)))
 replace O3:cO g3 O x v t:=O3
 refine wpAny_bind (wpAny_letGo (wpAny_pure ?_));refine wpAny_bind (wpAny_bind (wpAny_onRaise ?_))
 show wpAny _ _ (Builtin.SmallTypes.nextOf (.ref j) >>= _) _ _ _
 refine wpAny_bind (wpAny_nextOf_list_item (aR hj fun o h=>e3.extBut _ _ (Ne.symm c2) (e2.extBut _ _ (Ne.symm f1) (e1.extBut _ _ d4 h))) (hb _ fun o h=>e3.extBut _ _ nb.2.1 (e2.extBut _ _ nb.2.2.1 (e1.extBut _ _ nb.1 h))) hy fun g4 j4 e4=>wpAny_pure ?_)
 have O4:cO g4 O x v t:=e4.extBut _ _ c2 O3
 refine wpAny_bind (wpAny_seqItems O4 rfl (wpAny_bind (bZ O4 fun g5 O5 e5=>?_)))
 replace O5:cO g5 O x y t:=O5
 refine wpAny_bind (wpAny_letGo (wpAny_pure ?_));refine wpAny_bind (wpAny_bind (wpAny_onRaise ?_))
 show wpAny _ _ (Builtin.SmallTypes.nextOf (.ref l) >>= _) _ _ _
 refine wpAny_bind (wpAny_nextOf_list_item (aR hl fun o h=>e5.extBut _ _ (Ne.symm c3) (e4.extBut _ _ (Ne.symm f3) (e3.extBut _ _ (Ne.symm c3) (e2.extBut _ _ (Ne.symm f2) (e1.extBut _ _ d5 h)))))
  (hc _ fun o h=>e5.extBut _ _ nc.2.1 (e4.extBut _ _ nc.2.2.2.1 (e3.extBut _ _ nc.2.1 (e2.extBut _ _ nc.2.2.1 (e1.extBut _ _ nc.1 h))))) hr fun g6 l6 e6=>wpAny_pure ?_)
 have O6:cO g6 O x y t:=e6.extBut _ _ c3 O5
 refine wpAny_bind (wpAny_seqItems O6 rfl (wpAny_bind (bZ O6 fun g7 O7 e7=>?_)))
 replace O7:cO g7 O x y r:=O7
 refine wpAny_bind (wpAny_letGo (wpAny_pure (wpAny_pure ?_)));refine wpAny_bind (wpAny_seqItems O7 rfl (wpAny_bind (wpAny_newTuple ?_)))
 have sz:g7.objs.size=s.heap.objs.size:=by rw [e7.1,e6.1,e5.1,e4.1,e3.1,e2.1,e1.1]
 have z7:IsZip g7 z T O .ellipsis:=e7.extBut _ _ (Ne.symm d2) (e6.extBut _ _ (Ne.symm d5) (e5.extBut _ _ (Ne.symm d2) (e4.extBut _ _ (Ne.symm d4) (e3.extBut _ _ (Ne.symm d2) (e2.extBut _ _ (Ne.symm d3) z1)))))
 have k7:∀ c o,c∉[z,O,i,j,l]->s.heap.get? c=some o->g7.get? c=some o:=fun c o hc h=>by
  simp only [List.mem_cons,List.not_mem_nil,or_false,not_or] at hc
  exact e7.extBut _ _ hc.2.1 (e6.extBut _ _ hc.2.2.2.2 (e5.extBut _ _ hc.2.1 (e4.extBut _ _ hc.2.2.2.1 (e3.extBut _ _ hc.2.1 (e2.extBut _ _ hc.2.2.1 (e1.extBut _ _ hc.1 h))))))
 show wpAny _ _ (Builtin.SmallTypes.ownedTupleHandOut (.ref z) (.ref g7.objs.size) >>= _) _ _ _
 refine wpAny_bind ?_;unfold Builtin.SmallTypes.ownedTupleHandOut
 have z8:IsZip (g7.push { cls:=.type "tuple",data:=.seq #[x,y,r] }) z T O .ellipsis:=Heap.get?_push_of_some _ z7
 refine wpAny_bind (wpAny_setField_rec z8 (by simp) fun g9 z9 e9=>?_)
 replace z9:IsZip g9 z T O (rawInt g7.objs.size):=z9
 refine wpAny_setField_rec z9 (by simp) fun h8 w8 e8=>?_
 replace w8:IsZip h8 z T O (rawInt g7.objs.size):=w8
 have up:∀ c o,c≠z->g7.get? c=some o->h8.get? c=some o:=fun c o hc h=>e8.extBut _ _ hc (e9.extBut _ _ hc (Heap.get?_push_of_some _ h))
 have zlt:g7.objs.size≠z:=Nat.ne_of_gt (Heap.lt_size z7)
 have p8:cO h8 g7.objs.size x y r:=e8.extBut _ _ zlt (e9.extBut _ _ zlt (Heap.get?_push_size _ rfl))
 rw [sz] at w8 p8
 refine wpAny_pure ⟨_,rfl,wpAny_pure ?_⟩
 show Q (some (.ref g7.objs.size)) _
 rw [sz]
 refine q h8 ⟨w8,up _ _ d1 (k7 _ _ (by simp [d1,b1,b2,b3,b4]) hT),⟨x,y,r,up _ _ d2 O7⟩,
  aR i2 fun o h=>up _ _ d3 (e7.extBut _ _ (Ne.symm c1) (e6.extBut _ _ f2 (e5.extBut _ _ (Ne.symm c1) (e4.extBut _ _ f1 (e3.extBut _ _ (Ne.symm c1) h))))),
  aR j4 fun o h=>up _ _ d4 (e7.extBut _ _ (Ne.symm c2) (e6.extBut _ _ f3 (e5.extBut _ _ (Ne.symm c2) h))),
  aR l6 fun o h=>up _ _ d5 (e7.extBut _ _ (Ne.symm c3) h)⟩ p8 fun c o hc h=>up c o (fun e=>hc (by simp [e])) (k7 c o hc h)
theorem om {z T O i j l a b c:Addr} {n:Nat} {xs:Array Value} {Q:Option Value->Shared->Prop} (hh:A.handled=none) (D:Z3p z T O i j l) (Z:lK s.heap z T O i j l a b c .none n)
  (ha:∀ h':Heap,(∀ o,s.heap.get? a=some o->h'.get? a=some o)->h'.IsList a xs) (na:a∉[z,O,i,j,l]) (he:xs[n]?=none)
  (q:∀ h':Heap,(∀ c o,c∉[z,O,i,j,l]->s.heap.get? c=some o->h'.get? c=some o)->Q none { s with heap:=h' }):wpAny (model prog w) A (pyNext (.ref z)) Q E s:=by
 obtain ⟨hz,hT,⟨u,v,t,hO⟩,hi,hj,hl⟩:=Z
 obtain ⟨⟨d1,d2,d3,d4,d5⟩,_⟩:=D.ne
 simp only [List.mem_cons,List.not_mem_nil,or_false,not_or] at na
 have ty:s.TypeIs (.ref z) "zip" := ⟨_,hz,rfl⟩
 have fin:∀ (h':Heap) (e:Addr),(∀ c o,c∉[z,O,i,j,l]->s.heap.get? c=some o->h'.get? c=some o)->(∃ o,h'.get? e=some o/\o.cls = .type "StopIteration") ->
   wpAny (model prog w) A (do if <- isInstance (.ref e) (.type "StopIteration") then pure none else throw (.ref e)) Q E { s with heap:=h' }:=fun h' e k ⟨o,ho,hc⟩=>
  wpAny_bind (wpAny_isInstance (T:="StopIteration") (b:=true) ⟨o,ho,hc⟩ isSubtype_stop (wpAny_pure (q h' k)))
 unfold pyNext
 refine wpAny_bind (wpAny_attempt (wpAny_callSpecial?_slot (name:=Str.ofString "__next__") ty F.slot_zip_next (wpAny_call_entry F.slot_zip_next ty F.entry_zip_next ?_ (F.args_zip_next_1 _))))
 show wpAny _ _ (field (.ref z) 2 >>= _) _ _ _
 refine wpAny_bind (wpAny_field hz rfl (x:=.bool false) rfl ?_);show wpAny _ _ (field (.ref z) 3 >>= _) _ _ _
 refine wpAny_bind (wpAny_field hz rfl (x:=.ref T) rfl (wpAny_bind (wpAny_seqItems hT rfl ?_)))
 show wpAny _ _ (Builtin.SmallTypes.ownedTupleIsFree (.ref z) >>= _) _ _ _
 refine wpAny_bind ?_;unfold Builtin.SmallTypes.ownedTupleIsFree
 refine wpAny_bind (wpAny_field hz rfl (x:=.none) rfl (wpAny_pure ?_));simp only [if_true]
 refine wpAny_bind (wpAny_rule (wpAny_bind (wpAny_field hz rfl (x:=.ref O) rfl (wpAny_bind (wpAny_setField_rec hz (by simp) fun g1 z1 e1=>?_)))))
 replace z1:IsZip g1 z T O .ellipsis:=z1
 refine wpAny_bind ?_;simp only [List.zipIdx_cons,List.zipIdx_nil,List.forIn_cons,List.forIn_nil]
 refine wpAny_bind (wpAny_bind (wpAny_onRaise ?_));show wpAny _ _ (Builtin.SmallTypes.nextOf (.ref i) >>= _) _ _ _
 refine wpAny_bind (wpAny_nextOf_list_end hh (aR hi fun o h=>e1.extBut _ _ d3 h) (ha _ fun o h=>e1.extBut _ _ na.1 h) he fun g2 e e2 he2=>?_)
 obtain ⟨oe,hoe,hce⟩:=he2
 have z2:IsZip g2 z T O .ellipsis:=e2 _ _ (Ne.symm d3) z1
 have ez:e≠z:=fun r=>by subst r;rw [z2] at hoe;cases hoe;simp at hce
 refine wpAny_setField_rec z2 (by simp) fun g3 _ e3=>fin g3 e (fun c o hc h=>?_) ⟨oe,e3.extBut _ _ ez hoe,hce⟩
 simp only [List.mem_cons,List.not_mem_nil,or_false,not_or] at hc
 exact e3.extBut _ _ hc.1 (e2 _ _ hc.2.2.1 (e1.extBut _ _ hc.1 h))
def jt (h:Heap) (a b c:Addr):Heap:=
 (((((h.push { cls:=.type "list_iterator",data:=.fields #[.ref a,.int 0 0] }).push { cls:=.type "list_iterator",data:=.fields #[.ref b,.int 0 0] }).push { cls:=.type "list_iterator",data:=.fields #[.ref c,.int 0 0] }).push
  { cls:=.type "tuple",data:=.seq #[.ref h.objs.size,.ref (h.objs.size+1),.ref (h.objs.size+2)] }).push
  { cls:=.type "tuple",data:=.seq #[.none,.none,.none] }).push { cls:=.type "zip",data:=.fields #[.none,.bool false,.bool false,.ref (h.objs.size+3),.ref (h.objs.size+4)] }
theorem oj (a b c:Addr) (xs ys zs:Array Value):Meets (Builtin.«zip.__new__» ⟨[.type "zip",.ref a,.ref b,.ref c],[]⟩) (fun _ R s=>s.heap.IsList a xs/\s.heap.IsList b ys/\s.heap.IsList c zs/\R (.ok (.ret (.ref (s.heap.objs.size+5)))) { s with heap:=jt s.heap a b c }):=
 .of_wp fun prog w A R s h=>by
  obtain ⟨hp,g,d,tk,os⟩:=s;obtain ⟨h1,h2,h3,h⟩:=h
  have hsub:=sub_zip
  have s1:Heap.IsList (Shared.heap ⟨hp,g,d,tk,os⟩) a xs:=h1
  have s2:Heap.IsList (Shared.heap ⟨hp.push { cls:=.type "list_iterator",data:=.fields #[.ref a,.int 0 0] },g,d,tk,os⟩) b ys:=Heap.IsList.push h2 _
  have s3:Heap.IsList (Shared.heap ⟨(hp.push { cls:=.type "list_iterator",data:=.fields #[.ref a,.int 0 0] }).push { cls:=.type "list_iterator",data:=.fields #[.ref b,.int 0 0] },g,d,tk,os⟩) c zs:=Heap.IsList.push (Heap.IsList.push h3 _) _
  wp_walk using wpAny_pyIter_list s1,wpAny_pyIter_list s2,wpAny_pyIter_list s3
  refine ⟨_,rfl,?_⟩
  unfold jt at h
  simp only [Heap.size_push]
  exact h
theorem fL (a b c:Value):checkTypeCall "zip" ⟨[a,b,c],[]⟩=pure ():=by kernel_rfl
theorem gw (a b c:Value):checkBuiltinCall "zip.__new__" ⟨[.type "zip",a,b,c],[]⟩=pure ():=by kernel_rfl
theorem c9 (a b c d:Value):argsOk "object.__init__" ⟨[a,b,c,d],[]⟩:=by
 unfold argsOk;rw [signature?_of (id:="object.__init__") (n:=['_', '_', 't', 'i', 'n', 'i', '_', '_']) (o:=['t', 'c', 'e', 'j', 'b', 'o']) (by kernel_rfl) F.owner_object];kernel_rfl
end
def It3 (K:Ao) (a b c:Addr):It:=
 ⟨fun i H=>∃ xs ys zs x y r,SqK true K H a xs/\SqK true K H b ys/\SqK true K H c zs/\xs[i]?=some x/\ys[i]?=some y/\zs[i]?=some r,fun i H v H'=>∃ T,H T=none/\v = .ref T/\∀ xs ys zs x y r,SqK true K H a xs->SqK true K H b ys->SqK true K H c zs->xs[i]?=some x->ys[i]?=some y->zs[i]?=some r->H'=upd H T (.tup [x,y,r]),fun i H=>∃ xs,SqK true K H a xs/\xs.length<=i⟩
theorem lK.ob {h:Heap} {z T O i j l a b c:Addr} {f:Value} {n:Nat} (Z:lK h z T O i j l a b c f n) {p:Addr} (hp:p∈[z,T,O,i,j,l]):∃ o:Obj,h.get? p=some o/\∀ v,o.data≠.cell v:=by
 have it:∀ {i a:Addr} {n:Nat},h.IsListIter i a n->∃ o:Obj,h.get? i=some o/\∀ v,o.data≠.cell v:=fun x=>by
  obtain ⟨o,v,g,e,_⟩:=ZIt.ob (k:=true) x
  exact ⟨o,g,fun v r=>by rw [e] at r;cases r⟩
 simp only [List.mem_cons,List.not_mem_nil,or_false] at hp
 rcases hp with rfl | rfl | rfl | rfl | rfl | rfl
 ·exact ⟨_,Z.z,fun v r=>by cases r⟩
 ·exact ⟨_,Z.t,fun v r=>by cases r⟩
 ·obtain ⟨x,y,u,g⟩:=Z.o
  exact ⟨_,g,fun v r=>by cases r⟩
 ·exact it Z.i
 ·exact it Z.j
 ·exact it Z.l
theorem m8 {P:Program} {w:World} {K:Ao} {es:List Expr} {x1:Nat} {tp:Pos} {z T O i j l a b c:Addr} (D:Z3p z T O i j l):Turn P w K (.Tuple es x1 tp) (It3 K a b c) [z,T,O,i,j,l] z (fun n h=>lK h z T O i j l a b c .none n) where
 mem:=by simp
 obj:=fun n h Z p hp=>Z.ob hp
 keep:=fun n h h' Z kk=>⟨kk z (by simp) _ Z.z,kk T (by simp) _ Z.t,Z.o.elim fun x r=>r.elim fun y r=>r.elim fun u r=>⟨x,y,u,kk O (by simp) _ r⟩,aR Z.i fun o e=>kk i (by simp) o e,aR Z.j fun o e=>kk j (by simp) o e,aR Z.l fun o e=>kk l (by simp) o e⟩
 item:=by
  intro X hP hw hK hc n pins s σ H E I hf Z hg
  subst hP hw hK
  obtain ⟨xs,ys,zs,x,y,r,q1,q2,q3,e1,e2,e3⟩:=hg
  obtain ⟨its,rv1,sr1⟩:=q1.get I
  obtain ⟨jts,rv2,sr2⟩:=q2.get I
  obtain ⟨lts,rv3,sr3⟩:=q3.get I
  obtain ⟨u,hu,ru⟩:=rv1.get e1
  obtain ⟨v,hv,rv⟩:=rv2.get e2
  obtain ⟨t,ht,rt⟩:=rv3.get e3
  have f4:∀ c∈[z,O,i,j,l],cP X pins H c:=fun c hc=>hf c (by simp only [List.mem_cons,List.not_mem_nil,or_false] at hc ⊢;rcases hc with h | h | h | h | h <;> simp [h])
  refine mX D Z (fun h' kk=>ZSr.keep (k:=true) sr1 kk) (fun hc=>q1.ne I (f4 a hc) rfl) (fun h' kk=>ZSr.keep (k:=true) sr2 kk) (fun hc=>q2.ne I (f4 b hc) rfl) (fun h' kk=>ZSr.keep (k:=true) sr3 kk) (fun hc=>q3.ne I (f4 c hc) rfl) (by simpa using hu) (by simpa using hv) (by simpa using ht) fun h' Z' p' kk=>?_
  have sz:s.heap.objs.size<=s.heap.objs.size:=Ad _
  have I1:Inv X pins σ (upd H s.heap.objs.size (.tup [x,y,r])) { s with heap:=h' }:=turnT (t':=s.toks) I f4 kk sz ⟨by show 3<=sizeLine;decide,[u,v,t],.cons ru (.cons rv (.cons rt .nil)),⟨_,p',rfl,_,rfl⟩⟩
  refine ⟨_,rfl,wpAny_letOwnedTupleGo_zip (s:={ s with heap:=h' }) Z'.z fun h2 z2 e3'=>?_⟩
  have nz:∀ c∈[z,T,O,i,j,l],(upd H s.heap.objs.size (.tup [x,y,r])) c=none:=fun c hc=>by
   obtain ⟨o,ho,_⟩:=Z.ob hc
   rw [az (Ab (Heap.lt_size ho))]
   exact (hf c hc).1
  obtain ⟨⟨d1,d2,d3,d4,d5⟩,_⟩:=D.ne
  have I2:Inv X pins σ (upd H s.heap.objs.size (.tup [x,y,r])) { s with heap:=h2 }:=tM (s:={ s with heap:=h' }) (t':=s.toks) (ch:=[z]) I1 (fun c hc=>by
   obtain rfl:=Ai hc
   exact ⟨nz _ (by simp),(hf _ (by simp)).2⟩) fun c o hc e=>e3'.extBut _ _ (fun r=>hc (by simp [r])) e
  refine ⟨.ref s.heap.objs.size,_,I2,rfl,⟨_,I.hok.fresh sz,rfl,fun xs' ys' zs' x' y' r' r1 r2 r3 r4 r5 r6=>?_⟩,⟨z2,e3'.extBut _ _ d1 Z'.t,Z'.o.elim fun p1 r=>r.elim fun p2 r=>r.elim fun p3 r=>⟨p1,p2,p3,e3'.extBut _ _ d2 r⟩,aR Z'.i fun o e=>e3'.extBut _ _ d3 e,aR Z'.j fun o e=>e3'.extBut _ _ d4 e,aR Z'.l fun o e=>e3'.extBut _ _ d5 e⟩,nz⟩
  rw [r1.inj I q1] at r4
  rw [r2.inj I q2] at r5
  rw [r3.inj I q3] at r6
  rw [e1] at r4;rw [e2] at r5;rw [e3] at r6;cases r4;cases r5;cases r6
  rfl
 done:=by
  intro X hP hw hK hc n pins s σ H E I hf Z hg
  subst hP hw hK
  obtain ⟨xs,q1,he⟩:=hg
  obtain ⟨its,rv,sr⟩:=q1.get I
  have l1:=rv.length
  have f4:∀ c∈[z,O,i,j,l],cP X pins H c:=fun c hc=>hf c (by simp only [List.mem_cons,List.not_mem_nil,or_false] at hc ⊢;rcases hc with h | h | h | h | h <;> simp [h])
  exact om (I.ok.hd hc) D Z (fun h' kk=>ZSr.keep (k:=true) sr kk) (fun hc=>q1.ne I (f4 a hc) rfl) (by simp;omega) fun h' kk=>⟨rfl,tM (t':=s.toks) I f4 kk⟩
 self:=fun _ _ _ _ _ Z h=>wpAny_pyIter_zip Z.z h
def Zp3 (K:Ao) (vs:List V) (H:Hp) (R:It->Hp->Prop):Prop:=∃ a b c xs ys zs,vs=[.ref a,.ref b,.ref c]/\SqK true K H a xs/\SqK true K H b ys/\SqK true K H c zs/\R (It3 K a b c) H
def tZ (K:Ao) (ta:TA):TI:=fun σ H R=>ta σ H fun vs H1=>Zp3 K vs H1 R
theorem mY {X:Cx} {pins:List (Addr×Obj)} {σ : St} {H:Hp} {s:Shared} {a b c:Addr} {xs ys zs:List V} {R:It->Hp->Prop} {E:Value->Shared->Prop} {es:List Expr} {x1:Nat} {tp:Pos} (I:Inv X pins σ H s) (q1:SqK true X.K H a xs) (q2:SqK true X.K H b ys) (q3:SqK true X.K H c zs) (q:R (It3 X.K a b c) H) :
  wpAny (model X.prog X.w) X.A (call (.type "zip") [.ref a,.ref b,.ref c]) (fun v s1=>wpAny (model X.prog X.w) X.A (pyIter v) (PIE X pins σ (.Tuple es x1 tp) R) E s1) E s:=by
 obtain ⟨its,rv1,sr1⟩:=q1.get I
 obtain ⟨jts,rv2,sr2⟩:=q2.get I
 obtain ⟨lts,rv3,sr3⟩:=q3.get I
 have up6:∀ p o,s.heap.get? p=some o->(jt s.heap a b c).get? p=some o:=fun p o e=>by
  unfold jt
  exact Heap.get?_push_of_some _ (Heap.get?_push_of_some _ (Heap.get?_push_of_some _ (Heap.get?_push_of_some _ (Heap.get?_push_of_some _ (Heap.get?_push_of_some _ e)))))
 have Z:lK (jt s.heap a b c) (s.heap.objs.size+5) (s.heap.objs.size+3) (s.heap.objs.size+4) s.heap.objs.size (s.heap.objs.size+1) (s.heap.objs.size+2) a b c .none 0:=by
  unfold jt
  refine ⟨?_,?_,⟨.none,.none,.none,?_⟩,iF (k:=true) ?_,iF (k:=true) ?_,iF (k:=true) ?_⟩
  ·exact Heap.get?_push_at (by simp only [Heap.size_push]) rfl
  ·exact Heap.get?_push_of_some _ (Heap.get?_push_of_some _ (Heap.get?_push_at (by simp only [Heap.size_push]) rfl))
  ·exact Heap.get?_push_of_some _ (Heap.get?_push_at (by simp only [Heap.size_push]) rfl)
  ·exact Heap.get?_push_of_some _ (Heap.get?_push_of_some _ (Heap.get?_push_of_some _ (Heap.get?_push_of_some _ (Heap.get?_push_of_some _ (Heap.get?_push_at rfl rfl)))))
  ·exact Heap.get?_push_of_some _ (Heap.get?_push_of_some _ (Heap.get?_push_of_some _ (Heap.get?_push_of_some _ (Heap.get?_push_at (by simp only [Heap.size_push]) rfl))))
  ·exact Heap.get?_push_of_some _ (Heap.get?_push_of_some _ (Heap.get?_push_of_some _ (Heap.get?_push_at (by simp only [Heap.size_push]) rfl)))
 have D:Z3p (s.heap.objs.size+5) (s.heap.objs.size+3) (s.heap.objs.size+4) s.heap.objs.size (s.heap.objs.size+1) (s.heap.objs.size+2):=⟨by simp⟩
 refine callType_new F.called_zip (by decide) (fL _ _ _) (gw _ _ _) (fun obj=>c9 obj _ _ _) F.entry_zip_new (oj a b c its.toArray jts.toArray lts.toArray) ⟨sr1,sr2,sr3,?_⟩
 have I1:Inv X pins σ H { s with heap:=jt s.heap a b c }:=I.kept (t':=s.toks) up6
 refine ⟨⟨_,Z.z,rfl⟩,wpAny_pyIter_zip (s:={ s with heap:=jt s.heap a b c }) Z.z ⟨_,_,_,_,H,rfl,I1,m8 D,Z,fun p hp=>?_,q⟩⟩
 have ge:s.heap.objs.size<=p:=by
  simp only [List.mem_cons,List.not_mem_nil,or_false] at hp
  rcases hp with rfl | rfl | rfl | rfl | rfl | rfl <;> first | exact Nat.le_add_right _ _ | exact Ad _
 exact I.sI ge (I.hok.fresh ge)
theorem rC {X:Cx} {es:List Expr} {x1:Nat} {tp p pos:Pos} {e1 e2 e3:Expr} {ta:TA} (hg:Gl X "zip") (hm:X.mg "zip" = none) (ha:PA X [e1,e2,e3] ta) (hs:starEach [e1,e2,e3] X.env=[(false,eval e1 X.env),(false,eval e2 X.env),(false,eval e3 X.env)]:=by rfl) (hs2:starEach [e2,e3] X.env=[(false,eval e2 X.env),(false,eval e3 X.env)]:=by rfl) :
  PI X (.Tuple es x1 tp) (.Call (.Name "zip" p) [e1,e2,e3] [] pos) (tZ X.K ta):=by
 intro pins s σ H R I h
 refine Call_ (c6 I hg hm boot_zip (PyProof.Rows.callWith_type1 (thn (ha pos pins s σ H _ I h) fun us s1 ⟨vs,H1,I1,r1,q1⟩=>?_) (by rw [hs,hs2]) (by rw [hs2];rfl)))
 obtain ⟨a,b,c,xs,ys,zs,rfl,w1,w2,w3,q⟩:=q1
 cases r1 with
 | cons ru r2=>
  cases r2 with
  | cons rv r3=>
   cases r3 with
   | cons rt r4=>
    cases r4
    cases ru;cases rv;cases rt
    exact mY I1 w1 w2 w3 q
theorem vc {K:Ao} {tl:TA} {σ : St} {H:Hp} {R:It->Hp->Prop} (h:tl σ H fun vs H1=>Zp3 K vs H1 R):tZ K tl σ H R:=h
theorem su {K:Ao} {H:Hp} {R:It->Hp->Prop} {a b c:Addr} {xs ys zs:List V} (h1:SqL K H a xs) (h2:SqL K H b ys) (h3:SqL K H c zs) (h:R (It3 K a b c) H):Zp3 K [.ref a,.ref b,.ref c] H R:=⟨a,b,c,xs,ys,zs,rfl,h1,h2,h3,h⟩
theorem sD {K:Ao} {σ : St} {H:Hp} {D:Ends} {g:TG} {tb:TS} {a b c:Addr} (xs ys zs:List V) (l1:xs.length<=ys.length) (l2:xs.length<=zs.length) (Pv:Nat->St->Hp->Prop) (h0:Pv 0 σ H) (hl:∀ i σ H,i<=xs.length->Pv i σ H->SqL K H a xs/\SqL K H b ys/\SqL K H c zs)
  (hs:∀ i x y r T σ H,xs[i]?=some x->ys[i]?=some y->zs[i]?=some r->Pv i σ H->H T=none->g (.ref T) σ (upd H T (.tup [x,y,r])) fun σ2 H2=>tb { D with nx:=Pv (i+1),ct:=Pv (i+1),bk:=D.nx } σ2 H2)
  (hd:∀ σ H,Pv xs.length σ H->D.nx σ H):tG (It3 K a b c) g tb D σ H:=by
 refine ⟨fun i m σ H=>m=xs.length - i/\i<=xs.length/\Pv i σ H,⟨_,rfl,Ae _,h0⟩,?_⟩
 rintro i m σ H ⟨rfl,hi,p⟩
 obtain ⟨q1,q2,q3⟩:=hl i σ H hi p
 by_cases hlt:i < xs.length
 ·have k2:i < ys.length:=by omega
  have k3:i < zs.length:=by omega
  refine .inr ⟨⟨xs,ys,zs,xs[i],ys[i],zs[i],q1,q2,q3,by simp [hlt],by simp [k2],by simp [k3]⟩,Pv (i+1),fun σ' H' p'=>⟨xs.length - (i+1),by omega,rfl,hlt,p'⟩,fun v H' yl=>?_⟩
  obtain ⟨T,nT,rfl,yl⟩:=yl
  rw [yl xs ys zs xs[i] ys[i] zs[i] q1 q2 q3 (by simp [hlt]) (by simp [k2]) (by simp [k3])]
  exact hs i xs[i] ys[i] zs[i] T σ H (by simp [hlt]) (by simp [k2]) (by simp [k3]) p nT
 ·have e:i=xs.length:=by omega
  subst e
  exact .inl ⟨⟨xs,q1,Ad _⟩,hd σ H p⟩
end L4
namespace Law
open PySem PySem.Spec PyProof.Rows L2 L3 L4
theorem wN {c s m l k m' l' k':Int} (n:ShN c s) (l0 : 0<=l) (l1:l < s) (k0 : 0<=k) (k1:k < c) (l0' : 0<=l') (l1':l' < s) (k0' : 0<=k') (k1':k' < c) :
  mk c s m l k < mk c s m' l' k'↔(m < m'\/(m=m'/\(l < l'\/(l=l'/\k < k')))):=by
 obtain ⟨c1,c2,s1,s2⟩:=n
 have key:∀ {a b x y t:Int},1<=t->0<=x->x < t->0<=y->y < t->(a * t+x < b * t+y↔(a < b\/(a=b/\x < y))):=by
  intro a b x y t t1 x0 x1 y0 y1
  constructor
  ·intro h
   by_cases e:a < b
   ·exact .inl e
   ·right
    by_cases e2:a=b
    ·subst e2;exact ⟨rfl,by omega⟩
    ·exfalso
     have h1:(b+1) * t<=a * t:=Int.mul_le_mul_of_nonneg_right (by omega) (by omega)
     rw [Int.add_mul,Int.one_mul] at h1
     omega
  ·rintro (h | ⟨rfl,h⟩)
   ·have h1:(a+1) * t<=b * t:=Int.mul_le_mul_of_nonneg_right (by omega) (by omega)
    rw [Int.add_mul,Int.one_mul] at h1
    omega
   ·omega
 unfold mk
 rw [key c1 k0 k1 k0' k1',key s1 l0 l1 l0' l1']
 constructor
 ·rintro ((h | ⟨rfl,h⟩) | ⟨h,h2⟩)
  ·exact .inl h
  ·exact .inr ⟨rfl,.inl h⟩
  ·by_cases e:m=m'
   ·subst e;exact .inr ⟨rfl,.inr ⟨by omega,h2⟩⟩
   ·exfalso
    by_cases e2:m < m'
    ·have:=(key (a:=m) (b:=m') (x:=l) (y:=l') s1 l0 l1 l0' l1').mpr (.inl e2)
     omega
    ·have:=(key (a:=m') (b:=m) (x:=l') (y:=l) s1 l0' l1' l0 l1).mpr (.inl (by omega))
     omega
 ·rintro (h | ⟨rfl,h | ⟨rfl,h⟩⟩)
  ·exact .inl (.inl h)
  ·exact .inl (.inr ⟨rfl,h⟩)
  ·exact .inr ⟨rfl,h⟩
theorem mk_inj {c s m l k m' l' k':Int} (n:ShN c s) (l0 : 0<=l) (l1:l < s) (k0 : 0<=k) (k1:k < c) (l0' : 0<=l') (l1':l' < s) (k0' : 0<=k') (k1':k' < c) :
  mk c s m l k=mk c s m' l' k'↔(m=m'/\l=l'/\k=k'):=by
 constructor
 ·intro e
  have a:=fU (m:=m) n l0 l1 k0 k1
  have b:=fU (m:=m') n l0' l1' k0' k1'
  rw [e] at a
  exact ⟨a.1.symm.trans b.1,a.2.1.symm.trans b.2.1,a.2.2.symm.trans b.2.2⟩
 ·rintro ⟨rfl,rfl,rfl⟩;rfl
structure n6 (c s m l k:Int):Prop where
 m0 : 0<=m
 m1:m<=10 ^ 30
 l0 : 0<=l
 l1:l < s
 k0 : 0<=k
 k1:k < c
structure Pt where
 a:Addr
 m:Int
 l:Int
 k:Int
def ptV (ps:List Pt):List V:=ps.map fun x=>V.ref x.a
def Pt.mk' (c s:Int) (x:Pt):Int:=Law.mk c s x.m x.l x.k
def gr (H:Hp) (ps:List Pt):Prop:=∀ x∈ps,H x.a=some (.tup [.int x.m,.int x.l,.int x.k])
def mV (c s:Int) (ps:List Pt):Prop:=∀ x∈ps,n6 c s x.m x.l x.k
theorem gr.same {H H':Hp} {ps:List Pt} (h:gr H ps) (s:aN H H'):gr H' ps:=fun x hx=>s _ _ (h x hx)
def rm (ps:List Pt):Pr:=⟨fun H=>gr H ps,fun t h=>fun x hx=>t _ _ (h x hx)⟩
theorem rX {H:Hp} {q:Addr} {o:HO} (h:H q=some o):Led (·=q) H H [(q,Eo o)] []:=
 ⟨fun x hx=>by rw [Ai hx];exact ⟨o,h,rfl⟩,by simp,fun x hx=>.inl (by rw [Ai hx]),fun _ _ h _=>h,fun _ h=>by simp at h⟩
theorem iR (ps:List Pt):(ptV ps).length=ps.length:=zS _
theorem pB {ps:List Pt} {x:Pt}:ptV (ps++[x])=ptV ps++[V.ref x.a]:=by unfold ptV;rw [zU];rfl
theorem l7 {ps:List Pt} {i:Nat} {v:V} (h:(ptV ps)[i]?=some v):∃ x,ps[i]?=some x/\v = .ref x.a:=by
 unfold ptV at h
 rw [zO] at h
 cases e:ps[i]? with
 | none=>rw [e] at h;cases h
 | some x=>rw [e] at h;exact ⟨x,rfl,(zW h).symm⟩
theorem uT {c s:Int} {x y:Pt} (n:ShN c s) (h1:n6 c s x.m x.l x.k) (h2:n6 c s y.m y.l y.k):LS.ee [x.m,x.l,x.k] [y.m,y.l,y.k]=decide (x.mk' c s < y.mk' c s):=by
 rw [x6]
 exact (decide_eq_decide.mpr (wN n h1.l0 h1.l1 h1.k0 h1.k1 h2.l0 h2.l1 h2.k0 h2.k1)).symm
def ptD (x:Pt):Dt:=.tup [.int x.m,.int x.l,.int x.k]
theorem gP {K:Ao} {H:Hp} {x:Pt} (h:H x.a=some (.tup [.int x.m,.int x.l,.int x.k])):At K H (.ref x.a) (ptD x):=.tup (SqT.of h) (.cons (.int _) (.cons (.int _) (.cons (.int _) .nil)))
theorem sN {ds:List Dt} {n:Nat} (h:∀ d∈ds,dep d<=n):deps ds<=n:=by
 induction ds with
 | nil=>exact Ae _
 | cons d ds ih=>
  rw [deps]
  exact Nat.max_le.mpr ⟨h d (.head _),ih fun e he=>h e (.tail _ he)⟩
section
variable {P:Program} {w:World} {K:Ao} {mg:Str->Option Value} {base:Heap} {CX:CXT}
def iK:Sp:=fun vs H Q _=>∃ (p:Addr) (m b:Int),vs=[.ref p,.int m]/\aH H p b/\b<=100000000/\1<=m/\m<=1000000/\∀ (r:Int) (H':Hp),0<=r->r < m->aH H' p (b+2048)->Oth p H H'->Q (.int r) H'
theorem ux {r x y:Int} (h0 : 0<=r) (h1:r < 2):∃ v,atI [V.int x,V.int y] r=some (.int v)/\(v=x\/v=y):=by
 obtain rfl | rfl:r=0\/r=1:=by omega
 ·exact ⟨x,rfl,.inl rfl⟩
 ·exact ⟨y,rfl,.inr rfl⟩
theorem pX (D:Dat K mg "_law_below" "_law_below" (top 25) ["_law_hand_here", "_law_many"]) (NE:bQ CX) (aq:Cal P w K mg base CX "_law_pick" 11 ["_law_hand_here", "_law_many"] cZ):Cal P w K mg base CX "_law_below" 12 ["_law_hand_here", "_law_many"] iK:=by
 have S:=D.sc (N:=["_law_hand_here", "_law_many", "_law_way"]) (by fail "s")
 fail "d1"
 obtain ⟨p,m,b,rfl,hh,hb,m1,m2,q⟩:=h
 fail "d5"
 refine ⟨_,(@ah _ _ _ _ _ (@aI _ _ 2 _ _ _ _ S.nd rfl (by fail "o") (@aB _ _ _ _ _ _ _ _ _ _ _ _ aq (by fail "r") NE.pass (@aa _ _ _ _ _ (@pv _ 0 _ _ (by rfl) (by first | exact Or.inl rfl | exact Or.inr (Or.inl rfl) | exact Or.inr (Or.inr rfl)) (by decide) (by decide)) (@aa _ _ _ _ _ (@af _ _ _ _) (@ai _) (by rfl)) (by rfl)) (by rfl) (by decide) (by rfl) (by rfl)) (by rfl) (by first | exact .inl rfl | exact .inr rfl | assumption)) (@ah _ _ _ _ _ (@aW _ _ _ _ _ _ _ _ (@aF _ _ _ _ _ _ _ _ (@pR _) (@pv _ 2 _ _ (by rfl) (by first | exact Or.inl rfl | exact Or.inr (Or.inl rfl) | exact Or.inr (Or.inr rfl)) (by decide) (by decide)) (@af _ _ _ _) (@aJ _ _ (by decide) (by decide))) (@ak _ _ _ (@aA _ _ _ _ (@bF _ _ _ _ _ _ _ (@bg _) (@iW _ _ _ _ (@aa _ _ _ _ _ (@af _ _ _ _) (@aa _ _ _ _ _ (@ao _ _ _ _ _ _ _ _ (@d7 _) (@pv _ 1 _ _ (by rfl) (by first | exact Or.inl rfl | exact Or.inr (Or.inl rfl) | exact Or.inr (Or.inr rfl)) (by decide) (by decide)) (@af _ _ _ _)) (@ai _) (by rfl)) (by rfl))) (@pv _ 2 _ _ (by rfl) (by first | exact Or.inl rfl | exact Or.inr (Or.inl rfl) | exact Or.inr (Or.inr rfl)) (by decide) (by decide)) (fun _ _=>rfl)))) (@aG _)) (@ak _ _ _ (@aA _ _ _ _ (@aB _ _ _ _ _ _ _ _ _ _ _ _ aq (by fail "r") NE.pass (@aa _ _ _ _ _ (@pv _ 0 _ _ (by rfl) (by first | exact Or.inl rfl | exact Or.inr (Or.inl rfl) | exact Or.inr (Or.inr rfl)) (by decide) (by decide)) (@aa _ _ _ _ _ (@pv _ 1 _ _ (by rfl) (by first | exact Or.inl rfl | exact Or.inr (Or.inl rfl) | exact Or.inr (Or.inr rfl)) (by decide) (by decide)) (@ai _) (by rfl)) (by rfl)) (by rfl) (by decide) (by rfl) (by rfl)))))),?_⟩
 have L:=dw hh
 dsimp only [bW]
 fail "go"
 refine bN L .head (by decide) (by decide) (by omega) fun r1 H1 a1 a2 L _=>?_
 fail "go"
 refine f9 (fun c=>?_) (fun c=>?_)
 ·fail "go"
  obtain ⟨v,hv,hv2⟩:=ux (x:=0) (y:=m - 1) a1 c
  refine uc L' .head hv ?_
  exact q _ _ (by omega) (by omega) ((aM.at (L'.at_ _ (.tail _ (.head _)))).mono (by omega)) L'.fr
 fail "go"
 refine bN L .head (by omega) (by omega) (by omega) fun r2 H2 b1 b2 L _=>?_
 exact q _ _ (by omega) (by omega) ((aM.at (L.at_ _ (.head _))).mono (by omega)) L.fr
theorem gG {PP:Addr->Prop} {H0 H:Hp} {l l':List (Addr×Ob)} {fs:List Pr} {p:Addr} {Q:VK} {E:XK} {m b:Int} (L:Led PP H0 H l fs) (mm:Put p (aM b) (aM (b+2048)) l l') (hb:b<=100000000) (m1 : 1<=m) (m2:m<=1000000)
  (q:∀ r H',0<=r->r < m->Led PP H0 H' l' fs->Chg p H H'->Q (.int r) H'):iK [.ref p,.int m] H Q E:=
 have hh:=aM.at (L.at_ _ mm.mem)
 ⟨p,m,b,rfl,hh,hb,m1,m2,fun r H' r0 r1 hh' o=>q r H' r0 r1 (L.set mm (hh.ts o) hh'.ob) (hh.ts o)⟩
end
end Law
namespace L4
open PySem PySem.Spec PyProof.Rows L2 L3 PySem.W
def Its (x:Str):It:=⟨fun i _=>i < x.cps.size,fun i H y H'=>H'=H/\∃ c,x.cps[i]?=some c/\y = .str ⟨#[c]⟩,fun i _=>x.cps.size<=i⟩
theorem oF {P:Program} {w:World} {K:Ao} {tg:Expr} {ty:String} (hty:ty = "str_ascii_iterator" \/ ty = "str_iterator") (x:Str) (t:Tok) (it:Addr):Turn P w K tg (Its x) [it] it (fun i h=>h.IsStrIter it ty x t i) where
 mem:=by simp
 obj:=fun i h st b hb=>by
  have e:b=it:=by simpa using hb
  subst e
  obtain ⟨o,e,c,d⟩:=st
  exact ⟨o,e,fun v z=>by rw [d] at z;cases z⟩
 keep:=fun i h h' st k=>let ⟨o,e,r⟩:=st;⟨o,k it (by simp) o e,r⟩
 item:=by
  intro X hP hw hK hc i pins s σ H E I hf st hg
  subst hP hw hK
  obtain ⟨f0,f1,f2,f3,f4,f5⟩:=hf it (by simp)
  have hi:i < x.cps.size:=hg
  have go:∀ h' tk,h'.IsStrIter it ty x t (i+1)->(∀ b o,b≠it->s.heap.get? b=some o->h'.get? b=some o)->wpAny (model X.prog X.w) X.A (letOwnedTupleGo tg (.ref it) (.str ⟨#[x.cps[i]]⟩ s.toks)) (fun _ s2=>∃ y H',Inv X pins σ H' s2/\RelV y (.str ⟨#[x.cps[i]]⟩ s.toks)/\(Its x).yld i H y H'/\s2.heap.IsStrIter it ty x t (i+1)/\∀ b∈[it],H' b=none) E { s with heap:=h',toks:=tk }:=fun h' tk st' kk=>by
   have I1:Inv X pins σ H { s with heap:=h',toks:=tk }:=I.turned (fun b o hb e=>kk b o hb e) f0 f1 f3 f4 f5
   obtain ⟨o,e,c,d⟩:=id st'
   exact qh (s:={ s with heap:=h',toks:=tk }) e c d (by rcases hty with rfl | rfl <;> decide) ⟨.str ⟨#[x.cps[i]]⟩,H,I1,⟨_,rfl⟩,⟨rfl,_,by simp [hi],rfl⟩,st',fun b hb=>(hf b hb).1⟩
  rcases hty with rfl | rfl
  ·exact wpAny_pyNext_ascii_item st (c:=x.cps[i]) (by simp [hi]) fun h' st' sb=>⟨_,rfl,go h' _ st' fun b o hb e=>(sb.2 b hb).trans e⟩
  ·exact wpAny_pyNext_wide_item st (c:=x.cps[i]) (by simp [hi]) fun h' st' sb=>⟨_,rfl,go h' _ st' fun b o hb e=>(sb.2 b hb).trans e⟩
 done:=by
  intro X hP hw hK hc i pins s σ H E I hf st hg
  subst hP hw hK
  obtain ⟨f0,f1,f2,f3,f4,f5⟩:=hf it (by simp)
  have hi:x.cps.size<=i:=hg
  rcases hty with rfl | rfl
  ·exact wpAny_pyNext_ascii_end (I.ok.hd hc) st (by simp [hi]) fun h' eb=>⟨rfl,I.turned (t':=s.toks) (fun b o hb e=>eb b o hb e) f0 f1 f3 f4 f5⟩
  ·exact wpAny_pyNext_wide_end (I.ok.hd hc) st (by simp [hi]) fun h' eb=>⟨rfl,I.turned (t':=s.toks) (fun b o hb e=>eb b o hb e) f0 f1 f3 f4 f5⟩
 self:=fun _ _ _ _ _ st h=>by
  rcases hty with rfl | rfl
  ·exact wpAny_pyIter_striter_ascii st h
  ·exact wpAny_pyIter_striter_wide st h
def WkS (x:V) (H:Hp) (R:It->Hp->Prop):Prop:=∃ z,x = .str z/\R (Its z) H
def wV (tl:TE):TI:=fun σ H R=>tl σ H fun x H1=>WkS x H1 R
section
variable {X:Cx} {tg:Expr}
theorem pI {l:Expr} {tl:TE} (hl:PE X l tl):PI X tg l (wV tl):=by
 intro pins s σ H R I h
 refine thn (hl pins s σ H _ I h) fun v s1 ⟨x,H1,I1,r1,z,e,q⟩=>?_
 subst e
 obtain ⟨t,rfl⟩:=r1
 have fin:∀ {ty:String} (hty:ty = "str_ascii_iterator" \/ ty = "str_iterator"),PIE X pins σ tg R (.ref s1.heap.objs.size) { s1 with heap:=s1.heap.push { cls:=.type ty,data:=.fields #[.str z t,.int 0 0] } }:=fun {ty} hty=>
  ⟨s1.heap.objs.size,[s1.heap.objs.size],_,_,H1,rfl,I1.kept (t':=s1.toks) fun b o e=>Heap.get?_push_of_some _ e,oF hty z t _,⟨_,Heap.get?_push_size _ rfl,rfl,rfl⟩,fun b hb=>by
   have e:b=s1.heap.objs.size:=by simpa using hb
   subst e
   exact I1.sI (Ad _) (I1.hok.fresh (Ad _)),q⟩
 cases ha:z.cps.all (· < 128)
 ·exact wpAny_pyIter_wide ha (fin (.inr rfl))
 ·exact wpAny_pyIter_ascii ha (fin (.inl rfl))
def lY:V->List V->Hp->VK->Prop:=fun x xs H Q=>∃ z y i rest,x = .str z/\xs=[.str y]/\Builtin.Str.occurrences z y 0 z.length 1=i::rest/\Q (.int (i:Nat)) H
theorem mh:MtR X "str.index" lY:=by
 intro pins s σ H x xs v us Q I rx rs h
 obtain ⟨z,y,i,rest,rfl,rfl,ho,q⟩:=h
 obtain ⟨t,rfl⟩:=rx
 obtain ⟨u,rfl,ru⟩:=vals1 rs
 obtain ⟨t',rfl⟩:=ru
 exact call_gives F.slot_str_index (typeIs_str _ _ _) F.entry_str_index (F.args_str_index_2 _ _) (gives_str_index z y t t' i rest ho) ⟨.int _,H,I.tok _,⟨_,rfl⟩,q⟩
def we:V->Option Int->Option Int->Hp->VK->Prop:=fun x lo hi H Q=>∃ z:Str,x = .str z/\z.length<=sizeLine/\Q (.str (Txt.slice z lo hi)) H
theorem uE:SlR X we:=by
 intro pins s σ H x v vl vu lo hi sl Q I rx hs pl pu h
 obtain ⟨z,rfl,hz,q⟩:=h
 obtain ⟨t,rfl⟩:=rx
 have fin:∀ (t':Tok) (k:Nat),EP X pins σ Q (.str (Txt.slice z lo hi) t') { s with toks:=k }:=fun t' k=>⟨.str _,H,I.tok _,⟨_,rfl⟩,q⟩
 refine ⟨"str",_,F.slot_str_getitem.lookup,typeIs_str _ _ _,?_⟩
 cases pl with
 | none=>
  cases pu with
  | none=>exact wpAny_getItem_str_slice (l:=none) (u:=none) (st:=none) hs rfl (post_val_or_str ⟨z6 (Txt.slice_le z _ _) hz,fin⟩)
  | int j uj=>exact wpAny_getItem_str_slice (l:=none) (u:=some (j,uj)) (st:=none) hs rfl (post_val_or_str ⟨z6 (Txt.slice_le z _ _) hz,fin⟩)
 | int i ui=>
  cases pu with
  | none=>exact wpAny_getItem_str_slice (l:=some (i,ui)) (u:=none) (st:=none) hs rfl (post_val_or_str ⟨z6 (Txt.slice_le z _ _) hz,fin⟩)
  | int j uj=>exact wpAny_getItem_str_slice (l:=some (i,ui)) (u:=some (j,uj)) (st:=none) hs rfl (post_val_or_str ⟨z6 (Txt.slice_le z _ _) hz,fin⟩)
end
section
variable {K:Ao} {σ : St} {H:Hp} {Q:VK} {D:Ends} {wi:TI} {g:TG} {tb:TS} {ta:TE} {R:It->Hp->Prop} {tc:TT} {te:TE}
theorem w6 {z:Str} {lo hi:Option Int} (hz:z.length<=sizeLine) (h:Q (.str (Txt.slice z lo hi)) H):we (.str z) lo hi H Q:=⟨z,rfl,hz,h⟩
theorem t9 (h:ta σ H fun x H1=>WkS x H1 R):wV ta σ H R:=h
theorem qj {z:Str} (h:R (Its z) H):WkS (.str z) H R:=⟨z,rfl,h⟩
theorem vm {x:Str} (Pv:Nat->St->Hp->Prop) (h0:Pv 0 σ H) (hs:∀ i c σ H,x.cps.toList[i]?=some c->Pv i σ H->g (.str ⟨#[c]⟩) σ H fun σ2 H2=>tb { D with nx:=Pv (i+1),ct:=Pv (i+1),bk:=D.nx } σ2 H2)
  (hd:∀ σ H,Pv x.cps.toList.length σ H->D.nx σ H):tG (Its x) g tb D σ H:=by
 refine ⟨fun i m σ H=>m=x.cps.size - i/\i<=x.cps.size/\Pv i σ H,⟨x.cps.size,by simp,Ae _,h0⟩,?_⟩
 rintro i m σ H ⟨rfl,hi,p⟩
 by_cases hlt:i < x.cps.size
 ·refine .inr ⟨hlt,Pv (i+1),fun σ' H' p'=>⟨x.cps.size - (i+1),by omega,rfl,hlt,p'⟩,fun y H' ⟨e,c,hc,ey⟩=>?_⟩
  subst e ey
  exact hs i c σ _ (by rw [Array.getElem?_toList];exact hc) p
 ·have e:i=x.cps.size:=by omega
  subst e
  exact .inl ⟨Ad _,hd σ H (by rw [Array.length_toList];exact p)⟩
theorem qm {x:Str} {σb:St} (Pv:Nat->List V->Hp->Prop) (h0:Pv 0 [] H) (hl:∀ i ys H,i<=x.cps.toList.length->Pv i ys H->ys.length<=sizeLine)
  (hs:∀ i c ys H,x.cps.toList[i]?=some c->Pv i ys H->g (.str ⟨#[c]⟩) σb H fun σ2 H2=>tc σ2 H2 fun b H3=>if b=true then te σ2 H3 fun y H4=>Pv (i+1) (ys++[y]) H4 else Pv (i+1) ys H3) (hd:∀ ys H,Pv x.cps.toList.length ys H->∀ p,H p=none->Q (.ref p) (upd H p (.lst ys))) :
  qK (Its x) Q σb g tc te H:=by
 refine ⟨fun i m ys H=>m=x.cps.size - i/\i<=x.cps.size/\Pv i ys H,⟨x.cps.size,by simp,Ae _,h0⟩,?_⟩
 rintro i m ys H ⟨rfl,hi,p⟩
 refine ⟨hl i ys H (by rw [Array.length_toList];exact hi) p,?_⟩
 by_cases hlt:i < x.cps.size
 ·refine .inr ⟨hlt,Pv (i+1),fun ys' H' p'=>⟨x.cps.size - (i+1),by omega,rfl,hlt,p'⟩,fun y H' ⟨e,c,hc,ey⟩=>?_⟩
  subst e ey
  exact hs i c ys _ (by rw [Array.getElem?_toList];exact hc) p
 ·have e:i=x.cps.size:=by omega
  subst e
  exact .inl ⟨Ad _,hd ys H (by rw [Array.length_toList];exact p)⟩
end
theorem kJ (a:Nat) (r:List Nat):Txt.slice ⟨(a::r).toArray⟩ (some 1) none=⟨r.toArray⟩:=by
 have hn:(⟨(a::r).toArray⟩:Str).length=r.length+1:=by simp [Str.length]
 have hi:Builtin.Str.strSliceIndices (some 1) none 1 (r.length+1)=(List.range r.length).map (1 + ·):=by
  have e:=sliceRange_one 1 (r.length+1)
  rw [Nat.add_sub_cancel] at e
  rw [<- e]
  unfold Builtin.Str.strSliceIndices
  simp only [show (1:Int) > 0 by decide,if_true,show ¬ ((1:Int) < 0) by decide,if_false]
  rw [show max (0:Int) (min 1 ((r.length+1:Nat):Int))=((1:Nat):Int) by omega]
 unfold Txt.slice
 rw [hn,hi,if_neg (by simp),pick_run]
 simp
end L4
namespace Law
open PySem PySem.Spec PyProof.Rows L2 L3 L4
variable {P:Program} {w:World} {K:Ao} {mg:Str->Option Value} {base:Heap} {CX:CXT} {C:Addr}
def sgs:Str:="0123456789abcdefghjkmnpqrstvwxyz"
def cd (n:Nat):Nat:=sgs.cps.toList.getD n 0
theorem qV:sgs.cps.toList.length=32:=by decide +kernel
theorem kK {i:Int} (h0 : 0<=i) (h:i < 32):atI sgs.cps.toList i=some (cd i.toNat):=by
 have hk:i.toNat < sgs.cps.toList.length:=by rw [qV];omega
 have ek:i=((i.toNat:Nat):Int):=by omega
 have q:atI sgs.cps.toList ((i.toNat:Nat):Int)=some (cd i.toNat):=fE (by unfold cd;rw [List.getD_eq_getElem?_getD,zD hk];rfl)
 rw [<- ek] at q
 exact q
def Tf:Nat->Nat->List Nat
 | 0,_=>[]
 | f+1,n=>if n=0 then [] else Tf f (n / 32)++[cd (n % 32)]
theorem mT:∀ (f n:Nat),n < 32 ^ f->Tf (f+1) n=Tf f n
 | 0,n,h=>by
  have:n=0:=by simpa using h
  subst this;rfl
 | f+1,n,h=>by
  by_cases h0:n=0
  ·subst h0;rfl
  ·have hd:n / 32 < 32 ^ f:=by
    rw [Nat.div_lt_iff_lt_mul (by decide)]
    rw [Nat.pow_succ] at h;exact h
   show (if n=0 then [] else Tf (f+1) (n / 32)++[cd (n % 32)])=(if n=0 then [] else Tf f (n / 32)++[cd (n % 32)])
   rw [mT f (n / 32) hd]
theorem lM:∀ (f n k:Nat),n < 32 ^ k->(Tf f n).length<=k
 | 0,_,_,_=>Ae _
 | f+1,n,k,h=>by
  by_cases h0:n=0
  ·subst h0;exact Ae _
  ·cases k with
   | zero=>simp at h;exact absurd h h0
   | succ k=>
    have hd:n / 32 < 32 ^ k:=by
     rw [Nat.div_lt_iff_lt_mul (by decide)]
     rw [Nat.pow_succ] at h;exact h
    have:=lM f (n / 32) k hd
    show (if n=0 then [] else Tf f (n / 32)++[cd (n % 32)]).length<=k+1
    rw [if_neg h0,zJ]
    simp only [zP,zT]
    omega
def T (n:Nat):List Nat:=Tf 40 n
theorem mU {n:Nat} (h : 0 < n) (hn:n < 32 ^ 39):T n=T (n / 32)++[cd (n % 32)]:=by
 have e:Tf 40 n=Tf 39 (n / 32)++[cd (n % 32)]:=by
  show (if n=0 then [] else Tf 39 (n / 32)++[cd (n % 32)])=_
  rw [if_neg (by omega)]
 unfold T
 rw [e,mT 39 (n / 32) (Nat.lt_of_le_of_lt (Nat.div_le_self _ _) hn)]
def full (m:Nat):List Nat:=T (m / 32)++[cd (m % 32)]
theorem dF {m:Nat} (h:m < 32 ^ 31):(full m).length<=31/\1<=(full m).length:=by
 have:(T (m / 32)).length<=30:=lM 40 (m / 32) 30 (by rw [Nat.div_lt_iff_lt_mul (by decide)];exact h)
 unfold full
 rw [zJ]
 simp only [zP,zT]
 omega
def dh (l:List Nat):Str:=⟨l.toArray⟩
theorem jC (l:List Nat):(dh l).length=l.length:=by unfold dh Str.length;simp
theorem gK (c:Nat) (l:List Nat):((⟨#[c]⟩:Str)++dh l)=dh (c::l):=by
 show (⟨#[c]++l.toArray⟩:Str)=⟨(c::l).toArray⟩
 simp
def textOf (m:Nat):Str:=dh (cd (full m).length::full m)
theorem gJ {m:Int} (h : 0<=m):(m / 32).toNat=m.toNat / 32/\(m % 32).toNat=m.toNat % 32:=by omega
def lV:Sp:=fun vs H Q _=>∃ m:Int,vs=[.int m]/\0<=m/\m < 32 ^ 31/\Q (.str (textOf m.toNat)) H
def jF:Sp:=fun vs H Q _=>∃ m:Int,vs=[.int m]/\0<=m/\m < 32 ^ 31/\Q (.str (dh (full m.toNat))) H
theorem ny (D:Dat K mg "digits_of" "digits_of" (top 7) ["mark"]) (aV:GlV mg "SIGNS" (.str sgs)) (bR:GlV mg "BASE" (.int 32)):Cal P w K mg base CX "digits_of" 1 ["mark"] jF:=by
 have S:=D.sc (N:=["mark", "digits", "rest"]) (by fail "s")
 fail "d1"
 obtain ⟨m,rfl,h0,h1,q⟩:=h
 fail "d5"
 have hN:m.toNat < 32 ^ 31:=by
  have e:((32:Int) ^ 31)=((32 ^ 31:Nat):Int):=by norm_cast
  rw [e] at h1;omega
 have fl:=dF hN
 have sl:sgs.length<=sizeLine:=by decide +kernel
 refine ⟨_,(@ah _ _ _ _ _ (@aI _ _ 1 _ _ _ _ S.nd rfl (by fail "o") (@bF _ _ _ _ _ _ _ (@fZ _) (@dY _ _ _ _ aV (by rfl) (by decide)) (@ao _ _ _ _ _ _ _ _ (@bq _) (@pv _ 0 _ _ (by rfl) (by first | exact Or.inl rfl | exact Or.inr (Or.inl rfl) | exact Or.inr (Or.inr rfl)) (by decide) (by decide)) (@dY _ _ _ _ bR (by rfl) (by decide))) (fun _ _=>rfl)) (by rfl) (by first | exact .inl rfl | exact .inr rfl | assumption)) (@ah _ _ _ _ _ (@aI _ _ 2 _ _ _ _ S.nd rfl (by fail "o") (@ao _ _ _ _ _ _ _ _ (@bO _) (@pv _ 0 _ _ (by rfl) (by first | exact Or.inl rfl | exact Or.inr (Or.inl rfl) | exact Or.inr (Or.inr rfl)) (by decide) (by decide)) (@dY _ _ _ _ bR (by rfl) (by decide))) (by rfl) (by first | exact .inl rfl | exact .inr rfl | assumption)) (@ah _ _ _ _ _ (@pC _ _ _ _ _ _ PassesOwn.never (@aF _ _ _ _ _ _ _ _ (@pS _) (@pv _ 2 _ _ (by rfl) (by first | exact Or.inl rfl | exact Or.inr (Or.inl rfl) | exact Or.inr (Or.inr rfl)) (by decide) (by decide)) (@af _ _ _ _) (@aJ _ _ (by decide) (by decide))) (@ah _ _ _ _ _ (@aI _ _ 1 _ _ _ _ S.nd rfl (by fail "o") (@ao _ _ _ _ _ _ _ _ (@pZ _) (@bF _ _ _ _ _ _ _ (@fZ _) (@dY _ _ _ _ aV (by rfl) (by decide)) (@ao _ _ _ _ _ _ _ _ (@bq _) (@pv _ 2 _ _ (by rfl) (by first | exact Or.inl rfl | exact Or.inr (Or.inl rfl) | exact Or.inr (Or.inr rfl)) (by decide) (by decide)) (@dY _ _ _ _ bR (by rfl) (by decide))) (fun _ _=>rfl)) (@pv _ 1 _ _ (by rfl) (by first | exact Or.inl rfl | exact Or.inr (Or.inl rfl) | exact Or.inr (Or.inr rfl)) (by decide) (by decide))) (by rfl) (by first | exact .inl rfl | exact .inr rfl | assumption)) (@ak _ _ _ (@aI _ _ 2 _ _ _ _ S.nd rfl (by fail "o") (@ao _ _ _ _ _ _ _ _ (@bO _) (@pv _ 2 _ _ (by rfl) (by first | exact Or.inl rfl | exact Or.inr (Or.inl rfl) | exact Or.inr (Or.inr rfl)) (by decide) (by decide)) (@dY _ _ _ _ bR (by rfl) (by decide))) (by rfl) (by first | exact .inl rfl | exact .inr rfl | assumption))))) (@ak _ _ _ (@aA _ _ _ _ (@pv _ 1 _ _ (by rfl) (by first | exact Or.inl rfl | exact Or.inr (Or.inl rfl) | exact Or.inr (Or.inr rfl)) (by decide) (by decide))))))),?_⟩
 refine ⟨_,rfl,_,_,rfl,rfl,(by show (0:Int) < _;decide),_,_,_,rfl,rfl,sl,kK (Int.emod_nonneg _ (by decide)) (Int.emod_lt_of_pos _ (by decide)),?_⟩
 refine ⟨_,rfl,_,_,rfl,rfl,⟨by decide,by decide⟩,?_⟩
 have sd:=gJ h0
 refine oz (fun σ H'=>∃ (ds:List Nat) (r:Int),σ=[some (.int m),some (.str (dh ds)),some (.int r)]/\H'=H/\0<=r/\r<=m/\T r.toNat++ds=full m.toNat) (fun σ _=>match σ with | [_,_,some (.int r)]=>r.toNat | _=>0) ?_ ?_ ?_
 ·refine ⟨[cd (m % 32).toNat],m / 32,rfl,rfl,by omega,by omega,?_⟩
  rw [sd.1,sd.2];rfl
 ·rintro σ H' ⟨ds,r,rfl,rfl,r0,r1,e⟩
  refine ⟨_,rfl,_,_,rfl,rfl,_,rfl,?_⟩
  have hlen:ds.length<=31:=by
   have:=congrArg List.length e
   rw [zJ] at this;omega
  refine gx (fun c=>?_) (fun c=>?_)
  ·have c' : 0 < r:=of_decide_eq_true c
   have sr:=gJ r0
   refine ⟨_,rfl,_,_,rfl,rfl,(by show (0:Int) < _;decide),_,_,_,rfl,rfl,sl,kK (Int.emod_nonneg _ (by decide)) (Int.emod_lt_of_pos _ (by decide)),_,rfl,_,_,rfl,rfl,?_,?_⟩
   ·rw [jC]
    show 1+ds.length<=sizeLine
    exact Aa (small1000 (by omega))
   refine ⟨_,rfl,_,_,rfl,rfl,⟨by decide,by decide⟩,?_⟩
   refine ⟨⟨cd (r % 32).toNat::ds,r / 32,?_,rfl,by omega,by omega,?_⟩,?_⟩
   ·rw [<- gK];rfl
   ·rw [sr.1,sr.2,<- e,mU (n:=r.toNat) (by omega) (Nat.lt_of_le_of_lt (Aa (Nat.lt_of_le_of_lt (show r.toNat<=m.toNat by omega) hN)) (by decide +kernel)),List.append_assoc]
    rfl
   ·show (r / 32).toNat < r.toNat
    omega
  ·have c':¬ 0 < r:=of_decide_eq_false (Bool.eq_false_iff.mpr c)
   have:r=0:=by omega
   subst this
   refine ⟨_,rfl,?_⟩
   have e':ds=full m.toNat:=e
   rw [e']
   exact q
 ·intro σ H Q Q' mono h
  obtain ⟨v,e,i,j,e1,e2,k,e3,q⟩:=h
  exact ⟨v,e,i,j,e1,e2,k,e3,mono _ _ q⟩
theorem pU (D:Dat K mg "shown" "shown" (top 8) ["mark"]) (BT:Bt mg) (NE:bQ CX) (aV:GlV mg "SIGNS" (.str sgs)) (j9:Cal P w K mg base CX "digits_of" 1 ["mark"] jF):Cal P w K mg base CX "shown" 2 ["mark"] lV:=by
 have S:=D.sc (N:=["mark", "digits"]) (by fail "s")
 fail "d1"
 obtain ⟨m,rfl,h0,h1,q⟩:=h
 fail "d5"
 have hN:m.toNat < 32 ^ 31:=by
  have e:((32:Int) ^ 31)=((32 ^ 31:Nat):Int):=by norm_cast
  rw [e] at h1;omega
 have fl:=dF hN
 have sl:sgs.length<=sizeLine:=by decide +kernel
 refine ⟨_,(@ah _ _ _ _ _ (@aI _ _ 1 _ _ _ _ S.nd rfl (by fail "o") (@aB _ _ _ _ _ _ _ _ _ _ _ _ j9 (by fail "r") NE.pass (@aa _ _ _ _ _ (@pv _ 0 _ _ (by rfl) (by first | exact Or.inl rfl | exact Or.inr (Or.inl rfl) | exact Or.inr (Or.inr rfl)) (by decide) (by decide)) (@ai _) (by rfl)) (by rfl) (by decide) (by rfl) (by rfl)) (by rfl) (by first | exact .inl rfl | exact .inr rfl | assumption)) (@ak _ _ _ (@aA _ _ _ _ (@ao _ _ _ _ _ _ _ _ (@pZ _) (@bF _ _ _ _ _ _ _ (@fZ _) (@dY _ _ _ _ aV (by rfl) (by decide)) (@aK _ _ _ _ _ _ _ _ _ (@gj _) rfl BT.len L3.cz (@aa _ _ _ _ _ (@pv _ 1 _ _ (by rfl) (by first | exact Or.inl rfl | exact Or.inr (Or.inl rfl) | exact Or.inr (Or.inr rfl)) (by decide) (by decide)) (@ai _) (by rfl)) (by decide) (by decide) (by rfl) (by rfl)) (fun _ _=>rfl)) (@pv _ 1 _ _ (by rfl) (by first | exact Or.inl rfl | exact Or.inr (Or.inl rfl) | exact Or.inr (Or.inr rfl)) (by decide) (by decide)))))),?_⟩
 refine ⟨_,rfl,m,rfl,h0,h1,?_⟩
 have el:(dh (full m.toNat)).length=(full m.toNat).length:=jC _
 refine ⟨_,rfl,_,rfl,?_,_,_,_,rfl,rfl,sl,kK (by rw [el];omega) (by rw [el];omega),_,rfl,_,_,rfl,rfl,?_,?_⟩
 ·rw [el];exact Aa (small1000 (by omega))
 ·rw [el]
  show 1+(full m.toNat).length<=sizeLine
  exact Aa (small1000 (by omega))
 ·rw [el,gK]
  exact q
theorem snoc_ind {P:List Nat->Prop} (h0:P []) (h1:∀ r d,P r->P (r++[d])):∀ l,P l:=fun l=>by
 rw [<- List.reverse_reverse l]
 induction l.reverse with
 | nil=>exact h0
 | cons d r ih=>rw [List.reverse_cons];exact h1 _ _ ih
def val (ds:List Nat):Nat:=ds.foldl (fun v d=>v * 32+d) 0
theorem cC (ds:List Nat) (d:Nat):val (ds++[d])=val ds * 32+d:=by unfold val;rw [List.foldl_append];rfl
theorem cD:∀ (ds:List Nat),(∀ d∈ds,d < 32)->val ds < 32 ^ ds.length:=by
 intro ds
 induction ds using snoc_ind with
 | h0=>intro _;decide
 | h1 r d ih=>
  intro h
  have h1:=ih fun x hx=>h x (List.mem_append_left _ hx)
  have h2:=h d (zF _ (List.mem_singleton.mpr rfl))
  rw [cC,zJ,zE,Nat.pow_succ]
  omega
theorem kD:∀ (r:List Nat) (d0:Nat),0 < d0->d0 < 32->(∀ d∈r,d < 32)->r.length<=30->T (val (d0::r))=(d0::r).map cd/\0 < val (d0::r):=by
 intro r
 induction r using snoc_ind with
 | h0=>
  intro d0 h0 h1 _ _
  have e:val [d0]=d0:=by unfold val;simp
  rw [e]
  refine ⟨?_,h0⟩
  rw [mU h0 (zM h1 (by decide +kernel)),Nat.div_eq_of_lt h1,Nat.mod_eq_of_lt h1]
  rfl
 | h1 r d ih=>
  intro d0 h0 h1 h2 h3
  rw [zJ,zE] at h3
  obtain ⟨e,p⟩:=ih d0 h0 h1 (fun x hx=>h2 x (List.mem_append_left _ hx)) (by omega)
  have hd:=h2 d (zF _ (List.mem_singleton.mpr rfl))
  have es:val (d0::(r++[d]))=val (d0::r) * 32+d:=cC (d0::r) d
  have hb:val (d0::(r++[d])) < 32 ^ 39:=by
   refine zM (cD _ fun x hx=>?_) (Nat.pow_le_pow_right (by decide) (by simp;omega))
   rcases Ak hx with rfl | hx
   ·exact h1
   ·exact h2 x hx
  refine ⟨?_,by omega⟩
  rw [mU (by omega) hb,es]
  rw [show (val (d0::r) * 32+d) / 32=val (d0::r) by omega,show (val (d0::r) * 32+d) % 32=d by omega,e]
  simp
theorem cu {d:Nat} {r:List Nat} (h:∀ x∈d::r,x < 32):d < 32/\∀ x∈r,x < 32:=⟨h d zK,fun x hx=>h x (zH _ hx)⟩
theorem val_zero (r:List Nat):val (0::r)=val r:=rfl
theorem jZ {d:Nat} {r:List Nat} (h:∀ x∈d::r,x < 32) (hl:r.length<=30):full (val (d::r))=(d::r).map cd↔(r=[]\/d≠0):=by
 obtain ⟨hd,hr⟩:=cu h
 constructor
 ·intro e
  cases r with
  | nil=>exact .inl rfl
  | cons b r=>
   refine .inr fun z=>?_
   subst z
   have hv:val (b::r) < 32 ^ (r.length+1):=cD _ hr
   have l1:=congrArg List.length e
   rw [zS,val_zero] at l1
   have l2:(T (val (b::r) / 32)).length<=r.length:=lM 40 _ _ (by rw [Nat.div_lt_iff_lt_mul (by decide),<- Nat.pow_succ];exact hv)
   unfold full at l1
   rw [zJ] at l1
   simp only [zP,zT] at l1
   omega
 ·intro c
  by_cases z:d=0
  ·have rn:r=[]:=c.resolve_right (fun n=>n z)
   subst z rn
   rfl
  ·obtain ⟨e,p⟩:=kD r d (by omega) hd hr hl
   have hb:val (d::r) < 32 ^ 39:=zM (cD _ h) (Nat.pow_le_pow_right (by decide) (by simp;omega))
   rw [<- e]
   unfold full
   exact (mU p hb).symm
def ja (c:Nat):Option Nat:=(List.range 32).find? fun i=>cd i == c
theorem r9:∀ i,i < 32->ja (cd i)=some i:=by decide +kernel
theorem gW {c i:Nat} (h:ja c=some i):i < 32/\cd i=c:=by
 have h1:=List.find?_some h
 have h2:=List.mem_of_find?_eq_some h
 exact ⟨List.mem_range.mp h2,beq_iff_eq.mp h1⟩
theorem uQ:∀ i,i < 32->Builtin.Str.occurrences sgs ⟨#[cd i]⟩ 0 sgs.length 1=[i]:=by decide +kernel
theorem qW:∀ i,i < 32->sgs.cps.extract i (i+1)=#[cd i]:=by decide +kernel
theorem oZ:sgs.length=32:=by decide +kernel
theorem pY (c:Nat):Builtin.Str.occurrences sgs ⟨#[c]⟩ 0 sgs.length 1=(ja c).toList:=by
 cases e:ja c with
 | some i=>
  obtain ⟨h1,rfl⟩:=gW e
  exact uQ i h1
 | none=>
  refine PySem.W.occ_nil_of_no _ _ _ fun i hi=>?_
  have hi':i+1<=32:=by rw [oZ] at hi;exact hi
  have h1:=List.find?_eq_none.mp e i (List.mem_range.mpr (by omega))
  show (sgs.cps.extract i (i+1) == #[c])=false
  rw [qW i (by omega)]
  simp only [beq_iff_eq] at h1
  simpa using h1
def ix (c:Nat):Nat:=(ja c).getD 0
def inS (c:Nat):Bool:=(ja c).isSome
theorem fB {c:Nat} (h:inS c=true):ix c < 32/\cd (ix c)=c/\ja c=some (ix c):=by
 unfold inS at h
 cases e:ja c with
 | none=>rw [e] at h;cases h
 | some i=>
  have:=gW e
  unfold ix
  rw [e]
  exact ⟨this.1,this.2,rfl⟩
theorem jc {i:Nat} (h:i < 32):inS (cd i)=true/\ix (cd i)=i:=by
 unfold inS ix
 rw [r9 i h]
 exact ⟨rfl,rfl⟩
theorem sQ:∀ i,i < 32->(cd i=48↔i=0):=by decide +kernel
def codeB (l:List Nat):Bool:=match l with
 | a::b::r=>decide (r.length<=30) && ((a::b::r).all inS && (decide (ix a=r.length+1) && (!decide (b=48) || decide (r=[]))))
 | _=>false
theorem i0:∀ {r:List Nat},r.all inS=true->(r.map ix).map cd=r/\∀ d∈r.map ix,d < 32
 | [],_=>⟨rfl,fun d h=>by simp at h⟩
 | c::r,h=>by
  rw [List.all_cons,Bool.and_eq_true] at h
  obtain ⟨h1,h2⟩:=i0 h.2
  obtain ⟨i1,i2,_⟩:=fB h.1
  refine ⟨by rw [List.map_cons,List.map_cons,h1,i2],fun d hd=>?_⟩
  rcases Ak hd with rfl | hd
  ·exact i1
  ·exact h2 d hd
theorem oS {a b:List Nat} (h:dh a=dh b):a=b:=by
 have:=congrArg (fun s:Str=>s.cps.toList) h
 simpa [dh] using this
theorem nV {a b:Nat} {r:List Nat} (hl:r.length<=30) (hr:(b::r).all inS=true):textOf (val ((b::r).map ix))=dh (a::b::r)↔codeB (a::b::r)=true:=by
 obtain ⟨e1,e2⟩:=i0 hr
 have hb:inS b=true:=by rw [List.all_cons,Bool.and_eq_true] at hr;exact hr.1
 obtain ⟨b1,b2,_⟩:=fB hb
 have fv:=jZ (d:=ix b) (r:=r.map ix) e2 (by rw [zS];exact hl)
 rw [<- List.map_cons,e1] at fv
 have bz:b=48↔ix b=0:=by
  have:=sQ (ix b) b1
  rw [b2] at this
  exact this
 have hrn:r.map ix=[]↔r=[]:=List.map_eq_nil_iff
 constructor
 ·intro e
  have e':=oS e
  injection e' with h1 h2
  have c2:=fv.mp h2
  rw [h2] at h1
  have hlt:(b::r).length < 32:=by rw [zP];omega
  have ia:=jc hlt
  rw [h1] at ia
  show (decide (r.length<=30) && ((a::b::r).all inS && (decide (ix a=r.length+1) && (!decide (b=48) || decide (r=[])))))=true
  rw [zY hl,List.all_cons,ia.1,hr,ia.2,zP,zY rfl]
  simp only [Bool.true_and,Bool.or_eq_true,Bool.not_eq_true',decide_eq_true_eq,decide_eq_false_iff_not]
  rcases c2 with c | c
  ·exact .inr (hrn.mp c)
  ·exact .inl fun z=>c (bz.mp z)
 ·intro h
  have h':(decide (r.length<=30) && ((a::b::r).all inS && (decide (ix a=r.length+1) && (!decide (b=48) || decide (r=[])))))=true:=h
  simp only [Bool.and_eq_true,Bool.or_eq_true,Bool.not_eq_true',decide_eq_true_eq,decide_eq_false_iff_not,List.all_cons] at h'
  obtain ⟨_,⟨ha,_⟩,hx,hc⟩:=h'
  have h2:=fv.mpr (hc.elim (fun n=>.inr fun z=>n (bz.mpr z)) fun n=>.inl (hrn.mpr n))
  unfold textOf
  rw [h2]
  obtain ⟨_,a2,_⟩:=fB ha
  rw [hx] at a2
  rw [zP,a2]
theorem mZ {l:List Nat} (h:∀ d∈l,d < 32) (hl:l.length<=31):val l < 32 ^ 31:=zM (cD _ h) (Nat.pow_le_pow_right (by decide) hl)
inductive Knd (H:Hp):V->Prop
 | int (i:Int):Knd H (.int i)
 | bl (b:Bool):Knd H (.bl b)
 | str (x:Str):Knd H (.str x)
 | non:Knd H .non
 | lst {a:Addr} {xs:List V} (e:H a=some (.lst xs)):Knd H (.ref a)
 | tup {a:Addr} {xs:List V} (e:H a=some (.tup xs)):Knd H (.ref a)
 | dK {a:Addr} {kvs:List (Key×V)} (e:H a=some (.dK kvs)):Knd H (.ref a)
def eN:V->Bool
 | .str z=>codeB z.cps.toList
 | _=>false
def markV (z:Str):Nat:=val (z.cps.toList.tail.map ix)
theorem qe (z:Str):z.length=z.cps.toList.length:=by simp [Str.length]
theorem u7 (c:Nat):(!(Builtin.Str.occurrences sgs ⟨#[c]⟩ 0 sgs.length 1).isEmpty)=inS c:=by
 rw [pY];unfold inS;cases ja c <;> rfl
theorem vg {c:Nat} {H:Hp} {Q:VK} (h:Q (.bl (inS c)) H):wA (.str ⟨#[c]⟩) (.str sgs) H Q:=⟨_,_,rfl,rfl,by rw [u7];exact h⟩
theorem ql {c:Nat} {H:Hp} {Q:VK} (i:inS c=true) (h:Q (.int (ix c:Nat)) H):lY (.str sgs) [.str ⟨#[c]⟩] H Q:=⟨_,_,ix c,[],rfl,rfl,by rw [pY,(fB i).2.2];rfl,h⟩
def jE:Sp:=fun vs H Q _=>∃ v,vs=[v]/\Knd H v/\(∀ z,v = .str z->z.length<=500)/\∀ H',aN H H'->Q (.bl (eN v)) H'
theorem kZ (D:Dat K mg "is_code" "is_code" (top 9) ["thing"]) (BT:Bt mg) (NE:bQ CX) (aV:GlV mg "SIGNS" (.str sgs)) (bR:GlV mg "BASE" (.int 32)):Cal P w K mg base CX "is_code" 1 ["thing"] jE:=by
 have S:=D.sc (N:=["thing"]) (by fail "s")
 fail "d1"
 obtain ⟨v,rfl,k,hv,q⟩:=h
 fail "d5"
 refine ⟨_,(@ah _ _ _ _ _ (@aW _ _ _ _ _ _ _ _ (@dW _ _ _ _ (@dU _ _ _ (@iX _ _ _ _ _ _ _ _ BT.isinstance BT.str_ L3.qE (@pv _ 0 _ _ (by rfl) (by first | exact Or.inl rfl | exact Or.inr (Or.inl rfl) | exact Or.inr (Or.inr rfl)) (by decide) (by decide)) (by rfl) (by rfl) (by decide) (by decide) (by rfl) (by rfl) (by rfl)) (by intro _;rfl))) (@ak _ _ _ (@aA _ _ _ _ (@eF _ _ _ _))) (@aG _)) (@ah _ _ _ _ _ (@aW _ _ _ _ _ _ _ _ (@PW.pt _ _ _ (@l5 _ _ _ _ _ _ _ (@aF _ _ _ _ _ _ _ _ (@pR _) (@aK _ _ _ _ _ _ _ _ _ (@gj _) rfl BT.len L3.cz (@aa _ _ _ _ _ (@pv _ 0 _ _ (by rfl) (by first | exact Or.inl rfl | exact Or.inr (Or.inl rfl) | exact Or.inr (Or.inr rfl)) (by decide) (by decide)) (@ai _) (by rfl)) (by decide) (by decide) (by rfl) (by rfl)) (@af _ _ _ _) (@aJ _ _ (by decide) (by decide))) (@kR _ _ _ _ (@aF _ _ _ _ _ _ _ _ (@pS _) (@aK _ _ _ _ _ _ _ _ _ (@gj _) rfl BT.len L3.cz (@aa _ _ _ _ _ (@pv _ 0 _ _ (by rfl) (by first | exact Or.inl rfl | exact Or.inr (Or.inl rfl) | exact Or.inr (Or.inr rfl)) (by decide) (by decide)) (@ai _) (by rfl)) (by decide) (by decide) (by rfl) (by rfl)) (@dY _ _ _ _ bR (by rfl) (by decide)) (@aJ _ _ (by decide) (by decide)))))) (@ak _ _ _ (@aA _ _ _ _ (@eF _ _ _ _))) (@aG _)) (@ah _ _ _ _ _ (@aW _ _ _ _ _ _ _ _ (@dW _ _ _ _ (@dU _ _ _ (@aK _ _ _ _ _ _ _ _ _ (@qA _ rfl) rfl BT.all L3.vI (@aa _ _ _ _ _ (@iY _ _ _ _ _ _ _ _ _ _ (bH 0) _ _ rfl (pI (@pv _ 0 _ _ (by rfl) (by first | exact Or.inl rfl | exact Or.inr (Or.inl rfl) | exact Or.inr (Or.inr rfl)) (by decide) (by decide))) (@gk _ _ ["sign"] [] (aj (top 9)).names ["thing"] rfl rfl rfl (by decide +kernel)) (fun _ _ _ _=>(@aP _ _ 0 _ (show (eX ["thing"] ["sign"] []).Nodup by decide +kernel) rfl (by fail "o") (by first | exact .inl rfl | exact .inr rfl | assumption))) (fun _ _ _ _=>(@cH _)) (fun _ _ _ _=>(@cT _ _ _ _ _ _ _ _ (@wK _) (@pv _ 0 _ _ (by rfl) (by first | exact Or.inl rfl | exact Or.inr (Or.inl rfl) | exact Or.inr (Or.inr rfl)) (by decide) (by decide)) (@dY _ _ _ _ aV (by rfl) (by decide)) (by with_unfolding_all rfl))) (by intro _;rfl)) (@ai _) (by rfl)) (by decide) (by decide) (by rfl) (by rfl)) (by intro _;rfl))) (@ak _ _ _ (@aA _ _ _ _ (@eF _ _ _ _))) (@aG _)) (@ah _ _ _ _ _ (@aW _ _ _ _ _ _ _ _ (@aF _ _ _ _ _ _ _ _ (@pQ _) (@pO _ _ _ _ _ _ _ _ _ _ _ _ PySem.F.plainAttrs_str PySem.F.slot_str_index PySem.F.type_str_index mh (@dY _ _ _ _ aV (by rfl) (by decide)) (@aa _ _ _ _ _ (@bF _ _ _ _ _ _ _ (@fZ _) (@pv _ 0 _ _ (by rfl) (by first | exact Or.inl rfl | exact Or.inr (Or.inl rfl) | exact Or.inr (Or.inr rfl)) (by decide) (by decide)) (@af _ _ _ _) (fun _ _=>rfl)) (@ai _) (by rfl)) (by rfl) (by rfl) (by rfl) (by rfl) (by rfl)) (@ao _ _ _ _ _ _ _ _ (@d7 _) (@aK _ _ _ _ _ _ _ _ _ (@gj _) rfl BT.len L3.cz (@aa _ _ _ _ _ (@pv _ 0 _ _ (by rfl) (by first | exact Or.inl rfl | exact Or.inr (Or.inl rfl) | exact Or.inr (Or.inr rfl)) (by decide) (by decide)) (@ai _) (by rfl)) (by decide) (by decide) (by rfl) (by rfl)) (@af _ _ _ _)) (@aJ _ _ (by decide) (by decide))) (@ak _ _ _ (@aA _ _ _ _ (@eF _ _ _ _))) (@aG _)) (@ak _ _ _ (@aA _ _ _ _ (@wG _ _ _ _ _ _ _ (@cT _ _ _ _ _ _ _ _ (@pQ _) (@bF _ _ _ _ _ _ _ (@fZ _) (@pv _ 0 _ _ (by rfl) (by first | exact Or.inl rfl | exact Or.inr (Or.inl rfl) | exact Or.inr (Or.inr rfl)) (by decide) (by decide)) (@af _ _ _ _) (fun _ _=>rfl)) (@pJ _ _ _ _) (@aJ _ _ (by decide) (by decide))) (@iV _ _ _ _ _ (@cT _ _ _ _ _ _ _ _ (@cB _) (@aK _ _ _ _ _ _ _ _ _ (@gj _) rfl BT.len L3.cz (@aa _ _ _ _ _ (@pv _ 0 _ _ (by rfl) (by first | exact Or.inl rfl | exact Or.inr (Or.inl rfl) | exact Or.inr (Or.inr rfl)) (by decide) (by decide)) (@ai _) (by rfl)) (by decide) (by decide) (by rfl) (by rfl)) (@af _ _ _ _) (@aJ _ _ (by decide) (by decide))))))))))),?_⟩
 try dsimp only [bW]
 fail "go"
 by_cases hs:∃ z,v = .str z
 ·obtain ⟨z,rfl⟩:=hs
  have hz:=hv z rfl
  have hzl:=qe z
  refine ck (b:=true) (T:="str") (.str z) rfl ?_
  have zs:z.length<=sizeLine:=Aa (small1000 (by omega))
  fail "go"
  refine f9 (fun c1=>?_) (fun c1=>?_)
  ·fail "go"
   have e:eN (.str z)=false:=by
    show codeB z.cps.toList=false
    cases hl:z.cps.toList with
    | nil=>rfl
    | cons a l=>cases l with
     | nil=>rfl
     | cons b r=>rw [hl] at hzl;simp only [zP] at hzl;omega
   rw [e] at q
   exact q _ (aN.refl _)
  fail "go"
  refine f9 (fun c2=>?_) (fun c2=>?_)
  ·fail "go"
   have e:eN (.str z)=false:=by
    show codeB z.cps.toList=false
    cases hl:z.cps.toList with
    | nil=>rfl
    | cons a l=>cases l with
     | nil=>rfl
     | cons b r=>
      rw [hl] at hzl;simp only [zP] at hzl
      show (decide (r.length<=30) && _)=false
      rw [zX (by omega)];rfl
   rw [e] at q
   exact q _ (aN.refl _)
  obtain ⟨a,b,r,hl⟩:∃ a b r,z.cps.toList=a::b::r:=by
   cases hl:z.cps.toList with
   | nil=>rw [hl] at hzl;simp at hzl;omega
   | cons a l=>cases l with
    | nil=>rw [hl] at hzl;simp at hzl;omega
    | cons b r=>exact ⟨a,b,r,rfl⟩
  have yc:r.length<=30:=by rw [hl] at hzl;simp only [zP] at hzl;omega
  have ec:eN (.str z)=((a::b::r).all inS && (decide (ix a=r.length+1) && (!decide (b=48) || decide (r=[])))):=by
   show codeB z.cps.toList=_
   rw [hl]
   show (decide (r.length<=30) && _)=_
   rw [zY yc];rfl
  fail "go"
  refine t9 ?_
  fail "go"
  refine qj ?_
  refine qm (fun i ys H'=>ys=((z.cps.toList.take i).map inS).map V.bl/\H'=H) ⟨rfl,rfl⟩ (fun i ys H' hi ⟨e,_⟩=>by rw [e,zS,zS,zQ];exact Aa (small1000 (by omega))) ?_ ?_
  ·rintro i c ys H' hc ⟨rfl,rfl⟩
   try dsimp only [bH]
   fail "go"
   refine vg ?_
   fail "go"
   exact ⟨by rw [List.take_add_one,hc,Option.toList,zU,zU];rfl,rfl⟩
  ·rintro ys H' ⟨rfl,rfl⟩ lc nlc
   rw [zR]
   fail "go"
   refine vo (SqL.of av) ?_
   have sm:=bA nlc (.lst ((z.cps.toList.map inS).map V.bl))
   generalize upd H' lc (.lst ((z.cps.toList.map inS).map V.bl))=H2 at *
   rw [List.all_map,show (id ∘ inS)=inS from rfl]
   fail "go"
   cases hall:z.cps.toList.all inS with
   | false=>
    fail "go"
    rw [hl] at hall
    rw [ec,hall] at q
    exact q _ sm
   | true=>
    fail "go"
    rw [hl] at hall
    have ha:inS a=true:=by rw [List.all_cons,Bool.and_eq_true] at hall;exact hall.1
    refine ua (c:=a) zs (by rw [hl];exact fE (j:=0) rfl) ?_
    fail "go"
    refine ql ha ?_
    fail "go"
    have elz:(z.length:Int)=(r.length:Int)+2:=by rw [hl] at hzl;simp only [zP] at hzl;omega
    refine ud (fun c3=>?_) (fun c3=>?_)
    ·fail "go"
     refine ua (c:=b) zs (by rw [hl];exact fE (j:=1) rfl) ?_
     fail "go"
     have e3:ix a=r.length+1:=by omega
     rw [ec,hall,zY e3] at q
     have e48:(({ cps:=#[b] }:Str)=Str.ofString "0")↔b=48:=by
      constructor
      ·intro z
       have:=congrArg (fun s:Str=>s.cps.toList) z
       have h2:(Str.ofString "0").cps.toList=[48]:=by decide +kernel
       simp only [h2] at this
       simpa using this
      ·rintro rfl;decide +kernel
     refine ud (fun c4=>?_) (fun c4=>?_)
     ·fail "go"
      have er:decide ((z.length:Int)=2)=decide (r=[]):=by
       by_cases hr:r=[]
       ·rw [zY hr,zY (by rw [hr] at elz;simpa using elz)]
       ·have:r.length≠0:=fun z=>hr (List.length_eq_zero_iff.mp z)
        rw [zX hr,zX (by omega)]
      rw [er]
      rw [zY (e48.mp c4)] at q
      exact q _ sm
     ·fail "go"
      rw [zX (fun z=>c4 (e48.mpr z))] at q
      exact q _ sm
    ·fail "go"
     have e3:¬ ix a=r.length+1:=by omega
     rw [ec,hall,zX e3] at q
     exact q _ sm
 ·have e:eN v=false:=by
   cases v with
   | str z=>exact absurd ⟨z,rfl⟩ hs
   | _=>rfl
  rw [e] at q
  cases k with
  | str x=>exact absurd ⟨x,rfl⟩ hs
  | int i=>refine ck (b:=false) (T:="str") (.int i) rfl ?_;fail "go";exact q _ (aN.refl _)
  | bl b=>refine ck (b:=false) (T:="str") (.bl b) rfl ?_;fail "go";exact q _ (aN.refl _)
  | non=>refine ck (b:=false) (T:="str") .non rfl ?_;fail "go";exact q _ (aN.refl _)
  | lst e9=>refine ck (b:=false) (T:="str") (.lst e9) rfl ?_;fail "go";exact q _ (aN.refl _)
  | tup e9=>refine ck (b:=false) (T:="str") (.tup e9) rfl ?_;fail "go";exact q _ (aN.refl _)
  | dK e9=>refine ck (b:=false) (T:="str") (.dK e9) rfl ?_;fail "go";exact q _ (aN.refl _)
structure ErN (K:Ao) (CB CR:Addr) (Ds:List Addr):Prop where
 g:vO K CB
 m1:PySem.W.exmOne K (.ref CB) (.ref CB)=some true
 m2:PySem.W.exmOne K (.ref CB) (.ref CR)=some true
 i1:PySem.W.kitOne K (.ref CB) (.ref CR)=some true
 i2:PySem.W.kitOne K (.ref CB) (.type "ValueError")=some true
 i3:PySem.W.kitOne K (.ref CB) (.ref CB)=some true
 i4:PySem.W.kitAny K (.ref CB) (Ds.map Value.ref)=some false
def kH (CN:Addr):Sp:=fun vs H Q E=>∃ v,vs=[v]/\Knd H v/\(∀ z,v = .str z->z.length<=500)/\((eN v=true/\∀ z,v = .str z->∀ H',aN H H'->Q (.int (markV z:Nat)) H')\/(eN v=false/\∀ H',aN H H'->E (.ref CN) none H'))
theorem lE {l:List Nat} (h:codeB l=true):∃ a b r,l=a::b::r/\r.length<=30/\(a::b::r).all inS=true:=by
 cases l with
 | nil=>cases h
 | cons a l=>cases l with
  | nil=>cases h
  | cons b r=>
   have h':(decide (r.length<=30) && ((a::b::r).all inS && (decide (ix a=r.length+1) && (!decide (b=48) || decide (r=[])))))=true:=h
   rw [Bool.and_eq_true,Bool.and_eq_true] at h'
   exact ⟨a,b,r,rfl,of_decide_eq_true h'.1,h'.2.1⟩
theorem qO {l:List Nat} (h:∀ d∈l,d < 32) (hl:l.length<=31) (j:Nat):((val (l.take j):Nat):Int) < 2 ^ 250:=by
 have h1:val (l.take j) < 32 ^ 31:=mZ (fun d hd=>h d (List.mem_of_mem_take hd)) (z6 (by simp;omega) hl)
 have h2:val (l.take j) < 2 ^ 250:=Nat.lt_trans h1 (by decide +kernel)
 exact_mod_cast h2
theorem rM {CN:Addr} (D:Dat K mg "read" "read" (top 10) ["word"]) (BT:Bt mg) (NE:bQ (CX1 P w)) (qJ:tH K mg "NoCode" CN) (aV:GlV mg "SIGNS" (.str sgs)) (bR:GlV mg "BASE" (.int 32)) (n5:Cal P w K mg base (CX1 P w) "is_code" 1 ["thing"] jE):Cal P w K mg base (CX1 P w) "read" 2 ["word"] (kH CN):=by
 have S:=D.sc (N:=["word", "mark", "sign"]) (by fail "s")
 fail "d2"
 obtain ⟨v,rfl,k,hv,h⟩:=h
 fail "d5"
 refine ⟨_,(@ah _ _ _ _ _ (@aW _ _ _ _ _ _ _ _ (@dW _ _ _ _ (@dU _ _ _ (@aB _ _ _ _ _ _ _ _ _ _ _ _ n5 (by fail "r") NE.pass (@aa _ _ _ _ _ (@pv _ 0 _ _ (by rfl) (by first | exact Or.inl rfl | exact Or.inr (Or.inl rfl) | exact Or.inr (Or.inr rfl)) (by decide) (by decide)) (@ai _) (by rfl)) (by rfl) (by decide) (by rfl) (by rfl)) (by intro _;rfl))) (@ak _ _ _ (@pD _ _ _ _ _ _ _ _ _ _ qJ rfl (@pP _ _) (@aa _ _ _ _ _ (@pJ _ _ _ _) (@ai _) (by rfl)) (by rfl) (by decide) (by rfl) (by rfl))) (@aG _)) (@ah _ _ _ _ _ (@aI _ _ 1 _ _ _ _ S.nd rfl (by fail "o") (@af _ _ _ _) (by rfl) (by first | exact .inl rfl | exact .inr rfl | assumption)) (@ah _ _ _ _ _ (@iS _ _ _ _ _ _ _ _ (@rH _ _ rfl rfl) rfl (pI (@pK _ _ _ _ _ _ _ _ _ _ uE (@pv _ 0 _ _ (by rfl) (by first | exact Or.inl rfl | exact Or.inr (Or.inl rfl) | exact Or.inr (Or.inr rfl)) (by decide) (by decide)) (@rA _ _ _ (@af _ _ _ _)) (@rB _))) (@aP _ _ 2 _ S.nd rfl (by fail "o") (by first | exact .inl rfl | exact .inr rfl | assumption)) (@ak _ _ _ (@aI _ _ 1 _ _ _ _ S.nd rfl (by fail "o") (@ao _ _ _ _ _ _ _ _ (@aY _) (@ao _ _ _ _ _ _ _ _ (@bC _) (@pv _ 1 _ _ (by rfl) (by first | exact Or.inl rfl | exact Or.inr (Or.inl rfl) | exact Or.inr (Or.inr rfl)) (by decide) (by decide)) (@dY _ _ _ _ bR (by rfl) (by decide))) (@pO _ _ _ _ _ _ _ _ _ _ _ _ PySem.F.plainAttrs_str PySem.F.slot_str_index PySem.F.type_str_index mh (@dY _ _ _ _ aV (by rfl) (by decide)) (@aa _ _ _ _ _ (@pv _ 2 _ _ (by rfl) (by first | exact Or.inl rfl | exact Or.inr (Or.inl rfl) | exact Or.inr (Or.inr rfl)) (by decide) (by decide)) (@ai _) (by rfl)) (by rfl) (by rfl) (by rfl) (by rfl) (by rfl))) (by rfl) (by first | exact .inl rfl | exact .inr rfl | assumption))) (by intro _;rfl)) (@ak _ _ _ (@aA _ _ _ _ (@pv _ 1 _ _ (by rfl) (by first | exact Or.inl rfl | exact Or.inr (Or.inl rfl) | exact Or.inr (Or.inr rfl)) (by decide) (by decide))))))),?_⟩
 try dsimp only [xcx,bW]
 fail "go"
 refine ⟨v,rfl,k,hv,fun H1 s1=>?_⟩
 rcases h with ⟨hc,q⟩ | ⟨hc,q⟩
 ·rw [hc]
  obtain ⟨z,rfl⟩:∃ z,v = .str z:=by
   cases v with
   | str z=>exact ⟨z,rfl⟩
   | _=>cases hc
  have hz:=hv z rfl
  obtain ⟨a,b,r,hl,hr,hall⟩:=lE (show codeB z.cps.toList=true from hc)
  have t8:(b::r).all inS=true:=by rw [List.all_cons,Bool.and_eq_true] at hall;exact hall.2
  obtain ⟨m1,m2⟩:=i0 t8
  have zs:z.length<=sizeLine:=Aa (small1000 (by omega))
  have ez:z=⟨(a::b::r).toArray⟩:=by rw [<- hl]
  fail "go"
  refine t9 ?_
  fail "go"
  refine w6 zs ?_
  rw [show Txt.slice z (some 1) none=(⟨(b::r).toArray⟩:Str) by rw [ez];exact kJ a (b::r)]
  refine qj ?_
  refine vm (fun i σ H'=>∃ u2:Option V,σ=[some (.str z),some (.int ((val (((b::r).map ix).take i):Nat):Int)),u2]/\H'=H1) ⟨_,rfl,rfl⟩ ?_ ?_
  ·rintro i c σ H' hi ⟨u2,rfl,rfl⟩
   have hi':(b::r)[i]?=some c:=by simpa using hi
   have ic:inS c=true:=List.all_eq_true.mp t8 c (zG hi')
   have hb:=qO m2 (by rw [zS,zP];omega) i
   have hb0 : 0<=((val (((b::r).map ix).take i):Nat):Int):=by omega
   try dsimp only [bH]
   fail "go"
   refine ql ic ?_
   fail "go"
   have e:val (((b::r).map ix).take (i+1))=val (((b::r).map ix).take i) * 32+ix c:=by
    rw [List.take_add_one,zO,hi',Option.map_some,Option.toList,cC]
   refine ⟨some (.str ⟨#[c]⟩),?_,rfl⟩
   have e2:((val (((b::r).map ix).take (i+1)):Nat):Int)=((val (((b::r).map ix).take i):Nat):Int) * 32+(ix c:Int):=by rw [e];push_cast;rfl
   rw [e2]
   rfl
  ·rintro σ H' ⟨u2,rfl,rfl⟩
   fail "go"
   have em:((b::r).map ix).take ((⟨(b::r).toArray⟩:Str).cps.toList.length)=(b::r).map ix:=List.take_of_length_le (by simp)
   rw [em]
   have ek:markV z=val ((b::r).map ix):=by unfold markV;rw [hl];rfl
   have:=q z rfl H' s1
   rw [ek] at this
   exact this
 ·rw [hc]
  fail "go"
  exact q H1 s1
theorem oB:∀ (f n:Nat),n < 32 ^ f->val ((Tf f n).map ix)=n/\(Tf f n).all inS=true
 | 0,n,h=>by
  have:n=0:=by simpa using h
  subst this;exact ⟨rfl,rfl⟩
 | f+1,n,h=>by
  by_cases h0:n=0
  ·subst h0;exact ⟨rfl,rfl⟩
  ·have hd:n / 32 < 32 ^ f:=by
    rw [Nat.div_lt_iff_lt_mul (by decide)]
    rw [Nat.pow_succ] at h;exact h
   obtain ⟨e1,e2⟩:=oB f (n / 32) hd
   have hc:=jc (i:=n % 32) (Nat.mod_lt _ (by decide))
   show val ((if n=0 then [] else Tf f (n / 32)++[cd (n % 32)]).map ix)=n/\(if n=0 then [] else Tf f (n / 32)++[cd (n % 32)]).all inS=true
   rw [if_neg h0,zU,List.map_singleton,cC,e1,hc.2,List.all_append,e2,List.all_cons,hc.1]
   exact ⟨by omega,rfl⟩
theorem mH {m:Nat} (h:m < 32 ^ 31):val ((full m).map ix)=m/\(full m).all inS=true:=by
 obtain ⟨e1,e2⟩:=oB 40 (m / 32) (Nat.lt_of_le_of_lt (Nat.div_le_self _ _) (Nat.lt_trans h (by decide +kernel)))
 have hc:=jc (i:=m % 32) (Nat.mod_lt _ (by decide))
 unfold full T
 rw [zU,List.map_singleton,cC,e1,hc.2,List.all_append,e2,List.all_cons,hc.1]
 exact ⟨by omega,rfl⟩
structure TxO (z:Str) (m:Nat):Prop where
 co:eN (.str z)=true
 mrk:markV z=m
 l2 : 2<=z.length
 l32:z.length<=32
 hd:∃ a r,z.cps.toList=a::r/\inS a=true
theorem gH {m:Nat} (h:m < 32 ^ 31):TxO (textOf m) m:=by
 obtain ⟨e1,e2⟩:=mH h
 have fl:=dF h
 have et:(textOf m).cps.toList=cd (full m).length::full m:=by unfold textOf dh;simp
 have hi:=jc (i:=(full m).length) (by omega)
 have hlen:(textOf m).length=(full m).length+1:=by rw [qe,et,zP]
 refine ⟨?_,?_,by omega,by omega,_,_,et,hi.1⟩
 ·show codeB (textOf m).cps.toList=true
  rw [et]
  cases ef:full m with
  | nil=>rw [ef] at fl;simp at fl
  | cons b r=>
   rw [ef] at fl e1 e2
   refine (nV (by simp only [zP] at fl;omega) e2).mp ?_
   rw [e1]
   show textOf m=_
   unfold textOf
   rw [ef]
 ·unfold markV
  rw [et,List.tail_cons,e1]
theorem iw:∀ i,i < 32->∀ j,j < 32->(cd i < cd j↔i < j):=by decide +kernel
theorem gc:∀ (r:List Nat) (v:Nat),r.foldl (fun v d=>v * 32+d) v=v * 32 ^ r.length+val r
 | [],v=>by simp [val]
 | d::r,v=>by
  have e:val (d::r)=d * 32 ^ r.length+val r:=by
   show r.foldl (fun v d=>v * 32+d) (0 * 32+d)=_
   rw [Nat.zero_mul,Nat.zero_add,gc r d]
  rw [List.foldl_cons,gc r (v * 32+d),e,zP,Nat.pow_succ,Nat.add_mul,Nat.mul_assoc,Nat.mul_comm 32,Nat.add_assoc]
theorem fH (d:Nat) (r:List Nat):val (d::r)=d * 32 ^ r.length+val r:=by
 rw [val,List.foldl_cons,Nat.zero_mul,Nat.zero_add,gc]
theorem gS:∀ {A B:List Nat},(∀ d∈A,d < 32)->(∀ d∈B,d < 32)->A.length=B.length->ltCps (A.map cd) (B.map cd)=decide (val A < val B)
 | [],[],_,_,_=>rfl
 | x::A,y::B,ha,hb,hl=>by
  have hl':A.length=B.length:=by simpa using hl
  obtain ⟨x1,x2⟩:=cu ha
  obtain ⟨y1,y2⟩:=cu hb
  have ih:=gS x2 y2 hl'
  have va:=cD A x2
  have vb:=cD B y2
  show (decide (cd x < cd y) || (cd x == cd y && ltCps (A.map cd) (B.map cd)))=_
  rw [ih,fH,fH,hl']
  rw [hl'] at va
  rcases Nat.lt_trichotomy x y with c | c | c
  ·rw [zY ((iw x x1 y y1).mpr c),Bool.true_or,eq_comm,decide_eq_true_iff]
   have:=Nat.mul_le_mul_right (32 ^ B.length) (show x+1<=y by omega)
   rw [Nat.add_mul] at this
   omega
  ·subst c
   rw [zX (Nat.lt_irrefl _),Bool.false_or,beq_self_eq_true,Bool.true_and]
   apply decide_eq_decide.mpr
   omega
  ·have h1:¬ cd x < cd y:=fun z=>by have:=(iw x x1 y y1).mp z;omega
   have h2:(cd x == cd y)=false:=by
    rw [beq_eq_false_iff_ne]
    intro z
    have:=(iw y y1 x x1).mpr c
    omega
   rw [zX h1,h2,Bool.false_and,Bool.or_false,eq_comm,decide_eq_false_iff_not]
   have:=Nat.mul_le_mul_right (32 ^ B.length) (show y+1<=x by omega)
   rw [Nat.add_mul] at this
   omega
theorem mK {m:Nat} (h:m < 32 ^ 31):∃ d r,(∀ x∈d::r,x < 32)/\r.length<=30/\(textOf m).cps.toList=cd (r.length+1)::(d::r).map cd/\val (d::r)=m/\(r=[]\/d≠0):=by
 obtain ⟨e1,e2⟩:=mH h
 obtain ⟨l1,l2⟩:=dF h
 obtain ⟨m1,m2⟩:=i0 e2
 cases ef:(full m).map ix with
 | nil=>
  have:=congrArg List.length ef
  rw [zS] at this
  simp at this
  rw [this] at l2
  simp at l2
 | cons d r=>
  rw [ef] at e1 m1 m2
  have hl:=congrArg List.length ef
  rw [zS,zP] at hl
  refine ⟨d,r,m2,by omega,?_,e1,?_⟩
  ·unfold textOf dh
   rw [m1,hl]
  ·exact (jZ m2 (by omega)).mp (by rw [e1,m1])
theorem qQ {a b:Nat} (ha:a < 32 ^ 31) (hb:b < 32 ^ 31):ltCps (textOf a).cps.toList (textOf b).cps.toList=decide (a < b):=by
 obtain ⟨d,r,hd,hr,et,ev,nz⟩:=mK ha
 obtain ⟨d',r',hd',hr',et',ev',nz'⟩:=mK hb
 rw [et,et']
 show (decide (cd (r.length+1) < cd (r'.length+1)) || (cd (r.length+1) == cd (r'.length+1) && ltCps ((d::r).map cd) ((d'::r').map cd)))=_
 have va:=cD _ hd
 have vb:=cD _ hd'
 rw [ev,zP] at va
 rw [ev',zP] at vb
 have big:∀ {d:Nat} {r:List Nat} {m k:Nat},val (d::r)=m->(r=[]\/d≠0)->k+1<=r.length->32 ^ (k+1)<=m:=fun {d r m k} e z hk=>by
  rcases z with z | z
  ·rw [z] at hk;simp at hk
  ·rw [fH] at e
   have h1:=Nat.mul_le_mul_right (32 ^ r.length) (show 1<=d by omega)
   have h2:=Nat.pow_le_pow_right (show 32 > 0 by decide) hk
   omega
 rcases Nat.lt_trichotomy r.length r'.length with c | c | c
 ·rw [zY ((iw _ (by omega) _ (by omega)).mpr (show r.length+1 < r'.length+1 by omega)),Bool.true_or,eq_comm,decide_eq_true_iff]
  have:=big ev' nz' (k:=r.length) (by omega)
  omega
 ·rw [c,zX (Nat.lt_irrefl _),Bool.false_or,beq_self_eq_true,Bool.true_and,gS hd hd' (by rw [zP,zP,c]),ev,ev']
 ·have h1:¬ cd (r.length+1) < cd (r'.length+1):=fun z=>by have:=(iw _ (by omega) _ (by omega)).mp z;omega
  have h2:(cd (r.length+1) == cd (r'.length+1))=false:=by
   rw [beq_eq_false_iff_ne]
   intro z
   have:=(iw _ (show r'.length+1 < 32 by omega) _ (show r.length+1 < 32 by omega)).mpr (by omega)
   omega
  rw [zX h1,h2,Bool.false_and,Bool.or_false,eq_comm,decide_eq_false_iff_not]
  have:=big ev nz (k:=r'.length) (by omega)
  omega
theorem cS {m:Nat} (h:m < 32 ^ 31):markV (textOf m)=m:=(gH h).mrk
theorem oG {a b:Nat} (ha:a < 32 ^ 31) (hb:b < 32 ^ 31) (e:textOf a=textOf b):a=b:=by rw [<- cS ha,<- cS hb,e]
theorem fQ:∀ (l:List Nat) (p:Nat),(∀ z∈p::l,z < 32 ^ 31)->risingS (textOf p) (l.map textOf)=true->(p::l).Pairwise (·<=·)
 | [],p,_,_=>by simp
 | x::r,p,hm,h=>by
  have h:(!ltCps (textOf x).cps.toList (textOf p).cps.toList && risingS (textOf x) (r.map textOf))=true:=h
  rw [Bool.and_eq_true,qQ (hm x (zH _ zK)) (hm p zK),Bool.not_eq_true',decide_eq_false_iff_not] at h
  have ih:=fQ r x (fun z hz=>hm z (zH _ hz)) h.2
  rw [List.pairwise_cons]
  refine ⟨fun y hy=>?_,ih⟩
  rcases Ak hy with rfl | hy
  ·omega
  ·have:=(List.pairwise_cons.mp ih).1 y hy
   omega
theorem kI {l:List Nat} (hm:∀ z∈l,z < 32 ^ 31) (h:sortedS (l.map textOf)=true):l.Pairwise (·<=·):=by
 cases l with
 | nil=>exact List.Pairwise.nil
 | cons a l=>exact fQ l a hm h
theorem ng {ws:List Str} {ms ns:List Int} (hm:∀ z∈ns,0<=z/\z < 32 ^ 31) (p:ws.Perm (ns.map fun m=>textOf m.toNat)) (s:sortedS ws=true) (p2:ms.Perm ns) (s2:ms.Pairwise (·<=·)):ws=ms.map fun m=>textOf m.toNat:=by
 have hw:∀ z∈ws,∃ m:Nat,m < 32 ^ 31/\z=textOf m:=fun z hz=>by
  obtain ⟨m,hm1,rfl⟩:=Al (p.subset hz)
  have:=hm m hm1
  exact ⟨m.toNat,by omega,rfl⟩
 obtain ⟨ks,hk,rfl⟩:∃ ks:List Nat,(∀ z∈ks,z < 32 ^ 31)/\ws=ks.map textOf:=by
  clear p s
  induction ws with
  | nil=>exact ⟨[],by simp,rfl⟩
  | cons w ws ih=>
   obtain ⟨ks,hk,e⟩:=ih fun z hz=>hw z (zH _ hz)
   obtain ⟨m,hm1,rfl⟩:=hw w zK
   refine ⟨m::ks,fun z hz=>?_,by rw [e];rfl⟩
   rcases Ak hz with rfl | hz
   ·exact hm1
   ·exact hk z hz
 have pw:=kI hk s
 have p3:(ks.map fun n:Nat=>(n:Int)).Perm ns:=by
  have h1:=p.map fun z=>((markV z:Nat):Int)
  rw [zZ,zZ] at h1
  have e1:ks.map ((fun z=>((markV z:Nat):Int)) ∘ textOf)=ks.map fun n:Nat=>(n:Int):=List.map_congr_left fun k hk1=>by show ((markV (textOf k):Nat):Int)=k;rw [cS (hk k hk1)]
  have e2:ns.map ((fun z=>((markV z:Nat):Int)) ∘ fun m=>textOf m.toNat)=ns:=by
   have:ns.map ((fun z=>((markV z:Nat):Int)) ∘ fun m=>textOf m.toNat)=ns.map id:=List.map_congr_left fun k hk1=>by
    have:=hm k hk1
    show ((markV (textOf k.toNat):Nat):Int)=k
    rw [cS (by omega)]
    omega
   rw [this,List.map_id]
  rw [e1,e2] at h1
  exact h1
 have e:=fO (p3.trans p2.symm) (by rw [List.pairwise_map];exact pw.imp fun h=>by omega) s2
 rw [<- e,zZ]
 refine List.map_congr_left fun k _=>?_
 show textOf k=textOf ((k:Int).toNat)
 rw [Int.toNat_natCast]
def fN:Sp:=fun vs H Q _=>∃ (p:Addr) (mid c s b:Int),vs=[.ref p,.int mid,.int c,.int s]/\ShN c s/\0<=mid/\mid<=10 ^ 30/\aH H p b/\b<=1000000 /\
 ∀ (t:Addr) (m l k:Int) (H':Hp),0<=m->m<=10 ^ 30->0<=l->l < s->0<=k->k < c->H' t=some (.tup [.int m,.int l,.int k])->aH H' p (b+100000)->Oth p H H'->Q (.ref t) H'
theorem nv (D:Dat K mg "_law_parts" "_law_parts" (top 26) ["_law_hand_here", "_law_first", "_law_counts", "_law_slots"]) (BT:Bt mg) (NE:bQ CX) (aq:Cal P w K mg base CX "_law_pick" 11 ["_law_hand_here", "_law_many"] cZ) (b7:Cal P w K mg base CX "_law_number" 12 ["_law_hand_here", "_law_bound"] cF) (dJ:Cal P w K mg base CX "_law_below" 12 ["_law_hand_here", "_law_many"] iK):Cal P w K mg base CX "_law_parts" 13 ["_law_hand_here", "_law_first", "_law_counts", "_law_slots"] fN:=by
 have S:=D.sc (N:=["_law_hand_here", "_law_first", "_law_counts", "_law_slots", "_law_slot", "_law_count"]) (by fail "s")
 fail "d"
 ·obtain ⟨p,mid,c,s,b,rfl,_⟩:=h
  rfl
 obtain ⟨p,mid,c,sl,b,rfl,⟨c1,c2,s1,s2⟩,m0,m1,hh,hb,q⟩:=h
 refine ⟨_,(@ah _ _ _ _ _ (@aI _ _ 4 _ _ _ _ S.nd rfl (by fail "o") (@aB _ _ _ _ _ _ _ _ _ _ _ _ dJ (by fail "r") NE.pass (@aa _ _ _ _ _ (@pv _ 0 _ _ (by rfl) (by first | exact Or.inl rfl | exact Or.inr (Or.inl rfl) | exact Or.inr (Or.inr rfl)) (by decide) (by decide)) (@aa _ _ _ _ _ (@pv _ 3 _ _ (by rfl) (by first | exact Or.inl rfl | exact Or.inr (Or.inl rfl) | exact Or.inr (Or.inr rfl)) (by decide) (by decide)) (@ai _) (by rfl)) (by rfl)) (by rfl) (by decide) (by rfl) (by rfl)) (by rfl) (by first | exact .inl rfl | exact .inr rfl | assumption)) (@ah _ _ _ _ _ (@aI _ _ 5 _ _ _ _ S.nd rfl (by fail "o") (@aB _ _ _ _ _ _ _ _ _ _ _ _ dJ (by fail "r") NE.pass (@aa _ _ _ _ _ (@pv _ 0 _ _ (by rfl) (by first | exact Or.inl rfl | exact Or.inr (Or.inl rfl) | exact Or.inr (Or.inr rfl)) (by decide) (by decide)) (@aa _ _ _ _ _ (@pv _ 2 _ _ (by rfl) (by first | exact Or.inl rfl | exact Or.inr (Or.inl rfl) | exact Or.inr (Or.inr rfl)) (by decide) (by decide)) (@ai _) (by rfl)) (by rfl)) (by rfl) (by decide) (by rfl) (by rfl)) (by rfl) (by first | exact .inl rfl | exact .inr rfl | assumption)) (@ah _ _ _ _ _ (@aW _ _ _ _ _ _ _ _ (@aF _ _ _ _ _ _ _ _ (@cB _) (@aB _ _ _ _ _ _ _ _ _ _ _ _ aq (by fail "r") NE.pass (@aa _ _ _ _ _ (@pv _ 0 _ _ (by rfl) (by first | exact Or.inl rfl | exact Or.inr (Or.inl rfl) | exact Or.inr (Or.inr rfl)) (by decide) (by decide)) (@aa _ _ _ _ _ (@af _ _ _ _) (@ai _) (by rfl)) (by rfl)) (by rfl) (by decide) (by rfl) (by rfl)) (@af _ _ _ _) (@aJ _ _ (by decide) (by decide))) (@ak _ _ _ (@aA _ _ _ _ (@iU _ _ _ _ _ (@aa _ _ _ _ _ (@aK _ _ _ _ _ _ _ _ _ (@um _ rfl) rfl BT.max L3.qG (@aa _ _ _ _ _ (@af _ _ _ _) (@aa _ _ _ _ _ (@aK _ _ _ _ _ _ _ _ _ (@uh _ rfl) rfl BT.min L3.qF (@aa _ _ _ _ _ (@ao _ _ _ _ _ _ _ _ (@d8 _) (@af _ _ _ _) (@af _ _ _ _)) (@aa _ _ _ _ _ (@ao _ _ _ _ _ _ _ _ (@d7 _) (@ao _ _ _ _ _ _ _ _ (@aY _) (@pv _ 1 _ _ (by rfl) (by first | exact Or.inl rfl | exact Or.inr (Or.inl rfl) | exact Or.inr (Or.inr rfl)) (by decide) (by decide)) (@aB _ _ _ _ _ _ _ _ _ _ _ _ aq (by fail "r") NE.pass (@aa _ _ _ _ _ (@pv _ 0 _ _ (by rfl) (by first | exact Or.inl rfl | exact Or.inr (Or.inl rfl) | exact Or.inr (Or.inr rfl)) (by decide) (by decide)) (@aa _ _ _ _ _ (@af _ _ _ _) (@ai _) (by rfl)) (by rfl)) (by rfl) (by decide) (by rfl) (by rfl))) (@af _ _ _ _)) (@ai _) (by rfl)) (by rfl)) (by decide) (by decide) (by rfl) (by rfl)) (@ai _) (by rfl)) (by rfl)) (by decide) (by decide) (by rfl) (by rfl)) (@aa _ _ _ _ _ (@pv _ 4 _ _ (by rfl) (by first | exact Or.inl rfl | exact Or.inr (Or.inl rfl) | exact Or.inr (Or.inr rfl)) (by decide) (by decide)) (@aa _ _ _ _ _ (@pv _ 5 _ _ (by rfl) (by first | exact Or.inl rfl | exact Or.inr (Or.inl rfl) | exact Or.inr (Or.inr rfl)) (by decide) (by decide)) (@ai _) (by rfl)) (by rfl)) (by rfl))))) (@aG _)) (@ak _ _ _ (@aA _ _ _ _ (@iU _ _ _ _ _ (@aa _ _ _ _ _ (@aB _ _ _ _ _ _ _ _ _ _ _ _ b7 (by fail "r") NE.pass (@aa _ _ _ _ _ (@pv _ 0 _ _ (by rfl) (by first | exact Or.inl rfl | exact Or.inr (Or.inl rfl) | exact Or.inr (Or.inr rfl)) (by decide) (by decide)) (@aa _ _ _ _ _ (@ao _ _ _ _ _ _ _ _ (@d8 _) (@af _ _ _ _) (@af _ _ _ _)) (@ai _) (by rfl)) (by rfl)) (by rfl) (by decide) (by rfl) (by rfl)) (@aa _ _ _ _ _ (@pv _ 4 _ _ (by rfl) (by first | exact Or.inl rfl | exact Or.inr (Or.inl rfl) | exact Or.inr (Or.inr rfl)) (by decide) (by decide)) (@aa _ _ _ _ _ (@pv _ 5 _ _ (by rfl) (by first | exact Or.inl rfl | exact Or.inr (Or.inl rfl) | exact Or.inr (Or.inr rfl)) (by decide) (by decide)) (@ai _) (by rfl)) (by rfl)) (by rfl)))))))),?_⟩
 try dsimp only [bW]
 have qP:=qP
 have L:=dw hh
 fail "go"
 refine gG L .head (by omega) s1 (by omega) fun l H1 l0 l1 L k1=>?_
 fail "go"
 refine gG L .head (by omega) c1 (by omega) fun k H2 k0 k1 L _=>?_
 fail "go"
 refine bN L .head (by decide) (by decide) (by omega) fun r1 H3 a1 a2 L _=>?_
 fail "go"
 refine f9 (fun c=>?_) (fun c=>?_)
 ·fail "go"
  refine bN L .head (by decide) (by decide) (by omega) fun r2 H4 b1 b2 L _=>?_
  fail "go"
  exact q t' (max 0 (min (10 ^ Int.toNat 30) (mid+r2 - 2))) _ _ _ (by omega) (by omega) l0 l1 k0 k1 (L'.tup (by fail "mem")) ((aM.at (L'.at_ (p,aM _) (by fail "mem"))).mono (by omega)) L'.fr
 fail "go"
 refine fJ L .head (by decide) (by decide) (by omega) fun m H4 x0 x1 L _=>?_
 fail "go"
 exact q _ _ _ _ _ x0 x1 l0 l1 k0 k1 (L'.tup (by fail "mem")) ((aM.at (L'.at_ (p,aM _) (by fail "mem"))).mono (by omega)) L'.fr
theorem kE {PP:Addr->Prop} {H0 H:Hp} {l l':List (Addr×Ob)} {fs:List Pr} {p:Addr} {Q:VK} {E:XK} {b mid c s:Int} (L:Led PP H0 H l fs) (mm:Put p (aM b) (aM (b+100000)) l l') (n:ShN c s) (h1 : 0<=mid) (h2:mid<=10 ^ 30) (hb:b<=1000000)
  (q:∀ (t:Addr) (m l k:Int) (H':Hp),0<=m->m<=10 ^ 30->0<=l->l < s->0<=k->k < c->Led PP H0 H' l' (eE t [.int m,.int l,.int k]::fs)->Chg p H H'->Q (.ref t) H'):fN [.ref p,.int mid,.int c,.int s] H Q E:=
 have hh:=aM.at (L.at_ _ mm.mem)
 ⟨p,mid,c,s,b,rfl,n,h1,h2,hh,hb,fun t m l k H' m0 m1 l0 l1 k0 k1 ht hh' o=>q t m l k H' m0 m1 l0 l1 k0 k1 ((L.set mm (hh.ts o) hh'.ob).more (eE t _) ht) (hh.ts o)⟩
theorem yb {k:Nat} {A:Around} (r:bB k A):A.units+40 < cLine:=by
 have:=(wc r).un
 omega
theorem fW {c s m l k:Int} (n:ShN c s) (h:n6 c s m l k) : 0<=mk c s m l k/\mk c s m l k < 32 ^ 31:=by
 refine ⟨nB n h.m0 h.l0 h.k0,?_⟩
 obtain ⟨c1,c2,s1,s2⟩:=n
 obtain ⟨m0,m1,l0,l1,k0,k1⟩:=h
 have m1:m<=1000000000000000000000000000000:=m1
 have a1:m * s<=1000000000000000000000000000000 * 1000:=Int.mul_le_mul m1 s2 (by omega) (by decide)
 have a0 : 0<=m * s:=Int.mul_nonneg m0 (by omega)
 have a2:(m * s+l) * c<=(1000000000000000000000000000000 * 1000+1000) * 1000:=Int.mul_le_mul (by omega) c2 (by omega) (by decide)
 have e:(32:Int) ^ 31=45671926166590716193865151022383844364247891968:=by decide +kernel
 unfold mk
 rw [e]
 omega
def Pt.tx (c s:Int) (x:Pt):Str:=textOf (x.mk' c s).toNat
theorem uw {c s:Int} {x y:Pt} (n:ShN c s) (hx:n6 c s x.m x.l x.k) (hy:n6 c s y.m y.l y.k) (e:x.tx c s=y.tx c s):ptD x=ptD y:=by
 have bx:=fW n hx
 have bY:=fW n hy
 have e1:(x.mk' c s).toNat=(y.mk' c s).toNat:=oG (by show (mk c s x.m x.l x.k).toNat < _;omega) (by show (mk c s y.m y.l y.k).toNat < _;omega) e
 have e2:mk c s x.m x.l x.k=mk c s y.m y.l y.k:=by
  have e1:(mk c s x.m x.l x.k).toNat=(mk c s y.m y.l y.k).toNat:=e1
  omega
 obtain ⟨i1,i2,i3⟩:=(mk_inj n hx.l0 hx.l1 hx.k0 hx.k1 hy.l0 hy.l1 hy.k0 hy.k1).mp e2
 unfold ptD
 rw [i1,i2,i3]
theorem vQ {c s:Int} {x y:Pt} (e:ptD x=ptD y):x.tx c s=y.tx c s:=by
 unfold ptD at e
 injection e with e
 injection e with e1 e
 injection e with e2 e
 injection e with e3 e
 injection e1 with e1
 injection e2 with e2
 injection e3 with e3
 unfold Pt.tx Pt.mk'
 rw [e1,e2,e3]
theorem iE {xs:List Dt} {d:Dt}:∀ {acc:List Dt},d∈aE acc xs↔d∈acc\/d∈xs:=by
 induction xs with
 | nil=>intro acc;simp [aE]
 | cons x xs ih=>
  intro acc
  show d∈aE (if x∈acc then acc else acc++[x]) xs↔_
  rw [ih]
  by_cases c:x∈acc
  ·rw [if_pos c]
   constructor
   ·rintro (h | h)
    ·exact .inl h
    ·exact .inr (.tail _ h)
   ·rintro (h | h)
    ·exact .inl h
    ·rcases Ak h with rfl | h
     ·exact .inl c
     ·exact .inr h
  ·rw [if_neg c,List.mem_append,List.mem_singleton,List.mem_cons]
   constructor
   ·rintro ((h | h) | h)
    ·exact .inl h
    ·exact .inr (.inl h)
    ·exact .inr (.inr h)
   ·rintro (h | h | h)
    ·exact .inl (.inl h)
    ·exact .inl (.inr h)
    ·exact .inr h
structure gq (c s:Int) (ps:List Pt) (i:Nat) (kvs:List (Key×V)):Prop where
 v:∀ k v,bh kvs k=some v->∃ x∈ps.take i,k = .inr (x.tx c s)/\v = .ref x.a
 s:∀ x∈ps.take i,(bh kvs (.inr (x.tx c s))).isSome=true
 n:kvs.length=(aE [] ((ps.map ptD).take i)).length
theorem pA {kvs:List (Key×V)} {k:Key} (v:V) (h:bh kvs k=none):(putK kvs k v).length=kvs.length+1:=by
 unfold putK
 rw [dc,h]
 simp
theorem gq.old {c s:Int} {ps:List Pt} {i:Nat} {kvs:List (Key×V)} {x:Pt} {v:V} (n:ShN c s) (hO:mV c s ps) (h:gq c s ps i kvs) (hx:ps[i]?=some x) (e:bh kvs (.inr (x.tx c s))=some v):(∃ y∈ps,v = .ref y.a/\ptD y=ptD x)/\gq c s ps (i+1) kvs:=by
 obtain ⟨y,hy,e1,rfl⟩:=h.v _ _ e
 have ym:=List.mem_of_mem_take hy
 have e2:ptD y=ptD x:=(uw n (hO x (zG hx)) (hO y ym) (Sum.inr.inj e1)).symm
 have tk:ps.take (i+1)=ps.take i++[x]:=by rw [List.take_add_one,hx];rfl
 refine ⟨⟨y,ym,rfl,e2⟩,fun k v hk=>?_,fun z hz=>?_,?_⟩
 ·obtain ⟨z,hz,r⟩:=h.v k v hk
  exact ⟨z,by rw [tk];exact List.mem_append_left _ hz,r⟩
 ·rw [tk] at hz
  rcases Aj hz with hz | hz
  ·exact h.s z hz
  ·rw [Ai hz,e];rfl
 ·have hm:ptD x∈aE [] ((ps.map ptD).take i):=iE.mpr (.inr (by rw [<- List.map_take];exact List.mem_map.mpr ⟨y,hy,e2⟩))
  rw [h.n,bX (show (ps.map ptD)[i]?=some (ptD x) by rw [zO,hx];rfl),if_pos hm]
theorem gq.new {c s:Int} {ps:List Pt} {i:Nat} {kvs:List (Key×V)} {x:Pt} (h:gq c s ps i kvs) (hx:ps[i]?=some x) (e:bh kvs (.inr (x.tx c s))=none):gq c s ps (i+1) (putK kvs (.inr (x.tx c s)) (.ref x.a)):=by
 have tk:ps.take (i+1)=ps.take i++[x]:=by rw [List.take_add_one,hx];rfl
 refine ⟨fun k v hk=>?_,fun z hz=>?_,?_⟩
 ·rw [ju] at hk
  by_cases ce:k = .inr (x.tx c s)
  ·rw [if_pos ce] at hk
   cases hk
   exact ⟨x,by rw [tk];exact zF _ (List.mem_singleton.mpr rfl),ce,rfl⟩
  ·rw [if_neg ce] at hk
   obtain ⟨z,hz,r⟩:=h.v k v hk
   exact ⟨z,by rw [tk];exact List.mem_append_left _ hz,r⟩
 ·rw [ju]
  by_cases ce:(Sum.inr (z.tx c s):Key) = .inr (x.tx c s)
  ·rw [if_pos ce];rfl
  ·rw [if_neg ce]
   rw [tk] at hz
   rcases Aj hz with hz | hz
   ·exact h.s z hz
   ·exact absurd (by rw [Ai hz]) ce
 ·have hm:¬ ptD x∈aE [] ((ps.map ptD).take i):=fun z=>by
   rcases iE.mp z with z | z
   ·simp at z
   ·rw [<- List.map_take] at z
    obtain ⟨y,hy,e2⟩:=Al z
    have:=h.s y hy
    rw [vQ (c:=c) (s:=s) e2,e] at this
    cases this
  rw [pA _ e,h.n,bX (show (ps.map ptD)[i]?=some (ptD x) by rw [zO,hx];rfl),if_neg hm,zJ,zE]
theorem uL {K:Ao} {H:Hp} {x:Pt} (h:H x.a=some (.tup [.int x.m,.int x.l,.int x.k])):kj K H x.a (ptD x):=⟨gP h,by simp [ptD,cJ,cI],by simp [ptD,L4.dep,deps]⟩
theorem cE {K:Ao} {H:Hp}:∀ (ws:List Str),Ats K H (ws.map V.str) (ws.map Dt.str)
 | []=>.nil
 | z::ws=>.cons (.str z) (cE ws)
theorem jA (ws:List Str):dep (.lst (ws.map Dt.str))<=100:=by
 have:deps (ws.map Dt.str)<=0:=sN fun d hd=>by
  obtain ⟨x,_,rfl⟩:=Al hd
  simp [dep]
 rw [dep];omega
theorem vK {c s:Int} {ps:List Pt} {j:Nat} {x:Pt} (h:ps[j]?=some x):((ps.map (Pt.tx c s)).map V.str)[j]?=some (.str (x.tx c s)):=by
 rw [zO,zO,h];rfl
theorem qi {c s:Int} {ps:List Pt} {j:Nat} {x:Pt} (h:ps[j]?=some x):((ps.map (Pt.mk' c s)).map V.int)[j]?=some (.int (x.mk' c s)):=by
 rw [zO,zO,h];rfl
theorem lQ {c s:Int} {ps:List Pt} {ws:List Str} {ms:List Int} (n:ShN c s) (hO:mV c s ps) (p:ws.Perm (ps.map (Pt.tx c s))) (so:sortedS ws=true) (p2:ms.Perm (ps.map (Pt.mk' c s))) (s2:ms.Pairwise (·<=·)):ws=ms.map fun m=>textOf m.toNat:=
 ng (ns:=ps.map (Pt.mk' c s)) (fun z hz=>by
  obtain ⟨x,hx,rfl⟩:=Al hz
  exact fW n (hO x hx)) (by rw [zZ];exact p) so p2 s2
theorem sF {σ : St} {H:Hp} {Q:VK} (h:∀ p,H p=none->Q (.ref p) (upd H p (.dK []))):oN σ H Q:=h
section
variable {CN:Addr}
theorem uF:aT ["_law_script", "_law_counts", "_law_slots", "_law_shape", "_law_first", "_law_parts_here", "_law_k", "_law_marks", "_law_texts", "_law_seen", "_law_text", "_law_mark", "_law_part"] ["_law_script"] (aj (top 27)):=by fail "s"
def tT (K:Ao):Sp:=fun vs H Q _=>∃ (a:Addr) (ns:List Int),vs=[.ref a]/\SqL K H a (ns.map V.int)/\ns.length<=63/\∀ H',Q (.bl true) H'
theorem uP {f:Addr} {fd:FuncData} (F:Fun K "law" "law" (top 27) f fd) (BT:Bt mg) (NE:bQ (CX1 P w)) (SC:ShC K C) (cN:Cal P w K mg base (CX1 P w) "_law_hand" 1 ["_law_script", "_law_k"] (iJ K)) (cM:Cal P w K mg base (CX1 P w) "_law_shape_numbers" 13 ["_law_hand_here"] dR)
  (rU:Mak P w K mg base (CX1 P w) "Shape" C 4 ["self", "counts", "slots"] (iI C)) (b7:Cal P w K mg base (CX1 P w) "_law_number" 12 ["_law_hand_here", "_law_bound"] cF) (jm:Cal P w K mg base (CX1 P w) "_law_parts" 13 ["_law_hand_here", "_law_first", "_law_counts", "_law_slots"] fN)
  (iy:Cal P w K mg base (CX1 P w) "mark_of" 1 ["shape", "moment", "slot", "count"] (oV C)) (lF:Cal P w K mg base (CX1 P w) "parts_of" 1 ["shape", "mark"] (lW C)) (dI:Cal P w K mg base (CX1 P w) "shown" 2 ["mark"] lV) (jk:Cal P w K mg base (CX1 P w) "read" 2 ["word"] (kH CN)):cQ P w K mg base (CX1 P w) 14 f fd ["_law_script"] (tT K):=by
 have S:=uF
 refine lA F S (fun vs H Q E h=>?_) (fun f cdv A outer s H vs Q E hr h=>?_)
 ·obtain ⟨a,ns,rfl,_⟩:=h
  rfl
 obtain ⟨a,ns,rfl,hS,h63,q⟩:=h
 refine ⟨_,(@ah _ _ _ _ _ (@dX _ _ _ _ _ _ (@aB _ _ _ _ _ _ _ _ _ _ _ _ cM (by fail "r") NE.pass (@aa _ _ _ _ _ (@aB _ _ _ _ _ _ _ _ _ _ _ _ cN (by fail "r") NE.pass (@aa _ _ _ _ _ (@pv _ 0 _ _ (by rfl) (by first | exact Or.inl rfl | exact Or.inr (Or.inl rfl) | exact Or.inr (Or.inr rfl)) (by decide) (by decide)) (@aa _ _ _ _ _ (@af _ _ _ _) (@ai _) (by rfl)) (by rfl)) (by rfl) (by decide) (by rfl) (by rfl)) (@ai _) (by rfl)) (by rfl) (by decide) (by rfl) (by rfl)) (@iT _ _ _ _ _ _ rfl (@aX _ _ _ _ _ (@aP _ _ 1 _ S.nd rfl (by fail "o") (by first | exact .inl rfl | exact .inr rfl | assumption)) (@aX _ _ _ _ _ (@aP _ _ 2 _ S.nd rfl (by fail "o") (by first | exact .inl rfl | exact .inr rfl | assumption)) (@fm _) (by rfl)) (by rfl)) (by rfl) (by rfl)) (by rfl) (by rfl) (by rfl)) (@ah _ _ _ _ _ (@aI _ _ 3 _ _ _ _ S.nd rfl (by fail "o") (@wH _ _ _ _ _ _ _ _ _ _ _ _ _ rU (by fail "r") NE.pass (@aa _ _ _ _ _ (@pv _ 1 _ _ (by rfl) (by first | exact Or.inl rfl | exact Or.inr (Or.inl rfl) | exact Or.inr (Or.inr rfl)) (by decide) (by decide)) (@aa _ _ _ _ _ (@pv _ 2 _ _ (by rfl) (by first | exact Or.inl rfl | exact Or.inr (Or.inl rfl) | exact Or.inr (Or.inr rfl)) (by decide) (by decide)) (@ai _) (by rfl)) (by rfl)) (by rfl) (by decide) (by rfl) (by rfl)) (by rfl) (by first | exact .inl rfl | exact .inr rfl | assumption)) (@ah _ _ _ _ _ (@aI _ _ 4 _ _ _ _ S.nd rfl (by fail "o") (@aB _ _ _ _ _ _ _ _ _ _ _ _ b7 (by fail "r") NE.pass (@aa _ _ _ _ _ (@aB _ _ _ _ _ _ _ _ _ _ _ _ cN (by fail "r") NE.pass (@aa _ _ _ _ _ (@pv _ 0 _ _ (by rfl) (by first | exact Or.inl rfl | exact Or.inr (Or.inl rfl) | exact Or.inr (Or.inr rfl)) (by decide) (by decide)) (@aa _ _ _ _ _ (@af _ _ _ _) (@ai _) (by rfl)) (by rfl)) (by rfl) (by decide) (by rfl) (by rfl)) (@aa _ _ _ _ _ (@ao _ _ _ _ _ _ _ _ (@d8 _) (@af _ _ _ _) (@af _ _ _ _)) (@ai _) (by rfl)) (by rfl)) (by rfl) (by decide) (by rfl) (by rfl)) (by rfl) (by first | exact .inl rfl | exact .inr rfl | assumption)) (@ah _ _ _ _ _ (@aI _ _ 5 _ _ _ _ S.nd rfl (by fail "o") (@iW _ _ _ _ (@ai _)) (by rfl) (by first | exact .inl rfl | exact .inr rfl | assumption)) (@ah _ _ _ _ _ (@iS _ _ _ _ _ _ _ _ PassesOwn.never rfl (@nj _ _ _ _ _ _ _ rfl BT.range (@aa _ _ _ _ _ (@af _ _ _ _) (@aa _ _ _ _ _ (@aK _ _ _ _ _ _ _ _ _ (@um _ rfl) rfl BT.max L3.qG (@aa _ _ _ _ _ (@af _ _ _ _) (@aa _ _ _ _ _ (@aK _ _ _ _ _ _ _ _ _ (@uh _ rfl) rfl BT.min L3.qF (@aa _ _ _ _ _ (@af _ _ _ _) (@aa _ _ _ _ _ (@aK _ _ _ _ _ _ _ _ _ (@uo _) rfl BT.len L3.cz (@aa _ _ _ _ _ (@pv _ 0 _ _ (by rfl) (by first | exact Or.inl rfl | exact Or.inr (Or.inl rfl) | exact Or.inr (Or.inr rfl)) (by decide) (by decide)) (@ai _) (by rfl)) (by decide) (by decide) (by rfl) (by rfl)) (@ai _) (by rfl)) (by rfl)) (by decide) (by decide) (by rfl) (by rfl)) (@ai _) (by rfl)) (by rfl)) (by decide) (by decide) (by rfl) (by rfl)) (@ai _) (by rfl)) (by rfl)) (by rfl) (by rfl)) (@aP _ _ 6 _ S.nd rfl (by fail "o") (by first | exact .inl rfl | exact .inr rfl | assumption)) (@ak _ _ _ (@rq _ _ _ _ (@pO _ _ _ _ _ _ _ _ _ _ _ _ PySem.F.plainAttrs_list PySem.F.slot_list_append PySem.F.type_list_append (@nA _) (@pv _ 5 _ _ (by rfl) (by first | exact Or.inl rfl | exact Or.inr (Or.inl rfl) | exact Or.inr (Or.inr rfl)) (by decide) (by decide)) (@aa _ _ _ _ _ (@aB _ _ _ _ _ _ _ _ _ _ _ _ jm (by fail "r") NE.pass (@aa _ _ _ _ _ (@aB _ _ _ _ _ _ _ _ _ _ _ _ cN (by fail "r") NE.pass (@aa _ _ _ _ _ (@pv _ 0 _ _ (by rfl) (by first | exact Or.inl rfl | exact Or.inr (Or.inl rfl) | exact Or.inr (Or.inr rfl)) (by decide) (by decide)) (@aa _ _ _ _ _ (@pv _ 6 _ _ (by rfl) (by first | exact Or.inl rfl | exact Or.inr (Or.inl rfl) | exact Or.inr (Or.inr rfl)) (by decide) (by decide)) (@ai _) (by rfl)) (by rfl)) (by rfl) (by decide) (by rfl) (by rfl)) (@aa _ _ _ _ _ (@pv _ 4 _ _ (by rfl) (by first | exact Or.inl rfl | exact Or.inr (Or.inl rfl) | exact Or.inr (Or.inr rfl)) (by decide) (by decide)) (@aa _ _ _ _ _ (@pv _ 1 _ _ (by rfl) (by first | exact Or.inl rfl | exact Or.inr (Or.inl rfl) | exact Or.inr (Or.inr rfl)) (by decide) (by decide)) (@aa _ _ _ _ _ (@pv _ 2 _ _ (by rfl) (by first | exact Or.inl rfl | exact Or.inr (Or.inl rfl) | exact Or.inr (Or.inr rfl)) (by decide) (by decide)) (@ai _) (by rfl)) (by rfl)) (by rfl)) (by rfl)) (by rfl) (by decide) (by rfl) (by rfl)) (@ai _) (by rfl)) (by rfl) (by rfl) (by rfl) (by rfl) (by rfl)) (by rfl))) (by intro _;rfl)) (@ah _ _ _ _ _ (@jK _ _ _ _ _ _ _ _ _ _ (sG K 3 (eK (bH 0) (eK (bH 1) (eK (bH 2) sH)))) _ _ 7 _ _ _ rfl S.nd rfl (by fail "o") (@fk _ _ _ _ (@pv _ 5 _ _ (by rfl) (by first | exact Or.inl rfl | exact Or.inr (Or.inl rfl) | exact Or.inr (Or.inr rfl)) (by decide) (by decide))) (@gk _ _ ["_law_moment", "_law_slot", "_law_count"] [3] (aj (top 27)).names ["_law_script", "_law_counts", "_law_slots", "_law_shape", "_law_first", "_law_parts_here", "_law_k", "_law_marks", "_law_texts", "_law_seen", "_law_text", "_law_mark", "_law_part"] rfl rfl rfl (by decide +kernel)) (fun _ _ _ _=>(@iT _ _ _ _ _ _ rfl (@aX _ _ _ _ _ (@aP _ _ 0 _ (show (eX ["_law_script", "_law_counts", "_law_slots", "_law_shape", "_law_first", "_law_parts_here", "_law_k", "_law_marks", "_law_texts", "_law_seen", "_law_text", "_law_mark", "_law_part"] ["_law_moment", "_law_slot", "_law_count"] [3]).Nodup by decide +kernel) rfl (by fail "o") (by first | exact .inl rfl | exact .inr rfl | assumption)) (@aX _ _ _ _ _ (@aP _ _ 1 _ (show (eX ["_law_script", "_law_counts", "_law_slots", "_law_shape", "_law_first", "_law_parts_here", "_law_k", "_law_marks", "_law_texts", "_law_seen", "_law_text", "_law_mark", "_law_part"] ["_law_moment", "_law_slot", "_law_count"] [3]).Nodup by decide +kernel) rfl (by fail "o") (by first | exact .inl rfl | exact .inr rfl | assumption)) (@aX _ _ _ _ _ (@aP _ _ 2 _ (show (eX ["_law_script", "_law_counts", "_law_slots", "_law_shape", "_law_first", "_law_parts_here", "_law_k", "_law_marks", "_law_texts", "_law_seen", "_law_text", "_law_mark", "_law_part"] ["_law_moment", "_law_slot", "_law_count"] [3]).Nodup by decide +kernel) rfl (by fail "o") (by first | exact .inl rfl | exact .inr rfl | assumption)) (@fm _) (by rfl)) (by rfl)) (by rfl)) (by rfl) (by rfl))) (fun _ _ _ _=>(@cH _)) (fun _ _ _ _=>(@aB _ _ _ _ _ _ _ _ _ _ _ _ iy (by fail "r") NE.pass (@aa _ _ _ _ _ (@pv _ 3 _ _ (by rfl) (by first | exact Or.inl rfl | exact Or.inr (Or.inl rfl) | exact Or.inr (Or.inr rfl)) (by decide) (by decide)) (@aa _ _ _ _ _ (@pv _ 0 _ _ (by rfl) (by first | exact Or.inl rfl | exact Or.inr (Or.inl rfl) | exact Or.inr (Or.inr rfl)) (by decide) (by decide)) (@aa _ _ _ _ _ (@pv _ 1 _ _ (by rfl) (by first | exact Or.inl rfl | exact Or.inr (Or.inl rfl) | exact Or.inr (Or.inr rfl)) (by decide) (by decide)) (@aa _ _ _ _ _ (@pv _ 2 _ _ (by rfl) (by first | exact Or.inl rfl | exact Or.inr (Or.inl rfl) | exact Or.inr (Or.inr rfl)) (by decide) (by decide)) (@ai _) (by rfl)) (by rfl)) (by rfl)) (by rfl)) (by rfl) (by decide) (by rfl) (by rfl))) (by with_unfolding_all rfl) (by first | exact .inl rfl | exact .inr rfl | assumption) (by intro _;rfl)) (@ah _ _ _ _ _ (@jK _ _ _ _ _ _ _ _ _ _ (bH 0) _ _ 8 _ _ _ rfl S.nd rfl (by fail "o") (@fk _ _ _ _ (@pv _ 7 _ _ (by rfl) (by first | exact Or.inl rfl | exact Or.inr (Or.inl rfl) | exact Or.inr (Or.inr rfl)) (by decide) (by decide))) (@gk _ _ ["_law_mark"] [] (aj (top 27)).names ["_law_script", "_law_counts", "_law_slots", "_law_shape", "_law_first", "_law_parts_here", "_law_k", "_law_marks", "_law_texts", "_law_seen", "_law_text", "_law_mark", "_law_part"] rfl rfl rfl (by decide +kernel)) (fun _ _ _ _=>(@aP _ _ 0 _ (show (eX ["_law_script", "_law_counts", "_law_slots", "_law_shape", "_law_first", "_law_parts_here", "_law_k", "_law_marks", "_law_texts", "_law_seen", "_law_text", "_law_mark", "_law_part"] ["_law_mark"] []).Nodup by decide +kernel) rfl (by fail "o") (by first | exact .inl rfl | exact .inr rfl | assumption))) (fun _ _ _ _=>(@cH _)) (fun _ _ _ _=>(@aB _ _ _ _ _ _ _ _ _ _ _ _ dI (by fail "r") NE.pass (@aa _ _ _ _ _ (@pv _ 0 _ _ (by rfl) (by first | exact Or.inl rfl | exact Or.inr (Or.inl rfl) | exact Or.inr (Or.inr rfl)) (by decide) (by decide)) (@ai _) (by rfl)) (by rfl) (by decide) (by rfl) (by rfl))) (by with_unfolding_all rfl) (by first | exact .inl rfl | exact .inr rfl | assumption) (by intro _;rfl)) (@ah _ _ _ _ _ (@aW _ _ _ _ _ _ _ _ (@aF _ _ _ _ _ _ _ _ (@iZ _ (hr.mono (Ae _))) (@aK _ _ _ _ _ _ _ _ _ (@mQ _) rfl BT.sorted L3.cW (@aa _ _ _ _ _ (@pv _ 8 _ _ (by rfl) (by first | exact Or.inl rfl | exact Or.inr (Or.inl rfl) | exact Or.inr (Or.inr rfl)) (by decide) (by decide)) (@ai _) (by rfl)) (by decide) (by decide) (by rfl) (by rfl)) (@iY _ _ _ _ _ _ _ _ _ _ (bH 0) _ _ rfl (@fk _ _ _ _ (@aK _ _ _ _ _ _ _ _ _ (@sU _) rfl BT.sorted L3.cW (@aa _ _ _ _ _ (@pv _ 7 _ _ (by rfl) (by first | exact Or.inl rfl | exact Or.inr (Or.inl rfl) | exact Or.inr (Or.inr rfl)) (by decide) (by decide)) (@ai _) (by rfl)) (by decide) (by decide) (by rfl) (by rfl))) (@gk _ _ ["_law_mark"] [] (aj (top 27)).names ["_law_script", "_law_counts", "_law_slots", "_law_shape", "_law_first", "_law_parts_here", "_law_k", "_law_marks", "_law_texts", "_law_seen", "_law_text", "_law_mark", "_law_part"] rfl rfl rfl (by decide +kernel)) (fun _ _ _ _=>(@aP _ _ 0 _ (show (eX ["_law_script", "_law_counts", "_law_slots", "_law_shape", "_law_first", "_law_parts_here", "_law_k", "_law_marks", "_law_texts", "_law_seen", "_law_text", "_law_mark", "_law_part"] ["_law_mark"] []).Nodup by decide +kernel) rfl (by fail "o") (by first | exact .inl rfl | exact .inr rfl | assumption))) (fun _ _ _ _=>(@cH _)) (fun _ _ _ _=>(@aB _ _ _ _ _ _ _ _ _ _ _ _ dI (by fail "r") NE.pass (@aa _ _ _ _ _ (@pv _ 0 _ _ (by rfl) (by first | exact Or.inl rfl | exact Or.inr (Or.inl rfl) | exact Or.inr (Or.inr rfl)) (by decide) (by decide)) (@ai _) (by rfl)) (by rfl) (by decide) (by rfl) (by rfl))) (by intro _;rfl)) (@aJ _ _ (by decide) (by decide))) (@ak _ _ _ (@aA _ _ _ _ (@eF _ _ _ _))) (@aG _)) (@ah _ _ _ _ _ (@aW _ _ _ _ _ _ _ _ (@aF _ _ _ _ _ _ _ _ (@iZ _ (hr.mono (Ae _))) (@aK _ _ _ _ _ _ _ _ _ (@mQ _) rfl BT.sorted L3.cW (@aa _ _ _ _ _ (@pv _ 8 _ _ (by rfl) (by first | exact Or.inl rfl | exact Or.inr (Or.inl rfl) | exact Or.inr (Or.inr rfl)) (by decide) (by decide)) (@ai _) (by rfl)) (by decide) (by decide) (by rfl) (by rfl)) (@iY _ _ _ _ _ _ _ _ _ _ (sG K 3 (eK (bH 0) (eK (bH 1) (eK (bH 2) sH)))) _ _ rfl (@fk _ _ _ _ (@aK _ _ _ _ _ _ _ _ _ (@sS _) rfl BT.sorted L3.cW (@aa _ _ _ _ _ (@pv _ 5 _ _ (by rfl) (by first | exact Or.inl rfl | exact Or.inr (Or.inl rfl) | exact Or.inr (Or.inr rfl)) (by decide) (by decide)) (@ai _) (by rfl)) (by decide) (by decide) (by rfl) (by rfl))) (@gk _ _ ["_law_moment", "_law_slot", "_law_count"] [3] (aj (top 27)).names ["_law_script", "_law_counts", "_law_slots", "_law_shape", "_law_first", "_law_parts_here", "_law_k", "_law_marks", "_law_texts", "_law_seen", "_law_text", "_law_mark", "_law_part"] rfl rfl rfl (by decide +kernel)) (fun _ _ _ _=>(@iT _ _ _ _ _ _ rfl (@aX _ _ _ _ _ (@aP _ _ 0 _ (show (eX ["_law_script", "_law_counts", "_law_slots", "_law_shape", "_law_first", "_law_parts_here", "_law_k", "_law_marks", "_law_texts", "_law_seen", "_law_text", "_law_mark", "_law_part"] ["_law_moment", "_law_slot", "_law_count"] [3]).Nodup by decide +kernel) rfl (by fail "o") (by first | exact .inl rfl | exact .inr rfl | assumption)) (@aX _ _ _ _ _ (@aP _ _ 1 _ (show (eX ["_law_script", "_law_counts", "_law_slots", "_law_shape", "_law_first", "_law_parts_here", "_law_k", "_law_marks", "_law_texts", "_law_seen", "_law_text", "_law_mark", "_law_part"] ["_law_moment", "_law_slot", "_law_count"] [3]).Nodup by decide +kernel) rfl (by fail "o") (by first | exact .inl rfl | exact .inr rfl | assumption)) (@aX _ _ _ _ _ (@aP _ _ 2 _ (show (eX ["_law_script", "_law_counts", "_law_slots", "_law_shape", "_law_first", "_law_parts_here", "_law_k", "_law_marks", "_law_texts", "_law_seen", "_law_text", "_law_mark", "_law_part"] ["_law_moment", "_law_slot", "_law_count"] [3]).Nodup by decide +kernel) rfl (by fail "o") (by first | exact .inl rfl | exact .inr rfl | assumption)) (@fm _) (by rfl)) (by rfl)) (by rfl)) (by rfl) (by rfl))) (fun _ _ _ _=>(@cH _)) (fun _ _ _ _=>(@aB _ _ _ _ _ _ _ _ _ _ _ _ dI (by fail "r") NE.pass (@aa _ _ _ _ _ (@aB _ _ _ _ _ _ _ _ _ _ _ _ iy (by fail "r") NE.pass (@aa _ _ _ _ _ (@pv _ 3 _ _ (by rfl) (by first | exact Or.inl rfl | exact Or.inr (Or.inl rfl) | exact Or.inr (Or.inr rfl)) (by decide) (by decide)) (@aa _ _ _ _ _ (@pv _ 0 _ _ (by rfl) (by first | exact Or.inl rfl | exact Or.inr (Or.inl rfl) | exact Or.inr (Or.inr rfl)) (by decide) (by decide)) (@aa _ _ _ _ _ (@pv _ 1 _ _ (by rfl) (by first | exact Or.inl rfl | exact Or.inr (Or.inl rfl) | exact Or.inr (Or.inr rfl)) (by decide) (by decide)) (@aa _ _ _ _ _ (@pv _ 2 _ _ (by rfl) (by first | exact Or.inl rfl | exact Or.inr (Or.inl rfl) | exact Or.inr (Or.inr rfl)) (by decide) (by decide)) (@ai _) (by rfl)) (by rfl)) (by rfl)) (by rfl)) (by rfl) (by decide) (by rfl) (by rfl)) (@ai _) (by rfl)) (by rfl) (by decide) (by rfl) (by rfl))) (by intro _;rfl)) (@aJ _ _ (by decide) (by decide))) (@ak _ _ _ (@aA _ _ _ _ (@eF _ _ _ _))) (@aG _)) (@ah _ _ _ _ _ (@aI _ _ 9 _ _ _ _ S.nd rfl (by fail "o") (@pN _ _) (by rfl) (by first | exact .inl rfl | exact .inr rfl | assumption)) (@ah _ _ _ _ _ (@iS _ _ _ _ _ _ _ _ PassesOwn.never rfl (rC rfl BT.zip_ (@aa _ _ _ _ _ (@pv _ 8 _ _ (by rfl) (by first | exact Or.inl rfl | exact Or.inr (Or.inl rfl) | exact Or.inr (Or.inr rfl)) (by decide) (by decide)) (@aa _ _ _ _ _ (@pv _ 7 _ _ (by rfl) (by first | exact Or.inl rfl | exact Or.inr (Or.inl rfl) | exact Or.inr (Or.inr rfl)) (by decide) (by decide)) (@aa _ _ _ _ _ (@pv _ 5 _ _ (by rfl) (by first | exact Or.inl rfl | exact Or.inr (Or.inl rfl) | exact Or.inr (Or.inr rfl)) (by decide) (by decide)) (@ai _) (by rfl)) (by rfl)) (by rfl))) (@iT _ _ _ _ _ _ rfl (@aX _ _ _ _ _ (@aP _ _ 10 _ S.nd rfl (by fail "o") (by first | exact .inl rfl | exact .inr rfl | assumption)) (@aX _ _ _ _ _ (@aP _ _ 11 _ S.nd rfl (by fail "o") (by first | exact .inl rfl | exact .inr rfl | assumption)) (@aX _ _ _ _ _ (@aP _ _ 12 _ S.nd rfl (by fail "o") (by first | exact .inl rfl | exact .inr rfl | assumption)) (@fm _) (by rfl)) (by rfl)) (by rfl)) (by rfl) (by rfl)) (@ah _ _ _ _ _ (@aW _ _ _ _ _ _ _ _ (@PW.pt _ _ _ (@l5 _ _ _ _ _ _ _ (@dW _ _ _ _ (@dU _ _ _ (@iX _ _ _ _ _ _ _ _ BT.isinstance BT.str_ L3.qE (@pv _ 10 _ _ (by rfl) (by first | exact Or.inl rfl | exact Or.inr (Or.inl rfl) | exact Or.inr (Or.inr rfl)) (by decide) (by decide)) (by rfl) (by rfl) (by decide) (by decide) (by rfl) (by rfl) (by rfl)) (by intro _;rfl))) (@l5 _ _ _ _ _ _ _ (@aF _ _ _ _ _ _ _ _ (@pQ _) (@aB _ _ _ _ _ _ _ _ _ _ _ _ jk (by fail "r") NE.pass (@aa _ _ _ _ _ (@pv _ 10 _ _ (by rfl) (by first | exact Or.inl rfl | exact Or.inr (Or.inl rfl) | exact Or.inr (Or.inr rfl)) (by decide) (by decide)) (@ai _) (by rfl)) (by rfl) (by decide) (by rfl) (by rfl)) (@pv _ 11 _ _ (by rfl) (by first | exact Or.inl rfl | exact Or.inr (Or.inl rfl) | exact Or.inr (Or.inr rfl)) (by decide) (by decide)) (@aJ _ _ (by decide) (by decide))) (@kR _ _ _ _ (@aF _ _ _ _ _ _ _ _ (@iZ _ (hr.mono (Ae _))) (@aB _ _ _ _ _ _ _ _ _ _ _ _ lF (by fail "r") NE.pass (@aa _ _ _ _ _ (@pv _ 3 _ _ (by rfl) (by first | exact Or.inl rfl | exact Or.inr (Or.inl rfl) | exact Or.inr (Or.inr rfl)) (by decide) (by decide)) (@aa _ _ _ _ _ (@aB _ _ _ _ _ _ _ _ _ _ _ _ jk (by fail "r") NE.pass (@aa _ _ _ _ _ (@pv _ 10 _ _ (by rfl) (by first | exact Or.inl rfl | exact Or.inr (Or.inl rfl) | exact Or.inr (Or.inr rfl)) (by decide) (by decide)) (@ai _) (by rfl)) (by rfl) (by decide) (by rfl) (by rfl)) (@ai _) (by rfl)) (by rfl)) (by rfl) (by decide) (by rfl) (by rfl)) (@pv _ 12 _ _ (by rfl) (by first | exact Or.inl rfl | exact Or.inr (Or.inl rfl) | exact Or.inr (Or.inr rfl)) (by decide) (by decide)) (@aJ _ _ (by decide) (by decide))))))) (@ak _ _ _ (@aA _ _ _ _ (@eF _ _ _ _))) (@aG _)) (@ak _ _ _ (@aW _ _ _ _ _ _ _ _ (@aF _ _ _ _ _ _ _ _ (@iZ _ (hr.mono (Ae _))) (pM (@pv _ 9 _ _ (by rfl) (by first | exact Or.inl rfl | exact Or.inr (Or.inl rfl) | exact Or.inr (Or.inr rfl)) (by decide) (by decide)) (@pv _ 10 _ _ (by rfl) (by first | exact Or.inl rfl | exact Or.inr (Or.inl rfl) | exact Or.inr (Or.inr rfl)) (by decide) (by decide)) (@pv _ 12 _ _ (by rfl) (by first | exact Or.inl rfl | exact Or.inr (Or.inl rfl) | exact Or.inr (Or.inr rfl)) (by decide) (by decide)) ⟨rfl,rfl,rfl,rfl⟩) (@pv _ 12 _ _ (by rfl) (by first | exact Or.inl rfl | exact Or.inr (Or.inl rfl) | exact Or.inr (Or.inr rfl)) (by decide) (by decide)) (@aJ _ _ (by decide) (by decide))) (@ak _ _ _ (@aA _ _ _ _ (@eF _ _ _ _))) (@aG _)))) (by intro _;rfl)) (@ak _ _ _ (@aA _ _ _ _ (@cT _ _ _ _ _ _ _ _ (@cB _) (@aK _ _ _ _ _ _ _ _ _ (@nZ _) rfl BT.len L3.cz (@aa _ _ _ _ _ (@pv _ 9 _ _ (by rfl) (by first | exact Or.inl rfl | exact Or.inr (Or.inl rfl) | exact Or.inr (Or.inr rfl)) (by decide) (by decide)) (@ai _) (by rfl)) (by decide) (by decide) (by rfl) (by rfl)) (kU (yb hr) rfl rfl rfl BT.len BT.set_ (@pv _ 5 _ _ (by rfl) (by first | exact Or.inl rfl | exact Or.inr (Or.inl rfl) | exact Or.inr (Or.inr rfl)) (by decide) (by decide))) (@aJ _ _ (by decide) (by decide)))))))))))))))),?_⟩
 try dsimp only [bW]
 have qP:=qP
 have L:=Led.start H (fun _=>False)
 fail "go"
 refine fK L (L.seq hS not_false) h63 (by decide) fun p1 H1 _ L _=>?_
 fail "go"
 refine jx L .head (by decide) fun t1 c s H2 n L _=>?_
 fail "go"
 refine m7 L n fun x1 H3 _ L _=>?_
 fail "go"
 refine fK L (L.seq hS not_false) h63 (by decide) fun p2 H4 _ L _=>?_
 fail "go"
 refine fJ L .head (by decide) (by decide) (by decide) fun mid H5 m0 m1 L _=>?_
 have hx5:jn C H5 x1 c s:=by
  obtain ⟨o,h,dx,rfl⟩:=L.at_ (x1,qI C c s) (by fail "mem")
  exact ⟨dx,h⟩
 have hS5:SqL K H5 a (ns.map V.int):=L.seq hS not_false
 clear L
 have L:=Led.start H5 (fun _=>False)
 fail "go"
 have nla:H5 l'=none:=n'
 have wY:=L'.eo (p:=l') .head
 have s56:=L'.same
 clear L L'
 rename Hp=>H6;rename Addr=>la
 fail "go"
 have hgx:∀ {H':Hp},aN H5 H'->jn C H' x1 c s:=fun sm=>hx5.elim fun dx e=>⟨dx,sm _ _ e⟩
 generalize hN:(max 4 (min 52 (ns.length:Int)) - 2).toNat=N
 have hN1 : 2<=N:=by omega
 have hN2:N<=50:=by omega
 refine vn (fun i σ H'=>∃ (u6:Option V) (ps:List Pt),σ=[some (.ref a),some (.int c),some (.int s),some (.ref x1),some (.int mid),some (.ref la),u6,none,none,none,none,none,none]/\aN H5 H'/\H' la=some (.lst (ptV ps))/\gr H' ps/\mV c s ps/\ps.length=i) ⟨_,[],rfl,s56,wY,(fun _ h=>by simp at h),(fun _ h=>by simp at h),rfl⟩ ?_ ?_
 ·rintro i σ HG hi ⟨u6,ps,rfl,sm,hla,hP,hO,hlen⟩
  have wR:∀ {H':Hp},(∀ b o,HG b=some o->¬ b=la->H' b=some o)->aN H5 H':=fun h b o e=>h b o (sm _ _ e) (fun z=>by rw [z,nla] at e;cases e)
  have hlp:=iR ps
  have L:=(rX hla).more (rm ps) hP
  try dsimp only [bH]
  fail "go"
  refine fK L (sm.seq hS5) h63 (by omega) fun p HA _ L _=>?_
  fail "go"
  refine kE L .head n m0 m1 (by decide) fun t m l k HB x0 x1' y0 y1 z0 z1 L _=>?_
  fail "go"
  have hGn:gr _ ps:=L'.fact (f:=rm ps) (by fail "mem")
  have ht:=L'.tup (r:=t) (by fail "mem")
  exact ⟨_,ps++[⟨t,m,l,k⟩],rfl,wR L'.fr,(L'.eo (p:=la) (by fail "put")).trans (by rw [pB]),fun z hz=>(Aj hz).elim (hGn z) (fun g=>by rw [Ai g];exact ht),fun z hz=>(Aj hz).elim (hO z) (fun g=>by rw [Ai g];exact ⟨x0,x1',y0,y1,z0,z1⟩),by rw [zJ,zE,hlen]⟩
 rintro σ HG ⟨u6,ps,rfl,sm,hla,hP,hO,hlen⟩
 have hlp:=iR ps
 clear nla wY s56
 fail "go"
 refine f6 (SqL.of hla) ?_
 have hx0:∀ {H':Hp},aN HG H'->jn C H' x1 c s:=fun s2=>hgx (sm.trans s2)
 refine fC (ptV ps) (fun i ys H'=>H'=HG/\i<=ps.length/\ys=((ps.take i).map (Pt.mk' c s)).map V.int) ⟨rfl,Ae _,rfl⟩ (fun i ys H' hi ⟨e,hi',ey⟩=>⟨by rw [e];exact SqL.of hla,Aa (small1000 (by rw [ey,zS,zS,zQ];omega))⟩) ?_ ?_
 ·rintro i v ys H' hv ⟨rfl,hi',rfl⟩
  obtain ⟨x,hx,rfl⟩:=l7 hv
  have hi:i < ps.length:=(Ah hx).1
  have xm:=zG hx
  obtain ⟨b0,b1,b2,b3,b4,b5⟩:=hO x xm
  have nn:=n
  obtain ⟨c1,c2,s1,s2⟩:=n
  refine ⟨x.a,_,rfl,SqT.of (hP x xm),rfl,?_⟩
  fail "go"
  refine ⟨x1,c,s,x.m,x.l,x.k,rfl,nn,hx0 (aN.refl _),b0,Ac b1 (by decide),b2,by omega,b4,by omega,?_⟩
  refine ⟨rfl,by omega,?_⟩
  rw [List.take_succ,hx]
  simp [Pt.mk']
 rintro ys HZ ⟨rfl,_,rfl⟩ kl nkl
 rw [hlp,zR]
 have smM:=bA nkl (HO.lst ((ps.map (Pt.mk' c s)).map V.int))
 have hkl:(upd HZ kl (HO.lst ((ps.map (Pt.mk' c s)).map V.int))) kl=some (.lst ((ps.map (Pt.mk' c s)).map V.int)):=av
 generalize upd HZ kl (HO.lst ((ps.map (Pt.mk' c s)).map V.int))=HM at smM hkl ⊢
 have hla:=smM _ _ hla
 have hP:=hP.same smM
 have hgx:∀ {H':Hp},aN HM H'->jn C H' x1 c s:=fun s2=>hx0 (smM.trans s2)
 clear hx0 nkl smM sm
 have hml:((ps.map (Pt.mk' c s)).map V.int).length=ps.length:=by rw [zS,zS]
 fail "go"
 refine f6 (SqL.of hkl) ?_
 refine fC ((ps.map (Pt.mk' c s)).map V.int) (fun i ys H'=>H'=HM/\i<=ps.length/\ys=((ps.take i).map (Pt.tx c s)).map V.str) ⟨rfl,Ae _,rfl⟩ (fun i ys H' hi ⟨e,hi',ey⟩=>⟨by rw [e];exact SqL.of hkl,Aa (small1000 (by rw [ey,zS,zS,zQ];omega))⟩) ?_ ?_
 ·rintro i v ys H' hv ⟨rfl,hi',rfl⟩
  have hi:i < ps.length:=by
   have:=(Ah hv).1
   omega
  obtain ⟨x,hx⟩:∃ x,ps[i]?=some x:=⟨_,zD hi⟩
  rw [qi hx] at hv
  cases hv
  have bx:=fW n (hO x (zG hx))
  try dsimp only [bH]
  fail "go"
  refine ⟨x.mk' c s,rfl,bx.1,bx.2,?_⟩
  refine ⟨rfl,by omega,?_⟩
  rw [List.take_succ,hx]
  simp [Pt.tx]
 rintro ys HZ ⟨rfl,_,rfl⟩ tl ntl
 rw [hml,zR]
 have smT:=bA ntl (HO.lst ((ps.map (Pt.tx c s)).map V.str))
 have htl:(upd HZ tl (HO.lst ((ps.map (Pt.tx c s)).map V.str))) tl=some (.lst ((ps.map (Pt.tx c s)).map V.str)):=av
 generalize upd HZ tl (HO.lst ((ps.map (Pt.tx c s)).map V.str))=HT at smT htl ⊢
 have hla:=smT _ _ hla
 have hkl:=smT _ _ hkl
 have hP:=hP.same smT
 have hgx:∀ {H':Hp},aN HT H'->jn C H' x1 c s:=fun s2=>hgx (smT.trans s2)
 clear ntl smT
 have L:=(Led.start HT (fun _=>False)).more (rm ps) hP
 fail "go"
 refine mG L (SqL.of htl) (by rw [zS];omega) fun b1 ws H1 nb1 pm1 pw1 L s1=>?_
 fail "go"
 refine sA L (SqL.of (s1 _ _ hkl)) (by rw [zS];omega) fun b2 ms H2 nb2 pm2 pw2 L s2=>?_
 have hb2:H2 b2=some (.lst (ms.map V.int)):=L.eo (p:=b2) .head
 have hb1:H2 b1=some (.lst (ws.map V.str)):=L.eo (p:=b1) (by fail "put")
 have eqw:=lQ n hO pm1 pw1 pm2 pw2
 have hms:ms.length=ps.length:=by rw [pm2.length_eq,zS]
 clear L
 refine f6 (SqL.of hb2) ?_
 refine fC (ms.map V.int) (fun i ys H'=>H'=H2/\i<=ms.length/\ys=((ms.take i).map fun m:Int=>textOf m.toNat).map V.str) ⟨rfl,Ae _,rfl⟩ (fun i ys H' hi ⟨e,hi',ey⟩=>⟨by rw [e];exact SqL.of hb2,Aa (small1000 (by rw [ey,zS,zS,zQ];omega))⟩) ?_ ?_
 ·rintro i v ys H' hv ⟨rfl,hi',rfl⟩
  rw [zO] at hv
  cases hm:ms[i]? with
  | none=>rw [hm] at hv;cases hv
  | some mv=>
   rw [hm] at hv
   cases zW hv
   have hi:i < ms.length:=(Ah hm).1
   obtain ⟨x,xm,rfl⟩:=Al (pm2.mem_iff.mp (zG hm))
   have bx:=fW n (hO x xm)
   try dsimp only [bH]
   fail "go"
   refine ⟨x.mk' c s,rfl,bx.1,bx.2,?_⟩
   refine ⟨rfl,by omega,?_⟩
   rw [List.take_succ,hm]
   simp
 rintro ys HY ⟨rfl,_,rfl⟩ b3 nb3
 rw [zS,zR,<- eqw]
 have s3:=bA nb3 (HO.lst (ws.map V.str))
 have hb3:(upd HY b3 (HO.lst (ws.map V.str))) b3=some (.lst (ws.map V.str)):=av
 generalize upd HY b3 (HO.lst (ws.map V.str))=H3 at s3 hb3 ⊢
 have s13:=(s1.trans s2).trans s3
 fail "go"
 refine f7 (d:=.lst (ws.map Dt.str)) (.lst (SqL.of (s3 _ _ hb1)) (cE _)) (.lst (SqL.of hb3) (cE _)) (jA _) ?_
 have hkl:=s13 _ _ hkl
 have hla:=s13 _ _ hla
 have htl:=s13 _ _ htl
 have hP:=hP.same s13
 have hgx:∀ {H':Hp},aN H3 H'->jn C H' x1 c s:=fun z=>hgx (s13.trans z)
 clear hb1 hb2 hb3 eqw pm1 pw1 pm2 pw2 nb3 s3 s13 s1 s2 nb1 nb2 hms
 have L:=(Led.start H3 (fun _=>False)).more (rm ps) hP
 fail "go"
 refine mG L (SqL.of htl) (by rw [zS];omega) fun b1 ws H4 nb1 pm1 pw1 L s1=>?_
 have wX:=s1 _ _ hla
 have hP1:=hP.same s1
 fail "go"
 refine sy (ps:=ps) (ad:=Pt.a) (fun x=>[x.m,x.l,x.k]) (Pt.mk' c s) 3 L (SqL.of wX) (by omega) (by decide) (fun x hx=>⟨hP1 x hx,rfl⟩) (fun x hx y hy=>uT n (hO x hx) (hO y hy)) fun b2 qs H5' nb2 pm2 pw2 L s2=>?_
 have hb2:H5' b2=some (.lst (ptV qs)):=L.eo (p:=b2) .head
 have hb1:H5' b1=some (.lst (ws.map V.str)):=L.eo (p:=b1) (by fail "put")
 have hP2:gr H5' qs:=fun x hx=>s2 _ _ (hP1 x (pm2.mem_iff.mp hx))
 have hO2:mV c s qs:=fun x hx=>hO x (pm2.mem_iff.mp hx)
 have hql:qs.length=ps.length:=pm2.length_eq
 have hqv:=iR qs
 have s12:=s1.trans s2
 have eqw:ws=qs.map (Pt.tx c s):=by
  rw [lQ n hO pm1 pw1 (pm2.map (Pt.mk' c s)) (by rw [List.pairwise_map];exact pw2),zZ];rfl
 clear L
 fail "go"
 refine f6 (SqL.of hb2) ?_
 refine fC (ptV qs) (fun i ys H'=>H'=H5'/\i<=qs.length/\ys=((qs.take i).map (Pt.tx c s)).map V.str) ⟨rfl,Ae _,rfl⟩ (fun i ys H' hi ⟨e,hi',ey⟩=>⟨by rw [e];exact SqL.of hb2,Aa (small1000 (by rw [ey,zS,zS,zQ];omega))⟩) ?_ ?_
 ·rintro i v ys H' hv ⟨rfl,hi',rfl⟩
  obtain ⟨x,hx,rfl⟩:=l7 hv
  have hi:i < qs.length:=(Ah hx).1
  have xm:=zG hx
  have bx:=fW n (hO2 x xm)
  obtain ⟨z0,z1,z2,z3,z4,z5⟩:=hO2 x xm
  have nn:=n
  obtain ⟨c1,c2,s1',s2'⟩:=n
  refine ⟨x.a,_,rfl,SqT.of (hP2 x xm),rfl,?_⟩
  fail "go"
  refine ⟨x1,c,s,x.m,x.l,x.k,rfl,nn,hgx s12,z0,Ac z1 (by decide),z2,by omega,z4,by omega,?_⟩
  fail "go"
  refine ⟨x.mk' c s,rfl,bx.1,bx.2,?_⟩
  refine ⟨rfl,by omega,?_⟩
  rw [List.take_succ,hx]
  simp [Pt.tx]
 rintro ys HY ⟨rfl,_,rfl⟩ b3 nb3
 rw [hqv,zR,<- eqw]
 have s3:=bA nb3 (HO.lst (ws.map V.str))
 have hb3:(upd HY b3 (HO.lst (ws.map V.str))) b3=some (.lst (ws.map V.str)):=av
 generalize upd HY b3 (HO.lst (ws.map V.str))=H6 at s3 hb3 ⊢
 have s13:=s12.trans s3
 fail "go"
 refine f7 (d:=.lst (ws.map Dt.str)) (.lst (SqL.of (s3 _ _ hb1)) (cE _)) (.lst (SqL.of hb3) (cE _)) (jA _) ?_
 have hkl:=s13 _ _ hkl
 have hla:=s13 _ _ hla
 have htl:=s13 _ _ htl
 have hP:=hP.same s13
 have hgx:∀ {H':Hp},aN H6 H'->jn C H' x1 c s:=fun z=>hgx (s13.trans z)
 clear hb1 hb2 hb3 eqw pm1 pw1 pm2 pw2 nb3 s3 s13 s1 s2 nb1 nb2 hP2 hO2 hql hqv s12 wX hP1
 fail "go"
 refine sF fun d nd=>?_
 have s1:=bA nd (HO.dK [])
 have hd:(upd H6 d (.dK [])) d=some (.dK []):=av
 generalize upd H6 d (.dK [])=H7 at *
 fail "go"
 refine vc ?_
 fail "go"
 refine su (SqL.of (s1 _ _ htl)) (SqL.of (s1 _ _ hkl)) (SqL.of (s1 _ _ hla)) ?_
 have hl1:((ps.map (Pt.tx c s)).map V.str).length=ps.length:=by rw [zS,zS]
 refine sD ((ps.map (Pt.tx c s)).map V.str) ((ps.map (Pt.mk' c s)).map V.int) (ptV ps) (by omega) (by omega) (fun i σ H'=>∃ (u10 u11 u12:Option V) (kvs:List (Key×V)),σ=[some (.ref a),some (.int c),some (.int s),some (.ref x1),some (.int mid),some (.ref la),u6,some (.ref kl),some (.ref tl),some (.ref d),u10,u11,u12]/\aN H6 H'/\H' d=some (.dK kvs)/\gq c s ps i kvs)
  ⟨_,_,_,[],rfl,s1,hd,⟨fun k v h=>by simp [bh] at h,fun x h=>by simp at h,rfl⟩⟩ (fun i σ H' _ ⟨_,_,_,_,_,sx,_⟩=>⟨SqL.of (sx _ _ htl),SqL.of (sx _ _ hkl),SqL.of (sx _ _ hla)⟩) ?_ ?_
 ·rintro i v1 v2 v3 T σ H' e1 e2 e3 ⟨u10,u11,u12,kvs,rfl,sx,hdx,Z⟩ nT
  have hi:i < ps.length:=by
   have:=(Ah e1).1
   omega
  obtain ⟨x,hx⟩:∃ x,ps[i]?=some x:=⟨_,zD hi⟩
  have xm:=zG hx
  rw [vK hx] at e1
  rw [qi hx] at e2
  cases e1
  cases e2
  have e3:some (V.ref x.a)=some v3:=by rw [<- e3];unfold ptV;rw [zO,hx];rfl
  cases e3
  have sT:=bA nT (HO.tup [V.str (x.tx c s),V.int (x.mk' c s),V.ref x.a])
  have hT:(upd H' T (HO.tup [V.str (x.tx c s),V.int (x.mk' c s),V.ref x.a])) T=some (.tup [V.str (x.tx c s),V.int (x.mk' c s),V.ref x.a]):=av
  have hdT:=sT _ _ hdx
  generalize upd H' T (HO.tup [V.str (x.tx c s),V.int (x.mk' c s),V.ref x.a])=HT' at *
  have s6T:=sx.trans sT
  have bx:=fW n (hO x xm)
  obtain ⟨z0,z1,z2,z3,z4,z5⟩:=hO x xm
  have TX:=gH (m:=(x.mk' c s).toNat) (by show (mk c s x.m x.l x.k).toNat < _;omega)
  have hrd:∀ {Hc:Hp} {Q':VK} {E':XK},(∀ H'',aN Hc H''->Q' (.int (x.mk' c s)) H'')->kH CN [.str (x.tx c s)] Hc Q' E':=fun {Hc Q' E'} h=>
   ⟨.str (x.tx c s),rfl,.str _,fun z e=>by cases e;have:=TX.l32;show (textOf _).length<=500;omega,.inl ⟨TX.co,fun z e H'' s''=>by
    cases e
    have e2:((markV (x.tx c s):Nat):Int)=x.mk' c s:=by
     show ((markV (textOf (x.mk' c s).toNat):Nat):Int)=_
     rw [TX.mrk]
     have : 0<=x.mk' c s:=bx.1
     omega
    rw [e2];exact h H'' s''⟩⟩
  have pm:=fU (m:=x.m) n z2 z3 z4 z5
  refine ⟨T,_,rfl,SqT.of hT,rfl,?_⟩
  try dsimp only [bH]
  fail "go"
  refine ⟨_,_,_,true,rfl,.str _,.inl ⟨_,rfl,rfl⟩,?_⟩
  fail "go"
  refine hrd fun H8 s8=>?_
  fail "go"
  refine hrd fun H9 s9=>?_
  fail "go"
  have s69:=s6T.trans (s8.trans s9)
  refine ⟨x1,c,s,x.mk' c s,rfl,n,hgx s69,bx.1,fun t Ha nt ht sa=>?_⟩
  have ht':Ha t=some (.tup [.int x.m,.int x.l,.int x.k]):=by
   have e:Pt.mk' c s x=mk c s x.m x.l x.k:=rfl
   rw [e,pm.1,pm.2.1,pm.2.2] at ht
   exact ht
  have s6a:=s69.trans sa
  fail "go"
  refine f7 (d:=ptD x) (.tup (SqT.of ht') (.cons (.int _) (.cons (.int _) (.cons (.int _) .nil)))) (gP (hP.same s6a x xm)) (by simp [ptD,dep,deps]) ?_
  have hda:Ha d=some (.dK kvs):=sa _ _ (s9 _ _ (s8 _ _ hdT))
  fail "go"
  refine sE ?_
  fail "go"
  refine ⟨d,rfl,.inl ⟨_,.inl hda⟩,?_⟩
  fail "go"
  have hkl:kvs.length<=i:=by
   have h1:=Z.n
   have h2:=cA ((ps.map ptD).take i) []
   rw [zQ] at h2
   simp at h2
   omega
  refine ⟨kvs,.inr (x.tx c s),hda,rfl,Nat.lt_of_le_of_lt hkl (small1000 (by omega)),fun v hv=>?_,fun hn=>?_⟩
  ·obtain ⟨⟨y,ym,rfl,ey⟩,Z'⟩:=Z.old n hO hx hv
   fail "go"
   refine f7 (d:=ptD x) (by rw [<- ey];exact gP (hP.same s6a y ym)) (gP (hP.same s6a x xm)) (by simp [ptD,dep,deps]) ?_
   fail "go"
   exact ⟨_,_,_,kvs,rfl,s6a,hda,Z'⟩
  ·have sd:aN H6 (upd Ha d (.dK (putK kvs (.inr (x.tx c s)) (.ref x.a)))):=fun b o e=>by
    rw [az (fun z=>by rw [z,nd] at e;cases e)]
    exact s6a _ _ e
   fail "go"
   refine f7 (d:=ptD x) (gP (hP.same sd x xm)) (gP (hP.same sd x xm)) (by simp [ptD,dep,deps]) ?_
   fail "go"
   exact ⟨_,_,_,_,rfl,sd,av,Z.new hx hn⟩
 rintro σ HW ⟨u10,u11,u12,kvs,rfl,sx,hdx,Z⟩
 fail "go"
 have yd:=sx _ _ hla
 have hPW:=hP.same sx
 have hqn:kvs.length=(aE [] (ps.map ptD)).length:=by
  have:=Z.n
  rw [hl1] at this
  rw [this,List.take_of_length_le (by rw [zS];exact Ad _)]
 refine ⟨d,kvs,rfl,hdx,?_⟩
 refine nO ?_
 fail "go"
 refine ⟨la,ps.map Pt.a,ps.map ptD,rfl,?_,by rw [zS,zS],fun i t D h1 h2=>?_,by rw [zS];omega,?_⟩
 ·rw [zZ];exact SqL.of yd
 ·rw [zO] at h1 h2
  cases hx:ps[i]? with
  | none=>rw [hx] at h1;cases h1
  | some x=>
   rw [hx] at h1 h2
   cases h1
   cases h2
   exact uL (hPW x (zG hx))
 rw [hqn]
 fail "go"
 rw [zY rfl]
 exact q _
end
open PySem.W in
theorem sM {K:Frag} {h:Heap} {mg:Str->Option Value} {CX:Addr} (X:K.In h) (G:h.Ns mainGlobals mg) (x4:nsIn K mainGlobals "NoCode" = some (some (.ref CX)))
  (x1:excIn K CX oE "ValueError.__new__" = true) (x2:findIn K (.ref CX) "__init__" = some (some (.builtin "ValueError.__init__"))) (x3:keepIn K (.ref CX)=true):∃ CX:Addr,tH K mg "NoCode" CX:=
 ⟨CX,⟨nQ x1,x2,x3,mg_of X G x4⟩⟩
end Law
open PySem PySem.W PyProof.Rows
set_option maxHeartbeats 0 in
theorem PySem.Challenge.cw_risemarks_k17_whole_texts_sorted_holds : PySem.Challenge.rw_risemarks_k17_whole_texts_sorted.Holds := by
 w_on;o_law;k_head;(case hw=>w_witness2)
 k_fill
 refine L4.oA (l:=PySem.Challenge.rw_risemarks_k17_whole_texts_sorted) (n:=63) (k:=14) (x:="_law_script") (CX:=L4.CX1) (sp:=Law.tT) rfl (by decide) rfl ⟨rfl,by decide,by decide⟩ (fun w h Y=>PySem.W.kIn_of Y) ?F ?S ?C
 case S=>exact fun K H a ns hl hO hS=>⟨a,ns,rfl,hS,hl,fun _=>rfl⟩
 case C=>exact fun P w H s e s' z=>L4.p6 _ _ _ _ _ z
 case F=>
  intro w mg fa h KX G hmg
  have BT:L3.Bt mg:=by
   refine' ⟨?_,?_,?_,?_,?_,?_,?_,?_,?_,?_,?_,?_,?_,?_,?_,?_,?_,?_⟩ <;> refine' PySem.W.mg_none_of KX G ?_ <;> k_is
  have oi:L3.Dat (L2.KOf KX) mg "is_code" "is_code" (Law.top 9) ["thing"]:=by
   dsimp only [L2.KOf]
   refine' L3.aZ KX G ?a ?l ?c ?k ?b
   (case a|l|c|k=>k_is)
   (case b=>exact fun _ _ _ _ _ _ us hl=>match us,hl with | [_],_=>rfl)
  have vP:L3.Dat (L2.KOf KX) mg "read" "read" (Law.top 10) ["word"]:=by
   dsimp only [L2.KOf]
   refine' L3.aZ KX G ?a ?l ?c ?k ?b
   (case a|l|c|k=>k_is)
   (case b=>exact fun _ _ _ _ _ _ us hl=>match us,hl with | [_],_=>rfl)
  have kq:L3.Dat (L2.KOf KX) mg "digits_of" "digits_of" (Law.top 7) ["mark"]:=by
   dsimp only [L2.KOf]
   refine' L3.aZ KX G ?a ?l ?c ?k ?b
   (case a|l|c|k=>k_is)
   (case b=>exact fun _ _ _ _ _ _ us hl=>match us,hl with | [_],_=>rfl)
  have tK:L3.Dat (L2.KOf KX) mg "shown" "shown" (Law.top 8) ["mark"]:=by
   dsimp only [L2.KOf]
   refine' L3.aZ KX G ?a ?l ?c ?k ?b
   (case a|l|c|k=>k_is)
   (case b=>exact fun _ _ _ _ _ _ us hl=>match us,hl with | [_],_=>rfl)
  have lO:L3.Dat (L2.KOf KX) mg "is_whole" "is_whole" (Law.top 13) ["thing"]:=by
   dsimp only [L2.KOf]
   refine' L3.aZ KX G ?a ?l ?c ?k ?b
   (case a|l|c|k=>k_is)
   (case b=>exact fun _ _ _ _ _ _ us hl=>match us,hl with | [_],_=>rfl)
  have eZ:L3.Dat (L2.KOf KX) mg "is_whole_from" "is_whole_from" (Law.top 14) ["thing", "least"]:=by
   dsimp only [L2.KOf]
   refine' L3.aZ KX G ?a ?l ?c ?k ?b
   (case a|l|c|k=>k_is)
   (case b=>exact fun _ _ _ _ _ _ us hl=>match us,hl with | [_,_],_=>rfl)
  have oh:L3.Dat (L2.KOf KX) mg "is_side" "is_side" (Law.top 15) ["thing"]:=by
   dsimp only [L2.KOf]
   refine' L3.aZ KX G ?a ?l ?c ?k ?b
   (case a|l|c|k=>k_is)
   (case b=>exact fun _ _ _ _ _ _ us hl=>match us,hl with | [_],_=>rfl)
  have n9:L3.Dat (L2.KOf KX) mg "mark_of" "mark_of" (Law.top 17) ["shape", "moment", "slot", "count"]:=by
   dsimp only [L2.KOf]
   refine' L3.aZ KX G ?a ?l ?c ?k ?b
   (case a|l|c|k=>k_is)
   (case b=>exact fun _ _ _ _ _ _ us hl=>match us,hl with | [_,_,_,_],_=>rfl)
  have lN:L3.Dat (L2.KOf KX) mg "parts_of" "parts_of" (Law.top 18) ["shape", "mark"]:=by
   dsimp only [L2.KOf]
   refine' L3.aZ KX G ?a ?l ?c ?k ?b
   (case a|l|c|k=>k_is)
   (case b=>exact fun _ _ _ _ _ _ us hl=>match us,hl with | [_,_],_=>rfl)
  have kB:L3.Dat (L2.KOf KX) mg "_law_hand" "_law_hand" (Law.top 20) ["_law_script", "_law_k"]:=by
   dsimp only [L2.KOf]
   refine' L3.aZ KX G ?a ?l ?c ?k ?b
   (case a|l|c|k=>k_is)
   (case b=>exact fun _ _ _ _ _ _ us hl=>match us,hl with | [_,_],_=>rfl)
  have ku:L3.Dat (L2.KOf KX) mg "_law_pick" "_law_pick" (Law.top 21) ["_law_hand_here", "_law_many"]:=by
   dsimp only [L2.KOf]
   refine' L3.aZ KX G ?a ?l ?c ?k ?b
   (case a|l|c|k=>k_is)
   (case b=>exact fun _ _ _ _ _ _ us hl=>match us,hl with | [_,_],_=>rfl)
  have gB:L3.Dat (L2.KOf KX) mg "_law_number" "_law_number" (Law.top 22) ["_law_hand_here", "_law_bound"]:=by
   dsimp only [L2.KOf]
   refine' L3.aZ KX G ?a ?l ?c ?k ?b
   (case a|l|c|k=>k_is)
   (case b=>exact fun _ _ _ _ _ _ us hl=>match us,hl with | [_,_],_=>rfl)
  have kr:L3.Dat (L2.KOf KX) mg "_law_wide" "_law_wide" (Law.top 23) ["_law_hand_here"]:=by
   dsimp only [L2.KOf]
   refine' L3.aZ KX G ?a ?l ?c ?k ?b
   (case a|l|c|k=>k_is)
   (case b=>exact fun _ _ _ _ _ _ us hl=>match us,hl with | [_],_=>rfl)
  have cR:L3.Dat (L2.KOf KX) mg "_law_shape_numbers" "_law_shape_numbers" (Law.top 24) ["_law_hand_here"]:=by
   dsimp only [L2.KOf]
   refine' L3.aZ KX G ?a ?l ?c ?k ?b
   (case a|l|c|k=>k_is)
   (case b=>exact fun _ _ _ _ _ _ us hl=>match us,hl with | [_],_=>rfl)
  have jq:L3.Dat (L2.KOf KX) mg "_law_below" "_law_below" (Law.top 25) ["_law_hand_here", "_law_many"]:=by
   dsimp only [L2.KOf]
   refine' L3.aZ KX G ?a ?l ?c ?k ?b
   (case a|l|c|k=>k_is)
   (case b=>exact fun _ _ _ _ _ _ us hl=>match us,hl with | [_,_],_=>rfl)
  have jo:L3.Dat (L2.KOf KX) mg "_law_parts" "_law_parts" (Law.top 26) ["_law_hand_here", "_law_first", "_law_counts", "_law_slots"]:=by
   dsimp only [L2.KOf]
   refine' L3.aZ KX G ?a ?l ?c ?k ?b
   (case a|l|c|k=>k_is)
   (case b=>exact fun _ _ _ _ _ _ us hl=>match us,hl with | [_,_,_,_],_=>rfl)
  have xG:L3.Dat (L2.KOf KX) mg "law" "law" (Law.top 27) ["_law_script"]:=by
   dsimp only [L2.KOf]
   refine' L3.aZ KX G ?a ?l ?c ?k ?b
   (case a|l|c|k=>k_is)
   (case b=>exact fun _ _ _ _ _ _ us hl=>match us,hl with | [_],_=>rfl)
  obtain ⟨C,D_Shape,nc,ns⟩:∃ C,L3.jr (L2.KOf KX) mg "Shape" "Shape.__init__" C (L2.inClass (Law.top 16) 0) ["self", "counts", "slots"]/\L2.bE (L2.KOf KX) C "counts" /\ L2.bE (L2.KOf KX) C "slots" := by
   dsimp only [L2.KOf]
   refine' ⟨_,L3.sP KX G ?aC ?a ?i ?l ?c ?k ?pg ?hd ?po ?sa ?mk ?kc ?b,?n1,?n2⟩
   (case aC|a|i|l|c|k|pg|hd|po|sa|mk|kc=>k_is)
   (case n1|n2=>unfold L2.bE;k_is)
   (case b=>exact fun _ _ _ _ _ _ us hl=>match us,hl with | [_,_,_],_=>rfl)
  have SC:Law.ShC (L2.KOf KX) C:=⟨D_Shape.cls,nc,ns⟩
  have vp:L3.GlV mg "GREATEST_SIDE" (.int 1000):=by
   refine' ⟨_,PySem.W.mg_of KX G ?_,?_⟩
   rotate_left
   ·k_is
   ·exact ⟨_,rfl⟩
  have aV:L3.GlV mg "SIGNS" (.str Law.sgs):=by
   refine' ⟨_,PySem.W.mg_of KX G ?_,?_⟩
   rotate_left
   ·k_is
   ·exact ⟨_,rfl⟩
  have bR:L3.GlV mg "BASE" (.int 32):=by
   refine' ⟨_,PySem.W.mg_of KX G ?_,?_⟩
   rotate_left
   ·k_is
   ·exact ⟨_,rfl⟩
  obtain ⟨CN,ON⟩:∃ CN:PySem.Addr,L4.tH (L2.KOf KX) mg "NoCode" CN:=by
   dsimp only [L2.KOf]
   refine' Law.sM KX G ?a0 ?o1 ?o2 ?o3
   (case a0=>k_is);(case o1=>k_exc);(case o2|o3=>k_is)
  obtain ⟨f,fd,F,b,m⟩:=xG.ex
  have e:=hmg.symm.trans m
  cases e
  obtain ⟨oc,od,kV,doc,pm,an,cdv,ct,osl,rfl,lk,hcd⟩:=id F.ex
  refine ⟨PySem.W.fnOf "law" "law" (L2.bD (Law.top 27)) (L2.aO (Law.top 27)) (L2.aj (Law.top 27)) .none kV doc pm an cdv ct,fun s u=>.of_eq rfl,fun base kb nb=>?_⟩
  have NE:=@L4.p6 PySem.Challenge.rw_risemarks_k17_whole_texts_sorted.prog w
  have jl:=Law.rN (P:=PySem.Challenge.rw_risemarks_k17_whole_texts_sorted.prog) (w:=w) (base:=base) ku NE
  have sR:=Law.pT (P:=PySem.Challenge.rw_risemarks_k17_whole_texts_sorted.prog) (w:=w) (base:=base) (CX:=L4.CX1 PySem.Challenge.rw_risemarks_k17_whole_texts_sorted.prog w) lO BT
  have vC:=Law.rL oh NE vp (Law.rQ eZ NE sR)
  have vB:=Law.rK kr NE jl
  have j8:=Law.nu gB BT NE jl
  have vD:=Law.rO (P:=PySem.Challenge.rw_risemarks_k17_whole_texts_sorted.prog) (w:=w) (base:=base) (CX:=L4.CX1 PySem.Challenge.rw_risemarks_k17_whole_texts_sorted.prog w) n9 SC
  have sV:=Law.pW (P:=PySem.Challenge.rw_risemarks_k17_whole_texts_sorted.prog) (w:=w) (base:=base) (CX:=L4.CX1 PySem.Challenge.rw_risemarks_k17_whole_texts_sorted.prog w) lN SC
  have vE:=Law.kZ (P:=PySem.Challenge.rw_risemarks_k17_whole_texts_sorted.prog) (w:=w) (base:=base) (CX:=L4.CX1 PySem.Challenge.rw_risemarks_k17_whole_texts_sorted.prog w) oi BT NE aV bR
  have jk:=Law.rM vP BT NE ON aV bR vE
  have qB:=Law.ny (P:=PySem.Challenge.rw_risemarks_k17_whole_texts_sorted.prog) (w:=w) (base:=base) (CX:=L4.CX1 PySem.Challenge.rw_risemarks_k17_whole_texts_sorted.prog w) kq aV bR
  have dI:=Law.pU tK BT NE aV qB
  exact Law.uP F BT NE SC (Law.rP kB BT) (Law.kY cR NE vB) (Law.pV D_Shape SC NE vC) j8 (Law.nv jo BT NE jl j8 (Law.pX jq NE jl)) vD sV dI jk
end
