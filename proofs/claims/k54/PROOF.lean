import PyProof.Rows.All
import Wide.All
import OpenK.AllK
import Wide.FinOn
import PyProof.EqAt
import PyProof.EqKinds
import PyProof.TupleCall
import Lean
import PySem.Challenge.RW_risemarks_k54_grants_and_news_read
section
set_option Elab.async false
set_option linter.all false
set_option maxRecDepth 100000
set_option maxHeartbeats 4000000
namespace L2
open PySem PySem.Spec PyProof.Rows

abbrev Key := Sum Int Str
def keyIs : Key → Value → Bool
  | .inl k, v => Value.isInt k v
  | .inr x, v => Value.isStrOf x v
def keyH (w : World) : Key → Int
  | .inl k => hashInt k
  | .inr x => hashStr w x
theorem keyIs_shape : ∀ {k : Key} {v : Value}, keyIs k v = true → (∃ i t, k = Sum.inl i ∧ v = Value.int i t) ∨ (∃ x t, k = Sum.inr x ∧ v = Value.str x t)
  | .inl i, v, h => by
    obtain ⟨t, e⟩ := Value.isInt_shape (k := i) (v := v) h
    exact .inl ⟨i, t, rfl, e⟩
  | .inr x, v, h => by
    obtain ⟨t, e⟩ := Value.isStrOf_shape (x := x) (v := v) h
    exact .inr ⟨x, t, rfl, e⟩
theorem key_ll (a b : Int) : decide ((Sum.inl a : Key) = Sum.inl b) = (a == b) := by
  by_cases e : a = b
  · subst e; simp
  · have h : ¬ (Sum.inl a : Key) = Sum.inl b := fun q => e (Sum.inl.inj q)
    rw [decide_eq_false h]
    exact (beq_eq_false_iff_ne.mpr e).symm
theorem key_rr (a b : Str) : decide ((Sum.inr a : Key) = Sum.inr b) = decide (a = b) := by
  by_cases e : a = b
  · subst e; simp
  · have h : ¬ (Sum.inr a : Key) = Sum.inr b := fun q => e (Sum.inr.inj q)
    rw [decide_eq_false h, decide_eq_false e]
theorem key_lr (a : Int) (b : Str) : decide ((Sum.inl a : Key) = Sum.inr b) = false := decide_eq_false (fun q => nomatch q)
theorem key_rl (a : Str) (b : Int) : decide ((Sum.inr a : Key) = Sum.inl b) = false := decide_eq_false (fun q => nomatch q)

def mixKind (prog : Program) (w : World) : PySem.KeyKind prog w Key where
  is := keyIs
  hash := keyH w
  inj := fun v a b ha hb => by
    rcases keyIs_shape ha with ⟨i, t, rfl, rfl⟩ | ⟨x, t, rfl, rfl⟩
    · rcases keyIs_shape hb with ⟨j, u, rfl, e⟩ | ⟨y, u, rfl, e⟩
      · injection e with e1 _; rw [e1]
      · exact nomatch e
    · rcases keyIs_shape hb with ⟨j, u, rfl, e⟩ | ⟨y, u, rfl, e⟩
      · exact nomatch e
      · injection e with e1 _; rw [e1]
  byValue := fun k v h => by
    rcases keyIs_shape h with ⟨i, t, rfl, rfl⟩ | ⟨x, t, rfl, rfl⟩ <;> rfl
  pyHash := fun hv h => by
    rcases keyIs_shape hv with ⟨i, t, rfl, rfl⟩ | ⟨x, t, rfl, rfl⟩
    · exact wpAny_pyHash_int h
    · exact wpAny_pyHash_str h
  eqBool := fun hu hv h => by
    rcases keyIs_shape hu with ⟨i, t, rfl, rfl⟩ | ⟨x, t, rfl, rfl⟩
    · rcases keyIs_shape hv with ⟨j, u, rfl, rfl⟩ | ⟨y, u, rfl, rfl⟩
      · rw [key_ll] at h; exact wpAny_eqBool_int h
      · rw [key_lr] at h; exact SeqAt.EqAt.int_str i t y u _ _ _ _ h
    · rcases keyIs_shape hv with ⟨j, u, rfl, rfl⟩ | ⟨y, u, rfl, rfl⟩
      · rw [key_rl] at h; exact SeqAt.EqAt.str_int x t j u _ _ _ _ h
      · rw [key_rr] at h; exact wpAny_eqBool_str h
  «strs» := fun k x t v h => by
    rcases keyIs_shape h with ⟨i, u, rfl, e⟩ | ⟨y, u, rfl, e⟩
    · exact nomatch e
    · injection e with e1 _
      subst e1
      cases v <;> rfl

end L2

namespace L2
open PySem PySem.Spec PyProof.Rows

inductive V where
  | non | bl (b : Bool) | int (i : Int) | str (x : Str) | byt (b : Array UInt8) | flt (b : UInt64) | ref (a : Addr) | ty (n : String)
  deriving DecidableEq

def RelV : V → Value → Prop
  | .non, u => u = Value.none
  | .bl b, u => u = Value.bool b
  | .int i, u => ∃ t, u = Value.int i t
  | .str x, u => ∃ t, u = Value.str x t
  | .byt b, u => ∃ t, u = Value.bytes b t
  | .flt b, u => ∃ t, u = Value.float b t
  | .ref a, u => u = Value.ref a
  | .ty n, u => u = Value.type n

abbrev Vals : List V → List Value → Prop := Paired RelV
theorem Vals.length {xs : List V} {us : List Value} (r : Vals xs us) : xs.length = us.length := Paired.length r
theorem Vals.get : ∀ {xs : List V} {us : List Value} {i : Nat} {x : V}, Vals xs us → xs[i]? = some x → ∃ u, us[i]? = some u ∧ RelV x u
  | _, _, _, _, .nil, e => by simp at e
  | _, _, 0, _, .cons r _, e => by simp at e; subst e; exact ⟨_, rfl, r⟩
  | _, _, i + 1, x, .cons _ t, e => by
    obtain ⟨u, h1, h2⟩ := Vals.get (i := i) (x := x) t (by simpa using e)
    exact ⟨u, by simpa using h1, h2⟩
theorem Vals.set {x : V} {u : Value} (r : RelV x u) : ∀ {xs : List V} {us : List Value} (i : Nat), Vals xs us → Vals (xs.set i x) (us.set i u)
  | _, _, _, .nil => .nil
  | _, _, 0, .cons _ t => .cons r t
  | _, _, i + 1, .cons q t => .cons q (Vals.set r i t)
theorem Vals.append : ∀ {xs ys : List V} {us ws : List Value}, Vals xs us → Vals ys ws → Vals (xs ++ ys) (us ++ ws)
  | _, _, _, _, .nil, s => s
  | _, _, _, _, .cons r t, s => .cons r (Vals.append t s)
def RelO : Option V → Option Value → Prop
  | some v, some u => RelV v u
  | none, none => True
  | _, _ => False
def KV {κ : Type} : List (κ × V) → List (κ × Value) → Prop := Paired fun (p : κ × V) (q : κ × Value) => p.1 = q.1 ∧ RelV p.2 q.2

def kV : Key → V
  | .inl i => .int i
  | .inr x => .str x

inductive HO where
    | lst (xs : List V)
    | tup (xs : List V)
    | dK (kvs : List (Key × V)) | dT (kvs : List (List Key × V))
    | set (S : Int → Bool) (n : Nat)
    | ins (C dx : Addr) (fs : List (Str × V))
    | own (x : Addr)
    | xd (fs : List (Str × V))
    | met (f x : Addr)
    | rng (lo hi : Int)
    | frz (o : Obj) (u : HO)
    | tbl (ps : Array Value)
    | ext (φ : Heap → Prop)

abbrev Hp := Addr → Option HO
def upd (H : Hp) (a : Addr) (o : HO) : Hp := fun b => if b = a then some o else H b
theorem upd_same {H : Hp} {a : Addr} {o : HO} : upd H a o a = some o := by unfold upd; rw [if_pos rfl]
theorem upd_ne {H : Hp} {a b : Addr} {o : HO} (h : b ≠ a) : upd H a o b = H b := by unfold upd; rw [if_neg h]
theorem upd_upd {H : Hp} {a : Addr} {o u : HO} : upd (upd H a o) a u = upd H a u := by
  funext b; unfold upd; split <;> rfl
theorem ne_of_none {H : Hp} {a b : Addr} {o : HO} (h : H a = some o) (h' : H b = none) : a ≠ b := by
  intro e; subst e; rw [h] at h'; cases h'

section
variable (P : Program) (w : World)
def ObjOk (H : Hp) (h : Heap) (a : Addr) : HO → Prop
  | .lst xs => xs.length ≤ sizeLine ∧ ∃ (its : List Value) (n : Nat), Vals xs its ∧ h.get? a = some { cls := .type "list", data := .seq its.toArray n }
  | .tup xs => xs.length ≤ sizeLine ∧ ∃ its : List Value, Vals xs its ∧ IsTup h a its.toArray
  | .dK kvs => kvs.length ≤ sizeLine ∧ (a == sysModules) = false ∧ ∃ vs, KV kvs vs ∧ h.DictOf (mixKind P w) a vs
  | .dT kvs => kvs.length ≤ sizeLine ∧ (a == sysModules) = false ∧ ∃ xs : List (List Key × Addr × Value),
      Paired (fun (p : List Key × V) (q : List Key × Addr × Value) => p.1 = q.1 ∧ H q.2.1 = some (.tup (p.1.map kV)) ∧ RelV p.2 q.2.2) kvs xs ∧
      ∃ o es ep, h.get? a = some o ∧ o.ExactDict ∧ o.data = .dict es ep ∧ es.toList = xs.map (entryOfKey (tupleKind (mixKind P w))) ∧ (xs.map (·.1)).Nodup
  | .set S n => h.SetOf (intKind P w) a S n
  | .ins C dx fs => H dx = some (.own a) ∧ fs.length ≤ 1000 ∧ dx ≠ a ∧ h.get? a = some (PySem.W.instObj C dx) ∧
      ∃ mA, h.Ns1 dx mA ∧ (∀ f, RelO (fs.lookup f) (mA f)) ∧ PySem.Within mA (fs.map (·.1))
  | .own _ => ∃ o, h.get? a = some o
  | .xd fs => ∃ mA, h.Ns1 a mA ∧ ∀ f, RelO (fs.lookup f) (mA f)
  | .rng lo hi => ∃ t u v, h.get? a = some { cls := .type "range", data := .fields #[.int lo t, .int hi u, .int 1 v] }
  | .frz o u => h.get? a = some o ∧ ObjOk H h a u
  | .tbl ps => h.get? a = some { cls := .none, data := .fields ps }
  | .met f x => h.get? a = some (PySem.W.methodObj (.ref f) (.ref x))
  | .ext φ => φ h ∧ (∃ o, h.get? a = some o) ∧ ∀ h1 h2 : Heap, φ h1 → (∀ o, h1.get? a = some o → h2.get? a = some o) → φ h2
def HOk (H : Hp) (h : Heap) : Prop := ∀ a o, H a = some o → ObjOk P w H h a o
end

section
variable {P : Program} {w : World} {H H' : Hp} {h h' : Heap} {a : Addr} {o : HO}
theorem ObjOk.lt (x : ObjOk P w H h a o) : a < h.objs.size := by
  cases o with
  | lst xs => obtain ⟨_, _, _, _, e⟩ := x; exact Heap.lt_size e
  | tup xs => obtain ⟨_, _, _, p⟩ := x; exact p.lt
  | dK kvs => obtain ⟨_, _, _, _, o, _, _, e, _⟩ := x; exact Heap.lt_size e
  | dT kvs => obtain ⟨_, _, _, _, o, _, _, e, _⟩ := x; exact Heap.lt_size e
  | set S n => obtain ⟨o, _, _, _, e, _⟩ := x; exact Heap.lt_size e
  | ins C dx fs => obtain ⟨_, _, _, e, _⟩ := x; exact Heap.lt_size e
  | own y => obtain ⟨_, e⟩ := x; exact Heap.lt_size e
  | xd fs => obtain ⟨_, ⟨_, _, _, e, _⟩, _⟩ := x; exact Heap.lt_size e
  | rng lo hi => obtain ⟨_, _, _, e⟩ := x; exact Heap.lt_size e
  | frz ob u => obtain ⟨e, _⟩ := x; exact Heap.lt_size e
  | tbl ps => exact Heap.lt_size (show h.get? a = some _ from x)
  | met f y => exact Heap.lt_size (show h.get? a = some _ from x)
  | ext φ => obtain ⟨_, ⟨_, e⟩, _⟩ := x; exact Heap.lt_size e
theorem Paired.mapP {α β : Type} {F G : α → β → Prop} : ∀ {l₁ : List α} {l₂ : List β}, Paired F l₁ l₂ → (∀ a b, F a b → G a b) → Paired G l₁ l₂
  | _, _, .nil, _ => .nil
  | _, _, .cons r t, f => .cons (f _ _ r) (Paired.mapP t f)
theorem ObjOk.stay (x : ObjOk P w H h a o) (k : ∀ b u, (b = a ∨ H b = some (.own a)) → h.get? b = some u → h'.get? b = some u)
    (ho : ∀ b, H b = some (.own a) → H' b = some (.own a)) (ht : ∀ b xs, H b = some (.tup xs) → H' b = some (.tup xs)) : ObjOk P w H' h' a o := by
  induction o with
  | lst xs => obtain ⟨z, its, n, r, e⟩ := x; exact ⟨z, its, n, r, k _ _ (.inl rfl) e⟩
  | tup xs => obtain ⟨z, its, r, ob, e, c⟩ := x; exact ⟨z, its, r, ob, k _ _ (.inl rfl) e, c⟩
  | dK kvs => obtain ⟨z, y, vs, r, ob, es, ep, e, c⟩ := x; exact ⟨z, y, vs, r, ob, es, ep, k _ _ (.inl rfl) e, c⟩
  | dT kvs =>
    obtain ⟨z, y, xs, r, ob, es, ep, e, c⟩ := x
    exact ⟨z, y, xs, Paired.mapP r fun p q z => ⟨z.1, ht _ _ z.2.1, z.2.2⟩, ob, es, ep, k _ _ (.inl rfl) e, c⟩
  | set S n => obtain ⟨ob, es, ep, t, e, c⟩ := x; exact ⟨ob, es, ep, t, k _ _ (.inl rfl) e, c⟩
  | ins C dx fs =>
    obtain ⟨d, z, ne, e, mA, ⟨od, es, ep, e2, c⟩, r⟩ := x
    exact ⟨ho _ d, z, ne, k _ _ (.inl rfl) e, mA, ⟨od, es, ep, k _ _ (.inr d) e2, c⟩, r⟩
  | own y => obtain ⟨ob, e⟩ := x; exact ⟨ob, k _ _ (.inl rfl) e⟩
  | xd fs => obtain ⟨mA, ⟨od, es, ep, e, c⟩, r⟩ := x; exact ⟨mA, ⟨od, es, ep, k _ _ (.inl rfl) e, c⟩, r⟩
  | rng lo hi => obtain ⟨t, u, v, e⟩ := x; exact ⟨t, u, v, k _ _ (.inl rfl) e⟩
  | frz ob u ih => obtain ⟨e, q⟩ := x; exact ⟨k _ _ (.inl rfl) e, ih q⟩
  | tbl ps =>
    have e : h.get? a = some { cls := .none, data := .fields ps } := x
    show h'.get? a = some { cls := .none, data := .fields ps }
    exact k a _ (.inl rfl) e
  | met f y =>
    have e : h.get? a = some (PySem.W.methodObj (.ref f) (.ref y)) := x
    show h'.get? a = some (PySem.W.methodObj (.ref f) (.ref y))
    exact k a _ (.inl rfl) e
  | ext φ => obtain ⟨p, ⟨o, e⟩, st⟩ := x; exact ⟨st _ _ p fun o q => k _ _ (.inl rfl) q, ⟨o, k _ _ (.inl rfl) e⟩, st⟩
theorem HOk.lt (x : HOk P w H h) (e : H a = some o) : a < h.objs.size := (x a o e).lt
theorem HOk.fresh (x : HOk P w H h) (e : h.objs.size ≤ a) : H a = none := by
  cases q : H a with
  | none => rfl
  | some u => exact absurd (Nat.lt_of_lt_of_le (x.lt q) e) (Nat.lt_irrefl _)
theorem HOk.kept (x : HOk P w H h) (k : ∀ b u, h.get? b = some u → h'.get? b = some u) : HOk P w H h' := fun a o e =>
  (x a o e).stay (fun b u _ q => k b u q) (fun _ q => q) fun _ _ q => q
theorem HOk.laid (x : HOk P w H h) (k : ∀ b u, h.get? b = some u → h'.get? b = some u) (hp : h.objs.size ≤ a) (new : ObjOk P w (upd H a o) h' a o) : HOk P w (upd H a o) h' := fun b u e => by
  have hn := x.fresh hp
  by_cases hb : b = a
  · subst hb; rw [upd_same] at e; cases e; exact new
  · rw [upd_ne hb] at e
    exact (x b u e).stay (fun c v _ q => k c v q) (fun c q => by rw [upd_ne (ne_of_none q hn)]; exact q) fun c xs q => by rw [upd_ne (ne_of_none q hn)]; exact q
end

def Rd (H : Hp) (a : Addr) (u : HO) : Prop := H a = some u ∨ ∃ o, H a = some (.frz o u)
theorem Rd.of {H : Hp} {a : Addr} {u : HO} (h : H a = some u) : Rd H a u := .inl h
theorem Rd.ok {P : Program} {w : World} {H : Hp} {h : Heap} {a : Addr} {u : HO} (r : Rd H a u) (x : HOk P w H h) : ObjOk P w H h a u := by
  rcases r with r | ⟨o, r⟩
  · exact x a u r
  · obtain ⟨_, q⟩ := x a _ r
    exact q
def Mut : Option HO → Prop
  | some (.lst _) => True
  | some (.dK _) => True
  | some (.dT _) => True
  | some (.set _ _) => True
  | some (.ins _ _ _) => True
  | some (.ext _) => True
  | _ => False
section
variable {P : Program} {w : World} {H : Hp} {h h' : Heap} {x e : Addr} {o' : HO}
theorem HOk.write (ok : HOk P w H h) (mu : Mut (H x)) (he : e = x ∨ H e = some (.own x)) (k : ∀ b u, b ≠ e → h.get? b = some u → h'.get? b = some u) (heo : ∃ u, h'.get? e = some u)
    (new : ObjOk P w (upd H x o') h' x o') : HOk P w (upd H x o') h' := fun b u q => by
  have nown : ∀ c y, H c = some (.own y) → c ≠ x := fun c y r z => by subst z; rw [r] at mu; exact mu
  have ntup : ∀ c xs, H c = some (.tup xs) → c ≠ x := fun c xs r z => by subst z; rw [r] at mu; exact mu
  by_cases hb : b = x
  · subst hb; rw [upd_same] at q; cases q; exact new
  · rw [upd_ne hb] at q
    by_cases hbe : b = e
    · have q' : H b = some (.own x) := by
        rcases he with z | z
        · exact absurd (hbe.trans z) hb
        · rw [hbe]; exact z
      rw [q] at q'; cases q'
      obtain ⟨v, hv⟩ := heo
      exact ⟨v, by rw [hbe]; exact hv⟩
    · refine (ok b u q).stay (fun c v hc r => k c v ?_ r) (fun c r => by rw [upd_ne (nown c b r)]; exact r) fun c xs r => by rw [upd_ne (ntup c xs r)]; exact r
      rcases hc with rfl | hc
      · exact hbe
      · rintro rfl
        rcases he with z | z
        · exact nown c b hc z
        · rw [hc] at z; cases z; exact hb rfl
end

structure Un (fs ex : List Addr) (H H' : Hp) (h h' : Heap) : Prop where
  keep : ∀ b o, h.get? b = some o → H b = none → b ∉ fs → b ∉ ex → h'.get? b = some o
  slot : ∀ b o, h.get? b = some o → H b = none → b ∈ fs → b ∉ ex → ∃ sl, h'.get? b = some { o with slots := sl }
  free : ∀ b o, h.get? b = some o → H b = none → b ∉ ex → H' b = none
  there : ∀ b o, h.get? b = some o → b ∉ ex → ∃ o', h'.get? b = some o'
  tups : ∀ b xs, H b = some (.tup xs) → H' b = some (.tup xs)
  frzs : ∀ b o u, H b = some (.frz o u) → H' b = some (.frz o u)
  tbls : ∀ b ps, H b = some (.tbl ps) → ∃ more, H' b = some (.tbl (ps ++ more))
section
variable {fs fs' ex ex' : List Addr} {H H1 H2 : Hp} {h h1 h2 h' : Heap} {a x e : Addr} {o : HO}
theorem Un.any (u : Un fs ex H H1 h h1) {b : Addr} {ob : Obj} (q : h.get? b = some ob) (n : H b = none) (hx : b ∉ ex) : ∃ sl, h1.get? b = some { ob with slots := sl } := by
  by_cases hb : b ∈ fs
  · exact u.slot b ob q n hb hx
  · exact ⟨ob.slots, u.keep b ob q n hb hx⟩
theorem Un.trans (a : Un fs ex H H1 h h1) (b : Un fs ex H1 H2 h1 h2) : Un fs ex H H2 h h2 where
  keep := fun c ob q n hc hx => b.keep c ob (a.keep c ob q n hc hx) (a.free c ob q n hx) hc hx
  slot := fun c ob q n hc hx => by
    obtain ⟨sl, e1⟩ := a.slot c ob q n hc hx
    obtain ⟨sl', e2⟩ := b.slot c _ e1 (a.free c ob q n hx) hc hx
    exact ⟨sl', e2⟩
  free := fun c ob q n hx => by
    obtain ⟨o', e1⟩ := a.there c ob q hx
    exact b.free c o' e1 (a.free c ob q n hx) hx
  there := fun c ob q hx => by
    obtain ⟨o', e1⟩ := a.there c ob q hx
    exact b.there c o' e1 hx
  tups := fun c xs q => b.tups c xs (a.tups c xs q)
  frzs := fun c ob xs q => b.frzs c ob xs (a.frzs c ob xs q)
  tbls := fun c ps q => by
    obtain ⟨m1, e1⟩ := a.tbls c ps q
    obtain ⟨m2, e2⟩ := b.tbls c _ e1
    exact ⟨m1 ++ m2, by rw [e2, Array.append_assoc]⟩
theorem Un.kept (k : ∀ b u, h.get? b = some u → h'.get? b = some u) : Un fs ex H H h h' :=
  ⟨fun b ob q _ _ _ => k b ob q, fun b ob q _ _ _ => ⟨ob.slots, k b ob q⟩, fun _ _ _ n _ => n, fun b ob q _ => ⟨ob, k b ob q⟩, fun _ _ q => q, fun _ _ _ q => q, fun _ ps q => ⟨#[], by rw [q]; simp⟩⟩
theorem Un.refl : Un fs ex H H h h := Un.kept fun _ _ q => q
theorem Un.laid (k : ∀ b u, h.get? b = some u → h'.get? b = some u) (hp : h.objs.size ≤ a) (hn : H a = none) : Un fs ex H (upd H a o) h h' where
  keep := fun b u q _ _ _ => k b u q
  slot := fun b u q _ _ _ => ⟨u.slots, k b u q⟩
  free := fun b u q n _ => by rw [upd_ne (Nat.ne_of_lt (Nat.lt_of_lt_of_le (Heap.lt_size q) hp))]; exact n
  there := fun b u q _ => ⟨u, k b u q⟩
  tups := fun b xs q => by rw [upd_ne (ne_of_none q hn)]; exact q
  frzs := fun b u xs q => by rw [upd_ne (ne_of_none q hn)]; exact q
  tbls := fun b ps q => ⟨#[], by rw [upd_ne (ne_of_none q hn), q]; simp⟩
theorem Un.write (mu : Mut (H x)) (he : e = x ∨ H e = some (.own x)) (k : ∀ b u, b ≠ e → h.get? b = some u → h'.get? b = some u) (heo : ∃ u, h'.get? e = some u) : Un fs ex H (upd H x o) h h' := by
  have hx : ∀ b, H b = none → b ≠ x := fun b n z => by subst z; rw [n] at mu; exact mu
  have hb : ∀ b, H b = none → b ≠ e := fun b n z => by
    subst z
    rcases he with r | r
    · exact hx b n r
    · rw [n] at r; cases r
  have hm : ∀ b u, H b = some u → ¬ Mut (some u) → b ≠ x := fun b u q nm z => by subst z; rw [q] at mu; exact nm mu
  refine ⟨fun b u q n _ _ => k b u (hb b n) q, fun b u q n _ _ => ⟨u.slots, k b u (hb b n) q⟩, fun b u q n _ => by rw [upd_ne (hx b n)]; exact n, fun b u q _ => ?_,
    fun b xs q => by rw [upd_ne (hm b _ q fun z => z)]; exact q, fun b u xs q => by rw [upd_ne (hm b _ q fun z => z)]; exact q, fun b ps q => ⟨#[], by rw [upd_ne (hm b _ q fun z => z), q]; simp⟩⟩
  by_cases hbe : b = e
  · subst hbe; exact heo
  · exact ⟨u, k b u hbe q⟩
end

def trk (h : Heap) (H : Hp) : List Addr := (List.range h.objs.size).filter fun a => (H a).isSome
def hidT (h : Heap) (H : Hp) : Heap := PySem.W.hideAll h (trk h H)
theorem hidT_size (h : Heap) (H : Hp) : (hidT h H).objs.size = h.objs.size := PySem.W.hideAll_size _ _
theorem hidT_get {h : Heap} {H : Hp} {b : Addr} {o : Obj} (e : h.get? b = some o) (n : H b = none) : (hidT h H).get? b = some o :=
  PySem.W.hideAll_get _ e fun hm => by
    have q : (H b).isSome = true := (List.mem_filter.mp hm).2
    rw [n] at q; simp at q
theorem of_hidT {h : Heap} {H : Hp} {b : Addr} {o : Obj} (e : (hidT h H).get? b = some o) : h.get? b = some o ∧ H b = none := by
  have e' : h.get? b = some o := PySem.W.of_hideAll (trk h H) e
  refine ⟨e', ?_⟩
  cases q : H b with
  | none => rfl
  | some x =>
    have hm : b ∈ trk h H := List.mem_filter.mpr ⟨List.mem_range.mpr (Heap.lt_size e'), by simp [q]⟩
    have z : (hidT h H).get? b = none := PySem.W.hideAll_none (trk h H) hm
    rw [z] at e; cases e

end L2

namespace L2
open PySem PySem.Spec PyProof.Rows

structure Mod (K : PySem.W.Frag) (mg : Str → Option Value) (base : Heap) : Prop where
  kin : K.In base
  glob : base.Ns mainGlobals mg
  blt : ∃ mb, base.Ns builtinsNs mb ∧ ∀ x : Str, x ≠ "__name__" → mb x = bootBuiltins x
  nolimit : base.NoLimit

structure Cx where
  prog : Program
  w : World
  K : PySem.W.Frag
  mg : Str → Option Value
  base : Heap
  A : Around
  N : List Str
  s₀ : Shared
  H₀ : Hp
  env : Env
  outer : List Env
  stack : List Env
  ex : List Addr
  fn : Str → Bool
  calm : Bool
  pn : List (Addr × Obj)
  xe : Value → Shared → Prop
def frs (l : List Env) : List Addr := l.filterMap (·.frame)
abbrev Cx.fs (X : Cx) : List Addr := frs X.outer

def Vis (sc : Scope) (x : Str) : Prop := sc.names.lookup x = some .local ∨ sc.names.lookup x = some .cell ∨ sc.names.lookup x = some .free
def Loc (sc : Scope) (x : Str) : Prop := sc.names.lookup x = some .local ∨ sc.names.lookup x = some .cell
def Look (env : Env) (h : Heap) (m : Str → Option Value) (x : Str) (u : Value) : Prop :=
  (env.kindOf x = some .local ∧ m x = some u) ∨ ((env.kindOf x = some .cell ∨ env.kindOf x = some .free) ∧ ∃ c, env.cells.lookup x = some c ∧ h.IsCell c (some u))

structure Cx.Ok (X : Cx) : Prop where
  mod : Mod X.K X.mg X.base
  kind : X.env.scope.kind = .function
  glob : X.env.globals = mainGlobals
  blt : X.env.builtins = builtinsNs
  above : X.s₀.heap.objs.size ≤ X.env.locals
  inj : ∀ x y c, X.env.cells.lookup x = some c → X.env.cells.lookup y = some c → x = y
  has : ∀ x, (X.env.kindOf x = some .cell ∨ X.env.kindOf x = some .free) → ∃ c, X.env.cells.lookup x = some c
  cab : ∀ x c, X.fn x = true → X.env.cells.lookup x = some c → X.s₀.heap.objs.size ≤ c
  hd : X.calm = true → X.A.handled = none
  frames : X.A.frames = some X.stack
  stk : X.stack = X.outer ∨ (X.stack = X.env :: X.outer ∧ X.env.frame = some X.env.locals)
  exf : ∀ b ∈ X.ex, b ≠ X.env.locals ∧ ∀ x c, X.env.cells.lookup x = some c → c ≠ b
  bs : ∀ b o, X.base.get? b = some o → X.s₀.heap.get? b = some o ∧ X.H₀ b = none
  bsz : X.base.objs.size ≤ X.s₀.heap.objs.size
  noex : ∀ b o, X.base.get? b = some o → b ∉ X.ex
  exfs : ∀ b ∈ X.ex, b ∉ X.fs
  funs : X.s₀.heap.FunFrames X.base X.outer
  frf : ∀ b ∈ X.fs, X.H₀ b = none

structure Inv (X : Cx) (pins : List (Addr × Obj)) (σ : List (Option V)) (H : Hp) (s : Shared) : Prop where
  ok : X.Ok
  os : s.os = X.s₀.os
  bare : AllBare s.gens
  base : Un X.fs X.ex X.H₀ H X.s₀.heap s.heap
  loc : ∃ m, s.heap.Ns X.env.locals m ∧ ∀ (i : Nat) (x : Str) (v : V), X.N[i]? = some x → σ[i]? = some (some v) → Vis X.env.scope x → ∃ u, RelV v u ∧ Look X.env s.heap m x u
  cell : ∀ x c, X.env.cells.lookup x = some c → ∃ v, s.heap.IsCell c v
  free : H X.env.locals = none
  freeC : ∀ x c, X.env.cells.lookup x = some c → H c = none
  pin : ∀ p ∈ X.pn ++ pins, s.heap.get? p.1 = some p.2 ∧ H p.1 = none ∧ p.1 ≠ X.env.locals ∧ p.1 ∉ X.fs ∧ ∀ v, p.2.data ≠ .cell v
  hok : HOk X.prog X.w H s.heap
  len : σ.length = X.N.length

section
variable {X : Cx} {pins : List (Addr × Obj)} {σ : List (Option V)} {H H' : Hp} {s : Shared} {h' : Heap}

theorem Cx.Ok.nofr (ok : X.Ok) {b : Addr} {o : Obj} (e : X.base.get? b = some o) : b ∉ X.fs := fun hb => by
  have := (ok.funs.mem hb).1
  rw [e] at this; cases this
theorem Inv.bs (I : Inv X pins σ H s) : ∀ b o, X.base.get? b = some o → s.heap.get? b = some o ∧ H b = none := fun b o e =>
  ⟨I.base.keep b o (I.ok.bs b o e).1 (I.ok.bs b o e).2 (I.ok.nofr e) (I.ok.noex b o e), I.base.free b o (I.ok.bs b o e).1 (I.ok.bs b o e).2 (I.ok.noex b o e)⟩
theorem Inv.bk (I : Inv X pins σ H s) : ∀ b o, X.base.get? b = some o → s.heap.get? b = some o := fun b o e => (I.bs b o e).1
theorem Inv.mod (I : Inv X pins σ H s) : Mod X.K X.mg X.base := I.ok.mod
theorem Inv.kIn (I : Inv X pins σ H s) : X.K.In s.heap := I.ok.mod.kin.keeps I.bk
theorem Inv.lt (I : Inv X pins σ H s) : X.env.locals < s.heap.objs.size := let ⟨_, hn, _⟩ := I.loc; hn.lt
theorem Inv.sz (I : Inv X pins σ H s) : X.s₀.heap.objs.size ≤ s.heap.objs.size := Nat.le_trans I.ok.above (Nat.le_of_lt I.lt)
theorem Inv.nofs (I : Inv X pins σ H s) {a : Addr} (h : s.heap.objs.size ≤ a) : a ∉ X.fs := fun hb => by
  obtain ⟨_, o, ho, _⟩ := I.ok.funs.mem hb
  exact absurd (Nat.lt_of_lt_of_le (Heap.lt_size ho) (Nat.le_trans I.sz h)) (Nat.lt_irrefl _)
theorem Inv.cne (I : Inv X pins σ H s) : ∀ x c, X.env.cells.lookup x = some c → c ≠ X.env.locals := fun x c e z => by
  obtain ⟨v, o, ho, hd⟩ := I.cell x c e
  obtain ⟨m, ⟨o', es, ep, ho', hd', _⟩, _⟩ := I.loc
  rw [z, ho'] at ho; cases ho; rw [hd'] at hd; cases hd
theorem Inv.funs (I : Inv X pins σ H s) : s.heap.FunFrames X.base X.outer := by
  have all : ∀ (l : List Env), (∀ b ∈ frs l, b ∈ X.fs) → X.s₀.heap.FunFrames X.base l → s.heap.FunFrames X.base l := by
    intro l
    induction l with
    | nil => intro _ _; trivial
    | cons env r ih =>
      intro hs hl
      obtain ⟨hk, ⟨L, o, hf, hn, ho, hd⟩, hr⟩ := hl
      have hL : L ∈ X.fs := hs L (by unfold frs; rw [List.filterMap_cons, hf]; exact List.mem_cons_self)
      obtain ⟨sl, e⟩ := I.base.slot L o ho (I.ok.frf L hL) hL fun z => I.ok.exfs L z hL
      exact ⟨hk, ⟨L, _, hf, hn, e, hd⟩, ih (fun b hb => hs b (by unfold frs; rw [List.filterMap_cons, hf]; exact List.mem_cons_of_mem _ hb)) hr⟩
  exact all X.outer (fun _ hb => hb) I.ok.funs

theorem Inv.stack (I : Inv X pins σ H s) : s.heap.FunFrames X.base X.stack := by
  rcases I.ok.stk with e | ⟨e, hf⟩
  · rw [e]; exact I.funs
  · rw [e]
    obtain ⟨m, hn, _⟩ := I.loc
    refine .cons (by rw [I.ok.kind]; decide) hf hn ?_ I.funs
    exact Heap.get?_none_of_le (Nat.le_trans I.ok.bsz I.ok.above)
theorem Inv.stkSub (I : Inv X pins σ H s) : ∀ b ∈ frs X.stack, b ∈ X.env.locals :: X.fs := fun b hb => by
  rcases I.ok.stk with e | ⟨e, hf⟩
  · rw [e] at hb; exact List.mem_cons_of_mem _ hb
  · rw [e] at hb
    unfold frs at hb
    rw [List.filterMap_cons, hf] at hb
    exact hb
theorem Inv.stkFree (I : Inv X pins σ H s) : ∀ b ∈ frs X.stack, H b = none := fun b hb => by
  rcases List.mem_cons.mp (I.stkSub b hb) with e | hb
  · rw [e]; exact I.free
  · obtain ⟨_, o, ho, _⟩ := I.ok.funs.mem hb
    exact I.base.free b o ho (I.ok.frf b hb) fun z => I.ok.exfs b z hb

theorem Inv.step {g' : Array GenState} {t' : Nat} {d' : Drawn} {ch : List Addr} (I : Inv X pins σ H s)
    (hch : ∀ b ∈ ch, (b ∈ X.ex ∨ X.s₀.heap.objs.size ≤ b) ∧ b ≠ X.env.locals ∧ (∀ x c, X.env.cells.lookup x = some c → c ≠ b) ∧ ∀ p ∈ X.pn ++ pins, p.1 ≠ b)
    (keep : ∀ b o, b ≠ X.env.locals → b ∉ X.fs → b ∉ ch → s.heap.get? b = some o → H b = none → h'.get? b = some o)
    (slot : ∀ b o, b ≠ X.env.locals → b ∈ X.fs → b ∉ ch → s.heap.get? b = some o → H b = none → ∃ sl, h'.get? b = some { o with slots := sl }) (free : ∀ b o, b ∉ ch → s.heap.get? b = some o → H b = none → H' b = none)
    (there : ∀ b o, b ∉ ch → s.heap.get? b = some o → ∃ o', h'.get? b = some o')
    (tups : ∀ b xs, H b = some (.tup xs) → H' b = some (.tup xs)) (frzs : ∀ b o u, H b = some (.frz o u) → H' b = some (.frz o u)) (tbls : ∀ b ps, H b = some (.tbl ps) → ∃ more, H' b = some (.tbl (ps ++ more)))
    (ns : ∀ m, s.heap.Ns X.env.locals m → h'.Ns X.env.locals m) (hok : HOk X.prog X.w H' h') (hg : AllBare g') :
    Inv X pins σ H' { s with heap := h', gens := g', drawn := d', toks := t' } := by
  have neL : ∀ b o, X.s₀.heap.get? b = some o → b ≠ X.env.locals := fun b o e => Nat.ne_of_lt (Nat.lt_of_lt_of_le (Heap.lt_size e) I.ok.above)
  have neC : ∀ b o, X.s₀.heap.get? b = some o → b ∉ X.ex → b ∉ ch := fun b o e hx hb => by
    rcases (hch b hb).1 with z | z
    · exact hx z
    · exact absurd (Nat.lt_of_lt_of_le (Heap.lt_size e) z) (Nat.lt_irrefl _)
  have cellK : ∀ x c, X.env.cells.lookup x = some c → ∀ v, s.heap.IsCell c v → h'.IsCell c v := fun x c e v ⟨o, ho, hd⟩ => by
    have nch : c ∉ ch := fun z => (hch c z).2.2.1 x c e rfl
    by_cases hc : c ∈ X.fs
    · obtain ⟨sl, q⟩ := slot c o (I.cne x c e) hc nch ho (I.freeC x c e)
      exact ⟨_, q, hd⟩
    · exact ⟨o, keep c o (I.cne x c e) hc nch ho (I.freeC x c e), hd⟩
  refine ⟨I.ok, I.os, hg, ⟨fun b o e n hb hx => ?_, fun b o e n hb hx => ?_, fun b o e n hx => ?_, fun b o e hx => ?_, fun b xs e => tups b xs (I.base.tups b xs e), fun b o xs e => frzs b o xs (I.base.frzs b o xs e), fun b ps e => ?_⟩, ?_, fun x c e => ?_, ?_, fun x c e => ?_, fun p hp => ?_, hok, I.len⟩
  · exact keep b o (neL b o e) hb (neC b o e hx) (I.base.keep b o e n hb hx) (I.base.free b o e n hx)
  · obtain ⟨sl, e1⟩ := I.base.slot b o e n hb hx
    obtain ⟨sl', e2⟩ := slot b _ (neL b o e) hb (neC b o e hx) e1 (I.base.free b o e n hx)
    exact ⟨sl', e2⟩
  · obtain ⟨o', e1⟩ := I.base.there b o e hx
    exact free b o' (neC b o e hx) e1 (I.base.free b o e n hx)
  · obtain ⟨o', e1⟩ := I.base.there b o e hx
    exact there b o' (neC b o e hx) e1
  · obtain ⟨m1, e1⟩ := I.base.tbls b ps e
    obtain ⟨m2, e2⟩ := tbls b _ e1
    exact ⟨m1 ++ m2, by rw [e2, Array.append_assoc]⟩
  · obtain ⟨m, hn, hl⟩ := I.loc
    refine ⟨m, ns m hn, fun i x v e1 e2 e3 => ?_⟩
    obtain ⟨u, r, l⟩ := hl i x v e1 e2 e3
    refine ⟨u, r, ?_⟩
    rcases l with l | ⟨k, c, e, z⟩
    · exact .inl l
    · exact .inr ⟨k, c, e, cellK x c e _ z⟩
  · obtain ⟨v, z⟩ := I.cell x c e
    exact ⟨v, cellK x c e v z⟩
  · obtain ⟨m, ⟨o, _, _, ho, _⟩, _⟩ := I.loc
    exact free _ o (fun z => (hch _ z).2.1 rfl) ho I.free
  · obtain ⟨v, o, ho, hd⟩ := I.cell x c e
    exact free c o (fun z => (hch c z).2.2.1 x c e rfl) ho (I.freeC x c e)
  · obtain ⟨e, n, ne, nf, d⟩ := I.pin p hp
    have nch : p.1 ∉ ch := fun z => (hch p.1 z).2.2.2 p hp rfl
    exact ⟨keep p.1 p.2 ne nf nch e n, free p.1 p.2 nch e n, ne, nf, d⟩
theorem Inv.un {t' : Nat} (I : Inv X pins σ H s) (u : Un X.fs [] H H' s.heap h') (hok : HOk X.prog X.w H' h') : Inv X pins σ H' { s with heap := h', toks := t' } := by
  obtain ⟨m, ⟨o, es, ep, ho, r⟩, _⟩ := id I.loc
  obtain ⟨sl, hL⟩ := u.any ho I.free (by simp)
  exact I.step (g' := s.gens) (d' := s.drawn) (ch := []) (fun _ z => nomatch z) (fun b o _ hb _ e n => u.keep b o e n hb (by simp)) (fun b o _ hb _ e n => u.slot b o e n hb (by simp)) (fun b o _ e n => u.free b o e n (by simp)) (fun b o _ e => u.there b o e (by simp)) u.tups u.frzs u.tbls (fun m' hm => by
    obtain ⟨o', es', ep', ho', r'⟩ := hm
    rw [ho] at ho'; cases ho'
    exact ⟨_, es', ep', hL, r'⟩) hok I.bare
theorem Inv.call {g' : Array GenState} {t' : Nat} {d' : Drawn} {ch : List Addr} (I : Inv X pins σ H s) (u : Un (frs X.stack) ch H H' s.heap h') (hok : HOk X.prog X.w H' h') (hg : AllBare g')
    (hch : ∀ b ∈ ch, (b ∈ X.ex ∨ X.s₀.heap.objs.size ≤ b) ∧ b ≠ X.env.locals ∧ (∀ x c, X.env.cells.lookup x = some c → c ≠ b) ∧ ∀ p ∈ X.pn ++ pins, p.1 ≠ b) :
    Inv X pins σ H' { s with heap := h', gens := g', drawn := d', toks := t' } := by
  obtain ⟨m, ⟨o, es, ep, ho, r⟩, _⟩ := id I.loc
  obtain ⟨sl, hL⟩ := u.any ho I.free fun z => (hch _ z).2.1 rfl
  exact I.step (ch := ch) hch (fun b o hL hb hc e n => u.keep b o e n (fun z => (List.mem_cons.mp (I.stkSub b z)).elim hL hb) hc) (fun b o _ _ hc e n => u.any e n hc) (fun b o hc e n => u.free b o e n hc) (fun b o hc e => u.there b o e hc) u.tups u.frzs u.tbls (fun m' hm => by
    obtain ⟨o', es', ep', ho', r'⟩ := hm
    rw [ho] at ho'; cases ho'
    exact ⟨_, es', ep', hL, r'⟩) hok hg
theorem Inv.turned {t' : Nat} {it : Addr} (I : Inv X pins σ H s) (k : ∀ b o, b ≠ it → s.heap.get? b = some o → h'.get? b = some o) (hn : H it = none) (hL : it ≠ X.env.locals)
    (h1 : it ∈ X.ex ∨ X.s₀.heap.objs.size ≤ it) (h2 : ∀ x c, X.env.cells.lookup x = some c → c ≠ it) (h3 : ∀ p ∈ X.pn ++ pins, p.1 ≠ it) : Inv X pins σ H { s with heap := h', toks := t' } := by
  have nit : ∀ b u, H b = some u → b ≠ it := fun b u e z => by rw [z, hn] at e; cases e
  refine I.step (g' := s.gens) (d' := s.drawn) (ch := [it]) (fun b hb => ?_) (fun b o _ _ hc e _ => k b o (fun z => hc (by simp [z])) e) (fun b o _ _ hc e _ => ⟨o.slots, k b o (fun z => hc (by simp [z])) e⟩) (fun _ _ _ _ n => n)
    (fun b o hc e => ⟨o, k b o (fun z => hc (by simp [z])) e⟩) (fun _ _ e => e) (fun _ _ _ e => e) (fun b ps e => ⟨#[], by rw [e]; simp⟩) (fun m hm => ?_) (fun b u e => ?_) I.bare
  · have e : b = it := by simpa using hb
    subst e
    exact ⟨h1, hL, h2, h3⟩
  · obtain ⟨o, es, ep, ho, r⟩ := hm
    exact ⟨o, es, ep, k _ o (Ne.symm hL) ho, r⟩
  · refine (I.hok b u e).stay (fun c v hc q => k c v ?_ q) (fun _ q => q) fun _ _ q => q
    rcases hc with z | z
    · rw [z]; exact nit b u e
    · exact nit c _ z
theorem Inv.tok (I : Inv X pins σ H s) (t : Nat) : Inv X pins σ H { s with toks := t } := I.un (h' := s.heap) (t' := t) Un.refl I.hok
theorem Inv.kept {t' : Nat} (I : Inv X pins σ H s) (k : ∀ b u, s.heap.get? b = some u → h'.get? b = some u) : Inv X pins σ H { s with heap := h', toks := t' } := I.un (Un.kept k) (I.hok.kept k)
theorem Inv.laid {a : Addr} {o : HO} {t' : Nat} (I : Inv X pins σ H s) (k : ∀ b u, s.heap.get? b = some u → h'.get? b = some u) (hp : s.heap.objs.size ≤ a) (new : ObjOk X.prog X.w (upd H a o) h' a o) :
    Inv X pins σ (upd H a o) { s with heap := h', toks := t' } := I.un (Un.laid k hp (I.hok.fresh hp)) (I.hok.laid k hp new)
theorem Inv.write {x e : Addr} {o : HO} {t' : Nat} (I : Inv X pins σ H s) (mu : Mut (H x)) (he : e = x ∨ H e = some (.own x)) (k : ∀ b u, b ≠ e → s.heap.get? b = some u → h'.get? b = some u) (heo : ∃ u, h'.get? e = some u)
    (new : ObjOk X.prog X.w (upd H x o) h' x o) : Inv X pins σ (upd H x o) { s with heap := h', toks := t' } := I.un (Un.write mu he k heo) (I.hok.write mu he k heo new)
theorem Inv.pins_of {pins' : List (Addr × Obj)} (I : Inv X pins σ H s) (h : ∀ p ∈ pins', s.heap.get? p.1 = some p.2 ∧ H p.1 = none ∧ p.1 ≠ X.env.locals ∧ p.1 ∉ X.fs ∧ ∀ v, p.2.data ≠ .cell v) : Inv X pins' σ H s :=
  ⟨I.ok, I.os, I.bare, I.base, I.loc, I.cell, I.free, I.freeC, fun p hp => (List.mem_append.mp hp).elim (fun z => I.pin p (List.mem_append_left _ z)) (h p), I.hok, I.len⟩

theorem nodup_ix {N : List Str} (hN : N.Nodup) {i j : Nat} {x : Str} (a : N[i]? = some x) (b : N[j]? = some x) : i = j := by
  obtain ⟨h1, e1⟩ := List.getElem?_eq_some_iff.mp a
  obtain ⟨h2, e2⟩ := List.getElem?_eq_some_iff.mp b
  exact (List.getElem_inj hN).mp (e1.trans e2.symm)

theorem store_ok2 {M : Model} {A : Around} {E : Value → Shared → Prop} {i : Nat} {x : Str} {v : V} {u : Value} {Q : Unit → Shared → Prop} (I : Inv X pins σ H s) (hN : X.N.Nodup) (hi : X.N[i]? = some x) (hx : Loc X.env.scope x) (r : RelV v u)
    (h : ∀ s', Inv X pins (σ.set i (some v)) H s' → (∃ a, Heap.SameBut a s.heap s'.heap ∧ (a = X.env.locals ∨ X.env.cells.lookup x = some a)) → Q () s') (hf : X.fn x = true ∨ X.env.scope.names.lookup x = some .local := by first | exact .inl rfl | exact .inr rfl | assumption) : wpAny M A (storeName X.env x u) Q E s := by
  obtain ⟨m, hn, hl⟩ := id I.loc
  have hcls : (X.env.scope.kind == .class || (X.env.scope.kind == .module && X.env.locals != X.env.globals)) = false := by rw [I.ok.kind]; rfl
  have hiσ : i < σ.length := by rw [I.len]; exact (List.getElem?_eq_some_iff.mp hi).1
  have cne := I.cne
  have tracked : ∀ {a : Addr} {h' : Heap}, (∃ o, s.heap.get? a = some o ∧ H a = none) → Heap.SameBut a s.heap h' → HOk X.prog X.w H h' := fun {a h'} ha hs b ob e => by
    obtain ⟨_, _, hfree⟩ := ha
    refine (I.hok b ob e).stay (fun c w' hc q => (hs.2 c ?_).trans q) (fun _ q => q) fun _ _ q => q
    rintro rfl
    rcases hc with rfl | hc
    · rw [hfree] at e; cases e
    · rw [hfree] at hc; cases hc
  rcases hx with hk | hk
  · refine wpAny_storeName_local hk hn (fun h' hn' hs => ?_) hcls
    obtain ⟨oL, _, _, hoL, _⟩ := id hn
    refine h _ ⟨I.ok, I.os, I.bare, ⟨fun b o e n hb hx => ?_, fun b o e n hb hx => ?_, I.base.free, fun b o e hx => ?_, I.base.tups, I.base.frzs, I.base.tbls⟩, ⟨_, hn', fun j y v' e1 e2 e3 => ?_⟩, fun y c e => ?_, I.free, I.freeC, fun p hp => ?_, tracked ⟨oL, hoL, I.free⟩ hs, by simpa using I.len⟩ ⟨_, hs, .inl rfl⟩
    · exact (hs.2 b (Nat.ne_of_lt (Nat.lt_of_lt_of_le (Heap.lt_size e) I.ok.above))).trans (I.base.keep b o e n hb hx)
    · obtain ⟨sl, e1⟩ := I.base.slot b o e n hb hx
      exact ⟨sl, (hs.2 b (Nat.ne_of_lt (Nat.lt_of_lt_of_le (Heap.lt_size e) I.ok.above))).trans e1⟩
    · obtain ⟨o', e1⟩ := I.base.there b o e hx
      exact ⟨o', (hs.2 b (Nat.ne_of_lt (Nat.lt_of_lt_of_le (Heap.lt_size e) I.ok.above))).trans e1⟩
    · by_cases hj : j = i
      · subst hj
        rw [hi] at e1; cases e1
        rw [List.getElem?_set_self hiσ] at e2
        cases e2
        exact ⟨u, r, .inl ⟨hk, by simp⟩⟩
      · rw [List.getElem?_set_ne (Ne.symm hj)] at e2
        obtain ⟨u', r', q⟩ := hl j y v' e1 e2 e3
        refine ⟨u', r', ?_⟩
        rcases q with ⟨k, e⟩ | ⟨k, c, e, z⟩
        · refine .inl ⟨k, ?_⟩
          have : y ≠ x := fun e => hj (nodup_ix hN e1 (e ▸ hi))
          simp [this, e]
        · exact .inr ⟨k, c, e, z.sameBut hs (cne y c e)⟩
    · obtain ⟨w', z⟩ := I.cell y c e
      exact ⟨w', z.sameBut hs (cne y c e)⟩
    · obtain ⟨e, n, ne, nf, d⟩ := I.pin p hp
      exact ⟨(hs.2 p.1 ne).trans e, n, ne, nf, d⟩
  · have hfn : X.fn x = true := by
      rcases hf with z | z
      · exact z
      · rw [z] at hk; cases hk
    obtain ⟨c, hc⟩ := I.ok.has x (.inl hk)
    obtain ⟨w', z⟩ := I.cell x c hc
    refine wpAny_storeName_cell I.ok.kind hk hc z (fun h' hc' hs => ?_)
    obtain ⟨oc, hoc, hocd⟩ := id z
    refine h { s with heap := h' } ⟨I.ok, I.os, I.bare, ⟨fun b o e n hb hx => ?_, fun b o e n hb hx => ?_, I.base.free, fun b o e hx => ?_, I.base.tups, I.base.frzs, I.base.tbls⟩, ⟨m, hn.sameBut hs (Ne.symm (cne x c hc)), fun j y v' e1 e2 e3 => ?_⟩, fun y c' e => ?_, I.free, I.freeC, fun p hp => ?_, tracked ⟨oc, hoc, I.freeC x c hc⟩ hs, by simpa using I.len⟩ ⟨c, hs, .inr hc⟩
    · exact (hs.2 b (Nat.ne_of_lt (Nat.lt_of_lt_of_le (Heap.lt_size e) (I.ok.cab x c hfn hc)))).trans (I.base.keep b o e n hb hx)
    · obtain ⟨sl, e1⟩ := I.base.slot b o e n hb hx
      exact ⟨sl, (hs.2 b (Nat.ne_of_lt (Nat.lt_of_lt_of_le (Heap.lt_size e) (I.ok.cab x c hfn hc)))).trans e1⟩
    · obtain ⟨o', e1⟩ := I.base.there b o e hx
      exact ⟨o', (hs.2 b (Nat.ne_of_lt (Nat.lt_of_lt_of_le (Heap.lt_size e) (I.ok.cab x c hfn hc)))).trans e1⟩
    · by_cases hj : j = i
      · subst hj
        rw [hi] at e1; cases e1
        rw [List.getElem?_set_self hiσ] at e2
        cases e2
        exact ⟨u, r, .inr ⟨.inl hk, c, hc, hc'⟩⟩
      · rw [List.getElem?_set_ne (Ne.symm hj)] at e2
        obtain ⟨u', r', q⟩ := hl j y v' e1 e2 e3
        refine ⟨u', r', ?_⟩
        rcases q with q | ⟨k, c', e, z'⟩
        · exact .inl q
        · refine .inr ⟨k, c', e, z'.sameBut hs ?_⟩
          rintro rfl
          exact hj (nodup_ix hN e1 (I.ok.inj _ _ _ e hc ▸ hi))
    · by_cases hcc : c' = c
      · subst hcc; exact ⟨_, hc'⟩
      · obtain ⟨w2, z2⟩ := I.cell y c' e
        exact ⟨w2, z2.sameBut hs hcc⟩
    · obtain ⟨e, n, ne, nf, d⟩ := I.pin p hp
      refine ⟨(hs.2 p.1 ?_).trans e, n, ne, nf, d⟩
      intro q
      rw [q, hoc] at e
      have q' : oc = p.2 := Option.some.inj e
      exact d w' (by rw [← q']; exact hocd)
theorem store_ok {M : Model} {A : Around} {E : Value → Shared → Prop} {i : Nat} {x : Str} {v : V} {u : Value} {Q : Unit → Shared → Prop} (I : Inv X pins σ H s) (hN : X.N.Nodup) (hi : X.N[i]? = some x) (hx : Loc X.env.scope x) (r : RelV v u)
    (h : ∀ s', Inv X pins (σ.set i (some v)) H s' → Q () s') (hf : X.fn x = true ∨ X.env.scope.names.lookup x = some .local := by first | exact .inl rfl | exact .inr rfl | assumption) : wpAny M A (storeName X.env x u) Q E s :=
  store_ok2 I hN hi hx r (fun s' I' _ => h s' I') hf
theorem Inv.call' {s' : Shared} {ch : List Addr} (I : Inv X pins σ H s) (ho : s'.os = s.os) (u : Un (frs X.stack) ch H H' s.heap s'.heap) (hok : HOk X.prog X.w H' s'.heap) (hg : AllBare s'.gens)
    (hch : ∀ b ∈ ch, (b ∈ X.ex ∨ X.s₀.heap.objs.size ≤ b) ∧ b ≠ X.env.locals ∧ (∀ x c, X.env.cells.lookup x = some c → c ≠ b) ∧ ∀ p ∈ X.pn ++ pins, p.1 ≠ b) : Inv X pins σ H' s' := by
  obtain ⟨h', g', d', t', o'⟩ := s'
  have e : o' = s.os := ho
  subst e
  exact I.call (g' := g') (t' := t') (d' := d') u hok hg hch
end

abbrev XK := Value → Option Addr → Hp → Prop
abbrev St := List (Option V)
abbrev VK := V → Hp → Prop
abbrev TE := St → Hp → VK → Prop
abbrev TT := St → Hp → (Bool → Hp → Prop) → Prop
abbrev TA := St → Hp → (List V → Hp → Prop) → Prop
structure Ends where
  nx : St → Hp → Prop
  rt : VK
  bk : St → Hp → Prop := fun _ _ => False
  ct : St → Hp → Prop := fun _ _ => False
abbrev TS := Ends → St → Hp → Prop

def EP (X : Cx) (pins : List (Addr × Obj)) (σ : St) (Q : VK) (u : Value) (s' : Shared) : Prop := ∃ v H', Inv X pins σ H' s' ∧ RelV v u ∧ Q v H'
def TP (X : Cx) (pins : List (Addr × Obj)) (σ : St) (Q : Bool → Hp → Prop) (b : Bool) (s' : Shared) : Prop := ∃ H', Inv X pins σ H' s' ∧ Q b H'
def AP (X : Cx) (pins : List (Addr × Obj)) (σ : St) (Q : List V → Hp → Prop) (us : List Value) (s' : Shared) : Prop := ∃ vs H', Inv X pins σ H' s' ∧ Vals vs us ∧ Q vs H'
def SP (X : Cx) (pins : List (Addr × Obj)) (D : Ends) (f : Flow) (s' : Shared) : Prop :=
  match f with
  | .next => ∃ σ' H', Inv X pins σ' H' s' ∧ D.nx σ' H'
  | .brk => ∃ σ' H', Inv X pins σ' H' s' ∧ D.bk σ' H'
  | .cont => ∃ σ' H', Inv X pins σ' H' s' ∧ D.ct σ' H'
  | .ret u => ∃ v σ' H', Inv X pins σ' H' s' ∧ RelV v u ∧ D.rt v H'

def PE (X : Cx) (e : Expr) (t : TE) : Prop :=
  ∀ (pins : List (Addr × Obj)) (s : Shared) (σ : St) (H : Hp) (Q : VK), Inv X pins σ H s → t σ H Q → wpAny (model X.prog X.w) X.A (eval e X.env) (EP X pins σ Q) X.xe s
def PT (X : Cx) (e : Expr) (t : TT) : Prop :=
  ∀ (pins : List (Addr × Obj)) (s : Shared) (σ : St) (H : Hp) (Q : Bool → Hp → Prop), Inv X pins σ H s → t σ H Q → wpAny (model X.prog X.w) X.A (isTrue e X.env (eval e X.env)) (TP X pins σ Q) X.xe s
def PW (X : Cx) (e : Expr) (t : TT) : Prop :=
  ∀ (whole : Sem Value) (pins : List (Addr × Obj)) (s : Shared) (σ : St) (H : Hp) (Q : Bool → Hp → Prop), Inv X pins σ H s → t σ H Q → wpAny (model X.prog X.w) X.A (isTrue e X.env whole) (TP X pins σ Q) X.xe s
theorem PW.pt {X : Cx} {e : Expr} {t : TT} (h : PW X e t) : PT X e t := h _
def PA (X : Cx) (es : List Expr) (t : TA) : Prop :=
  ∀ (pos : Pos) (pins : List (Addr × Obj)) (s : Shared) (σ : St) (H : Hp) (Q : List V → Hp → Prop), Inv X pins σ H s → t σ H Q → wpAny (model X.prog X.w) X.A (spliced (backTo pos (starEach es X.env))) (AP X pins σ Q) X.xe s
def PS (X : Cx) (st : Stmt) (t : TS) : Prop :=
  ∀ (pins : List (Addr × Obj)) (s : Shared) (σ : St) (H : Hp) (D : Ends), Inv X pins σ H s → t D σ H → wpAny (model X.prog X.w) X.A (exec st X.env) (SP X pins D) X.xe s
def PSs (X : Cx) (st : List Stmt) (t : TS) : Prop :=
  ∀ (pins : List (Addr × Obj)) (s : Shared) (σ : St) (H : Hp) (D : Ends), Inv X pins σ H s → t D σ H → wpAny (model X.prog X.w) X.A (execs st X.env) (SP X pins D) X.xe s
theorem thn {α : Type} {t : Sem α} {Q Q' : α → Shared → Prop} {M : Model} {A : Around} {E : Value → Shared → Prop} {s : Shared} (h : wpAny M A t Q E s) (hQ : ∀ a s, Q a s → Q' a s) : wpAny M A t Q' E s := wpAny_mono h hQ fun _ _ x => x
end L2

namespace L2
open PySem PySem.Spec PyProof.Rows
section
variable {X : Cx}

def tVar (i : Nat) : TE := fun σ H Q => ∃ v, σ[i]? = some (some v) ∧ Q v H
def tC (v : V) : TE := fun _ H Q => Q v H
theorem pe_var {i : Nat} {x : Str} {pos : Pos} (hN : X.N[i]? = some x) (hv : Vis X.env.scope x) (hd : (x == ("__debug__" : Str)) = false := by decide) (hcd : (x == ("__classdict__" : Str)) = false := by decide) : PE X (.Name x pos) (tVar i) := by
  intro pins s σ H Q I h
  obtain ⟨v, e, h⟩ := h
  obtain ⟨m, hn, hl⟩ := I.loc
  obtain ⟨u, r, l⟩ := hl i x v hN e hv
  have fin : EP X pins σ Q u s := ⟨v, H, I, r, h⟩
  rcases l with ⟨hk, hm⟩ | ⟨hk, c, hc, hcell⟩
  · exact wpAny_Name (wpAny_loadName_local I.ok.kind hk hn hm fin) hd
  · rcases hk with hk | hk
    · exact wpAny_Name (wpAny_loadName_cell I.ok.kind hk hc hcell fin) hd
    · exact wpAny_Name (wpAny_loadName_free I.ok.kind hk hc hcell fin hcd) hd
theorem pe_int {i j pos} : PE X (.Constant (.int i) j pos) (tC (.int i)) := fun _ _ _ H _ I h => wpAny_Constant_int ⟨.int i, H, I.tok _, ⟨_, rfl⟩, h⟩
theorem pe_bl {b j pos} : PE X (.Constant (.bool b) j pos) (tC (.bl b)) := fun _ _ _ H _ I h => Constant_bool ⟨.bl b, H, I, rfl, h⟩
theorem pe_non {j pos} : PE X (.Constant .none j pos) (tC .non) := fun _ _ _ H _ I h => Constant_none ⟨.non, H, I, rfl, h⟩
theorem pe_str {x j pos} : PE X (.Constant (.str x) j pos) (tC (.str x)) := fun _ _ _ H _ I h => Calls.Constant_str ⟨.str x, H, I.tok _, ⟨_, rfl⟩, h⟩

def Gl (X : Cx) (x : Str) : Prop := X.env.kindOf x = some .globalImplicit
theorem ld_glob {E : Value → Shared → Prop} {pins : List (Addr × Obj)} {s : Shared} {σ : St} {H : Hp} {x : Str} {u : Value} {pos : Pos} {Q : Value → Shared → Prop} (I : Inv X pins σ H s) (hg : Gl X x) (hm : X.mg x = some u) (h : Q u s)
    (hd : (x == ("__debug__" : Str)) = false := by decide) : wpAny (model X.prog X.w) X.A (eval (.Name x pos) X.env) Q E s :=
  Calls.Name_function_global I.ok.kind hg (Calls.loadGlobal_global (by rw [I.ok.glob]; exact I.mod.glob.keeps I.bk) hm h) hd
theorem ld_blt {E : Value → Shared → Prop} {pins : List (Addr × Obj)} {s : Shared} {σ : St} {H : Hp} {x : Str} {u : Value} {pos : Pos} {Q : Value → Shared → Prop} (I : Inv X pins σ H s) (hg : Gl X x) (hm : X.mg x = none) (hv : bootBuiltins x = some u) (h : Q u s)
    (hn : x ≠ "__name__" := by decide) (hd : (x == ("__debug__" : Str)) = false := by decide) : wpAny (model X.prog X.w) X.A (eval (.Name x pos) X.env) Q E s := by
  obtain ⟨mb, h1, h2⟩ := I.mod.blt
  exact Calls.Name_function_global I.ok.kind hg (Calls.loadGlobal_builtin (by rw [I.ok.glob]; exact I.mod.glob.keeps I.bk) hm (by rw [I.ok.blt]; exact h1.keeps I.bk) ((h2 x hn).trans hv) h) hd
theorem pe_glob {x : Str} {v : V} {u : Value} {pos : Pos} (hg : Gl X x) (hm : X.mg x = some u) (r : RelV v u) (hd : (x == ("__debug__" : Str)) = false := by decide) : PE X (.Name x pos) (tC v) :=
  fun _ _ _ H _ I h => ld_glob I hg hm ⟨v, H, I, r, h⟩ hd
theorem pe_bltn {x : Str} {v : V} {u : Value} {pos : Pos} (hg : Gl X x) (hm : X.mg x = none) (hv : bootBuiltins x = some u) (r : RelV v u) (hn : x ≠ "__name__" := by decide) (hd : (x == ("__debug__" : Str)) = false := by decide) : PE X (.Name x pos) (tC v) :=
  fun _ _ _ H _ I h => ld_blt I hg hm hv ⟨v, H, I, r, h⟩ hn hd

variable {a b : Expr} {ta tb : TE} {pos : Pos}
def PC (X : Cx) (op : CmpOp) (a b : Expr) (t : TE) : Prop :=
  ∀ (pins : List (Addr × Obj)) (s : Shared) (σ : St) (H : Hp) (Q : VK), Inv X pins σ H s → t σ H Q →
    wpAny (model X.prog X.w) X.A (eval a X.env) (fun v s₁ => wpAny (model X.prog X.w) X.A (eval b X.env) (fun u s₂ => wpAny (model X.prog X.w) X.A (compareOp op v u) (EP X pins σ Q) X.xe s₂) X.xe s₁) X.xe s
theorem nobehind (b : Expr) {op : CmpOp} (h : op ≠ .In) (h2 : op ≠ .NotIn) : behindInMarks op b = false := by
  have e1 : (op == CmpOp.In) = false := by cases op <;> first | rfl | exact absurd rfl h
  have e2 : (op == CmpOp.NotIn) = false := by cases op <;> first | rfl | exact absurd rfl h2
  cases b <;> simp [behindInMarks, e1, e2]
def tIsN (ta : TE) : TE := fun σ H Q => ta σ H fun x H1 => Q (.bl (decide (x = .non))) H1
def tNotN (ta : TE) : TE := fun σ H Q => ta σ H fun x H1 => Q (.bl (!decide (x = .non))) H1
theorem RelV.none_iff {x : V} {v : Value} (r : RelV x v) : (v == Value.none) = decide (x = .non) := by
  cases x with
  | non => cases r; rfl
  | bl _ => cases r; rfl
  | int _ => obtain ⟨t, rfl⟩ := r; rfl
  | str _ => obtain ⟨t, rfl⟩ := r; rfl
  | byt _ => obtain ⟨t, rfl⟩ := r; rfl
  | flt _ => obtain ⟨t, rfl⟩ := r; rfl
  | ref _ => cases r; rfl
  | ty _ => cases r; rfl
theorem pc_isN {j pos'} (ha : PE X a ta) : PC X .Is a (.Constant .none j pos') (tIsN ta) := by
  intro pins s σ H Q I h
  refine thn (ha pins s σ H _ I h) fun v s1 ⟨x, H1, I1, r1, q1⟩ => ?_
  exact Constant_none (is_none_gen ⟨.bl _, H1, I1, by rw [r1.none_iff]; rfl, q1⟩)
theorem pc_notN {j pos'} (ha : PE X a ta) : PC X .IsNot a (.Constant .none j pos') (tNotN ta) := by
  intro pins s σ H Q I h
  refine thn (ha pins s σ H _ I h) fun v s1 ⟨x, H1, I1, r1, q1⟩ => ?_
  exact Constant_none (isnot_none_gen ⟨.bl _, H1, I1, by rw [r1.none_iff]; rfl, q1⟩)
def tB (t : TE) : TT := fun σ H Q => t σ H fun x H1 => ∃ c, x = .bl c ∧ Q c H1
theorem pe_cmp {op : CmpOp} {t : TE} (h : PC X op a b t) (h1 : behindInMarks op b = false := by first | exact nobehind _ (by decide) (by decide) | rfl) : PE X (.Compare a [op] [b] pos) t := fun pins s σ H Q I hw => wpAny_Compare1 (h pins s σ H Q I hw) h1
theorem pt_cmp {op : CmpOp} {t : TE} (h : PC X op a b t) (h1 : behindInMarks op b = false := by first | exact nobehind _ (by decide) (by decide) | rfl) : PT X (.Compare a [op] [b] pos) (tB t) := by
  intro pins s σ H Q I hw
  refine wpAny_isTrue_Compare1 (thn (h pins s σ H _ I hw) fun v s1 h1 => thn h1 fun u s2 h2 => thn h2 fun c s3 ⟨x, H1, I1, r1, q1⟩ => ?_) h1
  obtain ⟨d, rfl, q⟩ := q1
  cases r1
  exact wpAny_truthy_bool ⟨H1, I1, q⟩
theorem pt_val {e : Expr} {t : TE} (h : PE X e t) (he : ∀ whole, isTrue e X.env whole = (do let v ← whole; standAt e.pos; holding [v] (truthy v)) := by intro _; rfl) : PT X e (tB t) := by
  intro pins s σ H Q I hw
  refine isTrue_plain (thn (h pins s σ H _ I hw) fun v s1 ⟨x, H1, I1, r1, q1⟩ => ?_) (he _)
  obtain ⟨d, rfl, q⟩ := q1
  cases r1
  exact wpAny_truthy_bool ⟨H1, I1, q⟩

variable {tA tB' : TT} {rest : List Expr}
def tAnd (t u : TT) : TT := fun σ H Q => t σ H fun c H1 => if c = true then u σ H1 Q else Q false H1
def tOr (t u : TT) : TT := fun σ H Q => t σ H fun c H1 => if c = true then Q true H1 else u σ H1 Q
def tNot (t : TT) : TT := fun σ H Q => t σ H fun c H1 => Q (!c) H1
theorem pw_and1 (ha : PT X a tA) : PW X (.BoolOp .And [a] pos) tA := by
  intro wh pins s σ H Q I h
  refine isTrue_and (thn (ha pins s σ H Q I h) fun c s1 e => ?_)
  cases c with
  | true => exact isTrue_and_nil e
  | false => exact e
theorem pw_or1 (ha : PT X a tA) : PW X (.BoolOp .Or [a] pos) tA := by
  intro wh pins s σ H Q I h
  refine isTrue_or (thn (ha pins s σ H Q I h) fun c s1 e => ?_)
  cases c with
  | false => exact isTrue_or_nil e
  | true => exact e
theorem pw_and (ha : PT X a tA) (hb : PW X (.BoolOp .And (b :: rest) pos) tB') : PW X (.BoolOp .And (a :: b :: rest) pos) (tAnd tA tB') := by
  intro wh pins s σ H Q I h
  refine isTrue_and (thn (ha pins s σ H _ I h) fun c s1 ⟨H1, I1, q1⟩ => ?_)
  cases c with
  | true => exact hb wh pins s1 σ H1 Q I1 q1
  | false => exact ⟨H1, I1, q1⟩
theorem pw_or (ha : PT X a tA) (hb : PW X (.BoolOp .Or (b :: rest) pos) tB') : PW X (.BoolOp .Or (a :: b :: rest) pos) (tOr tA tB') := by
  intro wh pins s σ H Q I h
  refine isTrue_or (thn (ha pins s σ H _ I h) fun c s1 ⟨H1, I1, q1⟩ => ?_)
  cases c with
  | true => exact ⟨H1, I1, q1⟩
  | false => exact hb wh pins s1 σ H1 Q I1 q1
theorem pt_not (ha : PT X a tA) : PT X (.UnaryOp .Not a pos) (tNot tA) := by
  intro pins s σ H Q I h
  exact isTrue_not (ha pins s σ H (fun c H1 => Q (!c) H1) I h)
def tAndV (ta tb : TE) : TE := fun σ H Q => ta σ H fun x H1 => ∃ c, x = .bl c ∧ if c = true then tb σ H1 Q else Q (.bl false) H1
def tNotV (ta : TE) : TE := fun σ H Q => ta σ H fun x H1 => ∃ c, x = .bl c ∧ Q (.bl (!c)) H1
theorem pe_one {op} {t : TE} (h : PE X a t) : PE X (.BoolOp op [a] pos) t := fun pins s σ H Q I hw => BoolOp_one (h pins s σ H Q I hw)
theorem pe_and (ha : PE X a ta) (hb : PE X (.BoolOp .And (b :: rest) pos) tb) : PE X (.BoolOp .And (a :: b :: rest) pos) (tAndV ta tb) := by
  intro pins s σ H Q I h
  refine BoolOp_and (thn (ha pins s σ H _ I h) fun v s1 ⟨x, H1, I1, r1, q1⟩ => ?_)
  obtain ⟨c, rfl, q1⟩ := q1
  cases r1
  refine wpAny_truthy_bool ?_
  cases c with
  | true => exact hb pins s1 σ H1 Q I1 q1
  | false => exact ⟨.bl false, H1, I1, rfl, q1⟩
theorem pe_not (ha : PE X a ta) : PE X (.UnaryOp .Not a pos) (tNotV ta) := by
  intro pins s σ H Q I h
  refine UnaryOp_ (thn (ha pins s σ H _ I h) fun v s1 ⟨x, H1, I1, r1, q1⟩ => ?_)
  obtain ⟨c, rfl, q1⟩ := q1
  cases r1
  exact not_of (wpAny_truthy_bool ⟨.bl (!c), H1, I1, rfl, q1⟩)
def tIf (t : TT) (ta tb : TE) : TE := fun σ H Q => t σ H fun c H1 => if c = true then ta σ H1 Q else tb σ H1 Q
theorem pe_ifExp {c : Expr} (hc : PT X c tA) (ha : PE X a ta) (hb : PE X b tb) : PE X (.IfExp c a b pos) (tIf tA ta tb) := by
  intro pins s σ H Q I h
  refine wpAny_IfExp (thn (hc pins s σ H _ I h) fun d s1 ⟨H1, I1, q1⟩ => ?_)
  cases d with
  | true => exact ha pins s1 σ H1 Q I1 q1
  | false => exact hb pins s1 σ H1 Q I1 q1
end
end L2

namespace L2
open PySem PySem.Spec PyProof.Rows

def SqL (K : PySem.W.Frag) (H : Hp) (a : Addr) (xs : List V) : Prop :=
  Rd H a (.lst xs) ∨
    ∃ (o : Obj) (its : Array Value) (n : Nat), K.lookup a = some o ∧ o.cls = .type "list" ∧ o.dict = none ∧ o.data = .seq its n ∧ its.size ≤ sizeLine ∧ Vals xs its.toList
def SqT (K : PySem.W.Frag) (H : Hp) (a : Addr) (xs : List V) : Prop :=
  Rd H a (.tup xs) ∨
    ∃ (o : Obj) (its : Array Value) (n : Nat), K.lookup a = some o ∧ o.cls = .type "tuple" ∧ o.data = .seq its n ∧ its.size ≤ sizeLine ∧ Vals xs its.toList
def absV : Value → Option V
  | .none => some .non
  | .bool b => some (.bl b)
  | .int i _ => some (.int i)
  | .str x _ => some (.str x)
  | .bytes b _ => some (.byt b)
  | .float b _ => some (.flt b)
  | .ref a => some (.ref a)
  | .type n => some (.ty n)
  | _ => none
theorem RelV.abs {x : V} {u : Value} (r : RelV x u) : absV u = some x := by
  cases x with
  | non => cases r; rfl
  | bl _ => cases r; rfl
  | int _ => obtain ⟨t, rfl⟩ := r; rfl
  | str _ => obtain ⟨t, rfl⟩ := r; rfl
  | byt _ => obtain ⟨t, rfl⟩ := r; rfl
  | flt _ => obtain ⟨t, rfl⟩ := r; rfl
  | ref _ => cases r; rfl
  | ty _ => cases r; rfl
theorem RelV.inj {x y : V} {u : Value} (r : RelV x u) (q : RelV y u) : x = y := Option.some.inj (r.abs.symm.trans q.abs)
theorem Vals.inj : ∀ {xs ys : List V} {us : List Value}, Vals xs us → Vals ys us → xs = ys
  | _, _, _, .nil, .nil => rfl
  | _, _, _, .cons r t, .cons r' t' => by rw [r.inj r', Vals.inj t t']
section
variable {X : Cx} {pins : List (Addr × Obj)} {σ : St} {H : Hp} {s : Shared} {a : Addr} {xs ys : List V}
theorem SqL.of {K : PySem.W.Frag} (h : H a = some (.lst xs)) : SqL K H a xs := .inl (.inl h)
theorem SqT.of {K : PySem.W.Frag} (h : H a = some (.tup xs)) : SqT K H a xs := .inl (.inl h)
theorem Inv.list (I : Inv X pins σ H s) (h : SqL X.K H a xs) : ∃ its : List Value, Vals xs its ∧ PlainL s.heap a its.toArray ∧ xs.length ≤ sizeLine := by
  rcases h with h | ⟨o, its, n, hk, hc, hd, hs, hz, r⟩
  · obtain ⟨z, its, n, r, e⟩ := h.ok I.hok
    exact ⟨its, r, ⟨_, n, e, rfl, rfl, rfl⟩, z⟩
  · refine ⟨its.toList, r, ⟨o, n, I.kIn a o hk, hc, hd, by simpa using hs⟩, ?_⟩
    have e := r.length
    simp only [Array.length_toList] at e
    omega
theorem Inv.tuple (I : Inv X pins σ H s) (h : SqT X.K H a xs) : ∃ its : List Value, Vals xs its ∧ IsTup s.heap a its.toArray ∧ xs.length ≤ sizeLine := by
  rcases h with h | ⟨o, its, n, hk, hc, hs, hz, r⟩
  · obtain ⟨z, its, r, p⟩ := h.ok I.hok
    exact ⟨its, r, p, z⟩
  · refine ⟨its.toList, r, ⟨o, I.kIn a o hk, hc, n, by simpa using hs⟩, ?_⟩
    have e := r.length
    simp only [Array.length_toList] at e
    omega
theorem Inv.list_inj (I : Inv X pins σ H s) (h : SqL X.K H a xs) (h' : SqL X.K H a ys) : xs = ys := by
  obtain ⟨its, r, ⟨o, n, e, _, _, d⟩, _⟩ := I.list h
  obtain ⟨its', r', ⟨o', n', e', _, _, d'⟩, _⟩ := I.list h'
  rw [e] at e'; cases e'
  rw [d] at d'
  injection d' with d1 _
  have : its = its' := by simpa using congrArg Array.toList d1
  subst this
  exact r.inj r'
theorem Inv.tuple_inj (I : Inv X pins σ H s) (h : SqT X.K H a xs) (h' : SqT X.K H a ys) : xs = ys := by
  obtain ⟨its, r, ⟨o, e, _, n, d⟩, _⟩ := I.tuple h
  obtain ⟨its', r', ⟨o', e', _, n', d'⟩, _⟩ := I.tuple h'
  rw [e] at e'; cases e'
  rw [d] at d'
  injection d' with d1 _
  have : its = its' := by simpa using congrArg Array.toList d1
  subst this
  exact r.inj r'
end

abbrev Cx.wish (X : Cx) (E : Value → Shared → Prop) : Cx := { X with xe := E }
abbrev Cx.nox (X : Cx) : Cx := X.wish fun _ _ => False
theorem Cx.Ok.wish {X : Cx} (ok : X.Ok) (E : Value → Shared → Prop) : (X.wish E).Ok :=
  ⟨ok.mod, ok.kind, ok.glob, ok.blt, ok.above, ok.inj, ok.has, ok.cab, ok.hd, ok.frames, ok.stk, ok.exf, ok.bs, ok.bsz, ok.noex, ok.exfs, ok.funs, ok.frf⟩
theorem Cx.Ok.unwish {X : Cx} {E : Value → Shared → Prop} (ok : (X.wish E).Ok) : X.Ok :=
  ⟨ok.mod, ok.kind, ok.glob, ok.blt, ok.above, ok.inj, ok.has, ok.cab, ok.hd, ok.frames, ok.stk, ok.exf, ok.bs, ok.bsz, ok.noex, ok.exfs, ok.funs, ok.frf⟩
section
variable {X : Cx} {pins : List (Addr × Obj)} {σ : St} {H : Hp} {s : Shared} {E : Value → Shared → Prop}
theorem Inv.wish (I : Inv X pins σ H s) (E : Value → Shared → Prop) : Inv (X.wish E) pins σ H s := ⟨I.ok.wish E, I.os, I.bare, I.base, I.loc, I.cell, I.free, I.freeC, I.pin, I.hok, I.len⟩
theorem Inv.unwish (I : Inv (X.wish E) pins σ H s) : Inv X pins σ H s := ⟨I.ok.unwish, I.os, I.bare, I.base, I.loc, I.cell, I.free, I.freeC, I.pin, I.hok, I.len⟩
theorem SP.unwish {D : Ends} {f : Flow} {s' : Shared} (h : SP (X.wish E) pins D f s') : SP X pins D f s' := by
  cases f with
  | next => obtain ⟨σ', H', I, q⟩ := h; exact ⟨σ', H', I.unwish, q⟩
  | brk => obtain ⟨σ', H', I, q⟩ := h; exact ⟨σ', H', I.unwish, q⟩
  | cont => obtain ⟨σ', H', I, q⟩ := h; exact ⟨σ', H', I.unwish, q⟩
  | ret u => obtain ⟨v, σ', H', I, r, q⟩ := h; exact ⟨v, σ', H', I.unwish, r, q⟩
theorem PSs.nox {st : List Stmt} {t : TS} (h : PSs X.nox st t) : PSs X st t := fun pins s σ H D I hw =>
  wpAny_mono (h pins s σ H D (I.wish _) hw) (fun _ _ q => q.unwish) fun _ _ z => False.elim z
end

section
variable {X : Cx} {st : Stmt} {rest : List Stmt} {t u : TS} {e : Expr} {te : TE} {pos : Pos}
def tNext : TS := fun D σ H => D.nx σ H
def tSeq (t u : TS) : TS := fun D σ H => t { D with nx := u D } σ H
theorem pss_nil : PSs X [] tNext := fun _ _ σ H _ I h => wpAny_execs_nil ⟨σ, H, I, h⟩
theorem pss_cons (h1 : PS X st t) (h2 : PSs X rest u) : PSs X (st :: rest) (tSeq t u) := by
  intro pins s σ H D I h
  refine wpAny_execs_cons (thn (h1 pins s σ H { D with nx := u D } I h) fun f s1 q => ?_)
  cases f with
  | next =>
    obtain ⟨σ', H', I', q⟩ := q
    exact h2 pins s1 σ' H' D I' q
  | ret v => exact q
  | brk => exact q
  | cont => exact q
theorem pss_one (h1 : PS X st t) : PSs X [st] t := by
  intro pins s σ H D I h
  refine wpAny_execs_cons (thn (h1 pins s σ H D I h) fun f s1 q => ?_)
  cases f with
  | next => exact wpAny_execs_nil q
  | ret v => exact q
  | brk => exact q
  | cont => exact q
theorem Inv.quiet {pins : List (Addr × Obj)} {σ : St} {H : Hp} {s : Shared} (I : Inv X pins σ H s) : interactive X.env = false := by simp [interactive, I.ok.kind]
def tDrop (te : TE) : TS := fun D σ H => te σ H fun _ H1 => D.nx σ H1
theorem ps_expr (he : PE X e te) (hs : swapsWith e none pos.line X.env = pure false := by rfl) : PS X (.Expr e pos) (tDrop te) := by
  intro pins s σ H D I h
  exact wpAny_Expr_any (thn (he pins s σ H _ I h) fun v s1 ⟨x, H1, I1, r1, q1⟩ => ⟨σ, H1, I1, q1⟩) I.quiet hs
def tRet (te : TE) : TS := fun D σ H => te σ H D.rt
theorem ps_ret (he : PE X e te) : PS X (.Return (some e) pos) (tRet te) := by
  intro pins s σ H D I h
  exact wpAny_Return_some (thn (he pins s σ H _ I h) fun v s1 ⟨x, H1, I1, r1, q1⟩ => ⟨x, σ, H1, I1, r1, q1⟩)
def tIfS (c : TT) (t u : TS) : TS := fun D σ H => c σ H fun b H1 => if b = true then t D σ H1 else u D σ H1
theorem ps_if {c : Expr} {a b : List Stmt} {tc : TT} (hc : PT X c tc) (ha : PSs X a t) (hb : PSs X b u) : PS X (.If c a b pos) (tIfS tc t u) := by
  intro pins s σ H D I h
  refine wpAny_If (thn (hc pins s σ H _ I h) fun d s1 ⟨H1, I1, q1⟩ => ?_)
  cases d with
  | true => exact ha pins s1 σ H1 D I1 q1
  | false => exact hb pins s1 σ H1 D I1 q1
def tNever : TS := fun _ _ _ => False
theorem ps_never : PS X st tNever := fun _ _ _ _ _ _ h => h.elim
end

abbrev TG := V → St → Hp → (St → Hp → Prop) → Prop
def PG (X : Cx) (target : Expr) (t : TG) : Prop :=
  ∀ (pins : List (Addr × Obj)) (s : Shared) (σ : St) (H : Hp) (v : V) (u : Value) (Q : St → Hp → Prop), Inv X pins σ H s → RelV v u → t v σ H Q →
    wpAny (model X.prog X.w) X.A (assign target X.env u) (fun _ s' => ∃ σ' H', Inv X pins σ' H' s' ∧ Q σ' H') X.xe s
abbrev TSet := V → V → V → Hp → (Hp → Prop) → Prop
def PSet (X : Cx) (t : TSet) : Prop :=
  ∀ (pins : List (Addr × Obj)) (s : Shared) (σ : St) (H : Hp) (o i v : V) (ov iv u : Value) (Q : Hp → Prop), Inv X pins σ H s → RelV o ov → RelV i iv → RelV v u → t o i v H Q →
    wpAny (model X.prog X.w) X.A (setItem ov iv u) (fun _ s' => ∃ H', Inv X pins σ H' s' ∧ Q H') X.xe s
section
variable {X : Cx} {pos : Pos}
abbrev gName (i : Nat) : TG := fun v σ H Q => Q (σ.set i (some v)) H
theorem pg_name {i : Nat} {x : Str} (hN : X.N.Nodup) (hi : X.N[i]? = some x) (hx : Loc X.env.scope x) (hf : X.fn x = true ∨ X.env.scope.names.lookup x = some .local := by first | exact .inl rfl | exact .inr rfl | assumption) : PG X (.Name x pos) (gName i) := by
  intro pins s σ H v u Q I r h
  exact wpAny_assign_Name (store_ok I hN hi hx r (fun s' I' => ⟨_, H, I', h⟩) hf)
def gSub (to ti : TE) (t : TSet) : TG := fun v σ H Q => to σ H fun o H1 => ti σ H1 fun i H2 => t o i v H2 fun H3 => Q σ H3
theorem pg_sub {o i : Expr} {to ti : TE} {t : TSet} (ho : PE X o to) (hi : PE X i ti) (hs : PSet X t)
    (ha : ∀ v, assign (.Subscript o i pos) X.env v = (do
      let ov ← holding [v] (eval o X.env)
      let iv ← holding [v, ov] (eval i X.env)
      standAt pos
      holding [v, ov, iv] (setItem ov iv v)
      release [v, ov, iv] []) := by intro _; rfl) : PG X (.Subscript o i pos) (gSub to ti t) := by
  intro pins s σ H v u Q I r h
  rw [ha]
  refine wpAny_bind (wpAny_holding (thn (ho pins s σ H _ I h) fun ov s1 ⟨x, H1, I1, r1, q1⟩ => ?_))
  refine wpAny_bind (wpAny_holding (thn (hi pins s1 σ H1 _ I1 q1) fun iv s2 ⟨y, H2, I2, r2, q2⟩ => ?_))
  refine wpAny_bind (wpAny_standAt (wpAny_bind (wpAny_holding (thn (hs pins s2 σ H2 x y v ov iv u _ I2 r1 r2 r q2) fun _ s3 ⟨H3, I3, q3⟩ => ?_))))
  exact wpAny_release ⟨σ, H3, I3, q3⟩
def tAsg (te : TE) (g : TG) : TS := fun D σ H => te σ H fun x H1 => g x σ H1 D.nx
theorem ps_asg {tg e : Expr} {te : TE} {g : TG} (he : PE X e te) (hg : PG X tg g) (hs : swapsWithSole [tg] e pos.line X.env = pure false := by rfl) (hw : swappedStores [tg] e X.env = pure none := by rfl)
    (h1 : (assignEach [tg] X.env).map (·.2) = [assign tg X.env] := by rfl) : PS X (.Assign [tg] e pos) (tAsg te g) := by
  intro pins s σ H D I h
  refine wpAny_Assign_stores (thn (he pins s σ H _ I h) fun v s1 ⟨x, H1, I1, r1, q1⟩ => ?_) hs hw
  rw [h1]
  exact thn (hg pins s1 σ H1 x v _ I1 r1 q1) fun _ s2 q => q
theorem ps_set {i : Nat} {x : Str} {e : Expr} {te : TE} {pos' : Pos} (hN : X.N.Nodup) (hi : X.N[i]? = some x) (hx : Loc X.env.scope x) (he : PE X e te) (hs : swapsWith e (some (.Name x pos')) pos.line X.env = pure false := by rfl) (hf : X.fn x = true ∨ X.env.scope.names.lookup x = some .local := by first | exact .inl rfl | exact .inr rfl | assumption) :
    PS X (.Assign [.Name x pos'] e pos) (tAsg te (gName i)) := by
  intro pins s σ H D I h
  refine wpAny_Assign_Name (thn (he pins s σ H _ I h) fun v s1 ⟨y, H1, I1, r1, q1⟩ => ?_) hs
  exact store_ok I1 hN hi hx r1 (fun s2 I2 => ⟨_, H1, I2, q1⟩) hf
end

section
variable {X : Cx} {pos : Pos}
end

structure It where
  go : Nat → Hp → Prop
  yld : Nat → Hp → V → Hp → Prop
  stop : Nat → Hp → Prop
def FpOk (X : Cx) (pins : List (Addr × Obj)) (H : Hp) (b : Addr) : Prop :=
  H b = none ∧ b ≠ X.env.locals ∧ b ∉ X.fs ∧ (b ∈ X.ex ∨ X.s₀.heap.objs.size ≤ b) ∧ (∀ x c, X.env.cells.lookup x = some c → c ≠ b) ∧ ∀ p ∈ X.pn ++ pins, p.1 ≠ b
theorem Inv.fpOk {X : Cx} {pins : List (Addr × Obj)} {σ : St} {H H' : Hp} {s : Shared} {b : Addr} (I : Inv X pins σ H s) (hb : s.heap.objs.size ≤ b) (hn : H' b = none) : FpOk X pins H' b := by
  refine ⟨hn, Nat.ne_of_gt (Nat.lt_of_lt_of_le I.lt hb), I.nofs hb, .inr (Nat.le_trans I.sz hb), fun x c e z => ?_, fun p hp z => ?_⟩
  · obtain ⟨v, q⟩ := I.cell x c e
    exact absurd (Nat.lt_of_lt_of_le q.lt (by rw [z]; exact hb)) (Nat.lt_irrefl _)
  · exact absurd (Nat.lt_of_lt_of_le (Heap.lt_size (I.pin p hp).1) (by rw [z]; exact hb)) (Nat.lt_irrefl _)
structure Turn (P : Program) (w : World) (K : PySem.W.Frag) (tg : Expr) (J : It) (fp : List Addr) (it : Addr) (tn : Nat → Heap → Prop) : Prop where
  mem : it ∈ fp
  obj : ∀ i h, tn i h → ∀ b ∈ fp, ∃ o, h.get? b = some o ∧ ∀ v, o.data ≠ .cell v
  keep : ∀ i h h', tn i h → (∀ b ∈ fp, ∀ o, h.get? b = some o → h'.get? b = some o) → tn i h'
  item : ∀ (X : Cx), X.prog = P → X.w = w → X.K = K → X.calm = true → ∀ (i : Nat) (pins : List (Addr × Obj)) (s : Shared) (σ : St) (H : Hp) (E : Value → Shared → Prop), Inv X pins σ H s → (∀ b ∈ fp, FpOk X pins H b) → tn i s.heap → J.go i H →
    wpAny (model P w) X.A (pyNext (.ref it)) (fun r s1 => ∃ u, r = some u ∧
      wpAny (model P w) X.A (letOwnedTupleGo tg (.ref it) u) (fun _ s2 => ∃ x H', Inv X pins σ H' s2 ∧ RelV x u ∧ J.yld i H x H' ∧ tn (i + 1) s2.heap ∧ ∀ b ∈ fp, H' b = none) E s1) E s
  done : ∀ (X : Cx), X.prog = P → X.w = w → X.K = K → X.calm = true → ∀ (i : Nat) (pins : List (Addr × Obj)) (s : Shared) (σ : St) (H : Hp) (E : Value → Shared → Prop), Inv X pins σ H s → (∀ b ∈ fp, FpOk X pins H b) → tn i s.heap → J.stop i H →
    wpAny (model P w) X.A (pyNext (.ref it)) (fun r s1 => r = none ∧ Inv X pins σ H s1) E s
  self : ∀ (A : Around) (i : Nat) (s : Shared) (Q : Value → Shared → Prop) (E : Value → Shared → Prop), tn i s.heap → Q (.ref it) s → wpAny (model P w) A (pyIter (.ref it)) Q E s
abbrev TI := St → Hp → (It → Hp → Prop) → Prop
def PIE (X : Cx) (pins : List (Addr × Obj)) (σ : St) (tg : Expr) (R : It → Hp → Prop) (itv : Value) (s2 : Shared) : Prop :=
  ∃ (it : Addr) (fp : List Addr) (tn : Nat → Heap → Prop) (J : It) (H' : Hp), itv = .ref it ∧ Inv X pins σ H' s2 ∧ Turn X.prog X.w X.K tg J fp it tn ∧ tn 0 s2.heap ∧ (∀ b ∈ fp, FpOk X pins H' b) ∧ R J H'
def PI (X : Cx) (tg iter : Expr) (wi : TI) : Prop :=
  ∀ (pins : List (Addr × Obj)) (s : Shared) (σ : St) (H : Hp) (R : It → Hp → Prop), Inv X pins σ H s → wi σ H R →
    wpAny (model X.prog X.w) X.A (eval iter X.env) (fun v s1 => wpAny (model X.prog X.w) X.A (pyIter v) (PIE X pins σ tg R) X.xe s1) X.xe s

theorem go_of {M : Model} {A : Around} {E : Value → Shared → Prop} {s : Shared} {tg : Expr} {it : Addr} {u : Value} {o : Obj} {n : String} {vs : Array Value} {Q : Unit → Shared → Prop} (ho : s.heap.get? it = some o) (hc : o.cls = .type n) (hd : o.data = .fields vs)
    (hn : ["enumerate", "zip", "dict_itemiterator", "dict_reverseitemiterator", "odict_iterator", "itertools.zip_longest", "itertools.pairwise"].contains n = false) (hQ : Q () s) : wpAny M A (letOwnedTupleGo tg (.ref it) u) Q E s := by
  unfold letOwnedTupleGo
  cases tg <;> first
    | exact wpAny_pure hQ
    | (cases u <;> first
        | exact wpAny_pure hQ
        | (refine wpAny_bind (wpAny_load ho ?_)
           rw [hc, hd]
           show wpAny M A (if (["enumerate", "zip", "dict_itemiterator", "dict_reverseitemiterator", "odict_iterator", "itertools.zip_longest", "itertools.pairwise"].contains n && vs[0]? == some (rawInt _)) = true then _ else _) Q E s
           rw [if_neg (by intro h; rw [hn, Bool.false_and] at h; cases h)]
           exact wpAny_pure hQ))

def Itl (K : PySem.W.Frag) (a : Addr) : It :=
  ⟨fun i H => ∃ xs x, SqL K H a xs ∧ xs[i]? = some x, fun i H x H' => H' = H ∧ ∀ xs, SqL K H a xs → xs[i]? = some x, fun i H => ∃ xs, SqL K H a xs ∧ xs.length ≤ i⟩
def Itr (lo : Int) (n : Nat) : It := ⟨fun i _ => i < n, fun i H x H' => H' = H ∧ x = .int (lo + i), fun i _ => n ≤ i⟩
theorem turn_list {P : Program} {w : World} {K : PySem.W.Frag} {tg : Expr} (a it : Addr) : Turn P w K tg (Itl K a) [it] it (fun i h => h.IsListIter it a i) where
  mem := by simp
  obj := fun i h st b hb => by
    have e : b = it := by simpa using hb
    subst e
    obtain ⟨o, e, c, d⟩ := st
    exact ⟨o, e, fun v z => by rw [d] at z; cases z⟩
  keep := fun i h h' st k => st.at fun o e => k it (by simp) o e
  item := by
    intro X hP hw hK hc i pins s σ H E I hf st hg
    subst hP hw hK
    obtain ⟨xs, x, hq, hx⟩ := hg
    obtain ⟨its, rv, p, hz⟩ := I.list hq
    obtain ⟨u, hu, ru⟩ := rv.get hx
    obtain ⟨f0, f1, f2, f3, f4, f5⟩ := hf it (by simp)
    refine wpAny_pyNext_list_item st p.isList (x := u) (by simpa using hu) fun h' st' sb => ?_
    have I1 : Inv X pins σ H { s with heap := h' } := I.turned (t' := s.toks) (fun b o hb e => (sb.2 b hb).trans e) f0 f1 f3 f4 f5
    obtain ⟨o, e, c, d⟩ := id st'
    exact ⟨u, rfl, go_of (s := { s with heap := h' }) e c d (by decide) ⟨x, H, I1, ru, ⟨rfl, fun ys hy => by rw [I.list_inj hy hq]; exact hx⟩, st', fun b hb => (hf b hb).1⟩⟩
  done := by
    intro X hP hw hK hc i pins s σ H E I hf st hg
    subst hP hw hK
    obtain ⟨xs, hq, hx⟩ := hg
    obtain ⟨its, rv, p, hz⟩ := I.list hq
    obtain ⟨f0, f1, f2, f3, f4, f5⟩ := hf it (by simp)
    have hl := rv.length
    exact wpAny_pyNext_list_end (I.ok.hd hc) st p.isList (by simp; omega) fun h' eb => ⟨rfl, I.turned (t' := s.toks) (fun b o hb e => eb b o hb e) f0 f1 f3 f4 f5⟩
  self := fun _ _ _ _ _ st h => wpAny_pyIter_listiter st h
theorem turn_range {P : Program} {w : World} {K : PySem.W.Frag} {tg : Expr} (it : Addr) (lo : Int) (n : Nat) : Turn P w K tg (Itr lo n) [it] it (fun i h => IsRangeIter h it (lo + (i : Nat) * 1) ((n : Int) - (i : Nat)) 1) where
  mem := by simp
  obj := fun i h st b hb => by
    have e : b = it := by simpa using hb
    subst e
    exact ⟨_, st, fun v z => by
      have z' : Data.fields _ = Data.cell v := z
      cases z'⟩
  keep := fun i h h' st k => k it (by simp) _ st
  item := by
    intro X hP hw hK hc i pins s σ H E I hf st hg
    subst hP hw hK
    obtain ⟨f0, f1, f2, f3, f4, f5⟩ := hf it (by simp)
    have W := Walks.range (prog := X.prog) (w := X.w) (I.ok.hd hc) it lo 1 n
    refine W.item i s _ _ hg st fun v h' tk hv st' kk => ?_
    obtain ⟨t, rfl⟩ := hv
    have I1 : Inv X pins σ H { s with heap := h', toks := tk } := I.turned (fun b o hb e => kk b o (by simpa using hb) e) f0 f1 f3 f4 f5
    refine ⟨_, rfl, go_of (s := { s with heap := h', toks := tk }) (n := "range_iterator") st' rfl rfl (by decide) ⟨.int (lo + i), H, I1, ⟨t, ?_⟩, ⟨rfl, rfl⟩, st', fun b hb => (hf b hb).1⟩⟩
    rw [Int.mul_one]
  done := by
    intro X hP hw hK hc i pins s σ H E I hf st hg
    subst hP hw hK
    obtain ⟨f0, f1, f2, f3, f4, f5⟩ := hf it (by simp)
    exact wpAny_pyNext_range_end (I.ok.hd hc) st (by have : n ≤ i := hg; omega) fun h' eb => ⟨rfl, I.turned (t' := s.toks) (fun b o hb e => eb b o hb e) f0 f1 f3 f4 f5⟩
  self := fun _ _ _ _ _ st h => wpAny_pyIter_rangeiter st h
end L2

namespace L2
open PySem PySem.Spec PyProof.Rows
section
variable {X : Cx} {tg : Expr}
def iList (K : PySem.W.Frag) (tl : TE) : TI := fun σ H R => tl σ H fun x H1 => ∃ a, x = .ref a ∧ (∃ xs, SqL K H1 a xs) ∧ R (Itl K a) H1
theorem pi_list {l : Expr} {tl : TE} (hl : PE X l tl) : PI X tg l (iList X.K tl) := by
  intro pins s σ H R I h
  refine thn (hl pins s σ H _ I h) fun v s1 ⟨x, H1, I1, r1, q1⟩ => ?_
  obtain ⟨a, e, ⟨xs, hq⟩, q⟩ := q1
  subst e
  cases r1
  obtain ⟨its, rv, p, hz⟩ := I1.list hq
  refine wpAny_pyIter_list p.isList ?_
  refine ⟨s1.heap.objs.size, [s1.heap.objs.size], _, _, H1, rfl, I1.kept (t' := s1.toks) fun b o e => Heap.get?_push_of_some _ e, turn_list a _, ⟨_, Heap.get?_push_size _ rfl, rfl, rfl⟩, fun b hb => ?_, q⟩
  have e : b = s1.heap.objs.size := by simpa using hb
  subst e
  exact I1.fpOk (Nat.le_refl _) (I1.hok.fresh (Nat.le_refl _))
theorem range_it {pins : List (Addr × Obj)} {σ : St} {H : Hp} {s : Shared} {R : It → Hp → Prop} {E : Value → Shared → Prop} {lo hi : Int} {t u v : Tok} {tk : Nat} (I : Inv X pins σ H s) (h1 : -(2 ^ 62) ≤ lo) (h2 : lo < 2 ^ 62) (h3 : -(2 ^ 62) ≤ hi) (h4 : hi < 2 ^ 62)
    (q : R (Itr lo (hi - lo).toNat) H) : wpAny (model X.prog X.w) X.A (pyIter (.ref s.heap.objs.size)) (PIE X pins σ tg R) E { s with heap := s.heap.push { cls := .type "range", data := .fields #[.int lo t, .int hi u, .int 1 v] }, toks := tk } := by
  refine wpAny_pyIter_range (IsRange.new ..) (small_one h1 h2 h3 h4) ?_
  have I1 : Inv X pins σ H { s with heap := s.heap.push { cls := .type "range", data := .fields #[.int lo t, .int hi u, .int 1 v] }, toks := tk } := I.kept fun b o e => Heap.get?_push_of_some _ e
  refine ⟨(s.heap.push { cls := .type "range", data := .fields #[.int lo t, .int hi u, .int 1 v] }).objs.size, [(s.heap.push { cls := .type "range", data := .fields #[.int lo t, .int hi u, .int 1 v] }).objs.size], _, _, H, rfl,
    I1.kept (t' := tk) fun b o e => Heap.get?_push_of_some _ e, turn_range _ lo (hi - lo).toNat, ?_, fun b hb => ?_, q⟩
  · have e1 : lo + ((0 : Nat) : Int) * 1 = lo := by simp
    have e2 : (((hi - lo).toNat : Nat) : Int) - ((0 : Nat) : Int) = Builtin.Range.rangeSize lo hi 1 := by rw [rangeSize_one]; split <;> omega
    show IsRangeIter _ _ (lo + ((0 : Nat) : Int) * 1) ((((hi - lo).toNat : Nat) : Int) - ((0 : Nat) : Int)) 1
    rw [e1, e2]
    exact Heap.get?_push_size _ rfl
  · have e : b = (s.heap.push { cls := .type "range", data := .fields #[.int lo t, .int hi u, .int 1 v] }).objs.size := by simpa using hb
    subst e
    exact I1.fpOk (Nat.le_refl _) (I1.hok.fresh (Nat.le_refl _))
def iRng1 (ta : TA) : TI := fun σ H R => ta σ H fun vs H1 => ∃ j : Int, vs = [.int j] ∧ -(2 ^ 62) ≤ j ∧ j < 2 ^ 62 ∧ R (Itr 0 j.toNat) H1
def iRng2 (ta : TA) : TI := fun σ H R => ta σ H fun vs H1 => ∃ i j : Int, vs = [.int i, .int j] ∧ (-(2 ^ 62) ≤ i ∧ i < 2 ^ 62 ∧ -(2 ^ 62) ≤ j ∧ j < 2 ^ 62) ∧ R (Itr i (j - i).toNat) H1
theorem pi_range1 {a : Expr} {ta : TA} {p pos : Pos} (hg : Gl X "range") (hm : X.mg "range" = none) (ha : PA X [a] ta) (hs : starEach [a] X.env = [(false, eval a X.env)] := by rfl) : PI X tg (.Call (.Name "range" p) [a] [] pos) (iRng1 ta) := by
  intro pins s σ H R I h
  refine Call_ (ld_blt I hg hm boot_range (PyProof.Rows.callWith_type1 (thn (ha pos pins s σ H _ I h) fun us s1 ⟨vs, H1, I1, r1, q1⟩ => ?_) hs rfl))
  obtain ⟨j, e, q1, q2, q⟩ := q1
  subst e
  cases r1 with
  | cons r rr =>
    cases rr
    obtain ⟨t, rfl⟩ := r
    exact call_range_1 (range_it I1 (by omega) (by omega) q1 q2 (by simpa using q))
theorem pi_range2 {a b : Expr} {ta : TA} {p pos : Pos} (hg : Gl X "range") (hm : X.mg "range" = none) (ha : PA X [a, b] ta) (hs : starEach [a, b] X.env = [(false, eval a X.env), (false, eval b X.env)] := by rfl) (hs2 : starEach [b] X.env = [(false, eval b X.env)] := by rfl) :
    PI X tg (.Call (.Name "range" p) [a, b] [] pos) (iRng2 ta) := by
  intro pins s σ H R I h
  refine Call_ (ld_blt I hg hm boot_range (PyProof.Rows.callWith_type1 (thn (ha pos pins s σ H _ I h) fun us s1 ⟨vs, H1, I1, r1, q1⟩ => ?_) (by rw [hs, hs2]) (by rw [hs2]; rfl)))
  obtain ⟨i, j, e, ⟨q1, q2, q3, q4⟩, q⟩ := q1
  subst e
  cases r1 with
  | cons r rr =>
    cases rr with
    | cons r' rr =>
      cases rr
      obtain ⟨t, rfl⟩ := r
      obtain ⟨t', rfl⟩ := r'
      exact call_range_2 (range_it I1 q1 q2 q3 q4 q)

def tFor (wi : TI) (g : TG) (tb : TS) : TS := fun D σ H => wi σ H fun J H1 => ∃ W : Nat → Nat → St → Hp → Prop, (∃ m, W 0 m σ H1) ∧ ∀ i m σ H, W i m σ H →
  (J.stop i H ∧ D.nx σ H) ∨ (J.go i H ∧ ∃ N : St → Hp → Prop, (∀ σ' H', N σ' H' → ∃ m', m' < m ∧ W (i + 1) m' σ' H') ∧ ∀ x H', J.yld i H x H' → g x σ H' fun σ2 H2 => tb { D with nx := N, ct := N, bk := D.nx } σ2 H2)
def pinsAt (fp : List Addr) (h : Heap) : List (Addr × Obj) := fp.filterMap fun b => (h.get? b).map fun o => (b, o)
theorem mem_pinsAt {fp : List Addr} {h : Heap} {b : Addr} {o : Obj} (hb : b ∈ fp) (e : h.get? b = some o) : (b, o) ∈ pinsAt fp h := List.mem_filterMap.mpr ⟨b, hb, by rw [e]; rfl⟩
theorem of_pinsAt {fp : List Addr} {h : Heap} {p : Addr × Obj} (hp : p ∈ pinsAt fp h) : p.1 ∈ fp ∧ h.get? p.1 = some p.2 := by
  obtain ⟨b, hb, e⟩ := List.mem_filterMap.mp hp
  cases q : h.get? b with
  | none => rw [q] at e; cases e
  | some o =>
    rw [q] at e
    have e' : (b, o) = p := Option.some.inj e
    subst e'
    exact ⟨hb, q⟩
theorem Inv.pinned {pins : List (Addr × Obj)} {σ : St} {H : Hp} {s : Shared} {fp : List Addr} (I : Inv X pins σ H s) (hf : ∀ b ∈ fp, FpOk X pins H b) (ho : ∀ b ∈ fp, ∃ o, s.heap.get? b = some o ∧ ∀ v, o.data ≠ .cell v) : Inv X (pins ++ pinsAt fp s.heap) σ H s :=
  I.pins_of fun p hp => (List.mem_append.mp hp).elim (fun z => I.pin p (List.mem_append_right _ z)) fun z => by
    obtain ⟨hb, e⟩ := of_pinsAt z
    obtain ⟨f0, f1, f2, _⟩ := hf p.1 hb
    obtain ⟨o, e', d⟩ := ho p.1 hb
    rw [e] at e'; cases e'
    exact ⟨e, f0, f1, f2, d⟩
theorem Inv.unpinned {pins pl : List (Addr × Obj)} {σ : St} {H : Hp} {s : Shared} (I : Inv X (pins ++ pl) σ H s) : Inv X pins σ H s := I.pins_of fun p hp => I.pin p (List.mem_append_right _ (List.mem_append_left _ hp))
theorem ps_for {iter : Expr} {body : List Stmt} {wi : TI} {g : TG} {tb : TS} {pos : Pos} (hp : PassesOwn (model X.prog X.w) X.A X.env X.xe) (hc : X.calm = true) (hi : PI X tg iter wi) (hg : PG X tg g) (hb : PSs X body tb)
    (hs : ∀ x, foldedSetIterable iter X.env x = pure x := by intro _; rfl) : PS X (.For tg iter body [] pos) (tFor wi g tb) := by
  intro pins s σ H D I h
  refine wpAny_For (thn (hi pins s σ H _ I h) fun v s1 h1 => thn h1 fun itv s2 h2 => ?_) hs
  obtain ⟨it, fp, tn, J, H2, e, I2, T, st2, f2, W, ⟨m0, w0⟩, turn⟩ := h2
  subst e
  -- what stays true of the iterator's objects through the loop
  have stat : ∀ {H' : Hp}, (∀ b ∈ fp, H' b = none) → ∀ b ∈ fp, FpOk X pins H' b := fun hn b hb => ⟨hn b hb, (f2 b hb).2⟩
  refine codeAny_forLoop_any (fun n s' => ∃ i σ' H', Inv X pins σ' H' s' ∧ tn i s'.heap ∧ (∀ b ∈ fp, H' b = none) ∧ W i n σ' H') ?_ m0 ⟨0, σ, H2, I2, st2, fun b hb => (f2 b hb).1, w0⟩
  rintro n s3 ⟨i, σ3, H3, I3, st3, fr3, w3⟩
  rcases turn i n σ3 H3 w3 with ⟨stop, qn⟩ | ⟨go, N, hN, step⟩
  · refine wpAny_passesOwn hp (thn (T.done X rfl rfl rfl hc i pins s3 σ3 H3 X.xe I3 (stat fr3) st3 stop) fun r s4 ⟨hr, I4⟩ => ?_)
    subst hr
    exact wpAny_execs_nil ⟨σ3, H3, I4, qn⟩
  · refine wpAny_passesOwn hp (thn (T.item X rfl rfl rfl hc i pins s3 σ3 H3 X.xe I3 (stat fr3) st3 go) fun r s4 ⟨u, hr, h4⟩ => ?_)
    subst hr
    refine wpAny_passesOwn hp (thn h4 fun _ s5 ⟨x, H5, I5, r5, y5, st5, fr5⟩ => ?_)
    have I5' := I5.pinned (stat fr5) (T.obj _ _ st5)
    refine wpAny_passesOwn hp (thn (hg _ s5 σ3 H5 x u _ I5' r5 (step x H5 y5)) fun _ s6 ⟨σ6, H6, I6, q6⟩ => ?_)
    refine wpAny_passesOwn hp (thn (hb _ s6 σ6 H6 _ I6 q6) fun f s7 q7 => ?_)
    have again : ∀ {σ7 : St} {H7 : Hp}, Inv X (pins ++ pinsAt fp s5.heap) σ7 H7 s7 → N σ7 H7 → ∃ m, m < n ∧ ∃ i σ' H', Inv X pins σ' H' s7 ∧ tn i s7.heap ∧ (∀ b ∈ fp, H' b = none) ∧ W i m σ' H' := fun {σ7 H7} I7 n7 => by
      obtain ⟨m', hm, w7⟩ := hN σ7 H7 n7
      refine ⟨m', hm, i + 1, σ7, H7, I7.unpinned, T.keep _ _ _ st5 fun b hb o e => (I7.pin (b, o) (List.mem_append_right _ (List.mem_append_right _ (mem_pinsAt hb e)))).1, fun b hb => ?_, w7⟩
      obtain ⟨o, e, d⟩ := T.obj _ _ st5 b hb
      exact (I7.pin (b, o) (List.mem_append_right _ (List.mem_append_right _ (mem_pinsAt hb e)))).2.1
    cases f with
    | next => obtain ⟨σ7, H7, I7, n7⟩ := q7; exact again I7 n7
    | cont => obtain ⟨σ7, H7, I7, n7⟩ := q7; exact again I7 n7
    | brk => obtain ⟨σ7, H7, I7, q7⟩ := q7; exact ⟨σ7, H7, I7.unpinned, q7⟩
    | ret v => obtain ⟨x7, σ7, H7, I7, r7, q7⟩ := q7; exact ⟨x7, σ7, H7, I7.unpinned, r7, q7⟩
end

theorem for_list {K : PySem.W.Frag} {a : Addr} {xs : List V} {g : TG} {tb : TS} {D : Ends} {σ : St} {H : Hp} (Pv : Nat → St → Hp → Prop) (h0 : Pv 0 σ H) (hl : ∀ i σ H, i ≤ xs.length → Pv i σ H → SqL K H a xs)
    (hs : ∀ i x σ H, xs[i]? = some x → Pv i σ H → g x σ H fun σ2 H2 => tb { D with nx := Pv (i + 1), ct := Pv (i + 1), bk := D.nx } σ2 H2) (hd : ∀ σ H, Pv xs.length σ H → D.nx σ H) :
    ∃ W : Nat → Nat → St → Hp → Prop, (∃ m, W 0 m σ H) ∧ ∀ i m σ H, W i m σ H →
      ((Itl K a).stop i H ∧ D.nx σ H) ∨ ((Itl K a).go i H ∧ ∃ N : St → Hp → Prop, (∀ σ' H', N σ' H' → ∃ m', m' < m ∧ W (i + 1) m' σ' H') ∧ ∀ x H', (Itl K a).yld i H x H' → g x σ H' fun σ2 H2 => tb { D with nx := N, ct := N, bk := D.nx } σ2 H2) := by
  refine ⟨fun i m σ H => m = xs.length - i ∧ i ≤ xs.length ∧ Pv i σ H, ⟨xs.length, by simp, Nat.zero_le _, h0⟩, ?_⟩
  rintro i m σ H ⟨rfl, hi, p⟩
  have q := hl i σ H hi p
  by_cases hlt : i < xs.length
  · refine .inr ⟨⟨xs, xs[i], q, by simp [hlt]⟩, Pv (i + 1), fun σ' H' p' => ⟨xs.length - (i + 1), by omega, rfl, hlt, p'⟩, fun x H' y => ?_⟩
    obtain ⟨e, y⟩ := y
    subst e
    exact hs i x σ _ (y xs q) p
  · have e : i = xs.length := by omega
    subst e
    exact .inl ⟨⟨xs, q, Nat.le_refl _⟩, hd σ H p⟩
theorem for_range {lo : Int} {n : Nat} {g : TG} {tb : TS} {D : Ends} {σ : St} {H : Hp} (Pv : Nat → St → Hp → Prop) (h0 : Pv 0 σ H)
    (hs : ∀ i σ H, i < n → Pv i σ H → g (.int (lo + i)) σ H fun σ2 H2 => tb { D with nx := Pv (i + 1), ct := Pv (i + 1), bk := D.nx } σ2 H2) (hd : ∀ σ H, Pv n σ H → D.nx σ H) :
    ∃ W : Nat → Nat → St → Hp → Prop, (∃ m, W 0 m σ H) ∧ ∀ i m σ H, W i m σ H →
      ((Itr lo n).stop i H ∧ D.nx σ H) ∨ ((Itr lo n).go i H ∧ ∃ N : St → Hp → Prop, (∀ σ' H', N σ' H' → ∃ m', m' < m ∧ W (i + 1) m' σ' H') ∧ ∀ x H', (Itr lo n).yld i H x H' → g x σ H' fun σ2 H2 => tb { D with nx := N, ct := N, bk := D.nx } σ2 H2) := by
  refine ⟨fun i m σ H => m = n - i ∧ i ≤ n ∧ Pv i σ H, ⟨n, by simp, Nat.zero_le _, h0⟩, ?_⟩
  rintro i m σ H ⟨rfl, hi, p⟩
  by_cases hlt : i < n
  · refine .inr ⟨hlt, Pv (i + 1), fun σ' H' p' => ⟨n - (i + 1), by omega, rfl, hlt, p'⟩, fun x H' y => ?_⟩
    obtain ⟨e, y⟩ := y
    subst e y
    exact hs i σ _ hlt p
  · have e : i = n := by omega
    subst e
    exact .inl ⟨Nat.le_refl _, hd σ H p⟩
end L2

namespace L2
open PySem PySem.Spec PyProof.Rows

abbrev R2 := V → V → Hp → VK → Prop
def OpR (X : Cx) (f : Value → Value → Sem Value) (r : R2) : Prop :=
  ∀ (pins : List (Addr × Obj)) (s : Shared) (σ : St) (H : Hp) (x y : V) (v u : Value) (Q : VK), Inv X pins σ H s → RelV x v → RelV y u → r x y H Q →
    wpAny (model X.prog X.w) X.A (f v u) (EP X pins σ Q) X.xe s
def UnR (X : Cx) (f : Value → Sem Value) (r : V → Hp → VK → Prop) : Prop :=
  ∀ (pins : List (Addr × Obj)) (s : Shared) (σ : St) (H : Hp) (x : V) (v : Value) (Q : VK), Inv X pins σ H s → RelV x v → r x H Q →
    wpAny (model X.prog X.w) X.A (f v) (EP X pins σ Q) X.xe s
def CallR (X : Cx) (f : Value) (r : List V → Hp → VK → Prop) : Prop :=
  ∀ (pins : List (Addr × Obj)) (s : Shared) (σ : St) (H : Hp) (xs : List V) (us : List Value) (Q : VK), Inv X pins σ H s → Vals xs us → r xs H Q →
    wpAny (model X.prog X.w) X.A (call f us) (EP X pins σ Q) X.xe s
def tOp (r : R2) (ta tb : TE) : TE := fun σ H Q => ta σ H fun x H1 => tb σ H1 fun y H2 => r x y H2 Q
def tUn (r : V → Hp → VK → Prop) (ta : TE) : TE := fun σ H Q => ta σ H fun x H1 => r x H1 Q
def rI (C : Int → Int → Prop) (g : Int → Int → V) : R2 := fun x y H Q => ∃ i j, x = .int i ∧ y = .int j ∧ C i j ∧ Q (g i j) H
def rI0 (g : Int → Int → V) : R2 := fun x y H Q => ∃ i j, x = .int i ∧ y = .int j ∧ Q (g i j) H
def rU (g : Int → V) : V → Hp → VK → Prop := fun x H Q => ∃ i, x = .int i ∧ Q (g i) H

section
variable {X : Cx} {a b c : Expr} {ta tb tc : TE} {pos : Pos}

theorem binT (ha : PE X a ta) (hb : PE X b tb) {pins : List (Addr × Obj)} {s : Shared} {σ : St} {H : Hp} {R : V → V → Hp → Prop} (I : Inv X pins σ H s)
    (h : ta σ H fun x H1 => tb σ H1 fun y H2 => R x y H2) {Q : Value → Shared → Prop} {f : Value → Value → Sem Value}
    (hf : ∀ v u s2 x y H2, Inv X pins σ H2 s2 → RelV x v → RelV y u → R x y H2 → wpAny (model X.prog X.w) X.A (f v u) Q X.xe s2) :
    wpAny (model X.prog X.w) X.A (eval a X.env) (fun v s₁ => wpAny (model X.prog X.w) X.A (eval b X.env) (fun u s₂ => wpAny (model X.prog X.w) X.A (f v u) Q X.xe s₂) X.xe s₁) X.xe s := by
  refine thn (ha pins s σ H _ I h) fun v s1 ⟨x, H1, I1, r1, q1⟩ => ?_
  refine thn (hb pins s1 σ H1 _ I1 q1) fun u s2 ⟨y, H2, I2, r2, q2⟩ => ?_
  exact hf v u s2 x y H2 I2 r1 r2 q2

theorem pe_op {op : Operator} {r : R2} (ho : OpR X (binaryOp op) r) (ha : PE X a ta) (hb : PE X b tb) : PE X (.BinOp a op b pos) (tOp r ta tb) := by
  intro pins s σ H Q I h
  exact wpAny_BinOp (binT ha hb I h fun v u s2 x y H2 I2 rx ry q => ho pins s2 σ H2 x y v u Q I2 rx ry q)
theorem pe_un {op : UnaryOp} {r : V → Hp → VK → Prop} (ho : UnR X (unaryOp op) r) (ha : PE X a ta) : PE X (.UnaryOp op a pos) (tUn r ta) := by
  intro pins s σ H Q I h
  exact UnaryOp_ (thn (ha pins s σ H _ I h) fun v s1 ⟨x, H1, I1, r1, q1⟩ => ho pins s1 σ H1 x v Q I1 r1 q1)
theorem opI {f : Value → Value → Sem Value} {C : Int → Int → Prop} {g : Int → Int → Int}
    (rule : ∀ (i j : Int) (t u : Tok) (s : Shared) (Q : Value → Shared → Prop) (E : Value → Shared → Prop), C i j → Q (.int (g i j) s.toks) { s with toks := s.toks + 1 } → wpAny (model X.prog X.w) X.A (f (.int i t) (.int j u)) Q E s) :
    OpR X f (rI C fun i j => .int (g i j)) := by
  intro pins s σ H x y v u Q I rx ry h
  obtain ⟨i, j, rfl, rfl, hc, q⟩ := h
  obtain ⟨t, rfl⟩ := rx
  obtain ⟨t', rfl⟩ := ry
  exact rule i j t t' s _ _ hc ⟨.int (g i j), H, I.tok _, ⟨_, rfl⟩, q⟩
theorem opI0 {f : Value → Value → Sem Value} {g : Int → Int → Int}
    (rule : ∀ (i j : Int) (t u : Tok) (s : Shared) (Q : Value → Shared → Prop) (E : Value → Shared → Prop), Q (.int (g i j) s.toks) { s with toks := s.toks + 1 } → wpAny (model X.prog X.w) X.A (f (.int i t) (.int j u)) Q E s) :
    OpR X f (rI0 fun i j => .int (g i j)) := by
  intro pins s σ H x y v u Q I rx ry h
  obtain ⟨i, j, rfl, rfl, q⟩ := h
  obtain ⟨t, rfl⟩ := rx
  obtain ⟨t', rfl⟩ := ry
  exact rule i j t t' s _ _ ⟨.int (g i j), H, I.tok _, ⟨_, rfl⟩, q⟩
theorem opB0 {f : Value → Value → Sem Value} {g : Int → Int → Bool}
    (rule : ∀ (i j : Int) (t u : Tok) (s : Shared) (Q : Value → Shared → Prop) (E : Value → Shared → Prop), Q (.bool (g i j)) s → wpAny (model X.prog X.w) X.A (f (.int i t) (.int j u)) Q E s) :
    OpR X f (rI0 fun i j => .bl (g i j)) := by
  intro pins s σ H x y v u Q I rx ry h
  obtain ⟨i, j, rfl, rfl, q⟩ := h
  obtain ⟨t, rfl⟩ := rx
  obtain ⟨t', rfl⟩ := ry
  exact rule i j t t' s _ _ ⟨.bl (g i j), H, I, rfl, q⟩

def CPow (i j : Int) : Prop := 0 ≤ j ∧ j ≤ 1000000 ∧ i.natAbs < 2 ^ 64
def CMul (i j : Int) : Prop := (-(2 ^ 64) < i ∧ i < 2 ^ 64) ∨ (-(2 ^ 64) < j ∧ j < 2 ^ 64)
theorem CMul.ok {i j : Int} (h : CMul i j) : IntMulOk i j := by
  rcases h with ⟨h1, h2⟩ | ⟨h1, h2⟩
  · exact .of_left (intBits_le_64 h1 h2)
  · exact .of_right (intBits_le_64 h1 h2)
theorem op_add : OpR X (binaryOp .Add) (rI0 fun i j => .int (i + j)) := opI0 fun _ _ _ _ _ _ _ q => add_int q
theorem op_sub : OpR X (binaryOp .Sub) (rI0 fun i j => .int (i - j)) := opI0 fun _ _ _ _ _ _ _ q => sub_int q
theorem op_mul : OpR X (binaryOp .Mult) (rI CMul fun i j => .int (i * j)) := opI fun _ _ _ _ _ _ _ hc q => mul_int q hc.ok
theorem op_mod : OpR X (binaryOp .Mod) (rI (fun _ j => 0 < j) fun i j => .int (i % j)) := opI fun i j _ _ _ _ _ hc q => by
  have h1 : (0 : Int) < j := hc
  exact mod_int' (by omega) (by rw [Int.fmod_eq_emod_of_nonneg i (by omega)]; exact q)
theorem op_pow : OpR X (binaryOp .Pow) (rI CPow fun i j => .int (i ^ j.toNat)) := opI fun _ _ _ _ _ _ _ hc q => pow_int_small hc.1 hc.2.1 hc.2.2 q
theorem unI {f : Value → Sem Value} {g : Int → Int}
    (rule : ∀ (i : Int) (t : Tok) (s : Shared) (Q : Value → Shared → Prop) (E : Value → Shared → Prop), Q (.int (g i) s.toks) { s with toks := s.toks + 1 } → wpAny (model X.prog X.w) X.A (f (.int i t)) Q E s) :
    UnR X f (rU fun i => .int (g i)) := by
  intro pins s σ H x v Q I rx h
  obtain ⟨i, rfl, q⟩ := h
  obtain ⟨t, rfl⟩ := rx
  exact rule i t s _ _ ⟨.int (g i), H, I.tok _, ⟨_, rfl⟩, q⟩
theorem un_neg : UnR X (unaryOp .USub) (rU fun i => .int (-i)) := unI fun _ _ _ _ _ q => neg_int q
end

def scal : V → V → Bool
  | .non, .non => true | .non, .int _ => true | .int _, .non => true | .non, .bl _ => true | .bl _, .non => true | .non, .str _ => true | .str _, .non => true
  | .int _, .int _ => true | .bl _, .bl _ => true | .str _, .str _ => true | .byt _, .byt _ => true
  | .int _, .str _ => true | .str _, .int _ => true | .bl _, .str _ => true | .str _, .bl _ => true
  | _, _ => false
def rEq : R2 := fun x y H Q => scal x y = true ∧ Q (.bl (decide (x = y))) H
def rNe : R2 := fun x y H Q => scal x y = true ∧ Q (.bl (!decide (x = y))) H

theorem dec_int {i j : Int} : decide (V.int i = V.int j) = (i == j) := by
  rw [Bool.eq_iff_iff]
  simp
theorem dec_bl {i j : Bool} : decide (V.bl i = V.bl j) = (i == j) := by
  rw [Bool.eq_iff_iff]
  simp
theorem dec_str {i j : Str} : decide (V.str i = V.str j) = (i == j) := by
  rw [Bool.eq_iff_iff]
  simp
theorem dec_byt {i j : Array UInt8} : decide (V.byt i = V.byt j) = (i.toList == j.toList) := by
  rw [Bool.eq_iff_iff]
  cases i
  cases j
  simp

section
variable {X : Cx} {a b c : Expr} {ta tb tc : TE} {pos : Pos}
theorem fin_bl {pins : List (Addr × Obj)} {σ : St} {H : Hp} {s : Shared} {Q : VK} {k k' : Bool} (I : Inv X pins σ H s) (q : Q (.bl k) H) (e : k = k') : EP X pins σ Q (.bool k') s := by
  subst e
  exact ⟨.bl k, H, I, rfl, q⟩
theorem op_eq : OpR X (compareOp .Eq) rEq := by
  intro pins s σ H x y v u Q I rx ry h
  obtain ⟨hs, q⟩ := h
  cases x with
  | non =>
    cases rx
    cases y with
    | non => cases ry; exact PySem.EqNone.eq_none_none (fin_bl I q (by simp))
    | bl j => cases ry; exact PySem.EqNone.eq_none_bool (fin_bl I q (by simp))
    | int j => obtain ⟨t', rfl⟩ := ry; exact PySem.EqNone.eq_none_int (fin_bl I q (by simp))
    | str j => obtain ⟨t', rfl⟩ := ry; exact PySem.EqNone.eq_none_str (fin_bl I q (by simp))
    | _ => exact absurd (show false = true from hs) Bool.false_ne_true
  | bl i =>
    cases rx
    cases y with
    | non => cases ry; exact PySem.EqNone.eq_bool_none (fin_bl I q (by simp))
    | bl j => cases ry; exact eq_bool (fin_bl I q dec_bl)
    | str j => obtain ⟨t', rfl⟩ := ry; exact PySem.EqMixed.eq_bool_str (fin_bl I q (by simp))
    | _ => exact absurd (show false = true from hs) Bool.false_ne_true
  | int i =>
    obtain ⟨t, rfl⟩ := rx
    cases y with
    | non => cases ry; exact PySem.EqNone.eq_int_none (fin_bl I q (by simp))
    | int j => obtain ⟨t', rfl⟩ := ry; exact eq_int (fin_bl I q dec_int)
    | str j => obtain ⟨t', rfl⟩ := ry; exact PySem.EqMixed.eq_int_str (fin_bl I q (by simp))
    | _ => exact absurd (show false = true from hs) Bool.false_ne_true
  | str i =>
    obtain ⟨t, rfl⟩ := rx
    cases y with
    | non => cases ry; exact PySem.EqNone.eq_str_none (fin_bl I q (by simp))
    | bl j => cases ry; exact PySem.EqMixed.eq_str_bool (fin_bl I q (by simp))
    | int j => obtain ⟨t', rfl⟩ := ry; exact PySem.EqMixed.eq_str_int (fin_bl I q (by simp))
    | str j => obtain ⟨t', rfl⟩ := ry; exact eq_str (fin_bl I q dec_str)
    | _ => exact absurd (show false = true from hs) Bool.false_ne_true
  | byt i =>
    obtain ⟨t, rfl⟩ := rx
    cases y with
    | byt j => obtain ⟨t', rfl⟩ := ry; exact PySem.W.eq_bytes (fin_bl I q dec_byt)
    | _ => exact absurd (show false = true from hs) Bool.false_ne_true
  | _ => cases y <;> exact absurd (show false = true from hs) Bool.false_ne_true
theorem op_ne : OpR X (compareOp .NotEq) rNe := by
  intro pins s σ H x y v u Q I rx ry h
  obtain ⟨hs, q⟩ := h
  cases x with
  | non =>
    cases rx
    cases y with
    | non => cases ry; exact PySem.EqNone.ne_none_none (fin_bl I q (by simp))
    | bl j => cases ry; exact PySem.EqNone.ne_none_bool (fin_bl I q (by simp))
    | int j => obtain ⟨t', rfl⟩ := ry; exact PySem.EqNone.ne_none_int (fin_bl I q (by simp))
    | str j => obtain ⟨t', rfl⟩ := ry; exact PySem.EqNone.ne_none_str (fin_bl I q (by simp))
    | _ => exact absurd (show false = true from hs) Bool.false_ne_true
  | bl i =>
    cases rx
    cases y with
    | non => cases ry; exact PySem.EqNone.ne_bool_none (fin_bl I q (by simp))
    | bl j => cases ry; exact ne_bool (fin_bl I q (congrArg not dec_bl))
    | str j => obtain ⟨t', rfl⟩ := ry; exact PySem.EqMixed.ne_bool_str (fin_bl I q (by simp))
    | _ => exact absurd (show false = true from hs) Bool.false_ne_true
  | int i =>
    obtain ⟨t, rfl⟩ := rx
    cases y with
    | non => cases ry; exact PySem.EqNone.ne_int_none (fin_bl I q (by simp))
    | int j => obtain ⟨t', rfl⟩ := ry; exact ne_int (fin_bl I q (congrArg not dec_int))
    | str j => obtain ⟨t', rfl⟩ := ry; exact PySem.EqMixed.ne_int_str (fin_bl I q (by simp))
    | _ => exact absurd (show false = true from hs) Bool.false_ne_true
  | str i =>
    obtain ⟨t, rfl⟩ := rx
    cases y with
    | non => cases ry; exact PySem.EqNone.ne_str_none (fin_bl I q (by simp))
    | bl j => cases ry; exact PySem.EqMixed.ne_str_bool (fin_bl I q (by simp))
    | int j => obtain ⟨t', rfl⟩ := ry; exact PySem.EqMixed.ne_str_int (fin_bl I q (by simp))
    | str j => obtain ⟨t', rfl⟩ := ry; exact ne_str (fin_bl I q (congrArg not dec_str))
    | _ => exact absurd (show false = true from hs) Bool.false_ne_true
  | byt i =>
    obtain ⟨t, rfl⟩ := rx
    cases y with
    | byt j => obtain ⟨t', rfl⟩ := ry; exact PySem.W.ne_bytes (fin_bl I q (congrArg not dec_byt))
    | _ => exact absurd (show false = true from hs) Bool.false_ne_true
  | _ => cases y <;> exact absurd (show false = true from hs) Bool.false_ne_true

theorem op_lt : OpR X (compareOp .Lt) (rI0 fun i j => .bl (decide (i < j))) := opB0 fun _ _ _ _ _ _ _ q => lt_int q
theorem op_le : OpR X (compareOp .LtE) (rI0 fun i j => .bl (decide (i ≤ j))) := opB0 fun _ _ _ _ _ _ _ q => le_int q
theorem op_gt : OpR X (compareOp .Gt) (rI0 fun i j => .bl (decide (j < i))) := opB0 fun _ _ _ _ _ _ _ q => gt_int q
theorem op_ge : OpR X (compareOp .GtE) (rI0 fun i j => .bl (decide (j ≤ i))) := opB0 fun _ _ _ _ _ _ _ q => ge_int q
theorem nomark (b : Expr) {op : CmpOp} (h : op ≠ .In := by decide) (h2 : op ≠ .NotIn := by decide) : behindInMarks op b = false := by
  have e1 : (op == CmpOp.In) = false := by cases op <;> first | rfl | exact absurd rfl h
  have e2 : (op == CmpOp.NotIn) = false := by cases op <;> first | rfl | exact absurd rfl h2
  cases b <;> simp [behindInMarks, e1, e2]
theorem pe_cmpR {op : CmpOp} {r : R2} (ho : OpR X (compareOp op) r) (ha : PE X a ta) (hb : PE X b tb) (hm : behindInMarks op b = false) : PE X (.Compare a [op] [b] pos) (tOp r ta tb) := by
  intro pins s σ H Q I h
  exact wpAny_Compare1 (binT ha hb I h fun v u s2 x y H2 I2 rx ry q => ho pins s2 σ H2 x y v u Q I2 rx ry q) hm
def tTest (t : TE) : TT := fun σ H Q => t σ H fun x H' => ∃ k, x = .bl k ∧ Q k H'
theorem pt_cmpR {op : CmpOp} {r : R2} (ho : OpR X (compareOp op) r) (ha : PE X a ta) (hb : PE X b tb) (hm : behindInMarks op b = false) : PT X (.Compare a [op] [b] pos) (tTest (tOp r ta tb)) := by
  intro pins s σ H Q I h
  refine wpAny_isTrue_Compare1 (thn (ha pins s σ H _ I h) fun v s1 ⟨x, H1, I1, r1, q1⟩ => thn (hb pins s1 σ H1 _ I1 q1) fun u s2 ⟨y, H2, I2, r2, q2⟩ =>
    thn (ho pins s2 σ H2 x y v u _ I2 r1 r2 q2) fun c s3 ⟨z, H3, I3, r3, k, e, q3⟩ => ?_) hm
  subst e
  cases r3
  exact wpAny_truthy_bool ⟨H3, I3, q3⟩
theorem line63 : (sizeLine : Nat) < 2 ^ 63 := by rw [sizeLine_eq]; decide
theorem vals1 {x : V} {us : List Value} (r : Vals [x] us) : ∃ u, us = [u] ∧ RelV x u := by
  cases r with
  | cons r1 r2 => cases r2; exact ⟨_, rfl, r1⟩
theorem vals2 {x y : V} {us : List Value} (r : Vals [x, y] us) : ∃ u w', us = [u, w'] ∧ RelV x u ∧ RelV y w' := by
  cases r with
  | cons r1 r2 =>
    cases r2 with
    | cons r3 r4 => cases r4; exact ⟨_, _, rfl, r1, r3⟩
theorem call_max2 (hc : X.calm = true) : CallR X (.builtin "max") (fun xs H Q => ∃ i j, xs = [.int i, .int j] ∧ Q (.int (if j > i then j else i)) H) := by
  intro pins s σ H xs us Q I r h
  obtain ⟨i, j, rfl, q⟩ := h
  obtain ⟨u, w', rfl, ⟨t, rfl⟩, ⟨t', rfl⟩⟩ := vals2 r
  refine max_two_ints (I.ok.hd hc) fun h' tk k => ⟨_, H, I.kept k, ?_, q⟩
  by_cases hj : j > i
  · rw [if_pos hj, if_pos hj]; exact ⟨_, rfl⟩
  · rw [if_neg hj, if_neg hj]; exact ⟨_, rfl⟩
theorem call_min2 (hc : X.calm = true) : CallR X (.builtin "min") (fun xs H Q => ∃ i j, xs = [.int i, .int j] ∧ Q (.int (if j < i then j else i)) H) := by
  intro pins s σ H xs us Q I r h
  obtain ⟨i, j, rfl, q⟩ := h
  obtain ⟨u, w', rfl, ⟨t, rfl⟩, ⟨t', rfl⟩⟩ := vals2 r
  refine min_two_ints (I.ok.hd hc) fun h' tk k => ⟨_, H, I.kept k, ?_, q⟩
  by_cases hj : j < i
  · rw [if_pos hj, if_pos hj]; exact ⟨_, rfl⟩
  · rw [if_neg hj, if_neg hj]; exact ⟨_, rfl⟩
theorem call_int1 : CallR X (.type "int") (fun xs H Q => (∃ i, xs = [.int i] ∧ Q (.int i) H) ∨ ∃ k, xs = [.bl k] ∧ Q (.int (if k then 1 else 0)) H) := by
  intro pins s σ H xs us Q I r h
  rcases h with ⟨i, rfl, q⟩ | ⟨k, rfl, q⟩
  · obtain ⟨u, rfl, t, rfl⟩ := vals1 r
    exact call_int_int ⟨.int i, H, I, ⟨_, rfl⟩, q⟩
  · obtain ⟨u, rfl, r1⟩ := vals1 r
    cases r1
    exact call_int_bool ⟨.int (if k then 1 else 0), H, I.tok _, ⟨_, rfl⟩, q⟩
end
end L2

namespace L2
open PySem PySem.Spec PyProof.Rows

structure ObjM (h : Heap) (x dx C : Addr) (mA : Str → Option Value) : Prop where
  obj : h.get? x = some (PySem.W.instObj C dx)
  ns : h.Ns1 dx mA
  ne : dx ≠ x

theorem lookIn_ns {h : Heap} {dx : Addr} {mA : Str → Option Value} (n : h.Ns1 dx mA) : ∃ od, h.get? dx = some od ∧ ∀ name, PySem.W.lookIn name od = some (mA name) := by
  obtain ⟨o, es, ep, ho, hd, hk, _, hm⟩ := n
  refine ⟨o, ho, fun name => ?_⟩
  have e := hm name
  unfold nsFind findBy at e
  rw [← Array.find?_toList] at e
  unfold PySem.W.lookIn
  rw [hd]
  dsimp only
  split
  · rename_i y q
    rw [q] at e
    exact congrArg some e
  · rename_i q
    rw [q] at e
    have a : es.toList.any (·.refKey) = false := by
      rw [List.any_eq_false]
      intro y hy
      obtain ⟨z, t, hkey⟩ := hk y (Array.mem_toList_iff.mp hy)
      simp [DictEntry.refKey, hkey]
    have a' : ¬ es.toList.any (·.refKey) = true := by rw [a]; exact Bool.false_ne_true
    rw [if_neg a']
    exact congrArg some e

theorem ObjM.look {h : Heap} {x dx C : Addr} {mA : Str → Option Value} (I : ObjM h x dx C mA) : ∃ od, PySem.W.InstAt h x (PySem.W.instObj C dx) C (some od) ∧ ∀ name, PySem.W.lookIn name od = some (mA name) :=
  let ⟨od, ho, hl⟩ := lookIn_ns I.ns
  ⟨od, ⟨I.obj, rfl, rfl, ho⟩, hl⟩

section
variable {prog : Program} {w : World} {A : Around} {E : Value → Shared → Prop} {s : Shared} {K : PySem.W.Frag} {x dx C f : Addr} {mA : Str → Option Value} {name : Str} {v : Value}

theorem get_map {expr : Bool} {Q : Value → Shared → Prop} (X : K.In s.heap) (I : ObjM s.heap x dx C mA) (hg : PySem.W.plainGet K C name = true) (hh : PySem.W.hasDictIn K C = true)
    (ha : PySem.W.findIn K (.ref C) name = some none) (hv : mA name = some v) (hv' : PySem.W.handedIn v = true) (h : Q v { s with toks := s.toks + 1 }) :
    wpAny (model prog w) A (getAttr (.ref x) name expr) Q E s := by
  obtain ⟨od, J, hl⟩ := I.look
  exact PySem.W.get_value X J (PySem.W.plainGet_of hg).1 (PySem.W.findObj_own hh ha rfl (by rw [hl, hv])) hv' h

theorem get_meth {pl : Sem Bool} {Q : Value × List Value → Shared → Prop} (X : K.In s.heap) (I : ObjM s.heap x dx C mA) (hg : PySem.W.plainGet K C name = true)
    (hf : PySem.W.findIn K (.ref C) name = some (some (.ref f))) (ht : PySem.W.isFn K (.ref f) = true) (hv : mA name = none) (h : Q (.ref f, [.ref x]) s) :
    wpAny (model prog w) A (getMethod (.ref x) name pl) Q E s := by
  obtain ⟨od, J, hl⟩ := I.look
  exact PySem.W.method_fn X J (PySem.W.plainGet_of hg).1 (PySem.W.plainGet_of hg).2 hf (beq_iff_eq.mp ht) (by show (PySem.W.lookIn name od).map (·.isSome) = some false; rw [hl, hv]; rfl) h

theorem set_map {ns : List Str} {Q : Unit → Shared → Prop} (X : K.In s.heap) (I : ObjM s.heap x dx C mA)
    (hs : PySem.W.findIn K (.ref C) "__setattr__" = some (some (.builtin "object.__setattr__"))) (hp : PySem.W.plainOver K C = true) (ht : PySem.W.takerIn K C name = some none) (hh : PySem.W.hasDictIn K C = true)
    (hw : PySem.Within mA ns) (hsz : ns.length ≤ sizeLine)
    (h : ∀ h', ObjM h' x dx C (fun y => if y = name then some v else mA y) → Heap.SameBut dx s.heap h' → Q () { s with heap := h', toks := s.toks + 2 }) :
    wpAny (model prog w) A (setAttr (.ref x) name v) Q E s := by
  obtain ⟨od, J, hl⟩ := I.look
  refine PySem.W.set_plain X J hs (PySem.W.osa_open (s := { s with toks := s.toks + 1 }) (r := none) X J hp ht fun b => ?_)
  obtain ⟨cd, hc, hd'⟩ := PySem.W.any_some hh
  have hx : s.heap.get? x = some ⟨.ref C, some dx, .plain, #[]⟩ := I.obj
  refine wpAny_bind (wpAny_pure (wpAny_bind (wpAny_bind (wpAny_loadPart hx (wpAny_bind (PySem.W.Looks.here (s := { s with toks := s.toks + 1 }) (PySem.W.looks_clsIn X hc) ?_))))))
  rw [hd']
  refine wpAny_pure (a := some dx) (wpAny_bind (wpAny_pure (wpAny_bind ?_)))
  refine wpAny_nsSet1 (s := { s with toks := s.toks + 1 }) I.ns fun h' hn2 hs2 => ?_
  obtain ⟨oD, esD, epD, hoD, hdD, hcD⟩ := hn2.count (PySem.Within.cons name v hw)
  refine wpAny_bind (wpAny_lookBehind hoD (by rw [hdD]; exact pastItsLine_dict (Nat.le_trans hcD (by rw [List.length_cons]; omega))) ?_)
  exact wpAny_pure (h _ ⟨(hs2.2 _ (Ne.symm I.ne)).trans I.obj, hn2, I.ne⟩ hs2)

theorem make_map {R : Result → Shared → Prop} {vs : List Value} {kw : List (Str × Value)} (X : K.In s.heap) (hm : PySem.W.makesIn K C = true)
    (hi : PySem.W.findIn K (.ref C) "__init__" = some (some (.ref f))) (hf : PySem.W.typeIn K (.ref f) = some (.type "function"))
    (h : codeAny (model prog w) (A.under (.builtin "type.__call__" ⟨.ref C :: vs, kw⟩)) (.call (.ref f) ⟨.ref (s.heap.objs.size + 1) :: vs, kw⟩) (PySem.W.InitBack (s.heap.objs.size + 1) R)
      { s with heap := (s.heap.push PySem.W.emptyDict).push (PySem.W.instObj C s.heap.objs.size) }) :
    codeAny (model prog w) A (.call (.ref C) ⟨vs, kw⟩) R s := by
  obtain ⟨hh, g, d, t, os⟩ := s
  exact PySem.W.make_core (PySem.W.makes_of X hm) (PySem.W.looks_findIn X hi) (fun self => PySem.W.bind_fn X self hf) (.inl rfl) h
end

def putF (f : Str) (v : V) : List (Str × V) → List (Str × V)
  | [] => [(f, v)]
  | (g, x) :: r => if g = f then (g, v) :: r else (g, x) :: putF f v r
theorem lookup_putF (f g : Str) (v : V) : ∀ fs : List (Str × V), (putF f v fs).lookup g = if g = f then some v else fs.lookup g
  | [] => by
    show List.lookup g [(f, v)] = _
    by_cases h : g = f
    · have hb : (g == f) = true := beq_iff_eq.mpr h
      simp only [List.lookup, hb, if_pos h]
    · have hb : (g == f) = false := beq_eq_false_iff_ne.mpr h
      simp only [List.lookup, hb, if_neg h]
  | (k, x) :: r => by
    have ih := lookup_putF f g v r
    rw [show putF f v ((k, x) :: r) = (if k = f then (k, v) :: r else (k, x) :: putF f v r) from rfl]
    by_cases hk : k = f
    · rw [if_pos hk]
      by_cases h : g = k
      · have hb : (g == k) = true := beq_iff_eq.mpr h
        simp only [List.lookup, hb, if_pos (h.trans hk)]
      · have hb : (g == k) = false := beq_eq_false_iff_ne.mpr h
        simp only [List.lookup, hb, if_neg (fun e : g = f => h (e.trans hk.symm))]
    · rw [if_neg hk]
      by_cases h : g = k
      · have hb : (g == k) = true := beq_iff_eq.mpr h
        simp only [List.lookup, hb, if_neg (fun e : g = f => hk (h.symm.trans e))]
      · have hb : (g == k) = false := beq_eq_false_iff_ne.mpr h
        simp only [List.lookup, hb]
        exact ih
theorem keys_putF (f : Str) (v : V) : ∀ fs : List (Str × V), f ∈ (putF f v fs).map (·.1) ∧ ∀ g, g ∈ fs.map (·.1) → g ∈ (putF f v fs).map (·.1)
  | [] => ⟨by simp [putF], fun g h => by simp at h⟩
  | (k, x) :: r => by
    obtain ⟨i1, i2⟩ := keys_putF f v r
    rw [show putF f v ((k, x) :: r) = (if k = f then (k, v) :: r else (k, x) :: putF f v r) from rfl]
    by_cases hk : k = f
    · rw [if_pos hk]
      subst hk
      exact ⟨by simp, fun g h => by simpa using h⟩
    · rw [if_neg hk]
      refine ⟨?_, fun g h => ?_⟩
      · rw [List.map_cons]
        exact List.mem_cons_of_mem _ i1
      · rw [List.map_cons] at h ⊢
        rcases List.mem_cons.mp h with e | e
        · exact List.mem_cons.mpr (.inl e)
        · exact List.mem_cons_of_mem _ (i2 g e)
theorem length_putF (f : Str) (v : V) : ∀ fs : List (Str × V), (putF f v fs).length ≤ fs.length + 1
  | [] => by simp [putF]
  | (k, x) :: r => by
    have ih := length_putF f v r
    rw [show putF f v ((k, x) :: r) = (if k = f then (k, v) :: r else (k, x) :: putF f v r) from rfl]
    by_cases hk : k = f
    · rw [if_pos hk, List.length_cons, List.length_cons]; omega
    · rw [if_neg hk, List.length_cons, List.length_cons]; omega

theorem RelO.some_of {v : V} {o : Option Value} (r : RelO (some v) o) : ∃ u, o = some u ∧ RelV v u := by
  cases o with
  | none => exact (show False from r).elim
  | some u => exact ⟨u, rfl, r⟩
theorem RelO.none_of {o : Option Value} (r : RelO none o) : o = none := by
  cases o with
  | none => rfl
  | some u => exact (show False from r).elim
theorem handed_of {v : V} {u : Value} (r : RelV v u) : PySem.W.handedIn u = true := by
  cases v with
  | non => cases (show u = Value.none from r); rfl
  | bl b => cases (show u = Value.bool b from r); rfl
  | int i => obtain ⟨t, e⟩ := (show ∃ t, u = Value.int i t from r); cases e; rfl
  | str x => obtain ⟨t, e⟩ := (show ∃ t, u = Value.str x t from r); cases e; rfl
  | byt b => obtain ⟨t, e⟩ := (show ∃ t, u = Value.bytes b t from r); cases e; rfl
  | flt b => obtain ⟨t, e⟩ := (show ∃ t, u = Value.float b t from r); cases e; rfl
  | ref a => cases (show u = Value.ref a from r); rfl
  | ty n => cases (show u = Value.type n from r); rfl

section
variable {P : Program} {w : World} {H H' : Hp} {h h' : Heap} {a C dx : Addr} {fs fs' : List (Str × V)}
theorem ins_get (hok : HOk P w H h) (e : H a = some (.ins C dx fs)) : ∃ mA, ObjM h a dx C mA ∧ (∀ f, RelO (fs.lookup f) (mA f)) ∧ PySem.Within mA (fs.map (·.1)) ∧ fs.length ≤ 1000 ∧ H dx = some (.own a) := by
  obtain ⟨d, z, ne, ob, mA, n, r, q⟩ := (show ObjOk P w H h a (.ins C dx fs) from hok a _ e)
  exact ⟨mA, ⟨ob, n, ne⟩, r, q, z, d⟩
end

structure Cls (K : PySem.W.Frag) (C : Addr) : Prop where
  pg : PySem.W.plainGet K C Str.empty = true
  hd : PySem.W.hasDictIn K C = true
  po : PySem.W.plainOver K C = true
  sa : PySem.W.findIn K (.ref C) "__setattr__" = some (some (.builtin "object.__setattr__"))
theorem Cls.get {K : PySem.W.Frag} {C : Addr} (c : Cls K C) (f : Str) : PySem.W.plainGet K C f = true := c.pg
def NoAttr (K : PySem.W.Frag) (C : Addr) (f : Str) : Prop := PySem.W.findIn K (.ref C) f = some none
theorem NoAttr.taker {K : PySem.W.Frag} {C : Addr} {f : Str} (n : NoAttr K C f) : PySem.W.takerIn K C f = some none := by
  unfold PySem.W.takerIn
  rw [show PySem.W.findIn K (.ref C) f = some none from n]
  rfl
structure Con (K : PySem.W.Frag) (C : Addr) (f : Str) (v : V) (u : Value) : Prop where
  at_ : PySem.W.findIn K (.ref C) f = some (some u)
  rel : RelV v u
  get : PySem.W.specialIn K u "__get__" = some none
  cp : PySem.W.copiedNames.contains f = false
structure Meth (K : PySem.W.Frag) (C : Addr) (m : Str) (f : Addr) : Prop where
  at_ : PySem.W.findIn K (.ref C) m = some (some (.ref f))
  fn : PySem.W.isFn K (.ref f) = true
  kp : PySem.W.keepIn K (.ref f) = true

section
variable {X : Cx} {pins : List (Addr × Obj)} {σ : St} {H : Hp} {s : Shared} {a C dx : Addr} {fs : List (Str × V)} {f : Str} {v : V} {A : Around} {E : Value → Shared → Prop}

theorem getattr_ok {b : Bool} {Q : Value → Shared → Prop} (I : Inv X pins σ H s) (e : H a = some (.ins C dx fs)) (c : Cls X.K C) (n : NoAttr X.K C f) (l : fs.lookup f = some v)
    (h : ∀ u s', Inv X pins σ H s' → RelV v u → Q u s') : wpAny (model X.prog X.w) A (getAttr (.ref a) f b) Q E s := by
  obtain ⟨mA, O, r, _, _, _⟩ := ins_get I.hok e
  obtain ⟨u, hu, ru⟩ := RelO.some_of (v := v) (o := mA f) (by rw [← l]; exact r f)
  exact get_map I.kIn O (c.get f) c.hd n hu (handed_of ru) (h u _ (I.tok _) ru)

theorem getmeth_ok {m : Str} {g : Addr} {pl : Sem Bool} {Q : Value × List Value → Shared → Prop} (I : Inv X pins σ H s) (e : H a = some (.ins C dx fs)) (c : Cls X.K C) (k : Meth X.K C m g) (l : fs.lookup m = none)
    (h : Q (.ref g, [.ref a]) s) : wpAny (model X.prog X.w) A (getMethod (.ref a) m pl) Q E s := by
  obtain ⟨mA, O, r, _, _, _⟩ := ins_get I.hok e
  have hn : mA m = none := RelO.none_of (by rw [← l]; exact r m)
  exact get_meth I.kIn O (c.get m) k.at_ k.fn hn h

theorem setattr_ok {y : V} {u : Value} {Q : Unit → Shared → Prop} (I : Inv X pins σ H s) (e : H a = some (.ins C dx fs)) (c : Cls X.K C) (n : NoAttr X.K C f) (hl : fs.length < 1000) (ry : RelV y u)
    (h : ∀ s', Inv X pins σ (upd H a (.ins C dx (putF f y fs))) s' → Q () s') : wpAny (model X.prog X.w) A (setAttr (.ref a) f u) Q E s := by
  obtain ⟨mA, O, r, wi, _, ho⟩ := ins_get I.hok e
  have hz : (fs.map (·.1)).length ≤ sizeLine := by rw [List.length_map, sizeLine_eq]; omega
  refine set_map I.kIn O c.sa c.po n.taker c.hd wi hz fun h' O' sb => h _ ?_
  have hd : ∃ o, h'.get? dx = some o := let ⟨o, _, _, e', _⟩ := O'.ns; ⟨o, e'⟩
  refine I.write (x := a) (e := dx) (by rw [e]; exact True.intro) (.inr ho) (fun b q hb z => (sb.2 b hb).trans z) hd ?_
  refine ⟨by rw [upd_ne O.ne]; exact ho, ?_, O.ne, O'.obj, _, O'.ns, fun g => ?_, fun g hg => ?_⟩
  · have := length_putF f y fs; omega
  · show RelO ((putF f y fs).lookup g) (if g = f then some u else mA g)
    rw [lookup_putF]
    by_cases q : g = f
    · rw [if_pos q, if_pos q]; exact ry
    · rw [if_neg q, if_neg q]; exact r g
  · by_cases q : g = f
    · rw [q]; exact (keys_putF f y fs).1
    · refine (keys_putF f y fs).2 g (wi g fun z => hg ?_)
      show (if g = f then some u else mA g) = none
      rw [if_neg q]; exact z

theorem Inv.made (I : Inv X pins σ H s) : Inv X pins σ (upd (upd H s.heap.objs.size (.own (s.heap.objs.size + 1))) (s.heap.objs.size + 1) (.ins C s.heap.objs.size []))
    { s with heap := (s.heap.push PySem.W.emptyDict).push (PySem.W.instObj C s.heap.objs.size) } := by
  have e1 : (s.heap.push PySem.W.emptyDict).get? s.heap.objs.size = some PySem.W.emptyDict := Heap.get?_push_size s.heap rfl
  have e2 : ((s.heap.push PySem.W.emptyDict).push (PySem.W.instObj C s.heap.objs.size)).get? (s.heap.objs.size + 1) = some (PySem.W.instObj C s.heap.objs.size) := by
    have := Heap.get?_push_size (s.heap.push PySem.W.emptyDict) (o := PySem.W.instObj C s.heap.objs.size) rfl
    rwa [Heap.size_push] at this
  have e3 : (s.heap.push PySem.W.emptyDict).Ns s.heap.objs.size (fun _ => none) := ⟨PySem.W.emptyDict, #[], _, e1, rfl, (fun e he => absurd he (by simp)), fun _ => rfl⟩
  have I1 := I.laid (a := s.heap.objs.size) (o := .own (s.heap.objs.size + 1)) (h' := s.heap.push PySem.W.emptyDict) (t' := s.toks) (fun b u q => Heap.get?_push_of_some _ q) (Nat.le_refl _) ⟨_, e1⟩
  refine I1.laid (a := s.heap.objs.size + 1) (o := .ins C s.heap.objs.size []) (t' := s.toks) (fun b u q => Heap.get?_push_of_some _ q) (Nat.le_of_eq (Heap.size_push _ _)) ?_
  have ne : s.heap.objs.size ≠ s.heap.objs.size + 1 := Nat.ne_of_lt (Nat.lt_succ_self _)
  refine ⟨by rw [upd_ne ne, upd_same], Nat.zero_le _, ne, e2, fun _ => none, (Heap.Ns1.of_empty e3).at fun o q => Heap.get?_push_of_some _ q, fun _ => True.intro, fun y hy => absurd rfl hy⟩

theorem attr_of {prog : Program} {w : World} {env : Env} {e : Expr} {f : Str} {pos : Pos} {s : Shared} {Q : Value → Shared → Prop} (hb : attributeBase e f env (eval e env) = eval e env)
    (h : wpAny (model prog w) A (eval e env) (fun o s₁ => wpAny (model prog w) A (getAttr o f true) Q E s₁) E s) : wpAny (model prog w) A (eval (.Attribute e f pos) env) Q E s :=
  Attribute_any_ h (by rw [arm_eval_Attribute, hb])
end

def tFld (K : PySem.W.Frag) (ta : TE) (f : Str) : TE := fun σ H Q => ta σ H fun x H1 => ∃ a C dx fs v, x = .ref a ∧ H1 a = some (.ins C dx fs) ∧ Cls K C ∧ NoAttr K C f ∧ fs.lookup f = some v ∧ Q v H1
def sFld (K : PySem.W.Frag) (ta tv : TE) (f : Str) : TS := fun D σ H => tv σ H fun y H1 => ta σ H1 fun x H2 => ∃ a C dx fs, x = .ref a ∧ H2 a = some (.ins C dx fs) ∧ Cls K C ∧ NoAttr K C f ∧ fs.length < 1000 ∧
  D.nx σ (upd H2 a (.ins C dx (putF f y fs)))
section
variable {X : Cx} {o e value : Expr} {f : Str} {pos pos' tpos : Pos} {ta tv : TE}
theorem pe_fld (he : PE X e ta) (hb : attributeBase e f X.env (eval e X.env) = eval e X.env) : PE X (.Attribute e f pos) (tFld X.K ta f) := by
  intro pins s σ H Q I h
  refine attr_of hb (thn (he pins s σ H _ I h) fun u s1 ⟨x, H1, I1, rx, a, C, dx, fs, v, ex, ea, c, n, l, q⟩ => ?_)
  subst ex
  obtain rfl : u = Value.ref a := rx
  exact getattr_ok I1 ea c n l fun u' s2 I2 ru => ⟨v, H1, I2, ru, q⟩
theorem ps_fld (ha : PE X o ta) (hv : PE X value tv) (hs : swapsWith value (some (.Attribute o f pos')) pos.line X.env = pure false) : PS X (.Assign [.Attribute o f pos'] value pos) (sFld X.K ta tv f) := by
  intro pins s σ H D I h
  refine plainObj_wpAny_Assign_Attribute (thn (hv pins s σ H _ I h) fun u s1 ⟨y, H1, I1, ry, q⟩ => thn (ha pins s1 σ H1 _ I1 q) fun ov s2 ⟨x, H2, I2, rx, a, C, dx, fs, ex, ea, c, n, l, q2⟩ => ?_) hs
  subst ex
  obtain rfl : ov = Value.ref a := rx
  exact setattr_ok I2 ea c n l ry fun s3 I3 => ⟨σ, _, I3, q2⟩
end

section
variable {X : Cx} {pins : List (Addr × Obj)} {σ : St} {H : Hp} {s : Shared} {A : Around} {E : Value → Shared → Prop} {Q : Value → Shared → Prop} {c : Value} {b : Bool}
inductive TyOf (K : PySem.W.Frag) (H : Hp) : V → Value → Prop where
  | non : TyOf K H .non (.type "NoneType")
  | bl (x : Bool) : TyOf K H (.bl x) (.type "bool")
  | int (i : Int) : TyOf K H (.int i) (.type "int")
  | str (x : Str) : TyOf K H (.str x) (.type "str")
  | flt (x : UInt64) : TyOf K H (.flt x) (.type "float")
  | lst {a : Addr} {xs : List V} (e : H a = some (.lst xs)) : TyOf K H (.ref a) (.type "list")
  | frz {a : Addr} {o : Obj} {xs : List V} (e : H a = some (.frz o (.lst xs))) : TyOf K H (.ref a) (.type "list")
  | tup {a : Addr} {xs : List V} (e : H a = some (.tup xs)) : TyOf K H (.ref a) (.type "tuple")
  | dK {a : Addr} {kvs : List (Key × V)} (e : H a = some (.dK kvs)) : TyOf K H (.ref a) (.type "dict")
  | dT {a : Addr} {kvs : List (List Key × V)} (e : H a = some (.dT kvs)) : TyOf K H (.ref a) (.type "dict")
  | ins {a C dx : Addr} {fs : List (Str × V)} (e : H a = some (.ins C dx fs)) (cl : Cls K C) (ha : PySem.W.findIn K (.ref C) "__class__" = some (some (.builtin "object.__class__")))
      (hn : PySem.W.specialIn K (.builtin "object.__class__") "__get__" = some (some (.builtin "getset_descriptor.__get__"))) (htk : PySem.W.takesIn K (.builtin "object.__class__") = some true)
      (hm : PySem.W.mroIn K C (.type "object") = some true) : TyOf K H (.ref a) (.ref C)
theorem isinst_ok {x : V} {u t : Value} (I : Inv X pins σ H s) (rx : RelV x u) (ty : TyOf X.K H x t) (e : PySem.W.kitOne X.K t c = some b) (h : ∀ tk, Q (.bool b) { s with toks := tk }) :
    wpAny (model X.prog X.w) A (call (.builtin "isinstance") [u, c]) Q E s := by
  cases ty with
  | non => cases (show u = Value.none from rx); exact PySem.W.kia_one PySem.W.kitx_none I.kIn True.intro e (fun z => nomatch z) h
  | bl y => cases (show u = Value.bool y from rx); exact PySem.W.kia_one PySem.W.kitx_bool I.kIn True.intro e (fun z => nomatch z) h
  | int i => obtain ⟨t, q⟩ := (show ∃ t, u = Value.int i t from rx); cases q; exact PySem.W.kia_one PySem.W.kitx_int I.kIn True.intro e (fun z => nomatch z) h
  | str y => obtain ⟨t, q⟩ := (show ∃ t, u = Value.str y t from rx); cases q; exact PySem.W.kia_one PySem.W.kitx_str I.kIn True.intro e (fun z => nomatch z) h
  | flt y => obtain ⟨t, q⟩ := (show ∃ t, u = Value.float y t from rx); cases q; exact PySem.W.kia_one PySem.W.kitx_float I.kIn True.intro e (fun z => nomatch z) h
  | @lst a xs ea =>
    cases (show u = Value.ref a from rx)
    obtain ⟨_, _, n, _, h1⟩ := (show ObjOk X.prog X.w H s.heap a (.lst xs) from I.hok a _ ea)
    exact PySem.W.kia_one PySem.W.kitx_list I.kIn ⟨_, h1, rfl⟩ e (fun z => nomatch z) h
  | @frz a ob xs ea =>
    cases (show u = Value.ref a from rx)
    obtain ⟨_, _, _, n, _, h1⟩ := (show ObjOk X.prog X.w H s.heap a (.frz ob (.lst xs)) from I.hok a _ ea)
    exact PySem.W.kia_one PySem.W.kitx_list I.kIn ⟨_, h1, rfl⟩ e (fun z => nomatch z) h
  | @tup a xs ea =>
    cases (show u = Value.ref a from rx)
    obtain ⟨_, _, _, p⟩ := (show ObjOk X.prog X.w H s.heap a (.tup xs) from I.hok a _ ea)
    obtain ⟨o, h1, h2, _⟩ := p
    exact PySem.W.kia_one PySem.W.kitx_tuple I.kIn ⟨o, h1, h2⟩ e (fun z => nomatch z) h
  | @dK a kvs ea =>
    cases (show u = Value.ref a from rx)
    obtain ⟨_, _, vs, _, p⟩ := (show ObjOk X.prog X.w H s.heap a (.dK kvs) from I.hok a _ ea)
    obtain ⟨o, es, ep, h1, h2, _⟩ := p
    exact PySem.W.kia_one PySem.W.kitx_dict I.kIn ⟨o, h1, h2.1⟩ e (fun z => nomatch z) h
  | @dT a kvs ea =>
    cases (show u = Value.ref a from rx)
    obtain ⟨_, _, xs, _, o, es, ep, h1, h2, _⟩ := (show ObjOk X.prog X.w H s.heap a (.dT kvs) from I.hok a _ ea)
    exact PySem.W.kia_one PySem.W.kitx_dict I.kIn ⟨o, h1, h2.1⟩ e (fun z => nomatch z) h
  | @ins a C dx fs ea cl ha hn htk hm =>
    cases (show u = Value.ref a from rx)
    obtain ⟨mA, O, _⟩ := ins_get I.hok ea
    obtain ⟨od, J, _⟩ := O.look
    exact PySem.W.kia_one (PySem.W.kitx_own (cl.get _) cl.hd ha hn htk hm) I.kIn J e (fun z => nomatch z) h
end
end L2

namespace L2
open PySem PySem.Spec PyProof.Rows

structure Room (k : Nat) (A : Around) : Prop where
  hd : A.handled = none
  dp : A.depth + 3 * k + 5 < recursionLimit
  un : A.units + 16 * k + 200 < cLine
theorem Room.mono {j k : Nat} {A : Around} (r : Room k A) (h : j ≤ k) : Room j A := ⟨r.hd, by have := r.dp; omega, by have := r.un; omega⟩
theorem Room.deeper {k : Nat} {A : Around} (r : Room (k + 1) A) (env : Env) : Room k (A.deeper env) :=
  ⟨r.hd, by have := r.dp; show A.depth + 1 + 3 * k + 5 < _; omega, by have := r.un; show A.units + 3 + 16 * k + 200 < _; omega⟩
theorem make_depth {A : Around} {C : Addr} {us : List Value} {kw : List (Str × Value)} : (A.under (.builtin "type.__call__" ⟨.ref C :: us, kw⟩)).depth = A.depth + 1 := by
  first | rfl | simp [Around.under, Code.weight, Code.isCreation, Code.isGuard, Code.isCaller, Code.frames, Code.isFrame, guardIds]
theorem make_units {A : Around} {C : Addr} {us : List Value} {kw : List (Str × Value)} : (A.under (.builtin "type.__call__" ⟨.ref C :: us, kw⟩)).units = A.units + 1 := by
  first | rfl | simp [Around.under, Code.cUnits, Code.frames, Code.isFrame]
theorem Room.make {k : Nat} {A : Around} (r : Room (k + 1) A) (C : Addr) (us : List Value) (kw : List (Str × Value)) : Room k (A.under (.builtin "type.__call__" ⟨.ref C :: us, kw⟩)) :=
  ⟨r.hd, by have := r.dp; rw [make_depth]; omega, by have := r.un; rw [make_units]; omega⟩
theorem Room.depth {k : Nat} {A : Around} (r : Room k A) : A.depth < recursionLimit := by have := r.dp; omega
theorem Room.units {k : Nat} {A : Around} (r : Room k A) : A.units + 64 < cLine := by have := r.un; omega
def tNil : TA := fun _ H Q => Q [] H
def tCons (ta : TE) (tr : TA) : TA := fun σ H Q => ta σ H fun x H1 => tr σ H1 fun xs H2 => Q (x :: xs) H2
section
variable {X : Cx} {e : Expr} {es : List Expr} {te : TE} {t : TA} {pos : Pos}
theorem pa_nil : PA X [] tNil := fun _ _ _ _ H Q I h => Calls.spliced_nil ⟨[], H, I, .nil, h⟩
theorem pa_cons (ha : PE X e te) (hr : PA X es t) (hs : starEach (e :: es) X.env = (false, eval e X.env) :: starEach es X.env := by rfl) : PA X (e :: es) (tCons te t) := by
  intro pos pins s σ H Q I h
  rw [hs]
  show wpAny _ _ (spliced ((false, eval e X.env) :: backTo pos (starEach es X.env))) _ _ s
  refine Calls.spliced_cons (thn (ha pins s σ H _ I h) fun u s1 ⟨x, H1, I1, r1, q1⟩ => ?_)
  exact thn (hr pos pins s1 σ H1 _ I1 q1) fun us s2 ⟨xs, H2, I2, r2, q2⟩ => ⟨x :: xs, H2, I2, .cons r1 r2, q2⟩

def tTup (t : TA) : TE := fun σ H Q => t σ H fun xs H1 => xs.length ≤ sizeLine ∧ ∀ p, H1 p = none → Q (.ref p) (upd H1 p (.tup xs))
def tLst (t : TA) : TE := fun σ H Q => t σ H fun xs H1 => xs.length ≤ sizeLine ∧ ∀ p, H1 p = none → Q (.ref p) (upd H1 p (.lst xs))
theorem pe_tup {x1} (h : PA X es t) : PE X (.Tuple es x1 pos) (tTup t) := by
  intro pins s σ H Q I hq
  refine wpAny_Tuple_spliced (thn (h pos pins s σ H _ I hq) fun us s1 ⟨xs, H1, I1, r, z, q⟩ => ⟨by rw [← r.length]; exact z, ?_⟩)
  have hf : H1 s1.heap.objs.size = none := I1.hok.fresh (Nat.le_refl _)
  refine ⟨.ref s1.heap.objs.size, upd H1 s1.heap.objs.size (.tup xs), I1.laid (t' := s1.toks) (fun b u e => Heap.get?_push_of_some _ e) (Nat.le_refl _) ?_, rfl, q _ hf⟩
  exact ⟨z, us, r, ⟨_, Heap.get?_push_size _ rfl, rfl, _, rfl⟩⟩
theorem pe_lst (h : PA X es t) : PE X (.List es pos) (tLst t) := by
  intro pins s σ H Q I hq
  refine wpAny_List_spliced (thn (h pos pins s σ H _ I hq) fun us s1 ⟨xs, H1, I1, r, z, q⟩ => ⟨by rw [← r.length]; exact z, ?_⟩)
  have hf : H1 s1.heap.objs.size = none := I1.hok.fresh (Nat.le_refl _)
  refine ⟨.ref s1.heap.objs.size, upd H1 s1.heap.objs.size (.lst xs), I1.laid (t' := s1.toks) (fun b u e => Heap.get?_push_of_some _ e) (Nat.le_refl _) ?_, rfl, q _ hf⟩
  exact ⟨z, us, 0, r, Heap.get?_push_size _ rfl⟩
end

abbrev Sp := List V → Hp → VK → XK → Prop
abbrev CXT := List Env → Hp → Shared → XK → Value → Shared → Prop

structure Env0 (P : Program) (w : World) (K : PySem.W.Frag) (mg : Str → Option Value) (base : Heap) (A : Around) (outer : List Env) (s : Shared) (H : Hp) : Prop where
  frames : A.frames = some outer
  mod : Mod K mg base
  bs : ∀ b o, base.get? b = some o → s.heap.get? b = some o ∧ H b = none
  bsz : base.objs.size ≤ s.heap.objs.size
  funs : s.heap.FunFrames base outer
  frf : ∀ b ∈ frs outer, H b = none
  hok : HOk P w H s.heap
  bare : AllBare s.gens
def CE (outer : List Env) (P : Program) (w : World) (H : Hp) (s : Shared) (Q : VK) (u : Value) (s' : Shared) : Prop :=
  ∃ v H', s'.os = s.os ∧ AllBare s'.gens ∧ Un (frs outer) [] H H' s.heap s'.heap ∧ HOk P w H' s'.heap ∧ RelV v u ∧ Q v H'
def CR (CX : CXT) (outer : List Env) (P : Program) (w : World) (H : Hp) (s : Shared) (Q : VK) (E : XK) (r : Result) (s' : Shared) : Prop :=
  match r with
  | .ok (.ret u) => CE outer P w H s Q u s'
  | .ok _ => False
  | .error e => CX outer H s E e s'
structure FnOk (P : Program) (w : World) (K : PySem.W.Frag) (mg : Str → Option Value) (base : Heap) (CX : CXT) (k : Nat) (f : Addr) (fd : FuncData) (ps : List Str) (sp : Sp) : Prop where
  len : ∀ vs H Q E, sp vs H Q E → vs.length = ps.length
  run : ∀ (A : Around) (outer : List Env) (s : Shared) (H : Hp) (args : Args) (us : List Value) (vs : List V) (Q : VK) (E : XK), Room k A → Env0 P w K mg base A outer s H → BindsTo s fd args (ps.zip us) → Vals vs us → sp vs H Q E →
    codeAny (model P w) A (.call (.ref f) args) (CR CX outer P w H s Q E) s
theorem FnOk.imp {P : Program} {w : World} {K : PySem.W.Frag} {mg : Str → Option Value} {base : Heap} {CX : CXT} {k : Nat} {f : Addr} {fd : FuncData} {ps : List Str} {sp sp' : Sp} (F : FnOk P w K mg base CX k f fd ps sp)
    (h : ∀ vs H Q E, sp' vs H Q E → sp vs H Q E) : FnOk P w K mg base CX k f fd ps sp' :=
  ⟨fun vs H Q E q => F.len vs H Q E (h _ _ _ _ q), fun A outer s H args us vs Q E hr he hb hv hs => F.run A outer s H args us vs Q E hr he hb hv (h _ _ _ _ hs)⟩

theorem Env0.make {P : Program} {w : World} {K : PySem.W.Frag} {mg : Str → Option Value} {base : Heap} {A : Around} {outer : List Env} {s : Shared} {H : Hp} (e : Env0 P w K mg base A outer s H) (C : Addr) (us : List Value) (kw : List (Str × Value)) :
    Env0 P w K mg base (A.under (.builtin "type.__call__" ⟨.ref C :: us, kw⟩)) outer s H := ⟨by first | exact e.frames | (simpa [Around.under, Code.envs, Code.isFrame, pushEnvs] using e.frames), e.mod, e.bs, e.bsz, e.funs, e.frf, e.hok, e.bare⟩
section
variable {X : Cx} {pins : List (Addr × Obj)} {σ : St} {H : Hp} {s s' : Shared}
theorem Inv.env0 (I : Inv X pins σ H s) : Env0 X.prog X.w X.K X.mg X.base X.A X.stack s H :=
  ⟨I.ok.frames, I.ok.mod, I.bs, Nat.le_trans I.ok.bsz I.sz, I.stack, I.stkFree, I.hok, I.bare⟩
theorem Inv.after {Q : VK} {u : Value} (I : Inv X pins σ H s) (h : CE X.stack X.prog X.w H s Q u s') : EP X pins σ Q u s' := by
  obtain ⟨v, H', os, bare, un, hok, r, q⟩ := h
  obtain ⟨hh, g, d, t, os'⟩ := s'
  obtain rfl : os' = s.os := os
  exact ⟨v, H', I.call (h' := hh) (g' := g) (d' := d) (t' := t) (ch := []) un hok bare (fun b z => absurd z (by simp)), r, q⟩
end

def tCall (sp : Sp) (dvs : List V) (E : XK) (t : TA) : TE := fun σ H Q => t σ H fun vs H1 => sp (vs ++ dvs) H1 Q E
def tMeth (C : Addr) (m : Str) (sp : Sp) (dvs : List V) (E : XK) (ta : TE) (t : TA) : TE := fun σ H Q => ta σ H fun x H1 => ∃ a dx fs, x = .ref a ∧ H1 a = some (.ins C dx fs) ∧ fs.lookup m = none ∧
  t σ H1 fun vs H2 => sp (x :: (vs ++ dvs)) H2 Q E
def tMake (C : Addr) (sp : Sp) (dvs : List V) (E : XK) (t : TA) : TE := fun σ H Q => t σ H fun vs H1 => ∀ x dx, H1 x = none → H1 dx = none → dx ≠ x →
  sp (.ref x :: (vs ++ dvs)) (upd (upd H1 dx (.own x)) x (.ins C dx [])) (fun v H2 => v = .non ∧ Q (.ref x) H2) E

def Binds (K : PySem.W.Frag) (fd : FuncData) (ps : List Str) (ds : List Value) : Prop :=
  ∀ (s : Shared) (us : List Value), K.In s.heap → (us ++ ds).length = ps.length → BindsTo s fd ⟨us, []⟩ (ps.zip (us ++ ds))
theorem Binds.all {K : PySem.W.Frag} {fd : FuncData} {ps : List Str} (h : ∀ us : List Value, us.length = ps.length → bindArgs fd ⟨us, []⟩ = pure (ps.zip us)) : Binds K fd ps [] := fun s us _ hl => by
  rw [List.append_nil] at hl ⊢
  exact .of_eq (h us hl)

def Passes (CX : CXT) (X : Cx) (E : XK) : Prop := ∀ (pins : List (Addr × Obj)) (σ : St) (H : Hp) (s : Shared) (e : Value) (s' : Shared), Inv X pins σ H s → CX X.stack H s E e s' → X.xe e s'

section
variable {X : Cx} {CX : CXT} {k : Nat} {f C : Addr} {fd : FuncData} {ps : List Str} {sp : Sp} {dvs : List V} {ds : List Value} {E : XK} {x m : Str} {p pos apos : Pos} {e o : Expr} {es : List Expr} {ta : TE} {t : TA}

theorem run_fn {pins : List (Addr × Obj)} {σ : St} {H : Hp} {s : Shared} {Q : VK} {us : List Value} {vs : List V} (F : FnOk X.prog X.w X.K X.mg X.base CX k f fd ps sp) (hr : Room k X.A) (hb : Binds X.K fd ps ds) (hd : Vals dvs ds) (hx : Passes CX X E)
    (I : Inv X pins σ H s) (r : Vals vs us) (h : sp (vs ++ dvs) H Q E) : wpAny (model X.prog X.w) X.A (call (.ref f) us) (EP X pins σ Q) X.xe s := by
  have r2 : Vals (vs ++ dvs) (us ++ ds) := r.append hd
  have hl : (us ++ ds).length = ps.length := by rw [← r2.length]; exact F.len _ _ _ _ h
  refine wpAny_call (codeAny_mono (F.run X.A X.stack s H ⟨us, []⟩ (us ++ ds) (vs ++ dvs) Q E hr I.env0 (hb s us I.kIn hl) r2 h) fun r s' hq => ?_)
  cases r with
  | error e => exact hx pins σ H s e s' I hq
  | ok fl =>
    cases fl with
    | ret u => exact I.after hq
    | next => exact False.elim hq
    | brk => exact False.elim hq
    | cont => exact False.elim hq

theorem pe_call (F : FnOk X.prog X.w X.K X.mg X.base CX k f fd ps sp) (hr : Room k X.A) (hg : Gl X x) (hm : X.mg x = some (.ref f)) (hk : PySem.W.keepIn X.K (.ref f) = true) (hb : Binds X.K fd ps ds) (hd : Vals dvs ds) (hx : Passes CX X E)
    (ha : PA X (e :: es) t) (hdb : (x == ("__debug__" : Str)) = false := by decide) (he : starEach (e :: es) X.env = (false, eval e X.env) :: starEach es X.env := by rfl) (hpl : (backTo pos (starEach es X.env)).any (·.1) = false := by rfl) :
    PE X (.Call (.Name x p) (e :: es) [] pos) (tCall sp dvs E t) := by
  intro pins s σ H Q I h
  refine wpAny_Call_Name_kw (ld_glob I hg hm ?_ hdb)
  refine PySem.W.callWith_K (h₀ := X.base) I.ok.mod.kin hk (thn (ha pos pins s σ H _ I h) fun us s1 ⟨vs, H1, I1, r, q⟩ => ⟨I1.kIn, ?_⟩) he hpl
  exact run_fn F hr hb hd hx I1 r q
theorem pe_meth {pl : Sem Bool} (he : PE X o ta) (c : Cls X.K C) (hm : Meth X.K C m f) (F : FnOk X.prog X.w X.K X.mg X.base CX k f fd ps sp) (hr : Room k X.A) (hb : Binds X.K fd ps ds) (hd : Vals dvs ds) (hx : Passes CX X E) (ha : PA X (e :: es) t)
    (hst : starEach (e :: es) X.env = (false, eval e X.env) :: starEach es X.env := by rfl) (hpl : (backTo pos (starEach es X.env)).any (·.1) = false := by rfl)
    (ht : eval (.Call (.Attribute o m apos) (e :: es) [] pos) X.env = (do
      let ov ← eval o X.env
      standAt apos.atName
      let (f, first) ← holding [ov] (getMethod ov m pl)
      callWith pos f first (backTo pos (starEach (e :: es) X.env)) (backToKw pos (keywordEach [] X.env))) := by rfl) :
    PE X (.Call (.Attribute o m apos) (e :: es) [] pos) (tMeth C m sp dvs E ta t) := by
  intro pins s σ H Q I h
  refine PySem.W.methodCall_KW (pl := pl) (thn (he pins s σ H _ I h) fun u s1 ⟨x, H1, I1, rx, a, dx, fs, ex, ea, l, q⟩ => ?_) ht
  subst ex
  obtain rfl : u = Value.ref a := rx
  refine getmeth_ok I1 ea c hm l ?_
  refine PySem.W.callWith_K (first := [.ref a]) (h₀ := X.base) I.ok.mod.kin hm.kp (thn (ha pos pins s1 σ H1 _ I1 q) fun us s2 ⟨vs, H2, I2, r, q2⟩ => ⟨I2.kIn, ?_⟩) hst hpl
  exact run_fn (us := .ref a :: us) (vs := .ref a :: vs) F hr hb hd hx I2 (.cons rfl r) q2
theorem pe_meth0 {pl : Sem Bool} (he : PE X o ta) (c : Cls X.K C) (hm : Meth X.K C m f) (F : FnOk X.prog X.w X.K X.mg X.base CX k f fd ps sp) (hr : Room k X.A) (hb : Binds X.K fd ps ds) (hd : Vals dvs ds) (hx : Passes CX X E)
    (ht : eval (.Call (.Attribute o m apos) [] [] pos) X.env = (do
      let ov ← eval o X.env
      standAt apos.atName
      let (f, first) ← holding [ov] (getMethod ov m pl)
      callWith pos f first (backTo pos (starEach [] X.env)) (backToKw pos (keywordEach [] X.env))) := by rfl) :
    PE X (.Call (.Attribute o m apos) [] [] pos) (tMeth C m sp dvs E ta tNil) := by
  intro pins s σ H Q I h
  refine PySem.W.methodCall_KW (pl := pl) (thn (he pins s σ H _ I h) fun u s1 ⟨x, H1, I1, rx, a, dx, fs, ex, ea, l, q⟩ => ?_) ht
  subst ex
  obtain rfl : u = Value.ref a := rx
  refine getmeth_ok I1 ea c hm l ?_
  exact PySem.W.callWith_K0 (first := [.ref a]) I1.kIn hm.kp (run_fn (us := [.ref a]) (vs := [.ref a]) F hr hb hd hx I1 (.cons rfl .nil) q)

structure Mk (K : PySem.W.Frag) (C f : Addr) : Prop where
  makes : PySem.W.makesIn K C = true
  init : PySem.W.findIn K (.ref C) "__init__" = some (some (.ref f))
  fn : PySem.W.isFn K (.ref f) = true
  kp : PySem.W.keepIn K (.ref C) = true

theorem run_make {pins : List (Addr × Obj)} {σ : St} {H : Hp} {s : Shared} {Q : VK} {us : List Value} {vs : List V} (M : Mk X.K C f) (F : FnOk X.prog X.w X.K X.mg X.base CX k f fd ps sp) (hr : Room (k + 1) X.A) (hb : Binds X.K fd ps ds) (hd : Vals dvs ds)
    (hx : Passes CX X E) (I : Inv X pins σ H s) (r : Vals vs us)
    (h : ∀ x dx, H x = none → H dx = none → dx ≠ x → sp (.ref x :: (vs ++ dvs)) (upd (upd H dx (.own x)) x (.ins C dx [])) (fun v H2 => v = .non ∧ Q (.ref x) H2) E) :
    wpAny (model X.prog X.w) X.A (call (.ref C) us) (EP X pins σ Q) X.xe s := by
  have hq := h (s.heap.objs.size + 1) s.heap.objs.size (I.hok.fresh (Nat.le_succ _)) (I.hok.fresh (Nat.le_refl _)) (Nat.ne_of_lt (Nat.lt_succ_self _))
  have I2 := Inv.made (C := C) I
  have r2 : Vals (V.ref (s.heap.objs.size + 1) :: (vs ++ dvs)) (Value.ref (s.heap.objs.size + 1) :: (us ++ ds)) := .cons rfl (r.append hd)
  have hl : (Value.ref (s.heap.objs.size + 1) :: us ++ ds).length = ps.length := by
    have e := r2.length
    rw [F.len _ _ _ _ hq] at e
    exact e.symm
  refine wpAny_call (make_map (f := f) I.kIn M.makes M.init (beq_iff_eq.mp M.fn) (codeAny_mono (F.run _ X.stack _ _ ⟨Value.ref (s.heap.objs.size + 1) :: us, []⟩ (Value.ref (s.heap.objs.size + 1) :: (us ++ ds)) _ _ E (hr.make C us [])
    (I2.env0.make C us []) (hb _ (Value.ref (s.heap.objs.size + 1) :: us) I2.kIn hl) r2 hq) fun r s' hq' => ?_))
  cases r with
  | error e => exact hx pins σ _ _ e s' I2 hq'
  | ok fl =>
    cases fl with
    | ret u =>
      obtain ⟨v, H', I3, rv, ev, q3⟩ := I2.after hq'
      subst ev
      exact ⟨rv, ⟨V.ref (s.heap.objs.size + 1), H', I3, rfl, q3⟩⟩
    | next => exact False.elim hq'
    | brk => exact False.elim hq'
    | cont => exact False.elim hq'
theorem pe_make (M : Mk X.K C f) (F : FnOk X.prog X.w X.K X.mg X.base CX k f fd ps sp) (hr : Room (k + 1) X.A) (hg : Gl X x) (hm : X.mg x = some (.ref C)) (hb : Binds X.K fd ps ds) (hd : Vals dvs ds) (hx : Passes CX X E)
    (ha : PA X (e :: es) t) (hdb : (x == ("__debug__" : Str)) = false := by decide) (he : starEach (e :: es) X.env = (false, eval e X.env) :: starEach es X.env := by rfl) (hpl : (backTo pos (starEach es X.env)).any (·.1) = false := by rfl) :
    PE X (.Call (.Name x p) (e :: es) [] pos) (tMake C sp dvs E t) := by
  intro pins s σ H Q I h
  refine wpAny_Call_Name_kw (ld_glob I hg hm ?_ hdb)
  refine PySem.W.callWith_K (h₀ := X.base) I.ok.mod.kin M.kp (thn (ha pos pins s σ H _ I h) fun us s1 ⟨vs, H1, I1, r, q⟩ => ⟨I1.kIn, ?_⟩) he hpl
  exact run_make M F hr hb hd hx I1 r q
theorem pe_make0 (M : Mk X.K C f) (F : FnOk X.prog X.w X.K X.mg X.base CX k f fd ps sp) (hr : Room (k + 1) X.A) (hg : Gl X x) (hm : X.mg x = some (.ref C)) (hb : Binds X.K fd ps ds) (hd : Vals dvs ds) (hx : Passes CX X E)
    (hdb : (x == ("__debug__" : Str)) = false := by decide) : PE X (.Call (.Name x p) [] [] pos) (tMake C sp dvs E tNil) := by
  intro pins s σ H Q I h
  refine wpAny_Call_Name_kw (ld_glob I hg hm ?_ hdb)
  exact PySem.W.callWith_K0 I.kIn M.kp (run_make (us := []) M F hr hb hd hx I .nil h)
end

section
variable {X : Cx} {CX : CXT} {k : Nat} {f C : Addr} {fd : FuncData} {ps ks : List Str} {sp : Sp} {E : XK} {x m : Str} {p pos apos kpos : Pos} {e o : Expr} {es : List Expr} {kws : List Keyword} {te ta : TE} {t tk : TA} {nm : Option Str}
structure KBinds (K : PySem.W.Frag) (fd : FuncData) (ps ks : List Str) (g : List Value → List Value → List Value) (gV : List V → List V → List V) : Prop where
  to : ∀ (s : Shared) (us ws : List Value), K.In s.heap → (g us ws).length = ps.length → BindsTo s fd ⟨us, ks.zip ws⟩ (ps.zip (g us ws))
  rel : ∀ {vs : List V} {us : List Value} {zs : List V} {ws : List Value}, Vals vs us → Vals zs ws → Vals (gV vs zs) (g us ws)
variable {g : List Value → List Value → List Value} {gV : List V → List V → List V}
end

structure FnScope (N P : List Str) (sc : Scope) : Prop where
  kind : sc.kind = .function
  co : sc.isCoroutine = false
  gen : sc.isGenerator = false
  nd : N.Nodup
  pre : N.take P.length = P
  par : ∀ x ∈ P, sc.names.lookup x = some .local ∨ sc.names.lookup x = some .cell
  nofree : ∀ y ∈ sc.names, y.2 ≠ .free

theorem bindL_out {kindOf : Str → Option NameKind} {x : Str} : ∀ {binds : List (Str × Value)} {m : Str → Option Value}, (∀ v, (x, v) ∉ binds) → bindL kindOf binds m x = m x
  | [], _, _ => rfl
  | (n, v) :: r, m, h => by
    unfold bindL
    rw [bindL_out fun w hw => h w (List.mem_cons_of_mem _ hw)]
    split
    · have : x ≠ n := by rintro rfl; exact h v List.mem_cons_self
      simp [this]
    · rfl
theorem bindC_out {kindOf : Str → Option NameKind} {x : Str} : ∀ {binds : List (Str × Value)} {m : Str → Option Value}, (∀ v, (x, v) ∉ binds) → bindC kindOf binds m x = m x
  | [], _, _ => rfl
  | (n, v) :: r, m, h => by
    unfold bindC
    rw [bindC_out fun w hw => h w (List.mem_cons_of_mem _ hw)]
    split
    · rfl
    · have : x ≠ n := by rintro rfl; exact h v List.mem_cons_self
      simp [this]
theorem bindL_get {kindOf : Str → Option NameKind} {x : Str} {v : Value} : ∀ {P : List Str} {vs : List Value} {i : Nat} {m : Str → Option Value}, P.Nodup → P[i]? = some x → vs[i]? = some v → kindOf x = some .local →
    bindL kindOf (P.zip vs) m x = some v
  | [], _, _, _, _, h, _, _ => by simp at h
  | _ :: _, [], _, _, _, _, h, _ => by simp at h
  | p :: P, w :: vs, 0, m, nd, h1, h2, hk => by
    simp at h1 h2; subst h1; subst h2
    show bindL kindOf ((p, w) :: P.zip vs) m p = _
    unfold bindL
    rw [bindL_out fun v hv => (List.nodup_cons.mp nd).1 (List.of_mem_zip hv).1, if_pos hk]
    simp
  | p :: P, w :: vs, i + 1, m, nd, h1, h2, hk => by
    show bindL kindOf ((p, w) :: P.zip vs) m x = _
    unfold bindL
    exact bindL_get (i := i) (List.nodup_cons.mp nd).2 (by simpa using h1) (by simpa using h2) hk
theorem bindC_get {kindOf : Str → Option NameKind} {x : Str} {v : Value} : ∀ {P : List Str} {vs : List Value} {i : Nat} {m : Str → Option Value}, P.Nodup → P[i]? = some x → vs[i]? = some v → kindOf x ≠ some .local →
    bindC kindOf (P.zip vs) m x = some v
  | [], _, _, _, _, h, _, _ => by simp at h
  | _ :: _, [], _, _, _, _, h, _ => by simp at h
  | p :: P, w :: vs, 0, m, nd, h1, h2, hk => by
    simp at h1 h2; subst h1; subst h2
    show bindC kindOf ((p, w) :: P.zip vs) m p = _
    unfold bindC
    rw [bindC_out fun v hv => (List.nodup_cons.mp nd).1 (List.of_mem_zip hv).1, if_neg hk]
    simp
  | p :: P, w :: vs, i + 1, m, nd, h1, h2, hk => by
    show bindC kindOf ((p, w) :: P.zip vs) m x = _
    unfold bindC
    exact bindC_get (i := i) (List.nodup_cons.mp nd).2 (by simpa using h1) (by simpa using h2) hk

def start (N : List Str) (vs : List V) : St := vs.map some ++ List.replicate (N.length - vs.length) none

def cxOf (CX : CXT) (P : Program) (w : World) (K : PySem.W.Frag) (mg : Str → Option Value) (base : Heap) (N : List Str) (qual : Str) (scope : Scope) (f : Addr) (cd : Value) (A : Around) (outer : List Env) (s : Shared) (H : Hp) (E : XK) : Cx where
  prog := P
  w := w
  K := K
  mg := mg
  base := base
  A := A.deeper (envOfC qual scope s.heap.objs.size f cd)
  N := N
  s₀ := s
  H₀ := H
  env := envOfC qual scope s.heap.objs.size f cd
  outer := outer
  stack := envOfC qual scope s.heap.objs.size f cd :: outer
  ex := []
  calm := true
  fn := fun _ => true
  pn := []
  xe := fun e s' => wpAny (model P w) (A.deeper (envOfC qual scope s.heap.objs.size f cd)) (leaving (envOfC qual scope s.heap.objs.size f cd) e) (fun _ s'' => CX outer H s E e s'') (fun e' s'' => CX outer H s E e' s'') s'

theorem cell_has {sc : Scope} {n : Nat} {x : Str} (h : sc.names.lookup x = some .cell) : ∃ c, (cellsFrom n sc.names []).lookup x = some c := by
  have q := PySem.W.cellsFrom_some sc.names n [] (.inl h)
  exact Option.isSome_iff_exists.mp q

theorem inv_start {CX : CXT} {P : Program} {w : World} {K : PySem.W.Frag} {mg : Str → Option Value} {base : Heap} {N ps : List Str} {qual : Str} {scope : Scope} {f : Addr} {cd : Value} {A : Around} {outer : List Env} {s s1 : Shared} {H : Hp} {E : XK} {us : List Value} {vs : List V}
    (S : FnScope N ps scope) (hd : A.handled = none) (e0 : Env0 P w K mg base A outer s H) (hl : vs.length = ps.length) (r : Vals vs us)
    (x : InCallC s s.heap.objs.size (bindL (envOfC qual scope s.heap.objs.size f cd).kindOf (ps.zip us) fun _ => none) (cellsFrom (s.heap.objs.size + 1) scope.names []) (bindC (envOfC qual scope s.heap.objs.size f cd).kindOf (ps.zip us) fun _ => none) s1) :
    Inv (cxOf CX P w K mg base N qual scope f cd A outer s H E) [] (start N vs) H s1 := by
  have hpl : ps.length ≤ N.length := by have := congrArg List.length S.pre; rw [List.length_take] at this; omega
  obtain ⟨h1, tk, rfl, hk⟩ := x.done
  have noA : ∀ b : Addr, b ∉ (cxOf CX P w K mg base N qual scope f cd A outer s H E).ex := fun b z => absurd (show b ∈ ([] : List Addr) from z) (by simp)
  refine ⟨⟨e0.mod, S.kind, rfl, rfl, Nat.le_refl _, fun y z c h1 h2 => ?_, fun y hy => ?_, fun y c _ h => ?_, fun _ => hd, Around.frames_deeper e0.frames, .inr ⟨rfl, rfl⟩, fun b z => absurd z (noA b), e0.bs, e0.bsz, fun b _ _ => noA b, fun b z => absurd z (noA b), e0.funs, e0.frf⟩,
    rfl, e0.bare, Un.kept hk, ⟨_, x.toInCall.ns, fun i y v h1 h2 h3 => ?_⟩, fun y c h => ⟨_, x.cell y c h⟩, e0.hok.fresh (Nat.le_refl _), fun y c h => ?_, fun p hp => absurd (show p ∈ ([] : List (Addr × Obj)) from hp) (by simp), e0.hok.kept hk, ?_⟩
  · exact name_of_addr x.apart (PySem.mem_of_lookup h1) (PySem.mem_of_lookup h2)
  · have hy : scope.names.lookup y = some .cell ∨ scope.names.lookup y = some .free := hy
    rcases hy with hy | hy
    · exact cell_has hy
    · exact absurd rfl (S.nofree _ (PySem.mem_of_lookup hy))
  · exact Nat.le_of_lt (x.above y c (PySem.mem_of_lookup h))
  · have hi : i < vs.length := by
      unfold start at h2
      by_cases hi : i < vs.length
      · exact hi
      · rw [List.getElem?_append_right (by simpa using hi)] at h2
        rw [List.getElem?_replicate] at h2
        split at h2 <;> cases h2
    have ha : vs[i]? = some v := by
      unfold start at h2
      rw [List.getElem?_append_left (by simpa using hi), List.getElem?_map] at h2
      cases e : vs[i]? with
      | none => rw [e] at h2; cases h2
      | some a => rw [e] at h2; cases h2; rfl
    obtain ⟨u, hu, rv⟩ := r.get ha
    have hp : ps[i]? = some y := by
      rw [← S.pre, List.getElem?_take_of_lt (by omega)]; exact h1
    have ndP : ps.Nodup := by rw [← S.pre]; exact S.nd.sublist (List.take_sublist _ _)
    refine ⟨u, rv, ?_⟩
    rcases S.par y (List.mem_of_getElem? hp) with k | k
    · exact .inl ⟨k, bindL_get ndP hp hu k⟩
    · obtain ⟨c, e⟩ := cell_has (n := s.heap.objs.size + 1) k
      refine .inr ⟨.inl k, c, e, ?_⟩
      have q := x.cell y c e
      rw [bindC_get ndP hp hu (by show scope.names.lookup y ≠ _; rw [k]; decide)] at q
      exact q
  · exact e0.hok.fresh (Nat.le_of_lt (x.above y c (PySem.mem_of_lookup h)))
  · unfold start
    show _ = N.length
    rw [List.length_append, List.length_map, List.length_replicate]
    omega

theorem fn_of {CX : CXT} {P : Program} {w : World} {K : PySem.W.Frag} {mg : Str → Option Value} {base : Heap} {k : Nat} {f : Addr} {name qual : Str} {params : Arguments} {body : List Stmt} {scope : Scope} {dV kV doc pm cdv ct oc : Value} {an od : Option Addr}
    {osl : Array (Option Value)} {N ps : List Str} {sp : Sp} (lk : K.lookup f = some ⟨oc, od, .func (PySem.W.fnOf name qual params body scope dV kV doc pm an cdv ct), osl⟩) (hcd : PySem.W.codeIn K cdv qual = true) (S : FnScope N ps scope)
    (len : ∀ vs H Q E, sp vs H Q E → vs.length = ps.length)
    (hbody : ∀ (A : Around) (outer : List Env) (s : Shared) (H : Hp) (vs : List V) (Q : VK) (E : XK), Room k (A.deeper (envOfC qual scope s.heap.objs.size f cdv)) → sp vs H Q E →
      ∃ t, PSs (cxOf CX P w K mg base N qual scope f cdv A outer s H E) body t ∧ t { nx := fun _ H' => Q .non H', rt := Q } (start N vs) H) :
    FnOk P w K mg base CX (k + 1) f (PySem.W.fnOf name qual params body scope dV kV doc pm an cdv ct) ps sp := by
  refine ⟨len, fun A outer s H args us vs Q E hr e0 hb r hsp => ?_⟩
  have hl := len _ _ _ _ hsp
  have KX : K.In s.heap := e0.mod.kin.keeps fun b o e => (e0.bs b o e).1
  have lim : s.heap.NoLimit := e0.mod.nolimit.keeps fun b o e => (e0.bs b o e).1
  have hkind : ∀ y ∈ ps.zip us, scope.names.lookup y.1 = some .local ∨ (scope.names.lookup y.1 = some .cell ∧ ((cellsFrom (s.heap.objs.size + 1) scope.names []).lookup y.1).isSome = true) := fun ⟨n, v⟩ hy => by
    rcases S.par n (List.of_mem_zip hy).1 with q | q
    · exact .inl q
    · exact .inr ⟨q, PySem.W.cellsFrom_some _ _ _ (.inl q)⟩
  refine codeAny_call_function hr.depth (KX _ _ lk) rfl S.co S.gen rfl (PySem.W.codeRec_of KX hcd) (hb _ _ _ _ ?_)
  refine wpAny_newFunctionEnv_cells S.kind hkind fun env he s1 x => ?_
  subst he
  refine ⟨lim.keeps x.toInCall.keep, codeAny_func ?_⟩
  obtain ⟨t, ht, hq⟩ := hbody A outer s H vs Q E (hr.deeper _) hsp
  have I : Inv (cxOf CX P w K mg base N qual scope f cdv A outer s H E) [] (start N vs) H s1 := inv_start S hr.hd e0 hl r x
  refine wpAny_mono (ht [] s1 (start N vs) H _ I hq) (fun fl s' hs => ?_) fun e s' hs => hs
  have fin : ∀ {σ' : St} {H' : Hp} {v : V} {u : Value}, Inv (cxOf CX P w K mg base N qual scope f cdv A outer s H E) [] σ' H' s' → RelV v u → Q v H' → CE outer P w H s Q u s' :=
    fun {σ' H' v u} J rv q => ⟨v, H', J.os, J.bare, J.base, J.hok, rv, q⟩
  cases fl with
  | ret u =>
    obtain ⟨v, σ', H', J, rv, q⟩ := hs
    exact fin J rv q
  | next =>
    obtain ⟨σ', H', J, q⟩ := hs
    exact fin (v := V.non) (u := Value.none) J rfl q
  | brk =>
    obtain ⟨_, _, _, q⟩ := hs
    exact False.elim q
  | cont =>
    obtain ⟨_, _, _, q⟩ := hs
    exact False.elim q
end L2

namespace L2
open PySem PySem.Spec PyProof.Rows
section
variable {X : Cx} {x : Str} {p pos : Pos} {e : Expr} {es : List Expr} {t : TA} {id T : String} {r : List V → Hp → VK → Prop}

def tCB (r : List V → Hp → VK → Prop) (t : TA) : TE := fun σ H Q => t σ H fun vs H1 => r vs H1 Q
theorem pe_callB (hc : CallR X (.builtin id) r) (hg : Gl X x) (hm : X.mg x = none) (hv : bootBuiltins x = some (.builtin id)) (ha : PA X (e :: es) t) (hn : x ≠ "__name__" := by decide) (hdb : (x == ("__debug__" : Str)) = false := by decide)
    (he : starEach (e :: es) X.env = (false, eval e X.env) :: starEach es X.env := by rfl) (hpl : (backTo pos (starEach es X.env)).any (·.1) = false := by rfl) : PE X (.Call (.Name x p) (e :: es) [] pos) (tCB r t) := by
  intro pins s σ H Q I h
  refine wpAny_Call_Name_kw (ld_blt I hg hm hv ?_ hn hdb)
  exact PyProof.Rows.callWith_builtin1 (thn (ha pos pins s σ H _ I h) fun us s1 ⟨vs, H1, I1, r1, q1⟩ => hc pins s1 σ H1 vs us Q I1 r1 q1) he hpl
theorem pe_callTy (hc : CallR X (.type T) r) (hg : Gl X x) (hm : X.mg x = none) (hv : bootBuiltins x = some (.type T)) (ha : PA X (e :: es) t) (hn : x ≠ "__name__" := by decide) (hdb : (x == ("__debug__" : Str)) = false := by decide)
    (he : starEach (e :: es) X.env = (false, eval e X.env) :: starEach es X.env := by rfl) (hpl : (backTo pos (starEach es X.env)).any (·.1) = false := by rfl) : PE X (.Call (.Name x p) (e :: es) [] pos) (tCB r t) := by
  intro pins s σ H Q I h
  refine wpAny_Call_Name_kw (ld_blt I hg hm hv ?_ hn hdb)
  exact PyProof.Rows.callWith_type1 (thn (ha pos pins s σ H _ I h) fun us s1 ⟨vs, H1, I1, r1, q1⟩ => hc pins s1 σ H1 vs us Q I1 r1 q1) he hpl
end
end L2

namespace HT
open PySem PyProof.Rows

def lexLt : List Int → List Int → Bool
  | [], [] => false
  | [], _ :: _ => true
  | _ :: _, [] => false
  | x :: xs, y :: ys => if x = y then lexLt xs ys else decide (x < y)
theorem lexLt_cons (x y : Int) (xs ys : List Int) : lexLt (x :: xs) (y :: ys) = if x = y then lexLt xs ys else decide (x < y) := rfl
theorem lexLt_nil_nil : lexLt [] [] = false := rfl
theorem lexLt_nil_cons (y : Int) (ys : List Int) : lexLt [] (y :: ys) = true := rfl
theorem lexLt_cons_nil (x : Int) (xs : List Int) : lexLt (x :: xs) [] = false := rfl

theorem eqAt_int (A : Around) (s : Shared) (a : Int) (t : Tok) (c : Int) (u : Tok) : ∃ e, SeqAt.EqAt A s (.int a t) (.int c u) e ∧ (e = true ↔ a = c) :=
  ⟨(a == c), SeqAt.EqAt.int_int a t c u, by simp⟩
section
open PySem.SeqAt
open PySem.AutoSeq1 (wpAny_loadPart')
open PySem.MeetsSeq PySem.MeetsSeq2 PySem.MeetsSeq3

end

section
variable {prog : Program} {w : World} {A : Around} {E : Value → Shared → Prop} {s : Shared}

end
end HT

namespace L2
open PySem PySem.Spec PyProof.Rows

abbrev TO := St → Hp → (Option Int → Hp → Prop) → Prop
theorem intsAre_of {ns : List Int} : ∀ {us : List Value}, Vals (ns.map V.int) us → IntsAre us ns := by
  induction ns with
  | nil => intro us r; rw [List.map_nil] at r; cases r; exact .nil
  | cons n ns ih =>
    intro us r
    rw [List.map_cons] at r
    cases r with
    | cons r1 r2 =>
      obtain ⟨t, e⟩ := r1
      subst e
      exact .cons n t (ih r2)

section
variable {X : Cx} {e : Expr} {te : TE} {lo hi : Option Expr} {tl th : TO} {pos p2 : Pos}

end
end L2

namespace L2
open PySem PySem.Spec PyProof.Rows

def ixN (n : Nat) (i : Int) : Option Nat := if 0 ≤ i then (if i < n then some i.toNat else none) else if -(n : Int) ≤ i then some (i + n).toNat else none
def atI {α : Type} (xs : List α) (i : Int) : Option α := (ixN xs.length i).bind fun j => xs[j]?
theorem ixN_seq {n : Nat} {i : Int} {j : Nat} (h : ixN n i = some j) : seqIndex? i n = some j ∧ j < n ∧ -(n : Int) ≤ i ∧ i < n := by
  unfold ixN at h
  by_cases h0 : 0 ≤ i
  · rw [if_pos h0] at h
    by_cases h1 : i < n
    · rw [if_pos h1] at h
      have e : i.toNat = j := Option.some.inj h
      exact ⟨by rw [seqIndex_of h0 h1, e], by omega, by omega, h1⟩
    · rw [if_neg h1] at h; cases h
  · rw [if_neg h0] at h
    by_cases h1 : -(n : Int) ≤ i
    · rw [if_pos h1] at h
      have e : (i + n).toNat = j := Option.some.inj h
      exact ⟨by rw [seqIndex_neg (by omega) h1, e], by omega, h1, by omega⟩
    · rw [if_neg h1] at h; cases h
theorem atI_get {α : Type} {xs : List α} {i : Int} {v : α} (h : atI xs i = some v) : ∃ j, seqIndex? i xs.length = some j ∧ xs[j]? = some v ∧ j < xs.length ∧ -(xs.length : Int) ≤ i ∧ i < xs.length := by
  unfold atI at h
  cases e : ixN xs.length i with
  | none => rw [e] at h; cases h
  | some j =>
    rw [e] at h
    obtain ⟨h1, h2, h3, h4⟩ := ixN_seq e
    exact ⟨j, h1, h, h2, h3, h4⟩
theorem atI_nat {α : Type} {xs : List α} {j : Nat} {v : α} (h : xs[j]? = some v) : atI xs (j : Int) = some v := by
  have hj : j < xs.length := (List.getElem?_eq_some_iff.mp h).1
  have e : ixN xs.length (j : Int) = some j := by
    unfold ixN
    rw [if_pos (by omega), if_pos (by omega)]; simp
  unfold atI; rw [e]; exact h
theorem atI_last {α : Type} (xs : List α) (v : α) : atI (xs ++ [v]) (-1) = some v := by
  have hl : (xs ++ [v]).length = xs.length + 1 := by simp
  have e : ixN (xs ++ [v]).length (-1) = some xs.length := by
    unfold ixN
    rw [hl, if_neg (by decide), if_pos (by omega)]
    congr 1
    omega
  unfold atI
  rw [e]
  show (xs ++ [v])[xs.length]? = some v
  simp

def PlainIx (b : Expr) : Prop := ∀ o i, subscripted b false o i = operate [o, i] (getItem o i)
def IxR (X : Cx) (r : R2) : Prop :=
  ∀ (value slice : Expr) (pins : List (Addr × Obj)) (s : Shared) (σ : St) (H : Hp) (x y : V) (v u : Value) (Q : VK), Inv X pins σ H s → RelV x v → RelV y u → r x y H Q →
    subscripted slice false v u = operate [v, u] (getItem v u) → wpAny (model X.prog X.w) X.A (subscriptTail value slice v u) (EP X pins σ Q) X.xe s
def MtR (X : Cx) (id : String) (r : V → List V → Hp → VK → Prop) : Prop :=
  ∀ (pins : List (Addr × Obj)) (s : Shared) (σ : St) (H : Hp) (x : V) (xs : List V) (v : Value) (us : List Value) (Q : VK), Inv X pins σ H s → RelV x v → Vals xs us → r x xs H Q →
    wpAny (model X.prog X.w) X.A (call (.builtin id) (v :: us)) (EP X pins σ Q) X.xe s
section
variable {X : Cx} {a b : Expr} {ta tb : TE} {pos : Pos}
theorem pe_ix {r : R2} (hr : IxR X r) (ha : PE X a ta) (hb : PE X b tb) (hs : PlainIx b) : PE X (.Subscript a b pos) (tOp r ta tb) := by
  intro pins s σ H Q I h
  exact Subscript_ (binT ha hb I h fun v u s2 x y H2 I2 rx ry q => hr a b pins s2 σ H2 x y v u Q I2 rx ry q (hs _ _))

def rIxL (K : PySem.W.Frag) : R2 := fun x y H Q => ∃ p xs i v, x = .ref p ∧ y = .int i ∧ SqL K H p xs ∧ atI xs i = some v ∧ Q v H
def rIxT (K : PySem.W.Frag) : R2 := fun x y H Q => ∃ p xs i v, x = .ref p ∧ y = .int i ∧ SqT K H p xs ∧ atI xs i = some v ∧ Q v H
def rIxS : R2 := fun x y H Q => ∃ z i c, x = .str z ∧ y = .int i ∧ z.length ≤ sizeLine ∧ atI z.cps.toList i = some c ∧ Q (.str ⟨#[c]⟩) H
theorem ix_list : IxR X (rIxL X.K) := by
  intro value slice pins s σ H x y v u Q I rx ry h hs
  obtain ⟨p, xs, i, z, rfl, rfl, hq, he, q⟩ := h
  cases rx
  obtain ⟨t, rfl⟩ := ry
  obtain ⟨its, r, pl, hz⟩ := I.list hq
  obtain ⟨j, h1, h2, h3, h4, h5⟩ := atI_get he
  obtain ⟨w, ew, rw'⟩ := r.get h2
  have hl := r.length
  have hn := line63
  have fin : EP X pins σ Q w s := ⟨z, H, I, rw', q⟩
  by_cases h0 : 0 ≤ i
  · have hj : i.toNat = j := by
      rw [seqIndex_of h0 h5] at h1
      exact Option.some.inj h1
    exact item_listR pl.isList h0 (by omega) (by rw [hj]; simpa using ew) fin hs
  · have hj : (i + (its.toArray.size : Int)).toNat = j := by
      rw [seqIndex_neg (by omega) h4] at h1
      rw [List.size_toArray, ← hl]
      exact Option.some.inj h1
    exact subscriptTail_builtinR (x := w) pl.isList.typeIs slot_list_getitem.lookup
      (wpAny_getItem_list_neg (Q := fun r s' => r = w ∧ EP X pins σ Q r s') pl.isList (by omega) (by rw [List.size_toArray] <;> omega) (by omega) (by rw [hj]; simpa using ew) ⟨rfl, fin⟩) hs
theorem ix_tup : IxR X (rIxT X.K) := by
  intro value slice pins s σ H x y v u Q I rx ry h hs
  obtain ⟨p, xs, i, z, rfl, rfl, hq, he, q⟩ := h
  cases rx
  obtain ⟨t, rfl⟩ := ry
  obtain ⟨its, r, pl, hz⟩ := I.tuple hq
  obtain ⟨j, h1, h2, h3, h4, h5⟩ := atI_get he
  obtain ⟨w, ew, rw'⟩ := r.get h2
  have hl := r.length
  have hn := line63
  have fin : EP X pins σ Q w s := ⟨z, H, I, rw', q⟩
  exact subscriptTail_builtinR (x := w) pl.typeIs slot_tuple_getitem.lookup
    (getItem_tuple (j := j) (Q := fun r s' => r = w ∧ EP X pins σ Q r s') pl (by omega) (by omega) (by rw [List.size_toArray, ← hl]; exact h1) (by simpa using ew) ⟨rfl, fin⟩) hs
theorem ix_str : IxR X rIxS := by
  intro value slice pins s σ H x y v u Q I rx ry h hs
  obtain ⟨z, i, c, rfl, rfl, hz, he, q⟩ := h
  obtain ⟨t, rfl⟩ := rx
  obtain ⟨t', rfl⟩ := ry
  obtain ⟨j, h1, h2, h3, h4, h5⟩ := atI_get he
  have hl : z.cps.toList.length = z.length := by simp [Str.length]
  rw [hl] at h1 h4 h5
  have hn := line63
  exact tail_any (typeIs_str s z t) slot_str_getitem.lookup (getItem_str (c := c) (by
    have e1 : decide (i < -(2 ^ 63 : Int)) = false := decide_eq_false (by omega)
    have e2 : decide (i ≥ 2 ^ 63) = false := decide_eq_false (by omega)
    rw [e1, e2, Bool.or_false]) (by rw [h1]; simpa using h2) ⟨.str ⟨#[c]⟩, H, I.tok _, ⟨_, rfl⟩, q⟩) hs
theorem mapSeq_set (its : List Value) (n j : Nat) (u : Value) : Obj.mapSeq (·.setIfInBounds j u) { cls := .type "list", data := .seq its.toArray n } = { cls := .type "list", data := .seq (its.set j u).toArray n } := by
  simp [Obj.mapSeq]
theorem Inv.lst {pins : List (Addr × Obj)} {σ : St} {H : Hp} {s : Shared} {p : Addr} {xs : List V} (I : Inv X pins σ H s) (h : H p = some (.lst xs)) :
    ∃ (its : List Value) (n : Nat), Vals xs its ∧ s.heap.get? p = some { cls := .type "list", data := .seq its.toArray n } ∧ xs.length ≤ sizeLine := by
  obtain ⟨z, its, n, r, e⟩ := I.hok p _ h
  exact ⟨its, n, r, e, z⟩
theorem Inv.lstUpd {pins : List (Addr × Obj)} {σ : St} {H : Hp} {s : Shared} {p : Addr} {xs ys : List V} {its its' : List Value} {n n' : Nat} {f : Obj → Obj} (I : Inv X pins σ H s) (h : H p = some (.lst xs))
    (ho : s.heap.get? p = some { cls := .type "list", data := .seq its.toArray n }) (hf : f { cls := .type "list", data := .seq its.toArray n } = { cls := .type "list", data := .seq its'.toArray n' }) (r : Vals ys its') (hz : ys.length ≤ sizeLine) (t : Nat) :
    Inv X pins σ (upd H p (.lst ys)) { s with heap := s.heap.update p f, toks := t } := by
  have e : (s.heap.update p f).get? p = some { cls := .type "list", data := .seq its'.toArray n' } := by
    rw [Heap.get?_update_self f ho (by rw [hf] <;> rfl), hf]
  refine I.write (x := p) (e := p) (by rw [h]; trivial) (.inl rfl) (fun b u hb q => (Heap.get?_update_other _ _ (Ne.symm hb)).trans q) ⟨_, e⟩ ?_
  exact ⟨hz, its', n', r, e⟩
def rSetL : V → V → V → Hp → (Hp → Prop) → Prop := fun o i v H Q => ∃ p xs k j, o = .ref p ∧ i = .int k ∧ H p = some (.lst xs) ∧ ixN xs.length k = some j ∧ Q (upd H p (.lst (xs.set j v)))
theorem set_list : PSet X rSetL := by
  intro pins s σ H o i v ov iv u Q I ro ri rv h
  obtain ⟨p, xs, k, j, rfl, rfl, hp, hj, q⟩ := h
  cases ro
  obtain ⟨t, rfl⟩ := ri
  obtain ⟨its, n, r, ho, hz⟩ := I.lst hp
  obtain ⟨h1, h2, h3, h4⟩ := ixN_seq hj
  have hl := r.length
  have hn := line63
  have I' : Inv X pins σ (upd H p (.lst (xs.set j v))) { s with heap := s.heap.update p (Obj.mapSeq (·.setIfInBounds j u)) } :=
    I.lstUpd hp ho (mapSeq_set its n j u) (r.set rv j) (by rw [List.length_set]; exact hz) s.toks
  by_cases h0 : 0 ≤ k
  · have hk : k.toNat = j := by
      rw [seqIndex_of h0 h4] at h1
      exact Option.some.inj h1
    exact PySem.W.ki_setAt ho h0 (by omega) (by rw [List.size_toArray, ← hl]; exact h4) (by rw [hk]; exact ⟨_, I', q⟩)
  · have hk : (k + (its.toArray.size : Int)).toNat = j := by
      rw [seqIndex_neg (by omega) h3] at h1
      rw [List.size_toArray, ← hl]
      exact Option.some.inj h1
    exact PySem.W.ki_setBack ho (by omega) (by rw [List.size_toArray, ← hl]; exact h3) (by omega) (by rw [hk]; exact ⟨_, I', q⟩)

def flatV : V → Bool
  | .non => true
  | .bl _ => true
  | .int _ => true
  | .str _ => true
  | _ => false
def eqV : V → V → Bool
  | .non, .non => true
  | .bl a, .bl b => a == b
  | .bl a, .int b => (if a then 1 else 0) == b
  | .int a, .bl b => a == (if b then 1 else 0)
  | .int a, .int b => a == b
  | .str a, .str b => a == b
  | _, _ => false
theorem eqAt_V {A : Around} {s : Shared} {y x : V} {u v : Value} (ry : RelV y u) (rx : RelV x v) (fy : flatV y = true) (fx : flatV x = true) : SeqAt.EqAt A s u v (eqV y x) := by
  cases y with
  | non =>
    cases ry
    cases x with
    | non => cases rx; exact SeqAt.EqAt.same _
    | bl b => cases rx; exact SeqAt.EqAt.none_bool b
    | int b => obtain ⟨t, rfl⟩ := rx; exact SeqAt.EqAt.none_int b t
    | str b => obtain ⟨t, rfl⟩ := rx; exact SeqAt.EqAt.none_str b t
    | _ => exact absurd (show false = true from fx) Bool.false_ne_true
  | bl a =>
    cases ry
    cases x with
    | non => cases rx; exact SeqAt.EqAt.bool_none a
    | bl b => cases rx; exact SeqAt.EqAt.bool_bool a b
    | int b => obtain ⟨t, rfl⟩ := rx; exact SeqAt.EqAt.bool_int a b t
    | str b => obtain ⟨t, rfl⟩ := rx; exact SeqAt.EqAt.bool_str a b t
    | _ => exact absurd (show false = true from fx) Bool.false_ne_true
  | int a =>
    obtain ⟨t', rfl⟩ := ry
    cases x with
    | non => cases rx; exact SeqAt.EqAt.int_none a t'
    | bl b => cases rx; exact SeqAt.EqAt.int_bool a t' b
    | int b => obtain ⟨t, rfl⟩ := rx; exact SeqAt.EqAt.int_int a t' b t
    | str b => obtain ⟨t, rfl⟩ := rx; exact SeqAt.EqAt.int_str a t' b t
    | _ => exact absurd (show false = true from fx) Bool.false_ne_true
  | str a =>
    obtain ⟨t', rfl⟩ := ry
    cases x with
    | non => cases rx; exact SeqAt.EqAt.str_none a t'
    | bl b => cases rx; exact SeqAt.EqAt.str_bool a t' b
    | int b => obtain ⟨t, rfl⟩ := rx; exact SeqAt.EqAt.str_int a t' b t
    | str b => obtain ⟨t, rfl⟩ := rx; exact SeqAt.EqAt.str_str a t' b t
    | _ => exact absurd (show false = true from fx) Bool.false_ne_true
  | _ => exact absurd (show false = true from fy) Bool.false_ne_true
def eqU (x : V) (u : Value) : Bool := match u with
  | .none => eqV .non x
  | .bool b => eqV (.bl b) x
  | .int i _ => eqV (.int i) x
  | .str z _ => eqV (.str z) x
  | _ => false
theorem eqU_of {x y : V} {u : Value} (r : RelV y u) (f : flatV y = true) : eqU x u = eqV y x := by
  cases y with
  | non => cases r; rfl
  | bl b => cases r; rfl
  | int i => obtain ⟨t, rfl⟩ := r; rfl
  | str z => obtain ⟨t, rfl⟩ := r; rfl
  | _ => exact absurd (show false = true from f) Bool.false_ne_true
theorem any_eqU {x : V} : ∀ {xs : List V} {us : List Value}, Vals xs us → xs.all flatV = true → us.any (eqU x) = xs.any fun y => eqV y x
  | _, _, .nil, _ => rfl
  | y :: xs, u :: us, .cons r t, f => by
    rw [List.all_cons, Bool.and_eq_true] at f
    rw [List.any_cons, List.any_cons, eqU_of r f.1, any_eqU t f.2]
theorem mem_eqAt {A : Around} {s : Shared} {x : V} {v : Value} (rx : RelV x v) (fx : flatV x = true) : ∀ {xs : List V} {us : List Value}, Vals xs us → xs.all flatV = true → ∀ u ∈ us, SeqAt.EqAt A s u v (eqU x u)
  | _, _, .nil, _ => fun u hu => by cases hu
  | y :: xs, u :: us, .cons r t, f => fun u' hu => by
    rw [List.all_cons, Bool.and_eq_true] at f
    rcases List.mem_cons.mp hu with rfl | hu
    · rw [eqU_of r f.1]; exact eqAt_V r rx f.1 fx
    · exact mem_eqAt rx fx t f.2 u' hu
def inV (x : V) (xs : List V) : Bool := xs.any fun y => eqV y x
def rIn (K : PySem.W.Frag) (neg : Bool) : R2 := fun x y H Q => ∃ p xs, y = .ref p ∧ (SqL K H p xs ∨ SqT K H p xs) ∧ flatV x = true ∧ xs.all flatV = true ∧ Q (.bl (if neg then !inV x xs else inV x xs)) H
theorem op_in_seq : OpR X (compareOp .In) (rIn X.K false) := by
  intro pins s σ H x y v u Q I rx ry h
  obtain ⟨p, xs, rfl, hq, fx, fs, q⟩ := h
  cases ry
  rcases hq with hq | hq
  · obtain ⟨its, r, pl, hz⟩ := I.list hq
    refine SeqAt.in_listAt (eqU x) pl.isList (fun w hw => mem_eqAt rx fx r fs w (by simpa using hw)) ⟨.bl _, H, I, rfl, ?_⟩
    rw [show its.toArray.any (eqU x) = its.any (eqU x) by simp, any_eqU r fs]
    exact q
  · obtain ⟨its, r, pl, hz⟩ := I.tuple hq
    refine SeqAt.in_tupleAt (eqU x) pl (fun w hw => mem_eqAt rx fx r fs w (by simpa using hw)) ⟨.bl _, H, I, rfl, ?_⟩
    rw [show its.toArray.any (eqU x) = its.any (eqU x) by simp, any_eqU r fs]
    exact q
theorem call_len_seq : CallR X (.builtin "len") (fun xs H Q => ∃ p ys, xs = [.ref p] ∧ (SqL X.K H p ys ∨ SqT X.K H p ys) ∧ Q (.int ys.length) H) := by
  intro pins s σ H xs us Q I r h
  obtain ⟨p, ys, rfl, hq, q⟩ := h
  obtain ⟨u, rfl, rx⟩ := vals1 r
  cases rx
  have hn := line63
  rcases hq with hq | hq
  · obtain ⟨its, r', pl, hz⟩ := I.list hq
    have hlen := r'.length
    exact Calls.call_len_list pl.isList (by simp only [List.size_toArray] <;> omega) ⟨.int ys.length, H, I.tok _, ⟨s.toks + 1, by rw [List.size_toArray, hlen]⟩, q⟩
  · obtain ⟨its, r', pl, hz⟩ := I.tuple hq
    have hlen := r'.length
    exact len_tuple pl (by simp only [List.size_toArray] <;> omega) ⟨.int ys.length, H, I.tok _, ⟨s.toks + 1, by rw [List.size_toArray, hlen]⟩, q⟩
theorem call_list_of : CallR X (.type "list") (fun xs H Q => ∃ p ys, xs = [.ref p] ∧ (SqL X.K H p ys ∨ SqT X.K H p ys) ∧ ∀ l, H l = none → Q (.ref l) (upd H l (.lst ys))) := by
  intro pins s σ H xs us Q I r h
  obtain ⟨p, ys, rfl, hq, q⟩ := h
  obtain ⟨u, rfl, rx⟩ := vals1 r
  cases rx
  have fin : ∀ (its : List Value), Vals ys its → ys.length ≤ sizeLine → ∀ (h' : Heap) (c' : Nat), (∀ b o', s.heap.get? b = some o' → h'.get? b = some o') →
      h'.get? s.heap.objs.size = some { cls := .type "list", dict := none, data := .seq its.toArray c', slots := #[] } → EP X pins σ Q (.ref s.heap.objs.size) { s with heap := h' } := fun its r' hz h' c' kp e =>
    ⟨.ref s.heap.objs.size, _, I.laid (t' := s.toks) kp (Nat.le_refl _) (show ObjOk X.prog X.w _ h' _ (.lst ys) from ⟨hz, its, c', r', e⟩), rfl, q _ (I.hok.fresh (Nat.le_refl _))⟩
  rcases hq with hq | hq
  · obtain ⟨its, r', pl, hz⟩ := I.list hq
    have hlen := r'.length
    obtain ⟨o, ho, hc, n, hd⟩ := pl.isList
    exact call_list_seq p (.inl rfl) ho hc hd (fun h' c' kp e => fin its r' hz h' c' kp e) (by simp only [List.size_toArray] <;> omega)
  · obtain ⟨its, r', pl, hz⟩ := I.tuple hq
    have hlen := r'.length
    obtain ⟨o, ho, hc, n, hd⟩ := pl
    exact call_list_seq p (.inr rfl) ho hc hd (fun h' c' kp e => fin its r' hz h' c' kp e) (by simp only [List.size_toArray] <;> omega)
theorem call_tuple_of : CallR X (.type "tuple") (fun xs H Q => ∃ p ys, xs = [.ref p] ∧ ((SqL X.K H p ys ∧ ∀ l, H l = none → Q (.ref l) (upd H l (.tup ys))) ∨ (SqT X.K H p ys ∧ Q (.ref p) H))) := by
  intro pins s σ H xs us Q I r h
  obtain ⟨p, ys, rfl, h⟩ := h
  obtain ⟨u, rfl, rx⟩ := vals1 r
  cases rx
  rcases h with ⟨hq, q⟩ | ⟨hq, q⟩
  · obtain ⟨its, r', pl, hz⟩ := I.list hq
    have hlen := r'.length
    refine call_tuple_list pl.isList (fun h' kp => ?_) (by simp only [List.size_toArray] <;> omega)
    have I1 : Inv X pins σ H { s with heap := h' } := I.kept (t' := s.toks) kp
    have I2 : Inv X pins σ (upd H h'.objs.size (.tup ys)) { s with heap := h'.push { cls := .type "tuple", data := .seq its.toArray } } :=
      I1.laid (t' := s.toks) (fun b o e => Heap.get?_push_of_some _ e) (Nat.le_refl _) (show ObjOk X.prog X.w _ _ _ (.tup ys) from ⟨hz, its, r', IsTup.new _ _⟩)
    exact ⟨.ref h'.objs.size, _, I2, rfl, q _ (I1.hok.fresh (Nat.le_refl _))⟩
  · obtain ⟨its, r', pl, hz⟩ := I.tuple hq
    exact call_tuple_same pl ⟨.ref p, H, I, rfl, q⟩

def tyV (K : PySem.W.Frag) (T : String) (x : V) (H : Hp) : Prop := match x with
  | .str _ => T = "str"
  | .int _ => T = "int"
  | .ref p => (T = "list" ∧ ∃ xs, SqL K H p xs) ∨ (T = "tuple" ∧ ∃ o, K.lookup p = some o ∧ o.cls = .type "tuple" ∧ o.dict = none) ∨
      (T = "dict" ∧ ((∃ kvs, H p = some (.dK kvs)) ∨ ∃ kvs, H p = some (.dT kvs))) ∨ (T = "set" ∧ ∃ S n, H p = some (.set S n))
  | _ => False
theorem tyV_is {pins : List (Addr × Obj)} {σ : St} {H : Hp} {s : Shared} {T : String} {x : V} {v : Value} (I : Inv X pins σ H s) (r : RelV x v) (ty : tyV X.K T x H) :
    s.TypeIs v T ∧ ∀ a, v = .ref a → ∃ ob, s.heap.get? a = some ob ∧ ob.dict = none := by
  cases x with
  | str z =>
    obtain ⟨t, rfl⟩ := r
    cases (show T = "str" from ty)
    exact ⟨typeIs_str s z t, fun _ e => nomatch e⟩
  | int i =>
    obtain ⟨t, rfl⟩ := r
    cases (show T = "int" from ty)
    exact ⟨typeIs_int s i t, fun _ e => nomatch e⟩
  | ref p =>
    cases r
    rcases ty with ⟨rfl, xs, hq⟩ | ⟨rfl, o, hk, hc, hd⟩ | ⟨rfl, hk⟩ | ⟨rfl, S, n, hk⟩
    · obtain ⟨its, _, pl, _⟩ := I.list hq
      refine ⟨pl.isList.typeIs, fun a e => ?_⟩
      cases e
      obtain ⟨o, n, e, c, hd, _⟩ := pl
      exact ⟨o, e, hd⟩
    · refine ⟨⟨o, I.kIn p o hk, hc⟩, fun a e => ?_⟩
      cases e
      exact ⟨o, I.kIn _ o hk, hd⟩
    · have z : ∃ o, s.heap.get? p = some o ∧ o.ExactDict := by
        rcases hk with ⟨kvs, hk⟩ | ⟨kvs, hk⟩
        · obtain ⟨_, _, _, _, o, _, _, e, ex, _⟩ := I.hok p _ hk
          exact ⟨o, e, ex⟩
        · obtain ⟨_, _, _, _, o, _, _, e, ex, _⟩ := I.hok p _ hk
          exact ⟨o, e, ex⟩
      obtain ⟨o, e, ex⟩ := z
      refine ⟨⟨o, e, ex.1⟩, fun a e2 => ?_⟩
      cases e2
      exact ⟨o, e, ex.2.1⟩
    · obtain ⟨o, _, _, _, e, ex, _⟩ := I.hok p _ hk
      refine ⟨⟨o, e, ex.1⟩, fun a e2 => ?_⟩
      cases e2
      exact ⟨o, e, ex.2.1⟩
  | _ => exact False.elim ty
def tBM0 (K : PySem.W.Frag) (T : String) (r : V → List V → Hp → VK → Prop) (to : TE) : TE := fun σ H Q => to σ H fun x H1 => tyV K T x H1 ∧ r x [] H1 Q
def tBM (K : PySem.W.Frag) (T : String) (r : V → List V → Hp → VK → Prop) (to : TE) (t : TA) : TE := fun σ H Q => to σ H fun x H1 => tyV K T x H1 ∧ t σ H1 fun xs H2 => r x xs H2 Q
variable {o e : Expr} {es : List Expr} {to : TE} {t : TA} {name : Str} {apos cpos : Pos} {T id : String} {r : V → List V → Hp → VK → Prop}
theorem pe_bm0 (pa : PlainAttrs T) (slot : Slot T name id) (hty : typeOf (.builtin id) = pure (.type "method_descriptor")) (hm : MtR X id r) (ho : PE X o to)
    (hbase : attributeBase o name X.env (eval o X.env) = eval o X.env := by rfl) (hline : (apos.endLine == cpos.line) = true := by rfl) : PE X (.Call (.Attribute o name apos) [] [] cpos) (tBM0 X.K T r to) := by
  intro pins s σ H Q I h
  refine wpAny_Call_method0_late hbase hline (thn (ho pins s σ H _ I h) fun v s1 ⟨x, H1, I1, r1, ty, q1⟩ => ?_)
  obtain ⟨h1, h2⟩ := tyV_is I1 r1 ty
  exact ⟨T, id, pa, slot, hty, h1, h2, Calls.callWith_builtin rfl (PySem.evalArgs_none (hm pins s1 σ H1 x [] v [] Q I1 r1 .nil q1))⟩
theorem pe_bm (pa : PlainAttrs T) (slot : Slot T name id) (hty : typeOf (.builtin id) = pure (.type "method_descriptor")) (hm : MtR X id r) (ho : PE X o to) (ha : PA X (e :: es) t)
    (hbase : attributeBase o name X.env (eval o X.env) = eval o X.env := by rfl)
    (hfew : ((backTo cpos (starEach (e :: es) X.env)).all (fun x => !x.1) && (backToKw cpos (keywordEach [] X.env)).all (fun x => x.1.isSome)
      && decide ((e :: es).length + ([] : List Keyword).length + (if ([] : List Keyword).isEmpty then 0 else 1) < 30)) = true := by rfl)
    (hline : (apos.endLine == cpos.line) = true := by rfl) (hs : starEach (e :: es) X.env = (false, eval e X.env) :: starEach es X.env := by rfl) (hplain : (backTo cpos (starEach es X.env)).any (·.1) = false := by rfl) :
    PE X (.Call (.Attribute o name apos) (e :: es) [] cpos) (tBM X.K T r to t) := by
  intro pins s σ H Q I h
  refine wpAny_Call_method_late hbase hfew hline rfl (thn (ho pins s σ H _ I h) fun v s1 ⟨x, H1, I1, r1, ty, q1⟩ => ?_)
  obtain ⟨h1, h2⟩ := tyV_is I1 r1 ty
  refine ⟨T, id, pa, slot, hty, h1, h2, ?_⟩
  have hA := ha cpos pins s1 σ H1 _ I1 q1
  rw [hs] at hA ⊢
  refine Calls.callWith_builtin (by show (false || (backTo cpos (starEach es X.env)).any (·.1)) = false; rw [hplain] <;> rfl) (Calls.evalArgs_plain ?_)
  exact thn hA fun us s2 ⟨vs, H2, I2, r2, q2⟩ => hm pins s2 σ H2 x vs v us Q I2 r1 r2 q2
end
end L2

namespace L2
open PySem PySem.Spec PyProof.Rows

def MtM (X : Cx) (id : String) (r : V → List V → Hp → VK → Prop) : Prop :=
  ∀ (pins : List (Addr × Obj)) (s : Shared) (σ : St) (H : Hp) (x : V) (xs : List V) (v : Value) (us : List Value) (Q : VK), Inv X pins σ H s → RelV x v → Vals xs us → r x xs H Q →
    wpAny (model X.prog X.w) X.A (call (.builtin id) (v :: us)) (EP X pins σ Q) X.xe s

theorem Vals.one : ∀ {x : V} {us : List Value}, Vals [x] us → ∃ u, us = [u] ∧ RelV x u
  | _, _, .cons r .nil => ⟨_, rfl, r⟩
theorem Vals.zero : ∀ {us : List Value}, Vals [] us → us = []
  | _, .nil => rfl
theorem Vals.reverse {xs : List V} {us : List Value} (h : Vals xs us) : Vals xs.reverse us.reverse := by
  induction h with
  | nil => exact .nil
  | cons r t ih => rw [List.reverse_cons, List.reverse_cons]; exact Vals.append ih (.cons r .nil)
section
variable {X : Cx} {pins : List (Addr × Obj)} {σ : St} {H : Hp} {s : Shared} {l b : Addr} {xs ys zs : List V}

theorem Inv.lset {its its' : List Value} {n : Nat} {f : Array Value → Array Value} {t' : Nat} (I : Inv X pins σ H s) (hH : H l = some (.lst xs))
    (e : s.heap.get? l = some { cls := .type "list", data := .seq its.toArray n }) (hf : f its.toArray = its'.toArray) (hv : Vals ys its') (hz : ys.length ≤ sizeLine) :
    Inv X pins σ (upd H l (.lst ys)) { s with heap := s.heap.update l (Obj.mapSeq f), toks := t' } := by
  have q := PySem.IsL.update e f
  rw [hf] at q
  refine I.write (x := l) (e := l) (by rw [hH]; exact trivial) (.inl rfl) (fun b' u hb hu => (Heap.get?_update_other s.heap (Obj.mapSeq f) (Ne.symm hb)).trans hu) ⟨_, q⟩ ?_
  exact ⟨hz, its', _, hv, q⟩
theorem Inv.lnew {its : List Value} {t' : Nat} (I : Inv X pins σ H s) (hv : Vals ys its) (hz : ys.length ≤ sizeLine) :
    Inv X pins σ (upd H s.heap.objs.size (.lst ys)) { s with heap := s.heap.push { cls := .type "list", data := .seq its.toArray }, toks := t' } :=
  I.laid (fun _ _ q => Heap.get?_push_of_some _ q) (Nat.le_refl _) ⟨hz, its, 0, hv, Heap.get?_push_size _ rfl⟩
theorem Inv.fresh (I : Inv X pins σ H s) : H s.heap.objs.size = none := I.hok.fresh (Nat.le_refl _)
theorem Inv.lstM (I : Inv X pins σ H s) (hH : H l = some (.lst xs)) : xs.length ≤ sizeLine ∧ ∃ (its : List Value) (n : Nat), Vals xs its ∧ xs.length = its.length ∧ s.heap.get? l = some { cls := .type "list", data := .seq its.toArray n } := by
  obtain ⟨z, its, n, r, e⟩ := I.hok l _ hH
  exact ⟨z, its, n, r, r.length, e⟩

theorem notLongL {n : Nat} (h : n ≤ sizeLine) : Builtin.List.listTooLong n = false := by
  unfold Builtin.List.listTooLong
  exact decide_eq_false (by omega)
end

section
variable {X : Cx}

def rAppend : V → List V → Hp → VK → Prop := fun x vs H Q => ∃ l xs y, x = .ref l ∧ vs = [y] ∧ H l = some (.lst xs) ∧ xs.length < sizeLine ∧ Q .non (upd H l (.lst (xs ++ [y])))
theorem mt_append : MtM X "list.append" rAppend := by
  intro pins s σ H x vs v us Q I rx rv h
  obtain ⟨l, xs, y, rfl, rfl, hH, hz, q⟩ := h
  cases rx
  obtain ⟨u, rfl, ru⟩ := rv.one
  obtain ⟨z, its, n, r, hl, e⟩ := I.lstM hH
  refine call_meets F.slot_list_append ⟨_, e, rfl⟩ F.entry_list_append (F.args_list_append_2 _ _) (PySem.list_append l its.toArray n u (by rw [List.size_toArray]; omega)) ⟨e, ?_⟩
  refine ⟨.non, _, I.lset (its' := its ++ [u]) hH e (by simp) (r.append (.cons ru .nil)) ?_, rfl, q⟩
  rw [List.length_append, List.length_singleton]
  omega

def rExtend : V → List V → Hp → VK → Prop := fun x vs H Q => ∃ l b xs zs, x = .ref l ∧ vs = [.ref b] ∧ H l = some (.lst xs) ∧ H b = some (.lst zs) ∧ xs.length + zs.length ≤ sizeLine ∧ Q .non (upd H l (.lst (xs ++ zs)))
theorem mt_extend : MtM X "list.extend" rExtend := by
  intro pins s σ H x vs v us Q I rx rv h
  obtain ⟨l, b, xs, zs, rfl, rfl, hH, hB, hz, q⟩ := h
  cases rx
  obtain ⟨u, rfl, ru⟩ := rv.one
  cases ru
  obtain ⟨z, its, n, r, hl, e⟩ := I.lstM hH
  obtain ⟨z2, its2, n2, r2, hl2, e2⟩ := I.lstM hB
  have hsz : its.toArray.size + its2.toArray.size ≤ sizeLine := by rw [List.size_toArray, List.size_toArray]; omega
  have hlong : ¬ (!its.toArray.isEmpty && Builtin.List.listTooLong (its.toArray.size + its2.toArray.size)) = true := by
    rw [notLongL hsz, Bool.and_false]
    exact Bool.false_ne_true
  refine call_meets F.slot_list_extend ⟨_, e, rfl⟩ F.entry_list_extend (F.args_list_extend_2 _ _)
    (AutoSeq1.list_extend_list_list_0 l its.toArray n b its2.toArray n2 hlong (by rw [List.size_toArray]; omega) (by omega)) ⟨e, e2, ?_⟩
  refine ⟨.non, _, I.lset (its' := its ++ its2) hH e (by simp) (r.append r2) ?_, rfl, q⟩
  rw [List.length_append]
  omega

def rReverse : V → List V → Hp → VK → Prop := fun x vs H Q => ∃ l xs, x = .ref l ∧ vs = [] ∧ H l = some (.lst xs) ∧ Q .non (upd H l (.lst xs.reverse))
theorem mt_reverse : MtM X "list.reverse" rReverse := by
  intro pins s σ H x vs v us Q I rx rv h
  obtain ⟨l, xs, rfl, rfl, hH, q⟩ := h
  cases rx
  have hus := rv.zero
  subst hus
  obtain ⟨z, its, n, r, hl, e⟩ := I.lstM hH
  refine call_meets F.slot_list_reverse ⟨_, e, rfl⟩ F.entry_list_reverse (F.args_list_reverse_1 _) (AutoSeq1.list_reverse_list_0 l its.toArray n (by rw [List.size_toArray]; omega)) ⟨e, ?_⟩
  refine ⟨.non, _, I.lset (its' := its.reverse) hH e (by simp) r.reverse ?_, rfl, q⟩
  rw [List.length_reverse]
  omega

def rCat : R2 := fun x y H Q => ∃ l b xs zs, x = .ref l ∧ y = .ref b ∧ H l = some (.lst xs) ∧ H b = some (.lst zs) ∧ xs.length + zs.length ≤ sizeLine ∧ ∀ p, H p = none → Q (.ref p) (upd H p (.lst (xs ++ zs)))
theorem op_cat : OpR X (binaryOp .Add) rCat := by
  intro pins s σ H x y v u Q I rx ry h
  obtain ⟨l, b, xs, zs, rfl, rfl, hH, hB, hz, q⟩ := h
  cases rx
  cases ry
  obtain ⟨z, its, n, r, hl, e⟩ := I.lstM hH
  obtain ⟨z2, its2, n2, r2, hl2, e2⟩ := I.lstM hB
  refine PySem.P.add_list e e2 ?_ (by rw [List.size_toArray, List.size_toArray]; omega)
  have ea : its.toArray ++ its2.toArray = (its ++ its2).toArray := by simp
  rw [ea]
  exact ⟨.ref _, _, I.lnew (t' := s.toks) (r.append r2) (by rw [List.length_append]; omega), rfl, q _ I.fresh⟩
end

section
variable {prog : Program} {w : World} {A : Around} {E : Value → Shared → Prop} {s : Shared}
end

section
variable {X : Cx}
end
end L2

namespace L2
open PySem PySem.Spec PyProof.Rows

section
variable {κ : Type} [DecidableEq κ]
def valV (kvs : List (κ × V)) (k : κ) : Option V := (kvs.find? fun kv => decide (kv.1 = k)).map (·.2)
def putK (kvs : List (κ × V)) (k : κ) (v : V) : List (κ × V) :=
  if (kvs.any fun kv => decide (kv.1 = k)) = true then kvs.map (fun kv => if kv.1 = k then (kv.1, v) else kv) else kvs ++ [(k, v)]
theorem valV_pos {p : κ × V} {r : List (κ × V)} {k : κ} (e : p.1 = k) : valV (p :: r) k = some p.2 := by simp [valV, List.find?_cons, e]
theorem valV_neg {p : κ × V} {r : List (κ × V)} {k : κ} (e : ¬ p.1 = k) : valV (p :: r) k = valV r k := by simp [valV, List.find?_cons, e]
theorem valV_any (k : κ) : ∀ kvs : List (κ × V), (kvs.any fun kv => decide (kv.1 = k)) = (valV kvs k).isSome
  | [] => rfl
  | p :: r => by
    rw [List.any_cons]
    by_cases e : p.1 = k
    · simp only [valV_pos e, decide_eq_true e, Bool.true_or, Option.isSome_some]
    · rw [valV_neg e, decide_eq_false e, Bool.false_or]; exact valV_any k r
theorem RelO.isSome_eq {o : Option V} {u : Option Value} (r : RelO o u) : o.isSome = u.isSome := by
  cases o with
  | none => cases u with
    | none => rfl
    | some _ => exact (show False from r).elim
  | some _ => cases u with
    | none => exact (show False from r).elim
    | some _ => rfl
theorem KV.any {kvs : List (κ × V)} {vs : List (κ × Value)} (r : KV kvs vs) (k : κ) : (kvs.any fun kv => decide (kv.1 = k)) = vs.any fun kv => decide (kv.1 = k) := by
  unfold KV at r
  induction r with
  | nil => rfl
  | cons h t ih => rw [List.any_cons, List.any_cons, ih, h.1]
theorem KV.repl {kvs : List (κ × V)} {vs : List (κ × Value)} (r : KV kvs vs) (k : κ) {y : V} {u : Value} (ry : RelV y u) :
    KV (kvs.map fun kv => if kv.1 = k then (kv.1, y) else kv) (vs.map fun kv => if kv.1 = k then (kv.1, u) else kv) := by
  unfold KV at r ⊢
  induction r with
  | nil => exact .nil
  | @cons p q ps qs h t ih =>
    rw [List.map_cons, List.map_cons]
    refine .cons ?_ ih
    obtain ⟨h1, h2⟩ := h
    by_cases e : p.1 = k
    · rw [if_pos e, if_pos (h1.symm.trans e)]; exact ⟨h1, ry⟩
    · rw [if_neg e, if_neg (fun z => e (h1.trans z))]; exact ⟨h1, h2⟩
theorem KV.put {kvs : List (κ × V)} {vs : List (κ × Value)} (r : KV kvs vs) (k : κ) {y : V} {u : Value} (ry : RelV y u) : KV (putK kvs k y) (stored vs k u) := by
  unfold putK stored
  rw [r.any k]
  by_cases e : (vs.any fun kv => decide (kv.1 = k)) = true
  · rw [if_pos e, if_pos e]; exact r.repl k ry
  · rw [if_neg e, if_neg e]; exact Paired.snoc r ⟨rfl, ry⟩
end


abbrev KT (H : Hp) : List (List Key × V) → List (List Key × Addr × Value) → Prop := Paired fun p q => p.1 = q.1 ∧ H q.2.1 = some (.tup (p.1.map kV)) ∧ RelV p.2 q.2.2
theorem KT.val {H : Hp} {kvs : List (List Key × V)} {xs : List (List Key × Addr × Value)} (r : KT H kvs xs) (k : List Key) : RelO (valV kvs k) ((atKey xs k).map (·.2)) := by
  induction r with
  | nil => exact True.intro
  | @cons p q ps qs h t ih =>
    obtain ⟨h1, _, h2⟩ := h
    by_cases e : p.1 = k
    · have e' : q.1 = k := h1.symm.trans e
      have b : atKey (q :: qs) k = some q.2 := by simp [atKey, List.find?_cons, e']
      rw [valV_pos e, b]; exact h2
    · have e' : ¬ q.1 = k := fun z => e (h1.trans z)
      have b : atKey (q :: qs) k = atKey qs k := by simp [atKey, List.find?_cons, e']
      rw [valV_neg e, b]; exact ih
theorem KT.repl {H : Hp} {kvs : List (List Key × V)} {xs : List (List Key × Addr × Value)} (r : KT H kvs xs) (k : List Key) {y : V} {u : Value} (ry : RelV y u) :
    KT H (kvs.map fun kv => if kv.1 = k then (kv.1, y) else kv) (xs.map (putAt k u)) := by
  induction r with
  | nil => exact .nil
  | @cons p q ps qs h t ih =>
    rw [List.map_cons, List.map_cons]
    refine .cons ?_ ih
    obtain ⟨h1, h2, h3⟩ := h
    unfold putAt
    by_cases e : p.1 = k
    · rw [if_pos e, if_pos (h1.symm.trans e)]; exact ⟨h1, h2, ry⟩
    · rw [if_neg e, if_neg (fun z => e (h1.trans z))]; exact ⟨h1, h2, h3⟩
theorem KT.put {H : Hp} {kvs : List (List Key × V)} {xs : List (List Key × Addr × Value)} (r : KT H kvs xs) (k : List Key) {b : Addr} {y : V} {u : Value} (hb : H b = some (.tup (k.map kV))) (ry : RelV y u) :
    KT H (putK kvs k y) (storedH xs k b u) := by
  have e : (kvs.any fun kv => decide (kv.1 = k)) = (atKey xs k).isSome := by
    rw [valV_any, (r.val k).isSome_eq, Option.isSome_map]
  unfold putK storedH
  rw [e]
  by_cases q : (atKey xs k).isSome = true
  · rw [if_pos q, if_pos q]; exact r.repl k ry
  · rw [if_neg q, if_neg q]; exact Paired.snoc r ⟨rfl, hb, ry⟩
section
variable {P : Program} {w : World} {H : Hp} {h : Heap} {a : Addr}
end

def DGet (H : Hp) (a : Addr) (y : V) (r : Option V) : Prop :=
  (∃ kvs k, Rd H a (.dK kvs) ∧ y = kV k ∧ r = valV kvs k) ∨ ∃ kvs k b, Rd H a (.dT kvs) ∧ y = .ref b ∧ H b = some (.tup (k.map kV)) ∧ r = valV kvs k
def DPut (H : Hp) (a : Addr) (y v : V) (H' : Hp) : Prop :=
  (∃ kvs k, H a = some (.dK kvs) ∧ y = kV k ∧ kvs.length < sizeLine ∧ H' = upd H a (.dK (putK kvs k v))) ∨
  ∃ kvs k b, H a = some (.dT kvs) ∧ y = .ref b ∧ H b = some (.tup (k.map kV)) ∧ kvs.length < sizeLine ∧ H' = upd H a (.dT (putK kvs k v))
theorem DGet.k {H : Hp} {a : Addr} {kvs : List (Key × V)} {k : Key} (e : H a = some (.dK kvs)) : DGet H a (kV k) (valV kvs k) := .inl ⟨kvs, k, .inl e, rfl, rfl⟩
theorem DGet.t {H : Hp} {a b : Addr} {kvs : List (List Key × V)} {k : List Key} (e : H a = some (.dT kvs)) (eb : H b = some (.tup (k.map kV))) : DGet H a (.ref b) (valV kvs k) := .inr ⟨kvs, k, b, .inl e, rfl, eb, rfl⟩
theorem DPut.k {H : Hp} {a : Addr} {kvs : List (Key × V)} {k : Key} {v : V} (e : H a = some (.dK kvs)) (hl : kvs.length < sizeLine) : DPut H a (kV k) v (upd H a (.dK (putK kvs k v))) := .inl ⟨kvs, k, e, rfl, hl, rfl⟩
theorem DPut.t {H : Hp} {a b : Addr} {kvs : List (List Key × V)} {k : List Key} {v : V} (e : H a = some (.dT kvs)) (eb : H b = some (.tup (k.map kV))) (hl : kvs.length < sizeLine) :
    DPut H a (.ref b) v (upd H a (.dT (putK kvs k v))) := .inr ⟨kvs, k, b, e, rfl, eb, hl, rfl⟩


section
variable {X : Cx} {pins : List (Addr × Obj)} {σ : St} {H : Hp} {s : Shared} {a : Addr} {y v : V} {u r : Value} {o : Option V} {A : Around} {E : Value → Shared → Prop}

end

section
variable {X : Cx} {pins : List (Addr × Obj)} {σ : St} {H : Hp} {s : Shared} {a : Addr} {kvs : List (Key × V)} {k : Key} {u : Value} {A : Around} {E : Value → Shared → Prop}
end


section
variable {X : Cx} {o i e value : Expr} {pos pos' tpos : Pos} {td ty tv : TE}
end


section
variable {X : Cx} {pos : Pos}
end

structure M1 (X : Cx) (o : Expr) (m : Str) (apos : Pos) (e : Expr) (cpos : Pos) : Prop where
  base : attributeBase o m X.env (eval o X.env) = eval o X.env
  few : ((backTo cpos (starEach [e] X.env)).all (fun x => !x.1) && (backToKw cpos (keywordEach [] X.env)).all (fun x => x.1.isSome)
    && decide (([e] : List Expr).length + ([] : List Keyword).length + (if ([] : List Keyword).isEmpty then 0 else 1) < 30)) = true
  line : (apos.endLine == cpos.line) = true
  trees : backTo cpos (starEach [e] X.env) = [(false, eval e X.env)]
structure M2 (X : Cx) (o : Expr) (m : Str) (apos : Pos) (e f : Expr) (cpos : Pos) : Prop where
  base : attributeBase o m X.env (eval o X.env) = eval o X.env
  few : ((backTo cpos (starEach [e, f] X.env)).all (fun x => !x.1) && (backToKw cpos (keywordEach [] X.env)).all (fun x => x.1.isSome)
    && decide (([e, f] : List Expr).length + ([] : List Keyword).length + (if ([] : List Keyword).isEmpty then 0 else 1) < 30)) = true
  line : (apos.endLine == cpos.line) = true
  trees : backTo cpos (starEach [e, f] X.env) = [(false, eval e X.env), (false, eval f X.env)]

section
variable {X : Cx} {pins : List (Addr × Obj)} {σ : St} {H : Hp} {s : Shared} {a : Addr} {y d : V} {u r : Value} {o : Option V} {A : Around} {E : Value → Shared → Prop}
end

section
variable {X : Cx} {o e f : Expr} {apos cpos : Pos} {td ty tx : TE}
end

section
variable {X : Cx} {pins : List (Addr × Obj)} {σ : St} {H : Hp} {s : Shared} {a : Addr} {kvs : List (Key × V)} {A : Around} {E : Value → Shared → Prop}
end


section
variable {X : Cx} {pins : List (Addr × Obj)} {σ : St} {H : Hp} {s : Shared} {a : Addr} {y : V} {u : Value} {A : Around} {E : Value → Shared → Prop}
end
end L2

namespace Att
open PySem PySem.W PySem.Calls PyProof.Rows

theorem ints_of_wellAll {P : Params} {h : Heap} : ∀ (ns : List Int) (vs : List Value), WellAll P h vs (ns.map WData.int) → IntsAre vs ns := by
  intro ns
  induction ns with
  | nil =>
    intro vs w
    rw [List.map_nil] at w
    cases w
    exact .nil
  | cons n ns ih =>
    intro vs w
    rw [List.map_cons] at w
    cases w with
    | cons a b =>
      cases a
      exact .cons _ _ (ih _ b)

theorem script_of {l : OpenLaw} {n : Nat} (hn : l.most = some n) {P : Params} {h : Heap} {args : List WData} {vals : List Value}
    (hpre : l.row.toRowW.claim.pre args = true) (hwl : WellAll P h vals args) :
    ∃ a vs ns, vals = [Value.ref a] ∧ args = [WData.list (ns.map WData.int)] ∧ h.get? a = some { cls := .type "list", data := .seq vs.toArray } ∧ IntsAre vs ns ∧ ns.length ≤ n := by
  have hsh : WShape.hasAll [] args [.list .int] = true := (pre_splitW hpre).1
  have hc : l.pre.holds [] { args := args } = true := (pre_splitW hpre).2
  obtain ⟨d, r, rfl, h1, h2⟩ := hasAllW_cons hsh
  obtain rfl := hasAllW_nil h2
  obtain ⟨xs, rfl, h3⟩ := hasW_list h1
  obtain ⟨ns, rfl⟩ := items_int h3
  have hlen : ns.length ≤ n := by
    unfold OpenLaw.pre at hc
    have h4 : (WTm.not (.lt (.lit (.int (n : Int))) (.len (.arg 0)))).holds [] { args := [.list (ns.map .int)] } = true := by
      have h4 := (holds_andW hc).1
      rw [hn] at h4
      exact h4
    have h5 := condW_of h4 (w_not (w_lt w_lit (w_len_list (w_arg rfl))))
    rw [List.length_map] at h5
    refine Nat.le_of_not_lt fun q => ?_
    have q' : (n : Int) < ((ns.length : Nat) : Int) := by omega
    first
      | (rw [decide_eq_true q'] at h5; exact absurd h5 (by decide))
      | (simp at h5; omega)
  cases hwl with
  | cons w1 w2 =>
    cases w2
    cases w1 with
    | list ho hall => exact ⟨_, _, ns, rfl, rfl, ho, ints_of_wellAll ns _ hall, hlen⟩

theorem post_true (l : OpenLaw) (args : List WData) : l.row.toRowW.claim.post args (.bool true) args = true :=
  postW_of (r := l.row.toRowW) (X := (true == true))
    (show WShape.has [] (.bool true) .bool = true by first | rfl | decide | simp [WShape.has, WShape.arms, WShape.armsAll])
    (show (WTm.eq .res (.lit (.bool true))).value [] { args := args, res := some (.bool true), after := args } = some (.bool (true == true)) from w_eq_bool (w_res rfl) w_lit) rfl

theorem attach_call {l : OpenLaw} {n : Nat} {q : Program} {loose : List Str} {XP : (Str → Option Value) → Heap → Prop} {YP : World → Heap → Prop} {d : DefRec}
    (hn : l.most = some n) (hdf : d.params.defaults = [])
    (call : ∀ (w : World) (s₀ s₁ : Shared) (mg mb : Str → Option Value) (fa : Addr) (o : Obj) (pm cd doc : Value) (a : Addr) (vs : List Value) (ns : List Int),
      Ground q loose [] XP w s₀ mg mb s₁.heap → YP w s₁.heap →
      s₁.heap.get? fa = some o → o.data = .func (docDef d.name d.params d.body d.scope pm cd doc) → s₁.heap.CodeRec cd d.name → mg d.name = some (.ref fa) →
      s₁.heap.get? a = some { cls := .type "list", data := .seq vs.toArray } → IntsAre vs ns → ns.length ≤ n → s₁.gens = #[] →
      codeAny (model l.prog w) callerA (.call (.ref fa) ⟨[.ref a], []⟩) (fun r s' => r = .ok (.ret (.bool true)) ∧ OldK s₁.heap s'.heap ∧ s'.os = s₁.os ∧ AllBare s'.gens) s₁) :
    WalkO q loose XP YP l.row.toRowW d [] (fun f vs => PySem.call f vs) := by
  intro w s₀ s₁ mg mb G Y fa o pm cd doc dV kV ho hd hcd hD hmg hg args vals as hpre hlay hrd hwl hlo
  obtain rfl : dV = .none := Dflts.none hD hdf
  obtain rfl : kV = .none := Dflts.noKw hD
  obtain ⟨a, vs, ns, rfl, rfl, hobj, hints, hlen⟩ := script_of hn hpre hwl
  refine enter_call (codeAny_mono (call w s₀ s₁ mg mb fa o pm cd doc a vs ns G Y ho (fd_plain hd) hcd hmg hobj hints hlen hg) fun r s' hq => ?_)
  obtain ⟨rfl, h2, h3, h4⟩ := hq
  exact ⟨.inl ⟨.bool true, .bool true, [], rfl, fun _ => rfl, .bool true, post_true l _, fun _ => ⟨List.Pairwise.nil, fun _ hm => (nomatch hm)⟩⟩, h2, h3, h4⟩

section
variable {prog : Program} {w : World} {A : Around} {E : Value → Shared → Prop} {s : Shared} {K : Frag}

end
end Att

namespace L2
open PySem PySem.Spec PyProof.Rows

theorem vals_ints : ∀ {vs : List Value} {ns : List Int}, IntsAre vs ns → Vals (ns.map V.int) vs
  | _, _, .nil => .nil
  | _, _, .cons n t h => .cons ⟨t, rfl⟩ (vals_ints h)

def Only (H : Hp) : Prop := ∀ b, H b = none ∨ ∃ o xs, H b = some (.frz o (.lst xs))

theorem law_call {P : Program} {w : World} {K : PySem.W.Frag} {mg mb : Str → Option Value} {CX : CXT} {k : Nat} {fa a : Addr} {fd : FuncData} {x : Str} {sp : Sp} {s₁ : Shared} {vs : List Value} {ns : List Int}
    (KX : K.In s₁.heap) (hns : s₁.heap.Ns mainGlobals mg) (hb : s₁.heap.Ns builtinsNs mb) (hbb : ∀ x : Str, x ≠ "__name__" → mb x = bootBuiltins x) (hlim : s₁.heap.NoLimit) (hg : s₁.gens = #[])
    (ha : s₁.heap.get? a = some { cls := .type "list", data := .seq vs.toArray }) (hi : IntsAre vs ns) (hl : ns.length ≤ sizeLine) (hr : Room k callerA)
    (F : ∀ base : Heap, K.In base → base.Ns mainGlobals mg → FnOk P w K mg base CX k fa fd [x] sp) (hbind : ∀ (s : Shared) (u : Value), BindsTo s fd ⟨[u], []⟩ [(x, u)])
    (hsp : ∀ H : Hp, Only H → SqL K H a (ns.map V.int) → sp [.ref a] H (fun v _ => v = .bl true) fun _ _ _ => False)
    (hCX : ∀ H e s', CX [] H s₁ (fun _ _ _ => False) e s' → False) :
    codeAny (model P w) callerA (.call (.ref fa) ⟨[.ref a], []⟩) (fun r s' => r = .ok (.ret (.bool true)) ∧ OldK s₁.heap s'.heap ∧ s'.os = s₁.os ∧ AllBare s'.gens) s₁ := by
  have rv := vals_ints hi
  have lenV := hi.length
  -- from an abstract heap in which nothing but the script may be tracked
  have core : ∀ H : Hp, Only H → SqL K H a (ns.map V.int) → HOk P w H s₁.heap → (∀ b, H b ≠ none → b = a) → (H a ≠ none → K.lookup a = none) →
      codeAny (model P w) callerA (.call (.ref fa) ⟨[.ref a], []⟩) (fun r s' => r = .ok (.ret (.bool true)) ∧ OldK s₁.heap s'.heap ∧ s'.os = s₁.os ∧ AllBare s'.gens) s₁ := by
    intro H hO hS hok hA hK
    have base_of : ∀ {b : Addr} {o : Obj}, s₁.heap.get? b = some o → H b = none → (hidT s₁.heap H).get? b = some o := fun e n => hidT_get e n
    have noA : ∀ {b : Addr} {o : Obj} {es : Array DictEntry} {ep : Nat}, s₁.heap.get? b = some o → o.data = .dict es ep → H b = none := fun {b o es ep} e d => by
      cases q : H b with
      | none => rfl
      | some u =>
        have e' : b = a := hA b (by rw [q]; simp)
        subst e'
        rw [ha] at e; cases e
        have d' : Data.seq vs.toArray _ = Data.dict es ep := d
        cases d'
    have nsK : ∀ {b : Addr} {m : Str → Option Value}, s₁.heap.Ns b m → (hidT s₁.heap H).Ns b m := fun {b m} ⟨o, es, ep, e, d, r⟩ => ⟨o, es, ep, base_of e (noA e d), d, r⟩
    have hKb : K.In (hidT s₁.heap H) := fun b o e => base_of (KX b o e) (by
      cases q : H b with
      | none => rfl
      | some u =>
        have e' : b = a := hA b (by rw [q]; simp)
        subst e'
        rw [hK (by rw [q]; simp)] at e; cases e)
    have hM : Mod K mg (hidT s₁.heap H) := ⟨hKb, nsK hns, ⟨mb, nsK hb, hbb⟩, let ⟨mc, h1, h2⟩ := hlim; ⟨mc, nsK h1, h2⟩⟩
    have e0 : Env0 P w K mg (hidT s₁.heap H) callerA [] s₁ H := ⟨rfl, hM, fun b o e => of_hidT e, Nat.le_of_eq (hidT_size _ _), trivial, fun b hb => absurd (show b ∈ ([] : List Addr) from hb) (by simp), hok, .of_eq hg⟩
    refine codeAny_mono ((F _ hKb (nsK hns)).run callerA [] s₁ H ⟨[.ref a], []⟩ [.ref a] [.ref a] _ _ hr e0 (hbind s₁ (.ref a)) (.cons rfl .nil) (hsp H hO hS)) fun r s' h => ?_
    cases r with
    | error e => exact (hCX H e s' h).elim
    | ok fl =>
      cases fl with
      | next => exact False.elim h
      | brk => exact False.elim h
      | cont => exact False.elim h
      | ret u =>
        obtain ⟨v, H', os, bare, un, hok', r', q⟩ := h
        have q' : v = .bl true := q
        subst q'
        obtain rfl : u = Value.bool true := r'
        refine ⟨rfl, OldK.of_keep fun b o e => ?_, os, bare⟩
        cases q : H b with
        | none => exact un.keep b o e q (by intro z; exact absurd (show b ∈ ([] : List Addr) from z) (by simp)) (by simp)
        | some u =>
          rcases hO b with z | ⟨ob, xs, z⟩
          · rw [q] at z; cases z
          · have z2 := un.frzs b ob _ z
            obtain ⟨e1, _⟩ := hok b _ z
            obtain ⟨e2, _⟩ := hok' b _ z2
            rw [e] at e1; cases e1
            exact e2
  cases hk : K.lookup a with
  | some o =>
    -- the script is one of the module's own objects
    have e := KX a o hk
    rw [ha] at e
    cases e
    refine core (fun _ => none) (fun _ => .inl rfl) (.inr ⟨_, vs.toArray, _, hk, rfl, rfl, rfl, by rw [List.size_toArray, lenV]; exact hl, by simpa using rv⟩) (fun b u z => by have z' : (none : Option HO) = some u := z; cases z') (fun b z => absurd rfl z) fun z => absurd rfl z
  | none =>
    refine core (fun b => if b = a then some (.frz { cls := .type "list", data := .seq vs.toArray } (.lst (ns.map V.int))) else none) (fun b => ?_) (.inl (.inr ⟨{ cls := .type "list", data := .seq vs.toArray }, if_pos rfl⟩)) (fun b u z => ?_) (fun b z => ?_) fun _ => hk
    · by_cases hb : b = a
      · exact .inr ⟨_, _, if_pos hb⟩
      · exact .inl (if_neg hb)
    · by_cases hb : b = a
      · have z' := (if_pos hb).symm.trans z
        cases z'
        subst hb
        exact ⟨ha, by rw [List.length_map]; exact hl, vs, _, rv, ha⟩
      · have z' := (if_neg hb).symm.trans z
        cases z'
    · by_cases hb : b = a
      · exact hb
      · exact absurd (if_neg hb) z
end L2

namespace L2
open PySem PySem.Spec PyProof.Rows

abbrev KOf {K : PySem.W.Frag} {h : Heap} (_ : K.In h) : PySem.W.Frag := K

theorem walk_of {l : PySem.W.OpenLaw} {n k : Nat} {q : Program} {loose : List Str} {XP : (Str → Option Value) → Heap → Prop} {YP : World → Heap → Prop} {d : DefRec} {K : Params → PySem.W.Frag} {CX : World → CXT} {sp : World → Sp} {x : Str}
    (hn : l.most = some n) (hn2 : n ≤ sizeLine) (hdf : d.params.defaults = []) (hr : Room k callerA)
    (hY : ∀ (w : World) (h : Heap), YP w h → (K w.params).In h)
    (F : ∀ (w : World) (mg : Str → Option Value) (fa : Addr) (h : Heap), (K w.params).In h → h.Ns mainGlobals mg → mg d.name = some (.ref fa) →
      ∃ fd : FuncData, (∀ (s : Shared) (u : Value), BindsTo s fd ⟨[u], []⟩ [(x, u)]) ∧
        ∀ base : Heap, (K w.params).In base → base.Ns mainGlobals mg → FnOk l.prog w (K w.params) mg base (CX w) k fa fd [x] (sp w))
    (hsp : ∀ (w : World) (H : Hp) (a : Addr) (ns : List Int), ns.length ≤ n → Only H → SqL (K w.params) H a (ns.map V.int) → sp w [.ref a] H (fun v _ => v = .bl true) fun _ _ _ => False)
    (hCX : ∀ (w : World) (H : Hp) (s : Shared) (e : Value) (s' : Shared), CX w [] H s (fun _ _ _ => False) e s' → False) :
    PySem.W.WalkO q loose XP YP l.row.toRowW d [] (fun f vs => PySem.call f vs) := by
  refine Att.attach_call hn hdf fun w s₀ s₁ mg mb fa o pm cd doc a vs ns G Y ho hd hcd hmg hobj hints hlen hg => ?_
  have KX := hY w _ Y
  obtain ⟨fd, hb, hF⟩ := F w mg fa _ KX G.T.g hmg
  exact law_call KX G.T.g G.T.b G.T.builtins G.T.nolimit hg hobj hints (Nat.le_trans hlen hn2) hr hF hb (fun H hO hS => hsp w H a ns hlen hO hS) fun H e s' => hCX w H s₁ e s'
end L2


namespace L2
open PySem PySem.Spec PyProof.Rows

def inClass (s : Stmt) (j : Nat) : Stmt := match s with
  | .ClassDef _ _ _ body _ _ _ _ _ _ _ => body.getD j (.Pass ⟨0, 0, 0, 0⟩)
  | _ => .Pass ⟨0, 0, 0, 0⟩
def defArgs (s : Stmt) : Arguments := match s with
  | .FunctionDef _ a _ _ _ _ _ _ _ _ => a
  | _ => { posonlyargs := [], args := [], vararg := none, kwonlyargs := [], kw_defaults := [], kwarg := none, defaults := [] }
def defBody (s : Stmt) : List Stmt := match s with
  | .FunctionDef _ _ b _ _ _ _ _ _ _ => b
  | _ => []
def defScope (s : Stmt) : Scope := match s with
  | .FunctionDef _ _ _ _ _ _ sc _ _ _ => sc
  | _ => { kind := .function, names := [], isGenerator := false, isCoroutine := false }

abbrev E0 : XK := fun _ _ _ => False
structure Fun (K : PySem.W.Frag) (x qual : Str) (st : Stmt) (f : Addr) (fd : FuncData) : Prop where
  ex : ∃ (oc : Value) (od : Option Addr) (kV doc pm : Value) (an : Option Addr) (cdv ct : Value) (osl : Array (Option Value)),
    fd = PySem.W.fnOf x qual (defArgs st) (defBody st) (defScope st) .none kV doc pm an cdv ct ∧ K.lookup f = some ⟨oc, od, .func fd, osl⟩ ∧ PySem.W.codeIn K cdv qual = true
  kp : PySem.W.keepIn K (.ref f) = true
section
variable {P : Program} {w : World} {K : PySem.W.Frag} {mg : Str → Option Value} {base : Heap}
theorem Fun.binds {x qual : Str} {st : Stmt} {f : Addr} {fd : FuncData} {ps : List Str} (F : Fun K x qual st f fd)
    (h : ∀ (kV doc pm : Value) (an : Option Addr) (cdv ct : Value) (us : List Value), us.length = ps.length → bindArgs (PySem.W.fnOf x qual (defArgs st) (defBody st) (defScope st) .none kV doc pm an cdv ct) ⟨us, []⟩ = pure (ps.zip us)) : Binds K fd ps [] := by
  obtain ⟨oc, od, kV, doc, pm, an, cdv, ct, osl, rfl, lk, hcd⟩ := F.ex
  exact .all (h kV doc pm an cdv ct)
theorem fun_mk {x qual : Str} {st : Stmt} {f : Addr} {oc : Value} {od an : Option Addr} {osl : Array (Option Value)} {kV doc pm cdv ct : Value} (l : K.lookup f = some ⟨oc, od, .func (PySem.W.fnOf x qual (defArgs st) (defBody st) (defScope st) .none kV doc pm an cdv ct), osl⟩)
    (c : PySem.W.codeIn K cdv qual = true) (k : PySem.W.keepIn K (.ref f) = true) : Fun K x qual st f (PySem.W.fnOf x qual (defArgs st) (defBody st) (defScope st) .none kV doc pm an cdv ct) := ⟨⟨oc, od, kV, doc, pm, an, cdv, ct, osl, rfl, l, c⟩, k⟩
end
theorem hu_of {A : Around} {k : Nat} (hr : Room k A) : A.units + 1 < cLine := Nat.lt_of_le_of_lt (Nat.add_le_add_left (by decide : 1 ≤ 64) _) hr.units
theorem small1000 {n : Nat} (h : n ≤ 1000) : n < sizeLine := Nat.lt_of_le_of_lt h (by decide)

section
variable {X : Cx}
theorem pv (i : Nat) {x : Str} {pos : Pos} (hN : X.N[i]? = some x := by rfl) (hv : Vis X.env.scope x := by first | exact Or.inl rfl | exact Or.inr (Or.inl rfl) | exact Or.inr (Or.inr rfl)) (hd : (x == ("__debug__" : Str)) = false := by decide)
    (hcd : (x == ("__classdict__" : Str)) = false := by decide) : PE X (.Name x pos) (tVar i) := pe_var hN hv hd hcd
end

theorem iteF {A B : Prop} (h : B) : if false = true then A else B := by
  rw [if_neg Bool.false_ne_true]
  exact h
theorem ite2 {c A B : Prop} [Decidable c] (h1 : c → A) (h2 : ¬ c → B) : if c then A else B := by
  by_cases h : c
  · rw [if_pos h]
    exact h1 h
  · rw [if_neg h]
    exact h2 h
def Same (H H' : Hp) : Prop := ∀ b o, H b = some o → H' b = some o
theorem Same.refl (H : Hp) : Same H H := fun _ _ h => h
theorem Same.trans {H H1 H2 : Hp} (a : Same H H1) (b : Same H1 H2) : Same H H2 := fun c o h => b c o (a c o h)
theorem Same.seq {K : PySem.W.Frag} {H H' : Hp} {a : Addr} {xs : List V} (e : Same H H') (h : SqL K H a xs) : SqL K H' a xs := by
  rcases h with (h | ⟨o, h⟩) | h
  · exact .inl (.inl (e _ _ h))
  · exact .inl (.inr ⟨o, e _ _ h⟩)
  · exact .inr h

end L2

namespace L2
open PySem PySem.Spec PyProof.Rows
section
variable {X : Cx} {κ : Type} [DecidableEq κ]
end
end L2
namespace L3
open PySem PySem.Spec PyProof.Rows L2
abbrev St := L2.St

def NoErr (CX : CXT) : Prop := ∀ outer H s e s', ¬ CX outer H s E0 e s'
theorem NoErr.pass {CX : CXT} (n : NoErr CX) {X : Cx} : Passes CX X E0 := fun _ _ H s e s' _ h => (n _ H s e s' h).elim

structure Cal (P : Program) (w : World) (K : PySem.W.Frag) (mg : Str → Option Value) (base : Heap) (CX : CXT) (x : Str) (k : Nat) (ps : List Str) (sp : Sp) : Prop where
  ex : ∃ f fd, FnOk P w K mg base CX k f fd ps sp ∧ Binds K fd ps [] ∧ PySem.W.keepIn K (.ref f) = true ∧ mg x = some (.ref f)
structure Dat (K : PySem.W.Frag) (mg : Str → Option Value) (x qual : Str) (st : Stmt) (ps : List Str) : Prop where
  ex : ∃ f fd, Fun K x qual st f fd ∧ Binds K fd ps [] ∧ mg x = some (.ref f)
section
variable {P : Program} {w : World} {K : PySem.W.Frag} {mg : Str → Option Value} {base : Heap} {CX : CXT} {x qual : Str} {st : Stmt} {N ps : List Str} {k j : Nat} {sp sp' : Sp}
theorem Cal.imp (c : Cal P w K mg base CX x k ps sp) (h : ∀ vs H Q E, sp' vs H Q E → sp vs H Q E) : Cal P w K mg base CX x k ps sp' := by
  obtain ⟨f, fd, F, r⟩ := c.ex
  exact ⟨f, fd, F.imp h, r⟩
theorem fun_ok {f : Addr} {fd : FuncData} (F : Fun K x qual st f fd) (S : FnScope N ps (defScope st)) (len : ∀ vs H Q E, sp vs H Q E → vs.length = ps.length)
    (hbody : ∀ (f : Addr) (cdv : Value) (A : Around) (outer : List Env) (s : Shared) (H : Hp) (vs : List V) (Q : VK) (E : XK), Room k (A.deeper (envOfC qual (defScope st) s.heap.objs.size f cdv)) → sp vs H Q E →
      ∃ t, PSs (cxOf CX P w K mg base N qual (defScope st) f cdv A outer s H E).nox (defBody st) t ∧ t { nx := fun _ H' => Q .non H', rt := Q } (start N vs) H) : FnOk P w K mg base CX (k + 1) f fd ps sp := by
  obtain ⟨oc, od, kV, doc, pm, an, cdv, ct, osl, rfl, lk, hcd⟩ := F.ex
  refine fn_of lk hcd S len fun A outer s H vs Q E hr hsp => ?_
  obtain ⟨t, h, q⟩ := hbody f cdv A outer s H vs Q E hr hsp
  exact ⟨t, h.nox, q⟩
theorem Dat.ok (D : Dat K mg x qual st ps) (S : FnScope N ps (defScope st)) (len : ∀ vs H Q E, sp vs H Q E → vs.length = ps.length)
    (hbody : ∀ (f : Addr) (cdv : Value) (A : Around) (outer : List Env) (s : Shared) (H : Hp) (vs : List V) (Q : VK) (E : XK), Room k (A.deeper (envOfC qual (defScope st) s.heap.objs.size f cdv)) → sp vs H Q E →
      ∃ t, PSs (cxOf CX P w K mg base N qual (defScope st) f cdv A outer s H E).nox (defBody st) t ∧ t { nx := fun _ H' => Q .non H', rt := Q } (start N vs) H) : Cal P w K mg base CX x (k + 1) ps sp := by
  obtain ⟨f, fd, F, b, m⟩ := D.ex
  exact ⟨f, fd, fun_ok F S len hbody, b, F.kp, m⟩
theorem Dat.okX (D : Dat K mg x qual st ps) (S : FnScope N ps (defScope st)) (len : ∀ vs H Q E, sp vs H Q E → vs.length = ps.length)
    (hbody : ∀ (f : Addr) (cdv : Value) (A : Around) (outer : List Env) (s : Shared) (H : Hp) (vs : List V) (Q : VK) (E : XK), Room k (A.deeper (envOfC qual (defScope st) s.heap.objs.size f cdv)) → sp vs H Q E →
      ∃ t, PSs (cxOf CX P w K mg base N qual (defScope st) f cdv A outer s H E) (defBody st) t ∧ t { nx := fun _ H' => Q .non H', rt := Q } (start N vs) H) : Cal P w K mg base CX x (k + 1) ps sp := by
  obtain ⟨f, fd, F, b, m⟩ := D.ex
  have kp := F.kp
  obtain ⟨oc, od, kV, doc, pm, an, cdv, ct, osl, rfl, lk, hcd⟩ := F.ex
  refine ⟨f, _, fn_of lk hcd S len fun A outer s H vs Q E hr hsp => ?_, b, kp, m⟩
  exact hbody f cdv A outer s H vs Q E hr hsp
theorem dat_mk {h : Heap} (X : K.In h) (G : h.Ns mainGlobals mg) {f : Addr} {oc : Value} {od an : Option Addr} {osl : Array (Option Value)} {kV doc pm cdv ct : Value} (a : PySem.W.nsIn K mainGlobals x = some (some (.ref f)))
    (l : K.lookup f = some ⟨oc, od, .func (PySem.W.fnOf x qual (defArgs st) (defBody st) (defScope st) .none kV doc pm an cdv ct), osl⟩) (c : PySem.W.codeIn K cdv qual = true) (kp : PySem.W.keepIn K (.ref f) = true)
    (b : ∀ (kV doc pm : Value) (an : Option Addr) (cdv ct : Value) (us : List Value), us.length = ps.length → bindArgs (PySem.W.fnOf x qual (defArgs st) (defBody st) (defScope st) .none kV doc pm an cdv ct) ⟨us, []⟩ = pure (ps.zip us)) : Dat K mg x qual st ps := by
  have F := fun_mk (st := st) l c kp
  exact ⟨f, _, F, F.binds b, PySem.W.mg_of X G a⟩
end
section
variable {X : Cx} {CX : CXT} {k : Nat} {ps : List Str} {sp : Sp} {E : XK} {x : Str} {p pos : Pos} {e : Expr} {es : List Expr} {t : TA}
theorem pe_fn (C : Cal X.prog X.w X.K X.mg X.base CX x k ps sp) (hr : Room k X.A) (hx : Passes CX X E) (ha : PA X (e :: es) t) (hg : Gl X x := by rfl)
    (hdb : (x == ("__debug__" : Str)) = false := by decide) (he : starEach (e :: es) X.env = (false, eval e X.env) :: starEach es X.env := by rfl) (hpl : (backTo pos (starEach es X.env)).any (·.1) = false := by rfl) :
    PE X (.Call (.Name x p) (e :: es) [] pos) (tCall sp [] E t) := by
  obtain ⟨f, fd, F, b, kp, m⟩ := C.ex
  exact pe_call F hr hg m kp b .nil hx ha hdb he hpl
end

def closeL (cells : List (Str × Addr)) : List (Str × NameKind) → List (Str × Addr) → List (Str × Addr)
  | [], acc => acc
  | (n, k) :: r, acc => if k == .free then (match cells.lookup n with | some a => closeL cells r ((n, a) :: acc) | none => closeL cells r acc) else closeL cells r acc
theorem closeL_forIn {env : Env} : ∀ (l : List (Str × NameKind)) (acc : List (Str × Addr)), (∀ y ∈ l, y.2 = .free → ∃ c, env.cells.lookup y.1 = some c) →
    (forIn l acc (fun (y : Str × NameKind) cs => do
      if y.2 == .free then let c ← cellOf env y.1; pure (ForInStep.yield ((y.1, c) :: cs)) else pure (ForInStep.yield cs)) : Sem (List (Str × Addr))) = pure (closeL env.cells l acc)
  | [], acc, _ => rfl
  | (n, k) :: r, acc, h => by
    have ih := fun acc => closeL_forIn (env := env) r acc fun y hy => h y (List.mem_cons_of_mem _ hy)
    rw [List.forIn_cons]
    cases hk : k == NameKind.free with
    | true =>
      have ek : k = .free := by simpa using hk
      obtain ⟨c, hc⟩ := h (n, k) List.mem_cons_self ek
      have e1 : cellOf env n = pure c := by unfold cellOf; rw [hc]
      simp only [hk, if_true, e1, pure_bind]
      rw [ih]
      simp only [closeL, hk, if_true, hc]
    | false =>
      simp only [hk, Bool.false_eq_true, if_false, pure_bind]
      rw [ih]
      simp only [closeL, hk, Bool.false_eq_true, if_false]
theorem closeL_of {scope : Scope} {env : Env} (h : ∀ y ∈ scope.names, y.2 = .free → ∃ c, env.cells.lookup y.1 = some c) : closureFor scope env = pure (closeL env.cells scope.names []) := by
  unfold closureFor
  have e := closeL_forIn (env := env) scope.names [] h
  have : (forIn scope.names ([] : List (Str × Addr)) (fun (y : Str × NameKind) cs => do
      if y.2 == .free then let c ← cellOf env y.1; pure (ForInStep.yield ((y.1, c) :: cs)) else pure (ForInStep.yield cs)) : Sem (List (Str × Addr))) >>= (fun cs => pure cs) = pure (closeL env.cells scope.names []) := by rw [e]; rfl
  exact this
theorem closeL_sub {cells : List (Str × Addr)} : ∀ (l : List (Str × NameKind)) (acc : List (Str × Addr)) {x : Str} {c : Addr}, (closeL cells l acc).lookup x = some c → acc.lookup x = some c ∨ (cells.lookup x = some c ∧ (x, NameKind.free) ∈ l)
  | [], acc, x, c, h => .inl h
  | (n, k) :: r, acc, x, c, h => by
    unfold closeL at h
    cases hk : k == NameKind.free with
    | true =>
      have ek : k = .free := by simpa using hk
      subst ek
      rw [if_pos hk] at h
      cases hc : cells.lookup n with
      | none =>
        rw [hc] at h
        rcases closeL_sub r acc h with z | z
        · exact .inl z
        · exact .inr ⟨z.1, List.mem_cons_of_mem _ z.2⟩
      | some a =>
        rw [hc] at h
        rcases closeL_sub r _ h with z | z
        · rw [List.lookup_cons] at z
          cases hx : x == n with
          | true =>
            rw [hx] at z
            have : x = n := by simpa using hx
            subst this
            cases z
            exact .inr ⟨hc, List.mem_cons_self⟩
          | false => rw [hx] at z; exact .inl z
        · exact .inr ⟨z.1, List.mem_cons_of_mem _ z.2⟩
    | false =>
      rw [if_neg (by rw [hk]; exact Bool.false_ne_true)] at h
      rcases closeL_sub r acc h with z | z
      · exact .inl z
      · exact .inr ⟨z.1, List.mem_cons_of_mem _ z.2⟩
theorem closeL_acc {cells : List (Str × Addr)} : ∀ (l : List (Str × NameKind)) (acc : List (Str × Addr)) {x : Str}, (∃ c, acc.lookup x = some c) → ∃ c, (closeL cells l acc).lookup x = some c
  | [], _, _, h => h
  | (n, k) :: r, acc, x, h => by
    unfold closeL
    split
    · split
      · refine closeL_acc r _ ?_
        rw [List.lookup_cons]
        split
        · exact ⟨_, rfl⟩
        · exact h
      · exact closeL_acc r acc h
    · exact closeL_acc r acc h
theorem closeL_has {cells : List (Str × Addr)} : ∀ (l : List (Str × NameKind)) (acc : List (Str × Addr)) {x : Str}, (x, NameKind.free) ∈ l → (∃ c, cells.lookup x = some c) → ∃ c, (closeL cells l acc).lookup x = some c
  | [], _, _, h, _ => by simp at h
  | (n, k) :: r, acc, x, h, hc => by
    unfold closeL
    rcases List.mem_cons.mp h with e | h
    · cases e
      obtain ⟨c, hc⟩ := hc
      rw [if_pos (by decide), hc]
      exact closeL_acc r _ ⟨c, by rw [List.lookup_cons]; simp⟩
    · split
      · split
        · exact closeL_has r _ h hc
        · exact closeL_has r _ h hc
      · exact closeL_has r _ h hc

def blkN (N own : List Str) (cap : List Nat) : List Str := own ++ cap.map fun j => N.getD j Str.empty
def blkS (own : Nat) (cap : List Nat) (σ : St) : St := List.replicate own none ++ cap.map fun j => (σ[j]?).join
structure Blk (X : Cx) (scope : Scope) (own : List Str) (cap : List Nat) : Prop where
  kind : scope.kind = .function
  nocell : ∀ y ∈ scope.names, y.2 ≠ .cell
  names : ∀ y ∈ scope.names, y.2 = .local → scope.names.lookup y.1 = some .local
  free : ∀ y ∈ scope.names, y.2 = .free → X.env.kindOf y.1 = some .cell
  nd : (blkN X.N own cap).Nodup
  caps : ∀ j ∈ cap, ∃ x, X.N[j]? = some x ∧ (x, NameKind.free) ∈ scope.names ∧ scope.names.lookup x = some .free
def blk (X : Cx) (scope : Scope) (own : List Str) (cap : List Nat) (C : Addr) (s : Shared) (H : Hp) (fp : List Addr) : Cx :=
  { prog := X.prog, w := X.w, K := X.K, mg := X.mg, base := X.base, A := X.A, N := blkN X.N own cap, s₀ := s, H₀ := H, env := compEnvC scope (closeL X.env.cells scope.names []) C X.env, outer := X.stack, stack := X.stack,
    ex := fp, fn := fun _ => false, calm := true, pn := [], xe := fun _ _ => False }
theorem lookup_relabel_free {env : Env} : ∀ {names : List (Str × NameKind)} {x : Str}, env.scope.kind = .function → env.kindOf x = some .cell → names.lookup x = some .free →
    (names.map fun (n, k) => if (k == NameKind.free && env.scope.kind == .function && env.kindOf n == some .cell) then (n, NameKind.cell) else (n, k)).lookup x = some .cell
  | [], _, _, _, h => by simp at h
  | (n, k) :: r, x, hf, hc, h => by
    have ih := @lookup_relabel_free env r x hf hc
    show List.lookup x ((if (k == NameKind.free && env.scope.kind == .function && env.kindOf n == some .cell) = true then (n, NameKind.cell) else (n, k)) :: _) = _
    cases hx : x == n with
    | true =>
      have e : x = n := by simpa using hx
      subst e
      simp only [List.lookup_cons, hx] at h
      cases h
      rw [if_pos (by simp [hf, hc])]
      simp [List.lookup_cons]
    | false =>
      simp only [List.lookup_cons, hx] at h
      split
      · simp only [List.lookup_cons, hx]; exact ih h
      · simp only [List.lookup_cons, hx]; exact ih h
theorem relabel_cell {env : Env} : ∀ {names : List (Str × NameKind)} {x : Str}, (∀ y ∈ names, y.2 ≠ .cell) →
    ((names.map fun (n, k) => if (k == NameKind.free && env.scope.kind == .function && env.kindOf n == some .cell) then (n, NameKind.cell) else (n, k)).lookup x = some .cell ∨
     (names.map fun (n, k) => if (k == NameKind.free && env.scope.kind == .function && env.kindOf n == some .cell) then (n, NameKind.cell) else (n, k)).lookup x = some .free) → (x, NameKind.free) ∈ names
  | [], _, _, h => by simp at h
  | (n, k) :: r, x, hn, h => by
    have ih := @relabel_cell env r x fun y hy => hn y (List.mem_cons_of_mem _ hy)
    have hk : k ≠ .cell := hn (n, k) List.mem_cons_self
    rw [List.map_cons] at h
    cases hx : x == n with
    | true =>
      have e : x = n := by simpa using hx
      subst e
      by_cases hf : k = .free
      · subst hf; exact List.mem_cons_self
      · exfalso
        have hb : (k == NameKind.free) = false := by simpa using hf
        simp only [hb, Bool.false_and, Bool.false_eq_true, if_false, List.lookup_cons, beq_self_eq_true, Option.some.injEq] at h
        rcases h with h | h
        · exact hk h
        · exact hf h
    | false =>
      refine List.mem_cons_of_mem _ (ih ?_)
      by_cases hc : (k == NameKind.free && env.scope.kind == .function && env.kindOf n == some .cell) = true
      · simp only [hc, if_true, List.lookup_cons, hx] at h; exact h
      · simp only [Bool.not_eq_true] at hc
        simp only [hc, Bool.false_eq_true, if_false, List.lookup_cons, hx] at h; exact h

section
variable {X : Cx} {pins : List (Addr × Obj)} {σ : St} {H : Hp} {s : Shared} {scope : Scope} {own : List Str} {cap : List Nat} {fp : List Addr}
theorem Blk.cells (B : Blk X scope own cap) (ok : X.Ok) : ∀ y ∈ scope.names, y.2 = .free → ∃ c, X.env.cells.lookup y.1 = some c := fun y hy hf => ok.has y.1 (.inl (B.free y hy hf))
theorem Inv.enter {C : Addr} {h4 : Heap} {m : Str → Option Value} {t' : Nat} (I : Inv X pins σ H s) (hc : X.calm = true) (B : Blk X scope own cap) (f2 : ∀ b ∈ fp, FpOk X pins H b) (flt : ∀ b ∈ fp, b < s.heap.objs.size)
    (k : ∀ b o, s.heap.get? b = some o → h4.get? b = some o) (hC : s.heap.objs.size ≤ C) (hn : h4.Ns C m) (pl : List (Addr × Obj)) (hpl : ∀ p ∈ pl, h4.get? p.1 = some p.2 ∧ s.heap.objs.size ≤ p.1 ∧ p.1 ≠ C ∧ ∀ v, p.2.data ≠ .cell v) :
    Inv (blk X scope own cap C s H fp) pl (blkS own.length cap σ) H { s with heap := h4, toks := t' } := by
  have cls : ∀ x c, (closeL X.env.cells scope.names []).lookup x = some c → X.env.cells.lookup x = some c ∧ (x, NameKind.free) ∈ scope.names := fun x c e => (closeL_sub _ _ e).elim (fun z => by simp at z) fun z => z
  refine ⟨⟨I.ok.mod, B.kind, I.ok.glob, I.ok.blt, hC, fun x y c e1 e2 => I.ok.inj x y c (cls x c e1).1 (cls y c e2).1, fun x hx => ?_, fun x c hf _ => (Bool.false_ne_true hf).elim, fun _ => I.ok.hd hc, I.ok.frames, .inl rfl,
    fun b hb => ⟨Nat.ne_of_lt (Nat.lt_of_lt_of_le (flt b hb) hC), fun x c e => (f2 b hb).2.2.2.2.1 x c (cls x c e).1⟩, I.bs, Nat.le_trans I.ok.bsz I.sz, fun b o e hb => ?_, fun b hb hfs => ?_, I.stack, I.stkFree⟩,
    rfl, I.bare, Un.kept k, ⟨m, hn, fun i x v e1 e2 e3 => ?_⟩, fun x c e => ?_, I.hok.fresh hC, fun x c e => I.freeC x c (cls x c e).1, fun p hp => ?_, I.hok.kept k, ?_⟩
  · have hx' : ((relabel scope X.env).names.lookup x = some .cell ∨ (relabel scope X.env).names.lookup x = some .free) := hx
    have hf := relabel_cell B.nocell hx'
    exact closeL_has _ _ hf (B.cells I.ok _ hf rfl)
  · rcases (f2 b hb).2.2.2.1 with z | z
    · exact I.ok.noex b o e z
    · exact absurd (Nat.lt_of_lt_of_le (Heap.lt_size e) (Nat.le_trans I.ok.bsz z)) (Nat.lt_irrefl _)
  · rcases List.mem_cons.mp (I.stkSub b hfs) with z | z
    · exact (f2 b hb).2.1 z
    · exact (f2 b hb).2.2.1 z
  · -- the names
    have e2' : (List.replicate own.length (none : Option V) ++ cap.map fun j => (σ[j]?).join)[i]? = some (some v) := e2
    have e1' : (own ++ cap.map fun j => X.N.getD j Str.empty)[i]? = some x := e1
    by_cases hi : i < own.length
    · rw [List.getElem?_append_left (by simpa using hi), List.getElem?_replicate, if_pos hi] at e2'
      cases e2'
    · rw [List.getElem?_append_right (by simpa using hi), List.getElem?_map] at e2'
      rw [List.getElem?_append_right (by simpa using hi), List.getElem?_map] at e1'
      rw [List.length_replicate] at e2'
      cases hj : cap[i - own.length]? with
      | none => rw [hj] at e2'; cases e2'
      | some j =>
        rw [hj] at e1' e2'
        have e1'' : X.N.getD j Str.empty = x := Option.some.inj e1'
        have e2'' : (σ[j]?).join = some v := Option.some.inj e2'
        obtain ⟨y, hy, hm, hl⟩ := B.caps j (List.mem_of_getElem? hj)
        have exy : x = y := by rw [← e1'', List.getD_eq_getElem?_getD, hy]; rfl
        subst exy
        have hσ : σ[j]? = some (some v) := by
          cases q : σ[j]? with
          | none => rw [q] at e2''; cases e2''
          | some z => rw [q] at e2''; rw [show z = some v from e2'']
        have kc := B.free _ hm rfl
        obtain ⟨m0, hn0, hl0⟩ := I.loc
        obtain ⟨u, r, lk⟩ := hl0 j x v hy hσ (.inr (.inl kc))
        refine ⟨u, r, .inr ⟨.inl (lookup_relabel_free I.ok.kind kc hl), ?_⟩⟩
        rcases lk with ⟨k1, _⟩ | ⟨_, c, hc1, o, ho, hd⟩
        · rw [kc] at k1; cases k1
        · obtain ⟨c', hc'⟩ := closeL_has (cells := X.env.cells) scope.names [] hm ⟨c, hc1⟩
          have := (cls x c' hc').1
          rw [hc1] at this; cases this
          exact ⟨c, hc', o, k c o ho, hd⟩
  · obtain ⟨v, o, ho, hd⟩ := I.cell x c (cls x c e).1
    exact ⟨v, o, k c o ho, hd⟩
  · have hp' : p ∈ pl := hp
    obtain ⟨h1, h2, h3, h5⟩ := hpl p hp'
    refine ⟨h1, I.hok.fresh h2, h3, fun hfs => ?_, h5⟩
    rcases List.mem_cons.mp (I.stkSub p.1 hfs) with z | z
    · exact absurd (Nat.lt_of_lt_of_le I.lt h2) (by rw [z]; exact Nat.lt_irrefl _)
    · exact I.nofs h2 z
  · show (List.replicate own.length (none : Option V) ++ cap.map fun j => (σ[j]?).join).length = (own ++ cap.map fun j => X.N.getD j Str.empty).length
    simp
theorem Inv.leave {C D : Addr} {s' : Shared} {h' : Heap} {H' : Hp} {σ' : St} {ys : List V} {its : List Value} {n : Nat} (I : Inv X pins σ H s) (f2 : ∀ b ∈ fp, FpOk X pins H b) (hC : s.heap.objs.size ≤ C) (hD : s.heap.objs.size ≤ D) (hDC : D ≠ C)
    (J : Inv (blk X scope own cap C s H fp) [(D, { cls := .type "list", data := .seq its.toArray n })] σ' H' s') (hs : Heap.SameBut C s'.heap h') (r : Vals ys its) (hz : ys.length ≤ sizeLine) :
    Inv X pins σ (upd H' D (.lst ys)) { s' with heap := h' } := by
  obtain ⟨eD, nD, _, _, _⟩ := J.pin (D, { cls := .type "list", data := .seq its.toArray n }) (List.mem_append_right _ (List.mem_singleton.mpr rfl))
  have HD : H D = none := I.hok.fresh hD
  have nC : H' C = none := J.free
  have neC : ∀ b o, s.heap.get? b = some o → b ≠ C := fun b o e => Nat.ne_of_lt (Nat.lt_of_lt_of_le (Heap.lt_size e) hC)
  have neD : ∀ b o, s.heap.get? b = some o → b ≠ D := fun b o e => Nat.ne_of_lt (Nat.lt_of_lt_of_le (Heap.lt_size e) hD)
  have J0 : Un (frs X.stack) fp H H' s.heap s'.heap := J.base
  have u : Un (frs X.stack) fp H (upd H' D (.lst ys)) s.heap h' := by
    refine ⟨fun b o e n hb hx => ?_, fun b o e n hb hx => ?_, fun b o e n hx => ?_, fun b o e hx => ?_, fun b xs e => ?_, fun b o xs e => ?_, fun b ps e => ?_⟩
    · exact (hs.2 b (neC b o e)).trans (J0.keep b o e n hb hx)
    · obtain ⟨sl, q⟩ := J0.slot b o e n hb hx
      exact ⟨sl, (hs.2 b (neC b o e)).trans q⟩
    · rw [upd_ne (neD b o e)]; exact J0.free b o e n hx
    · obtain ⟨o', q⟩ := J0.there b o e hx
      exact ⟨o', (hs.2 b (neC b o e)).trans q⟩
    · rw [upd_ne (ne_of_none e HD)]; exact J0.tups b xs e
    · rw [upd_ne (ne_of_none e HD)]; exact J0.frzs b o xs e
    · rw [upd_ne (ne_of_none e HD)]; exact J0.tbls b ps e
  have hok : HOk X.prog X.w (upd H' D (.lst ys)) h' := fun b o e => by
    by_cases hb : b = D
    · subst hb
      rw [upd_same] at e; cases e
      exact ⟨hz, its, n, r, (hs.2 b hDC).trans eD⟩
    · rw [upd_ne hb] at e
      refine (J.hok b o e).stay (fun c v hc q => (hs.2 c ?_).trans q) (fun c q => ?_) fun c xs q => ?_
      · rcases hc with rfl | hc
        · exact ne_of_none e nC
        · exact ne_of_none hc nC
      · rw [upd_ne (ne_of_none q nD)]; exact q
      · rw [upd_ne (ne_of_none q nD)]; exact q
  obtain ⟨hh, g, d, t, os⟩ := s'
  have eos : os = s.os := J.os
  subst eos
  exact Inv.call (s := s) (h' := h') (g' := g) (d' := d) (t' := t) (ch := fp) I u hok J.bare fun b hb => ⟨(f2 b hb).2.2.2.1, (f2 b hb).2.1, fun x c e => (f2 b hb).2.2.2.2.1 x c e, (f2 b hb).2.2.2.2.2⟩
end

end L3
namespace L3
open PySem PySem.Spec PyProof.Rows L2
section
variable {X : Cx} {pins : List (Addr × Obj)} {σ : St} {H : Hp} {s : Shared} {scope : Scope} {own : List Str} {cap : List Nat} {fp : List Addr}
theorem Inv.again {C : Addr} {pl : List (Addr × Obj)} {σ2 : St} {H3 : Hp} {s3 : Shared} (I : Inv X pins σ H s) (B : Blk X scope own cap) (f2 : ∀ b ∈ fp, FpOk X pins H b) (J : Inv (blk X scope own cap C s H fp) pl σ2 H3 s3) :
    Inv (blk X scope own cap C s H fp) pl (blkS own.length cap σ) H3 s3 := by
  obtain ⟨m, hn, _⟩ := J.loc
  refine ⟨J.ok, J.os, J.bare, J.base, ⟨m, hn, fun i x v e1 e2 e3 => ?_⟩, J.cell, J.free, J.freeC, J.pin, J.hok, ?_⟩
  · have e2' : (List.replicate own.length (none : Option V) ++ cap.map fun j => (σ[j]?).join)[i]? = some (some v) := e2
    have e1' : (own ++ cap.map fun j => X.N.getD j Str.empty)[i]? = some x := e1
    by_cases hi : i < own.length
    · rw [List.getElem?_append_left (by simpa using hi), List.getElem?_replicate, if_pos hi] at e2'
      cases e2'
    · rw [List.getElem?_append_right (by simpa using hi), List.getElem?_map] at e2'
      rw [List.getElem?_append_right (by simpa using hi), List.getElem?_map] at e1'
      rw [List.length_replicate] at e2'
      cases hj : cap[i - own.length]? with
      | none => rw [hj] at e2'; cases e2'
      | some j =>
        rw [hj] at e1' e2'
        have e1'' : X.N.getD j Str.empty = x := Option.some.inj e1'
        have e2'' : (σ[j]?).join = some v := Option.some.inj e2'
        obtain ⟨y, hy, hm, hl⟩ := B.caps j (List.mem_of_getElem? hj)
        have exy : x = y := by rw [← e1'', List.getD_eq_getElem?_getD, hy]; rfl
        subst exy
        have hσ : σ[j]? = some (some v) := by
          cases q : σ[j]? with
          | none => rw [q] at e2''; cases e2''
          | some z => rw [q] at e2''; rw [show z = some v from e2'']
        have kc := B.free _ hm rfl
        obtain ⟨m0, hn0, hl0⟩ := I.loc
        obtain ⟨u, r, lk⟩ := hl0 j x v hy hσ (.inr (.inl kc))
        refine ⟨u, r, .inr ⟨.inl (lookup_relabel_free I.ok.kind kc hl), ?_⟩⟩
        rcases lk with ⟨k1, _⟩ | ⟨_, c, hc1, o, ho, hd⟩
        · rw [kc] at k1; cases k1
        · obtain ⟨c', hc'⟩ := closeL_has (cells := X.env.cells) scope.names [] hm ⟨c, hc1⟩
          have := ((closeL_sub _ _ hc').elim (fun z => by simp at z) fun z => z.1 : X.env.cells.lookup x = some c')
          rw [hc1] at this; cases this
          have J0 : Un (frs X.stack) fp H H3 s.heap s3.heap := J.base
          obtain ⟨sl, q⟩ := J0.any ho (I.freeC x c hc1) fun z => (f2 c z).2.2.2.2.1 x c hc1 rfl
          exact ⟨c, hc', _, q, hd⟩
  · show (List.replicate own.length (none : Option V) ++ cap.map fun j => (σ[j]?).join).length = (own ++ cap.map fun j => X.N.getD j Str.empty).length
    simp
end

theorem compLoop_ok {prog : Program} {w : World} {A : Around} {R : Result → Shared → Prop} {s : Shared} {elt target iter : Expr} {ifs : List Expr} {scope : Scope} {pos : Pos} {it acc : Value} {env : Env} (I : Nat → Shared → Prop)
    (turn : ∀ n s, I n s → wpAny (model prog w) A (pyNext it) (fun r s₁ => match r with
      | none => R (.ok .next) s₁
      | some v => wpAny (model prog w) A (letOwnedTupleGo target it v) (fun _ s₁' => wpAny (model prog w) A (assign target env v) (fun _ s₂ =>
          wpAny (model prog w) A (forIn ifs true fun c r => if r = true then do let ok ← isTrue c env (eval c env); pure (ForInStep.yield ok) else pure (ForInStep.yield r)) (fun ok s₃ =>
            if ok = true then wpAny (model prog w) A (eval elt env) (fun x s₄ =>
              wpAny (model prog w) A (call (.builtin "list.append") [acc, x]) (fun _ s₅ => ∃ m, m < n ∧ I m s₅) (fun _ _ => False) s₄) (fun _ _ => False) s₃
            else ∃ m, m < n ∧ I m s₃) (fun _ _ => False) s₂) (fun _ _ => False) s₁') (fun _ _ => False) s₁) (fun _ _ => False) s)
    (n : Nat) (h : I n s) :
    codeAny (model prog w) A (.compLoop (.ListComp elt [⟨target, iter, ifs, 0⟩] scope pos) 0 it acc env) R s := by
  refine codeAny_loop rfl I (fun n s hI => ?_) n h
  show wpAny _ A ((compTurn (.ListComp elt [⟨target, iter, ifs, 0⟩] scope pos) 0 it acc env).onRaise (fun x => do noteFrame x env; theTreesLotGoes x)) _ _ s
  refine wpAny_noted ?_
  rw [compTurn_list]
  refine wpAny_bind (wpAny_standAt (wpAny_bind (wpAny_mono (turn n s hI) (fun r s₁ h₁ => ?_) fun _ _ z => z.elim)))
  cases r with
  | none => exact wpAny_pure h₁
  | some v =>
    refine wpAny_bind (wpAny_mono h₁ (fun _ s₁' h₁' => ?_) fun _ _ z => z.elim)
    refine wpAny_bind (wpAny_mono h₁' (fun _ s₂ h₂ => wpAny_bind (wpAny_mono h₂ (fun ok s₃ h₃ => ?_) fun _ _ z => z.elim)) fun _ _ z => z.elim)
    cases ok with
    | false => exact wpAny_pure ⟨rfl, h₃⟩
    | true =>
      exact wpAny_bind (wpAny_bind (wpAny_mono h₃ (fun x s₄ h₄ => wpAny_bind (wpAny_mono h₄ (fun _ s₅ h₅ => wpAny_pure (wpAny_pure ⟨rfl, h₅⟩)) fun _ _ z => z.elim)) fun _ _ z => z.elim))

def PIfs (X : Cx) (ifs : List Expr) (tc : TT) : Prop :=
  ∀ (pins : List (Addr × Obj)) (s : Shared) (σ : St) (H : Hp) (Q : Bool → Hp → Prop), Inv X pins σ H s → tc σ H Q →
    wpAny (model X.prog X.w) X.A (forIn ifs true fun c r => if r = true then do let ok ← isTrue c X.env (eval c X.env); pure (ForInStep.yield ok) else pure (ForInStep.yield r)) (TP X pins σ Q) X.xe s
def tAll : TT := fun _ H Q => Q true H
theorem pifs_nil {X : Cx} : PIfs X [] tAll := fun _ _ _ H _ I h => wpAny_tests_nil ⟨H, I, h⟩
theorem pifs_one {X : Cx} {c : Expr} {tc : TT} (h : PT X c tc) : PIfs X [c] tc := fun pins s σ H Q I hw => wpAny_tests_one (h pins s σ H Q I hw)

def CompW (J : It) (W : Nat → Nat → List V → Hp → Prop) (D : List V → Hp → Prop) (σb : St) (g : TG) (tc : TT) (te : TE) : Prop :=
  ∀ i m ys H, W i m ys H → ys.length ≤ sizeLine ∧
    ((J.stop i H ∧ D ys H) ∨ (J.go i H ∧ ∃ N : List V → Hp → Prop, (∀ ys' H', N ys' H' → ∃ m', m' < m ∧ W (i + 1) m' ys' H') ∧ ∀ x H', J.yld i H x H' → g x σb H' fun σ2 H2 => tc σ2 H2 fun b H3 =>
      if b = true then te σ2 H3 fun y H4 => N (ys ++ [y]) H4 else N ys H3))
def tComp (wi : TI) (own : Nat) (cap : List Nat) (g : TG) (tc : TT) (te : TE) : TE := fun σ H Q => wi σ H fun J H1 => ∃ W : Nat → Nat → List V → Hp → Prop, (∃ m, W 0 m [] H1) ∧
  CompW J W (fun ys H => ∀ p, H p = none → Q (.ref p) (upd H p (.lst ys))) (blkS own cap σ) g tc te

section
variable {X : Cx} {scope : Scope} {own : List Str} {cap : List Nat} {tg elt iter : Expr} {ifs : List Expr} {pos : Pos} {wi : TI} {g : TG} {tc : TT} {te : TE}
theorem comp_block (B : Blk X scope own cap) (hc : X.calm = true) (hg : ∀ C s H fp, PG (blk X scope own cap C s H fp) tg g) (ht : ∀ C s H fp, PIfs (blk X scope own cap C s H fp) ifs tc) (he : ∀ C s H fp, PE (blk X scope own cap C s H fp) elt te)
    {pins : List (Addr × Obj)} {s2 : Shared} {σ : St} {H2 : Hp} {it : Addr} {fp : List Addr} {tn : Nat → Heap → Prop} {J : It} {W : Nat → Nat → List V → Hp → Prop} {D : List V → Hp → Prop} {m0 : Nat} {E : Value → Shared → Prop} {RR : Value → Addr → Result → Shared → Prop}
    (I2 : Inv X pins σ H2 s2) (T : Turn X.prog X.w X.K tg J fp it tn) (st2 : tn 0 s2.heap) (f2 : ∀ b ∈ fp, FpOk X pins H2 b) (w0 : W 0 m0 [] H2) (turn : CompW J W D (blkS own.length cap σ) g tc te)
    (done : ∀ (C L : Addr) (s' : Shared) (H' : Hp) (σ' : St) (ys : List V) (its : List Value) (n : Nat), s2.heap.objs.size ≤ C → s2.heap.objs.size ≤ L → L ≠ C → Inv (blk X scope own cap C s2 H2 fp) [(L, { cls := .type "list", data := .seq its.toArray n })] σ' H' s' → Vals ys its → ys.length ≤ sizeLine → D ys H' →
      RR (.ref L) C (.ok .next) s') :
    wpAny (model X.prog X.w) X.A (newList []) (fun acc s₃ => wpAny (model X.prog X.w) X.A (newFunctionEnv scope X.env.globals (closeL X.env.cells scope.names []) [] X.env.qual none .none (some X.env)) (fun cenv s₄ =>
      codeAny (model X.prog X.w) X.A (.compStart (.ListComp elt [⟨tg, iter, ifs, 0⟩] scope pos) 0 (.ref it) acc { cenv with scope := relabel scope X.env }) (RR acc cenv.locals) s₄) E s₃) E s2 := by
  refine wpAny_newObj_type (wpAny_newFunctionEnv B.nocell (by intro y hy; simp at hy) (fun h₁ hns₁ hsb₁ => ?_) B.kind)
  dsimp only at hns₁ hsb₁ ⊢
  have flt : ∀ b ∈ fp, b < s2.heap.objs.size := fun b hb => by
    obtain ⟨o, e, _⟩ := T.obj _ _ st2 b hb
    exact Heap.lt_size e
  generalize hH2 : s2.heap.push { cls := .type "list", dict := none, data := .seq ([] : List Value).toArray } = G2 at hns₁ hsb₁ ⊢
  have hCs : G2.objs.size = s2.heap.objs.size + 1 := by rw [← hH2, Heap.size_push]
  have hC : s2.heap.objs.size ≤ G2.objs.size := by rw [hCs]; exact Nat.le_succ _
  have hDC : s2.heap.objs.size ≠ G2.objs.size := by rw [hCs]; exact Nat.ne_of_lt (Nat.lt_succ_self _)
  have old : ∀ b o, s2.heap.get? b = some o → h₁.get? b = some o := fun b o e =>
    hsb₁.extBut b o (Nat.ne_of_lt (Nat.lt_of_lt_of_le (Heap.lt_size e) hC)) (Heap.get?_push_of_some _ (hH2 ▸ Heap.get?_push_of_some _ e))
  have hacc : h₁.get? s2.heap.objs.size = some { cls := .type "list", data := .seq ([] : List Value).toArray 0 } := hsb₁.extBut _ _ hDC (Heap.get?_push_of_some _ (hH2 ▸ Heap.get?_push_size _ rfl))
  have loop : ∀ s₃ : Shared, s₃ = { s2 with heap := h₁, toks := s2.toks + ([] : List (Str × Value)).length } →
      codeAny (model X.prog X.w) X.A (.compLoop (.ListComp elt [⟨tg, iter, ifs, 0⟩] scope pos) 0 (.ref it) (.ref s2.heap.objs.size) (compEnvC scope (closeL X.env.cells scope.names []) G2.objs.size X.env))
        (RR (.ref s2.heap.objs.size) G2.objs.size) s₃ := by
    rintro s₃ rfl
    refine compLoop_ok (fun n s' => ∃ i ys its nn H', Inv (blk X scope own cap G2.objs.size s2 H2 fp) [(s2.heap.objs.size, { cls := .type "list", data := .seq (its : List Value).toArray nn })] (blkS own.length cap σ) H' s' ∧ tn i s'.heap ∧ (∀ b ∈ fp, H' b = none) ∧ Vals ys its ∧ W i n ys H')
      ?_ m0 ⟨0, [], [], 0, H2, L3.Inv.enter I2 hc B f2 flt old hC hns₁ _ (fun p hp => ?_), T.keep _ _ _ st2 (fun b _ o e => old b o e), fun b hb => (f2 b hb).1, .nil, w0⟩
    · rintro n s3 ⟨i, ys, its, nn, H3, J3, st3, fr3, rv, w3⟩
      have fpb : ∀ {pl : List (Addr × Obj)} {H' : Hp}, (∀ b ∈ fp, H' b = none) → (∀ p ∈ pl, ∀ b ∈ fp, p.1 ≠ b) → ∀ b ∈ fp, FpOk (blk X scope own cap G2.objs.size s2 H2 fp) pl H' b := fun {pl H'} hn hp b hb =>
        ⟨hn b hb, Nat.ne_of_lt (Nat.lt_of_lt_of_le (flt b hb) hC), fun z => J3.ok.exfs b hb z, .inl hb, fun x c e => (J3.ok.exf b hb).2 x c e, fun p hp' => by
          rcases List.mem_append.mp hp' with z | z
          · exact absurd (show p ∈ ([] : List (Addr × Obj)) from z) (by simp)
          · exact hp p z b hb⟩
      have nD : ∀ (o : Obj), ∀ p ∈ [(s2.heap.objs.size, o)], ∀ b ∈ fp, p.1 ≠ b := fun o p hp b hb => by
        have e : p = (s2.heap.objs.size, o) := by simpa using hp
        subst e
        exact (Nat.ne_of_lt (flt b hb)).symm
      obtain ⟨hz, tr⟩ := turn i n ys H3 w3
      rcases tr with ⟨stop, qD⟩ | ⟨go, N, hN, step⟩
      · refine thn (T.done (blk X scope own cap G2.objs.size s2 H2 fp) rfl rfl rfl rfl i _ s3 _ H3 (fun _ _ => False) J3 (fpb fr3 (nD _)) st3 stop) fun r s4 ⟨hr, J4⟩ => ?_
        subst hr
        exact done _ _ s4 H3 _ ys its nn hC (Nat.le_refl _) hDC J4 rv hz qD
      · refine thn (T.item (blk X scope own cap G2.objs.size s2 H2 fp) rfl rfl rfl rfl i _ s3 _ H3 (fun _ _ => False) J3 (fpb fr3 (nD _)) st3 go) fun r s4 ⟨u, hr, h4⟩ => ?_
        subst hr
        refine thn h4 fun _ s5 ⟨x, H5, J5, r5, y5, st5, fr5⟩ => ?_
        have J5' := J5.pinned (fpb fr5 (nD _)) (T.obj _ _ st5)
        refine thn (hg _ _ _ _ _ s5 _ H5 x u _ J5' r5 (step x H5 y5)) fun _ s6 ⟨σ6, H6, J6, q6⟩ => ?_
        -- a turn's end, the list at L as it stands
        have again : ∀ {pl : List (Addr × Obj)} {its' : List Value} {nn' : Nat} {ys' : List V} {s8 : Shared} {H8 : Hp} {σ8 : St} {m' : Nat}, Inv (blk X scope own cap G2.objs.size s2 H2 fp) ([(s2.heap.objs.size, { cls := .type "list", data := .seq its'.toArray nn' })] ++ pinsAt fp s5.heap) σ8 H8 s8 → Vals ys' its' → m' < n → W (i + 1) m' ys' H8 →
            ∃ m, m < n ∧ ∃ i ys its nn H', Inv (blk X scope own cap G2.objs.size s2 H2 fp) [(s2.heap.objs.size, { cls := .type "list", data := .seq (its : List Value).toArray nn })] (blkS own.length cap σ) H' s8 ∧ tn i s8.heap ∧ (∀ b ∈ fp, H' b = none) ∧ Vals ys its ∧ W i m ys H' := by
          intro pl its' nn' ys' s8 H8 σ8 m' J8 rv' hm w8
          have pin8 : ∀ b ∈ fp, ∀ o, s5.heap.get? b = some o → s8.heap.get? b = some o ∧ H8 b = none := fun b hb o e => by
            have q := J8.pin (b, o) (List.mem_append_right _ (List.mem_append_right _ (mem_pinsAt hb e)))
            exact ⟨q.1, q.2.1⟩
          refine ⟨m', hm, i + 1, ys', its', nn', H8, Inv.again I2 B f2 J8.unpinned, T.keep _ _ _ st5 fun b hb o e => (pin8 b hb o e).1, fun b hb => ?_, rv', w8⟩
          obtain ⟨o, e, _⟩ := T.obj _ _ st5 b hb
          exact (pin8 b hb o e).2
        refine thn (ht _ _ _ _ _ s6 _ H6 _ J6 q6) fun ok s7 ⟨H7, J7, q7⟩ => ?_
        cases ok with
        | false =>
          rw [if_neg Bool.false_ne_true]
          rw [if_neg Bool.false_ne_true] at q7
          obtain ⟨m', hm, w7⟩ := hN _ _ q7
          exact again (pl := []) J7 rv hm w7
        | true =>
          rw [if_pos rfl]
          rw [if_pos rfl] at q7
          refine thn (he _ _ _ _ _ s7 _ H7 _ J7 q7) fun v s8 ⟨y, H8, J8, ry, q8⟩ => ?_
          obtain ⟨m', hm, w8⟩ := hN _ _ q8
          have pL := J8.pin (s2.heap.objs.size, { cls := .type "list", data := .seq its.toArray nn }) (List.mem_append_right _ (List.mem_append_left _ (List.mem_singleton.mpr rfl)))
          refine wpAny_list_append_plain (l := s2.heap.objs.size) (items := its.toArray) ⟨nn, pL.1⟩ (fun h' hp' hsb => ?_) (by rw [List.size_toArray, ← rv.length]; exact hz)
          obtain ⟨nn', hL'⟩ := hp'
          have J9 : Inv (blk X scope own cap G2.objs.size s2 H2 fp) (pinsAt fp s5.heap) σ6 H8 s8 := J8.pins_of fun p hp => J8.pin p (List.mem_append_right _ (List.mem_append_right _ hp))
          have npin : ∀ p ∈ (blk X scope own cap G2.objs.size s2 H2 fp).pn ++ pinsAt fp s5.heap, p.1 ≠ s2.heap.objs.size := fun p hp => by
            rcases List.mem_append.mp hp with z | z
            · exact absurd (show p ∈ ([] : List (Addr × Obj)) from z) (by simp)
            · exact Nat.ne_of_lt (flt _ (of_pinsAt z).1)
          have J10 : Inv (blk X scope own cap G2.objs.size s2 H2 fp) (pinsAt fp s5.heap) σ6 H8 { s8 with heap := h' } := J9.turned (t' := s8.toks) (it := s2.heap.objs.size) (fun b o hb e => (hsb.2 b hb).trans e) pL.2.1 pL.2.2.1 (.inr (Nat.le_refl _))
            (fun x c e z => by
              obtain ⟨v', o', ho', hd'⟩ := J9.cell x c e
              rw [z, pL.1] at ho'; cases ho'; cases hd') npin
          refine again (pl := []) (its' := its ++ [v]) (nn' := nn') (J10.pins_of fun p hp => ?_) (rv.append (.cons ry .nil)) hm w8
          rcases List.mem_append.mp hp with z | z
          · have e : p = (s2.heap.objs.size, { cls := .type "list", data := .seq (its ++ [v]).toArray nn' }) := by simpa using z
            subst e
            refine ⟨?_, pL.2.1, pL.2.2.1, pL.2.2.2.1, fun v' => by intro q; cases q⟩
            rw [hL']
            simp
          · exact J10.pin p (List.mem_append_right _ z)
    · have e : p = (s2.heap.objs.size, { cls := .type "list", data := .seq ([] : List Value).toArray 0 }) := by simpa using hp
      subst e
      exact ⟨hacc, Nat.le_refl _, hDC, fun v' => by intro q; cases q⟩
  exact codeAny_compStart_list (loop _ rfl) (T.self _ 0 _ _ _ (T.keep _ _ _ st2 fun b _ o e => old b o e) (loop _ rfl))

theorem pe_comp (hc : X.calm = true) (hi : PI X tg iter wi) (B : Blk X scope own cap) (hg : ∀ C s H fp, PG (blk X scope own cap C s H fp) tg g) (ht : ∀ C s H fp, PIfs (blk X scope own cap C s H fp) ifs tc) (he : ∀ C s H fp, PE (blk X scope own cap C s H fp) elt te)
    (hs : ∀ x, foldedSetIterable iter X.env x = pure x := by intro _; rfl) : PE X (.ListComp elt [⟨tg, iter, ifs, 0⟩] scope pos) (tComp wi own.length cap g tc te) := by
  intro pins s σ H Q I h
  rw [eval_ListComp]
  refine wpAny_comprehension_free (use := none) rfl hs (closeL_of (B.cells I.ok)) B.kind B.names (thn (hi pins s σ H _ I h) fun v s1 h1 => thn h1 fun itv s2 h2 => ?_)
  obtain ⟨it, fp, tn, J, H2, e, I2, T, st2, f2, W, ⟨m0, w0⟩, turn⟩ := h2
  subst e
  refine comp_block (RR := fun acc C => compPost (model X.prog X.w) X.A X.xe none (EP X pins σ Q) acc C) B hc hg ht he I2 T st2 f2 w0 turn ?_
  intro C L s' H' σ' ys its n hC hL hLC J' rv hz hD
  obtain ⟨m, hn, _⟩ := J'.loc
  have nL := (J'.pin _ (List.mem_append_right _ (List.mem_singleton.mpr rfl))).2.1
  exact ⟨m, hn, fun h' hs' => ⟨.ref L, _, Inv.leave I2 f2 hC hL hLC J' hs' rv hz, rfl, hD L nL⟩⟩

def tCompS (i : Nat) (wi : TI) (own : Nat) (cap : List Nat) (g : TG) (tc : TT) (te : TE) : TS := fun D σ H => tComp wi own cap g tc te σ H fun v H1 => D.nx (σ.set i (some v)) H1
theorem ps_compS {i : Nat} {x : Str} {px spos : Pos} (hc : X.calm = true) (hN : X.N.Nodup) (hi' : X.N[i]? = some x) (hx : Loc X.env.scope x) (hi : PI X tg iter wi) (B : Blk X scope own cap) (hg : ∀ C s H fp, PG (blk X scope own cap C s H fp) tg g)
    (ht : ∀ C s H fp, PIfs (blk X scope own cap C s H fp) ifs tc) (he : ∀ C s H fp, PE (blk X scope own cap C s H fp) elt te)
    (hsw : swapsWith (.ListComp elt [⟨tg, iter, ifs, 0⟩] scope pos) (some (.Name x px)) spos.line X.env = pure true) (hf : X.fn x = true ∨ X.env.scope.names.lookup x = some .local := by first | exact .inl rfl | exact .inr rfl | assumption)
    (hs : ∀ x, foldedSetIterable iter X.env x = pure x := by intro _; rfl) : PS X (.Assign [.Name x px] (.ListComp elt [⟨tg, iter, ifs, 0⟩] scope pos) spos) (tCompS i wi own.length cap g tc te) := by
  intro pins s σ H D I h
  rw [exec_Assign_Name_used _ _ _ _ hsw]
  refine wpAny_bind (wpAny_standAt (wpAny_bind ?_))
  show wpAny _ X.A (do let _ ← comprehension (.ListComp elt [⟨tg, iter, ifs, 0⟩] scope pos) scope X.env _ (newList []) false (eval iter X.env) (some (assign (.Name x px) X.env))) _ _ s
  refine wpAny_bind (thn (wpAny_comprehension_free (use := some (assign (.Name x px) X.env)) (Q := fun _ s' => SP X pins D .next s') rfl hs (closeL_of (B.cells I.ok)) B.kind B.names
    (thn (hi pins s σ H _ I h) fun v s1 h1 => thn h1 fun itv s2 h2 => ?_)) (fun _ s' hq => wpAny_pure (wpAny_pure hq)))
  obtain ⟨it, fp, tn, J, H2, e, I2, T, st2, f2, W, ⟨m0, w0⟩, turn⟩ := h2
  subst e
  refine comp_block (RR := fun acc C => compPost (model X.prog X.w) X.A X.xe (some (assign (.Name x px) X.env)) (fun _ s' => SP X pins D .next s') acc C) B hc hg ht he I2 T st2 f2 w0 turn ?_
  intro C L s' H' σ' ys its n hC hL hLC J' rv hz hD
  obtain ⟨m, hn, _⟩ := J'.loc
  have nL := (J'.pin _ (List.mem_append_right _ (List.mem_singleton.mpr rfl))).2.1
  have I3 := Inv.leave I2 f2 hC hL hLC J' (.refl ..) rv hz
  show wpAny _ X.A (assign (.Name x px) X.env (.ref L)) _ _ s'
  have cL : C ≠ X.env.locals := Ne.symm (Nat.ne_of_lt (Nat.lt_of_lt_of_le I2.lt hC))
  have cc : ∀ y c, X.env.cells.lookup y = some c → c ≠ C := fun y c e => by
    obtain ⟨v, q⟩ := I2.cell y c e
    exact Nat.ne_of_lt (Nat.lt_of_lt_of_le q.lt hC)
  refine wpAny_assign_Name (store_ok2 I3 hN hi' hx (v := .ref L) rfl (fun s4 I4 ⟨a, hsb, ha⟩ => ?_) hf)
  have aC : C ≠ a := by
    rcases ha with rfl | e
    · exact cL
    · exact Ne.symm (cc _ _ e)
  refine ⟨m, hn.sameBut hsb aC, fun h5 hs5 => ⟨_, _, I4.turned (t' := s4.toks) (it := C) (fun b o hb e => (hs5.2 b hb).trans e) (by rw [upd_ne (Ne.symm hLC)]; exact J'.free) cL (.inr (Nat.le_trans I2.sz hC)) cc (fun p hp => ?_), hD L nL⟩⟩
  exact Nat.ne_of_lt (Nat.lt_of_lt_of_le (Heap.lt_size (I2.pin p hp).1) hC)
end
theorem comp_list {K : PySem.W.Frag} {a : Addr} {xs : List V} {g : TG} {tc : TT} {te : TE} {D : List V → Hp → Prop} {σb : St} {H : Hp} (Pv : Nat → List V → Hp → Prop) (h0 : Pv 0 [] H) (hl : ∀ i ys H, i ≤ xs.length → Pv i ys H → SqL K H a xs ∧ ys.length ≤ sizeLine)
    (hs : ∀ i x ys H, xs[i]? = some x → Pv i ys H → g x σb H fun σ2 H2 => tc σ2 H2 fun b H3 => if b = true then te σ2 H3 fun y H4 => Pv (i + 1) (ys ++ [y]) H4 else Pv (i + 1) ys H3) (hd : ∀ ys H, Pv xs.length ys H → D ys H) :
    ∃ W : Nat → Nat → List V → Hp → Prop, (∃ m, W 0 m [] H) ∧ CompW (Itl K a) W D σb g tc te := by
  refine ⟨fun i m ys H => m = xs.length - i ∧ i ≤ xs.length ∧ Pv i ys H, ⟨xs.length, by simp, Nat.zero_le _, h0⟩, ?_⟩
  rintro i m ys H ⟨rfl, hi, p⟩
  obtain ⟨q, hz⟩ := hl i ys H hi p
  refine ⟨hz, ?_⟩
  by_cases hlt : i < xs.length
  · refine .inr ⟨⟨xs, xs[i], q, by simp [hlt]⟩, Pv (i + 1), fun ys' H' p' => ⟨xs.length - (i + 1), by omega, rfl, hlt, p'⟩, fun x H' y => ?_⟩
    obtain ⟨e, y⟩ := y
    subst e
    exact hs i x ys _ (y xs q) p
  · have e : i = xs.length := by omega
    subst e
    exact .inl ⟨⟨xs, q, Nat.le_refl _⟩, hd ys H p⟩
theorem comp_range {lo : Int} {n : Nat} {g : TG} {tc : TT} {te : TE} {D : List V → Hp → Prop} {σb : St} {H : Hp} (Pv : Nat → List V → Hp → Prop) (h0 : Pv 0 [] H) (hl : ∀ i ys H, i ≤ n → Pv i ys H → ys.length ≤ sizeLine)
    (hs : ∀ i ys H, i < n → Pv i ys H → g (.int (lo + i)) σb H fun σ2 H2 => tc σ2 H2 fun b H3 => if b = true then te σ2 H3 fun y H4 => Pv (i + 1) (ys ++ [y]) H4 else Pv (i + 1) ys H3) (hd : ∀ ys H, Pv n ys H → D ys H) :
    ∃ W : Nat → Nat → List V → Hp → Prop, (∃ m, W 0 m [] H) ∧ CompW (Itr lo n) W D σb g tc te := by
  refine ⟨fun i m ys H => m = n - i ∧ i ≤ n ∧ Pv i ys H, ⟨n, by simp, Nat.zero_le _, h0⟩, ?_⟩
  rintro i m ys H ⟨rfl, hi, p⟩
  refine ⟨hl i ys H hi p, ?_⟩
  by_cases hlt : i < n
  · refine .inr ⟨hlt, Pv (i + 1), fun ys' H' p' => ⟨n - (i + 1), by omega, rfl, hlt, p'⟩, fun x H' y => ?_⟩
    obtain ⟨e, y⟩ := y
    subst e y
    exact hs i ys _ hlt p
  · have e : i = n := by omega
    subst e
    exact .inl ⟨Nat.le_refl _, hd ys H p⟩
end L3
namespace L3
open PySem PySem.Spec PyProof.Rows L2

structure GlV (mg : Str → Option Value) (x : Str) (v : V) : Prop where
  ex : ∃ u, mg x = some u ∧ RelV v u
theorem pe_g {X : Cx} {x : Str} {v : V} {pos : Pos} (h : GlV X.mg x v) (hg : Gl X x := by rfl) (hd : (x == ("__debug__" : Str)) = false := by decide) : PE X (.Name x pos) (tC v) := by
  obtain ⟨u, m, r⟩ := h.ex
  exact pe_glob hg m r hd
theorem bt_len : bootBuiltins "len" = some (.builtin "len") := by decide +kernel
theorem bt_isinstance : bootBuiltins "isinstance" = some (.builtin "isinstance") := by decide +kernel
theorem bt_max : bootBuiltins "max" = some (.builtin "max") := by decide +kernel
theorem bt_min : bootBuiltins "min" = some (.builtin "min") := by decide +kernel
theorem bt_all : bootBuiltins "all" = some (.builtin "all") := by decide +kernel
theorem bt_sorted : bootBuiltins "sorted" = some (.builtin "sorted") := by decide +kernel
theorem bt_str : bootBuiltins "str" = some (.type "str") := by decide +kernel
theorem bt_list : bootBuiltins "list" = some (.type "list") := by decide +kernel
theorem bt_tuple : bootBuiltins "tuple" = some (.type "tuple") := by decide +kernel
theorem bt_set : bootBuiltins "set" = some (.type "set") := by decide +kernel
theorem bt_int : bootBuiltins "int" = some (.type "int") := by decide +kernel
theorem bt_bool : bootBuiltins "bool" = some (.type "bool") := by decide +kernel
structure Bt (mg : Str → Option Value) : Prop where
  len : mg "len" = none
  range : mg "range" = none
  isinstance : mg "isinstance" = none
  max : mg "max" = none
  min : mg "min" = none
  all : mg "all" = none
  any : mg "any" = none
  sorted : mg "sorted" = none
  sum : mg "sum" = none
  int_ : mg "int" = none
  bool_ : mg "bool" = none
  str_ : mg "str" = none
  list_ : mg "list" = none
  tuple_ : mg "tuple" = none
  dict_ : mg "dict" = none
  set_ : mg "set" = none
  zip_ : mg "zip" = none
  ValueError_ : mg "ValueError" = none

section
variable {X : Cx}
def CDivB (_ j : Int) : Prop := 0 < j ∧ j < 2 ^ 250
def CMulB (i j : Int) : Prop := (-(2 ^ 250) < i ∧ i < 2 ^ 250) ∧ (-(2 ^ 250) < j ∧ j < 2 ^ 250)
theorem log2_lt {n k : Nat} (h : n < 2 ^ k) (hk : 0 < k) : n.log2 < k := by
  by_cases h0 : n = 0
  · subst h0; simpa using hk
  · exact (Nat.log2_lt h0).mpr h
theorem op_fdivB : OpR X (binaryOp .FloorDiv) (rI CDivB fun i j => .int (i / j)) := opI fun i j t u A s Q hc q => by
  have e : i.fdiv j = i / j := Int.fdiv_eq_ediv_of_nonneg _ (Int.le_of_lt hc.1)
  refine floordiv_int (by have := hc.1; omega) (by rw [e]; exact q) (.inl (PyProof.noPylong_of_log2 ?_))
  refine Nat.lt_of_lt_of_le (log2_lt (k := 250) ?_ (by decide)) (by decide)
  have h1 := hc.1
  have h2 := hc.2
  have e2 : ((2 : Int) ^ 250) = ((2 ^ 250 : Nat) : Int) := by norm_cast
  rw [e2] at h2
  omega
theorem op_mulB : OpR X (binaryOp .Mult) (rI CMulB fun i j => .int (i * j)) := opI fun i j t u A s Q hc q => by
  have bits : ∀ {k : Int}, -(2 ^ 250) < k → k < 2 ^ 250 → Builtin.Int.intBits k ≤ 2 ^ 20 := fun {k} h1 h2 => by
    have e2 : ((2 : Int) ^ 250) = ((2 ^ 250 : Nat) : Int) := by norm_cast
    rw [e2] at h1 h2
    have h3 : k.natAbs < 2 ^ 250 := by omega
    have h4 := log2_lt h3 (by decide)
    unfold Builtin.Int.intBits
    split
    · exact Nat.zero_le _
    · exact Nat.le_trans (Nat.succ_le_succ (Nat.le_of_lt h4)) (by decide)
  exact mul_int q (IntMulOk.of_bits (bits hc.1.1 hc.1.2) (bits hc.2.1 hc.2.2))

theorem op_mulStr : OpR X (binaryOp .Mult) (fun x y H Q => ∃ z n, x = .str z ∧ y = .int n ∧ z.length ≤ 1000 ∧ -1000 ≤ n ∧ n ≤ 10000 ∧ Q (.str (Txt.mul z n)) H) := by
  intro pins s σ H x y v u Q I rx ry h
  obtain ⟨z, n, rfl, rfl, h1, h2, h3, q⟩ := h
  obtain ⟨t, rfl⟩ := rx
  obtain ⟨t', rfl⟩ := ry
  exact SB.mul (mulOk_of 1000 10000 h1 (by omega) (by omega) (by decide) (by decide)) fun t' k => ⟨.str _, H, I.tok _, ⟨_, rfl⟩, q⟩
theorem strs_of : ∀ {ys : List Str} {us : List Value}, Vals (ys.map V.str) us → StrsAre us ys
  | [], _, .nil => .nil
  | y :: ys, _, .cons r t => by
    obtain ⟨tk, rfl⟩ := r
    exact .cons y tk (strs_of t)
theorem mt_str_join : MtR X "str.join" (fun x xs H Q => ∃ z p ys, x = .str z ∧ xs = [.ref p] ∧ SqL X.K H p (ys.map V.str) ∧ (ys.map (·.length)).sum + ys.length * z.length ≤ 16777216 ∧ Q (.str (Txt.join z ys)) H) := by
  intro pins s σ H x xs v us Q I rx rs h
  obtain ⟨z, p, ys, rfl, rfl, hq, hz, q⟩ := h
  obtain ⟨t, rfl⟩ := rx
  obtain ⟨u, rfl, ru⟩ := vals1 rs
  cases ru
  obtain ⟨its, r, pl, _⟩ := I.list hq
  exact join_list pl.isList (by simpa using strs_of r) hz fun t' k => ⟨.str _, H, I.tok _, ⟨_, rfl⟩, q⟩

def rIsi (K : PySem.W.Frag) : List V → Hp → VK → Prop := fun xs H Q => ∃ x c t b, xs = [x, c] ∧ TyOf K H x t ∧ ((∃ T, c = .ty T ∧ PySem.W.kitOne K t (.type T) = some b) ∨ ∃ C, c = .ref C ∧ PySem.W.kitOne K t (.ref C) = some b) ∧ Q (.bl b) H
theorem call_isi : CallR X (.builtin "isinstance") (rIsi X.K) := by
  intro pins s σ H xs us Q I r h
  obtain ⟨x, c, t, b, rfl, ty, e, q⟩ := h
  obtain ⟨u, w', rfl, rx, rc⟩ := vals2 r
  rcases e with ⟨T, rfl, e⟩ | ⟨C, rfl, e⟩
  · cases (show w' = Value.type T from rc)
    exact isinst_ok I rx ty e fun tk => ⟨.bl b, H, I.tok _, rfl, q⟩
  · cases (show w' = Value.ref C from rc)
    exact isinst_ok I rx ty e fun tk => ⟨.bl b, H, I.tok _, rfl, q⟩
theorem pe_isi {e : Expr} {te : TE} {c : Str} {T : String} {p p' pos : Pos} (hm : X.mg "isinstance" = none) (hc : X.mg c = none) (hv : bootBuiltins c = some (.type T)) (he : PE X e te) (hg : Gl X "isinstance" := by rfl) (hg' : Gl X c := by rfl) (hn : c ≠ "__name__" := by decide) (hd : (c == ("__debug__" : Str)) = false := by decide)
    (hs : starEach [e, .Name c p'] X.env = (false, eval e X.env) :: starEach [.Name c p'] X.env := by rfl) (hs2 : starEach [.Name c p'] X.env = (false, eval (.Name c p') X.env) :: starEach [] X.env := by rfl) (hpl : (backTo pos (starEach [.Name c p'] X.env)).any (·.1) = false := by rfl) :
    PE X (.Call (.Name "isinstance" p) [e, .Name c p'] [] pos) (tCB (rIsi X.K) (tCons te (tCons (tC (.ty T)) tNil))) :=
  pe_callB call_isi hg hm bt_isinstance (pa_cons he (pa_cons (pe_bltn hg' hc hv rfl hn hd) pa_nil hs2) hs) (by decide) (by decide) hs hpl
end

def blkOk (names : List (Str × NameKind)) (N : List Str) (scope : Scope) (own : List Str) (cap : List Nat) : Bool :=
  scope.names.all (fun y => y.2 != .cell && (y.2 != .local || scope.names.lookup y.1 == some .local) && (y.2 != .free || names.lookup y.1 == some .cell)) &&
  decide (blkN N own cap).Nodup &&
  cap.all (fun j => match N[j]? with | some x => scope.names.any (fun y => y.1 == x && y.2 == .free) && scope.names.lookup x == some .free | none => false)
theorem blk_of {X : Cx} {scope : Scope} {own : List Str} {cap : List Nat} (names : List (Str × NameKind)) (N : List Str) (hn : X.env.scope.names = names) (hN : X.N = N) (hk : scope.kind = .function) (h : blkOk names N scope own cap = true) : Blk X scope own cap := by
  unfold blkOk at h
  simp only [Bool.and_eq_true, List.all_eq_true, decide_eq_true_eq] at h
  obtain ⟨⟨h1, h2⟩, h3⟩ := h
  refine ⟨hk, fun y hy e => ?_, fun y hy e => ?_, fun y hy e => ?_, by rw [hN]; exact h2, fun j hj => ?_⟩
  · have := (h1 y hy).1.1
    rw [e] at this; exact absurd this (by decide)
  · have := (h1 y hy).1.2
    rw [e] at this; simpa using this
  · have := (h1 y hy).2
    rw [e] at this
    show X.env.scope.names.lookup y.1 = some .cell
    rw [hn]
    simpa using this
  · have := h3 j hj
    rw [hN]
    split at this
    · rename_i x e
      simp only [Bool.and_eq_true, List.any_eq_true, beq_iff_eq] at this
      obtain ⟨⟨y, hy, e1, e2⟩, e3⟩ := this
      obtain ⟨y1, y2⟩ := y
      dsimp only at e1 e2
      subst e1 e2
      exact ⟨_, e, hy, e3⟩
    · cases this
structure Mak (P : Program) (w : World) (K : PySem.W.Frag) (mg : Str → Option Value) (base : Heap) (CX : CXT) (x : Str) (C : Addr) (k : Nat) (ps : List Str) (sp : Sp) : Prop where
  ex : ∃ f fd, Mk K C f ∧ FnOk P w K mg base CX k f fd ps sp ∧ Binds K fd ps [] ∧ mg x = some (.ref C)
structure CDat (K : PySem.W.Frag) (mg : Str → Option Value) (x qual : Str) (C : Addr) (st : Stmt) (ps : List Str) : Prop where
  ex : ∃ f fd, Fun K "__init__" qual st f fd ∧ Binds K fd ps [] ∧ mg x = some (.ref C) ∧ Mk K C f ∧ Cls K C
structure MDat (K : PySem.W.Frag) (C : Addr) (x qual : Str) (st : Stmt) (ps : List Str) : Prop where
  ex : ∃ f fd, Fun K x qual st f fd ∧ Binds K fd ps [] ∧ Meth K C x f ∧ Cls K C
section
variable {P : Program} {w : World} {K : PySem.W.Frag} {mg : Str → Option Value} {base : Heap} {CX : CXT} {x qual : Str} {C : Addr} {st : Stmt} {N ps : List Str} {k j : Nat} {sp sp' : Sp}
theorem CDat.ok (D : CDat K mg x qual C st ps) (S : FnScope N ps (defScope st)) (len : ∀ vs H Q E, sp vs H Q E → vs.length = ps.length)
    (hbody : ∀ (f : Addr) (cdv : Value) (A : Around) (outer : List Env) (s : Shared) (H : Hp) (vs : List V) (Q : VK) (E : XK), Room k (A.deeper (envOfC qual (defScope st) s.heap.objs.size f cdv)) → sp vs H Q E →
      ∃ t, PSs (cxOf CX P w K mg base N qual (defScope st) f cdv A outer s H E).nox (defBody st) t ∧ t { nx := fun _ H' => Q .non H', rt := Q } (start N vs) H) : Mak P w K mg base CX x C (k + 1) ps sp := by
  obtain ⟨f, fd, F, b, m, M, _⟩ := D.ex
  exact ⟨f, fd, M, fun_ok F S len hbody, b, m⟩
theorem CDat.cls (D : CDat K mg x qual C st ps) : Cls K C := D.ex.elim fun _ h => h.elim fun _ h => h.2.2.2.2
theorem cdat_mk {h : Heap} (X : K.In h) (G : h.Ns mainGlobals mg) {f : Addr} {oc : Value} {od an : Option Addr} {osl : Array (Option Value)} {kV doc pm cdv ct : Value} (aC : PySem.W.nsIn K mainGlobals x = some (some (.ref C)))
    (a : PySem.W.findIn K (.ref C) "__init__" = some (some (.ref f))) (i : PySem.W.isFn K (.ref f) = true)
    (l : K.lookup f = some ⟨oc, od, .func (PySem.W.fnOf "__init__" qual (defArgs st) (defBody st) (defScope st) .none kV doc pm an cdv ct), osl⟩) (c : PySem.W.codeIn K cdv qual = true) (kp : PySem.W.keepIn K (.ref f) = true)
    (pg : PySem.W.plainGet K C Str.empty = true) (hd : PySem.W.hasDictIn K C = true) (po : PySem.W.plainOver K C = true) (sa : PySem.W.findIn K (.ref C) "__setattr__" = some (some (.builtin "object.__setattr__"))) (mk : PySem.W.makesIn K C = true) (kc : PySem.W.keepIn K (.ref C) = true)
    (b : ∀ (kV doc pm : Value) (an : Option Addr) (cdv ct : Value) (us : List Value), us.length = ps.length → bindArgs (PySem.W.fnOf "__init__" qual (defArgs st) (defBody st) (defScope st) .none kV doc pm an cdv ct) ⟨us, []⟩ = pure (ps.zip us)) : CDat K mg x qual C st ps := by
  have F := fun_mk (st := st) l c kp
  exact ⟨f, _, F, F.binds b, PySem.W.mg_of X G aC, ⟨mk, a, i, kc⟩, ⟨pg, hd, po, sa⟩⟩
end
section
variable {X : Cx} {CX : CXT} {k : Nat} {ps : List Str} {sp : Sp} {E : XK} {x : Str} {C : Addr} {p pos : Pos} {e : Expr} {es : List Expr} {t : TA}
theorem pe_mk (M : Mak X.prog X.w X.K X.mg X.base CX x C k ps sp) (hr : Room (k + 1) X.A) (hx : Passes CX X E) (ha : PA X (e :: es) t) (hg : Gl X x := by rfl)
    (hdb : (x == ("__debug__" : Str)) = false := by decide) (he : starEach (e :: es) X.env = (false, eval e X.env) :: starEach es X.env := by rfl) (hpl : (backTo pos (starEach es X.env)).any (·.1) = false := by rfl) :
    PE X (.Call (.Name x p) (e :: es) [] pos) (tMake C sp [] E t) := by
  obtain ⟨f, fd, m, F, b, g⟩ := M.ex
  exact pe_make m F hr hg g b .nil hx ha hdb he hpl
end
end L3
namespace L4
open PySem PySem.Spec PyProof.Rows L2 L3

def TSame (H H' : Hp) : Prop := ∀ q xs, H q = some (.tup xs) → H' q = some (.tup xs)
theorem TSame.trans {H H1 H2 : Hp} (a : TSame H H1) (b : TSame H1 H2) : TSame H H2 := fun q xs h => b q xs (a q xs h)
theorem ts_of_same {H H' : Hp} (s : Same H H') : TSame H H' := fun q _ h => s q _ h
theorem ts_upd {H : Hp} {p : Addr} {o u : HO} (h : H p = some u) (n : ∀ xs, u ≠ .tup xs) : TSame H (upd H p o) := fun q xs e => by
  have : q ≠ p := fun z => by subst z; rw [h] at e; exact n xs (Option.some.inj e)
  rw [upd_ne this]; exact e
structure Ob where
  p : Hp → HO → Prop
  mono : ∀ {H H' : Hp} {o : HO}, TSame H H' → p H o → p H' o
def Eo (o : HO) : Ob := ⟨fun _ u => u = o, fun _ h => h⟩
structure Pr where
  p : Hp → Prop
  mono : ∀ {H H' : Hp}, TSame H H' → p H → p H'
def tupAt (r : Addr) (xs : List V) : Pr := ⟨fun H => H r = some (.tup xs), fun t h => t _ _ h⟩

structure Led (P : Addr → Prop) (H0 H : Hp) (l : List (Addr × Ob)) (fs : List Pr) : Prop where
  at_ : ∀ x ∈ l, ∃ o, H x.1 = some o ∧ x.2.p H o
  nd : (l.map (·.1)).Nodup
  own : ∀ x ∈ l, P x.1 ∨ H0 x.1 = none
  fr : ∀ q o, H0 q = some o → ¬ P q → H q = some o
  st : ∀ f ∈ fs, f.p H
inductive Put (p : Addr) (a b : Ob) : List (Addr × Ob) → List (Addr × Ob) → Prop
  | head {l} : Put p a b ((p, a) :: l) ((p, b) :: l)
  | tail {x l l'} : Put p a b l l' → Put p a b (x :: l) (x :: l')
section
variable {P : Addr → Prop} {H0 H H' : Hp} {l l' : List (Addr × Ob)} {fs : List Pr} {p : Addr} {a b : Ob} {o : HO}
theorem Put.mem (h : Put p a b l l') : (p, a) ∈ l := by
  induction h with
  | head => exact List.mem_cons_self
  | tail _ ih => exact List.mem_cons_of_mem _ ih
theorem Put.keys (h : Put p a b l l') : l'.map (·.1) = l.map (·.1) := by
  induction h with
  | head => rfl
  | tail _ ih => rw [List.map_cons, List.map_cons, ih]
theorem Put.or (h : Put p a b l l') : ∀ x ∈ l', x = (p, b) ∨ x ∈ l := by
  induction h with
  | head =>
    intro x hx
    rcases List.mem_cons.mp hx with e | e
    · exact .inl e
    · exact .inr (List.mem_cons_of_mem _ e)
  | tail _ ih =>
    intro x hx
    rcases List.mem_cons.mp hx with e | e
    · exact .inr (by rw [e]; exact List.mem_cons_self)
    · exact (ih x e).imp_right (List.mem_cons_of_mem _)
theorem nd_one : ∀ {l : List (Addr × Ob)}, (l.map (·.1)).Nodup → ∀ {x y}, x ∈ l → y ∈ l → x.1 = y.1 → x = y
  | [], _, _, _, hx, _, _ => by simp at hx
  | z :: l, hn, x, y, hx, hy, e => by
    rw [List.map_cons, List.nodup_cons] at hn
    rcases List.mem_cons.mp hx with e1 | h1
    · rcases List.mem_cons.mp hy with e2 | h2
      · rw [e1, e2]
      · exact absurd (show z.1 ∈ l.map (·.1) from List.mem_map.mpr ⟨y, h2, by rw [← e1]; exact e.symm⟩) hn.1
    · rcases List.mem_cons.mp hy with e2 | h2
      · exact absurd (show z.1 ∈ l.map (·.1) from List.mem_map.mpr ⟨x, h1, by rw [← e2]; exact e⟩) hn.1
      · exact nd_one hn.2 h1 h2 e
theorem Put.or' (h : Put p a b l l') (nd : (l.map (·.1)).Nodup) : ∀ x ∈ l', x = (p, b) ∨ (x ∈ l ∧ x.1 ≠ p) := by
  intro x hx
  have nd' : (l'.map (·.1)).Nodup := by rw [h.keys]; exact nd
  have hb : (p, b) ∈ l' := by
    clear nd nd' hx
    induction h with
    | head => exact List.mem_cons_self
    | tail _ ih => exact List.mem_cons_of_mem _ ih
  by_cases e : x.1 = p
  · exact .inl (nd_one nd' hx hb e)
  · rcases h.or x hx with z | z
    · exact .inl z
    · exact .inr ⟨z, e⟩
theorem Led.get (L : Led P H0 H l fs) (m : Put p a a l l') : ∃ o, H p = some o ∧ a.p H o := L.at_ _ m.mem
theorem Led.eo (L : Led P H0 H l fs) (m : Put p (Eo o) (Eo o) l l') : H p = some o := by
  obtain ⟨u, e, h⟩ := L.get m
  have : u = o := h
  rw [← this]; exact e
theorem Led.tup (L : Led P H0 H l fs) {r : Addr} {xs : List V} (m : tupAt r xs ∈ fs) : H r = some (.tup xs) := L.st _ m
theorem Led.more (L : Led P H0 H l fs) (f : Pr) (h : f.p H) : Led P H0 H l (f :: fs) :=
  ⟨L.at_, L.nd, L.own, L.fr, fun g hg => (List.mem_cons.mp hg).elim (fun e => e ▸ h) (L.st g)⟩
theorem Led.start (H : Hp) (P : Addr → Prop) : Led P H H [] [] := ⟨fun _ h => by simp at h, List.nodup_nil, fun _ h => by simp at h, fun _ _ h _ => h, fun _ h => by simp at h⟩
theorem Led.same (L : Led (fun _ => False) H0 H l fs) : Same H0 H := fun q o h => L.fr q o h id
theorem Led.keep (L : Led P H0 H l fs) (s : Same H H') : Led P H0 H' l fs :=
  ⟨fun x hx => let ⟨o, e, h⟩ := L.at_ x hx; ⟨o, s _ _ e, x.2.mono (ts_of_same s) h⟩, L.nd, L.own, fun q o h n => s _ _ (L.fr q o h n), fun f hf => f.mono (ts_of_same s) (L.st f hf)⟩
theorem Led.fresh (L : Led P H0 H l fs) (h : H p = none) : (∀ x ∈ l, x.1 ≠ p) ∧ (P p ∨ H0 p = none) := by
  refine ⟨fun x hx e => ?_, ?_⟩
  · obtain ⟨o, q, _⟩ := L.at_ x hx
    rw [e, h] at q; cases q
  · by_cases hp : P p
    · exact .inl hp
    · cases q : H0 p with
      | none => exact .inr rfl
      | some o => rw [L.fr p o q hp] at h; cases h
theorem same_upd0 (h : H p = none) : Same H (upd H p o) := fun b u q => by rw [upd_ne (ne_of_none q h)]; exact q
theorem Led.newT (L : Led P H0 H l fs) {xs : List V} (h : H p = none) : Led P H0 (upd H p (.tup xs)) l (tupAt p xs :: fs) := (L.keep (same_upd0 h)).more _ upd_same
theorem Led.newO (L : Led P H0 H l fs) (h : H p = none) (ho : a.p (upd H p o) o) : Led P H0 (upd H p o) ((p, a) :: l) fs := by
  have K := L.keep (same_upd0 (o := o) h)
  obtain ⟨f1, f2⟩ := L.fresh h
  refine ⟨fun x hx => ?_, ?_, fun x hx => ?_, K.fr, K.st⟩
  · rcases List.mem_cons.mp hx with rfl | hx
    · exact ⟨o, upd_same, ho⟩
    · exact K.at_ x hx
  · rw [List.map_cons, List.nodup_cons]
    refine ⟨fun z => ?_, L.nd⟩
    obtain ⟨x, hx, e⟩ := List.mem_map.mp z
    exact f1 x hx e
  · rcases List.mem_cons.mp hx with rfl | hx
    · exact f2
    · exact L.own x hx
structure Chg (p : Addr) (H H' : Hp) : Prop where
  oth : ∀ q o, H q = some o → q ≠ p → H' q = some o
  ts : TSame H H'
theorem Chg.upd {u : HO} (h : H p = some u) (n : ∀ xs, u ≠ .tup xs) : Chg p H (upd H p o) := ⟨fun q o e z => by rw [upd_ne z]; exact e, ts_upd h n⟩
theorem Chg.trans {H1 : Hp} (x : Chg p H H1) (y : Chg p H1 H') : Chg p H H' := ⟨fun q o e n => y.oth q o (x.oth q o e n) n, x.ts.trans y.ts⟩
theorem Led.set (L : Led P H0 H l fs) (m : Put p a b l l') (c : Chg p H H') (ho : ∃ o, H' p = some o ∧ b.p H' o) : Led P H0 H' l' fs := by
  have own := L.own _ m.mem
  refine ⟨fun x hx => ?_, by rw [m.keys]; exact L.nd, fun x hx => ?_, fun q o h n => ?_, fun f hf => f.mono c.ts (L.st f hf)⟩
  · rcases m.or' L.nd x hx with rfl | ⟨hx, n⟩
    · exact ho
    · obtain ⟨u, e, h⟩ := L.at_ x hx
      exact ⟨u, c.oth _ _ e n, x.2.mono c.ts h⟩
  · rcases m.or x hx with rfl | hx
    · exact own
    · exact L.own x hx
  · have : q ≠ p := fun z => by
      subst z
      rcases own with h1 | h1
      · exact n h1
      · rw [h] at h1; cases h1
    exact c.oth _ _ (L.fr q o h n) this
theorem Led.add (L : Led P H0 H l fs) (s : Same H H') (n : H p = none) (ho : ∃ o, H' p = some o ∧ a.p H' o) : Led P H0 H' ((p, a) :: l) fs := by
  have K := L.keep s
  obtain ⟨f1, f2⟩ := L.fresh n
  refine ⟨fun x hx => ?_, ?_, fun x hx => ?_, K.fr, K.st⟩
  · rcases List.mem_cons.mp hx with rfl | hx
    · exact ho
    · exact K.at_ x hx
  · rw [List.map_cons, List.nodup_cons]
    refine ⟨fun z => ?_, L.nd⟩
    obtain ⟨x, hx, e⟩ := List.mem_map.mp z
    exact f1 x hx e
  · rcases List.mem_cons.mp hx with rfl | hx
    · exact f2
    · exact L.own x hx
end
end L4
namespace L4
open PySem PySem.Spec PyProof.Rows L2 L3
abbrev St := L2.St

def rMulS : R2 := fun x y H Q => ∃ z n, x = .str z ∧ y = .int n ∧ z.length ≤ 1000 ∧ -1000 ≤ n ∧ n ≤ 10000 ∧ Q (.str (Txt.mul z n)) H
abbrev RL := List V → Hp → VK → Prop
def rMax : RL := fun xs H Q => ∃ i j, xs = [.int i, .int j] ∧ Q (.int (if j > i then j else i)) H
def rMin : RL := fun xs H Q => ∃ i j, xs = [.int i, .int j] ∧ Q (.int (if j < i then j else i)) H
def rLen (K : PySem.W.Frag) : RL := fun xs H Q => ∃ p ys, xs = [.ref p] ∧ (SqL K H p ys ∨ SqT K H p ys) ∧ Q (.int ys.length) H
def rListOf (K : PySem.W.Frag) : RL := fun xs H Q => ∃ p ys, xs = [.ref p] ∧ (SqL K H p ys ∨ SqT K H p ys) ∧ ∀ l, H l = none → Q (.ref l) (upd H l (.lst ys))
def rTupOf (K : PySem.W.Frag) : RL := fun xs H Q => ∃ p ys, xs = [.ref p] ∧ ((SqL K H p ys ∧ ∀ l, H l = none → Q (.ref l) (upd H l (.tup ys))) ∨ (SqT K H p ys ∧ Q (.ref p) H))
def rJoin (K : PySem.W.Frag) : V → List V → Hp → VK → Prop := fun x xs H Q => ∃ z p ys, x = .str z ∧ xs = [.ref p] ∧ SqL K H p (ys.map V.str) ∧ (ys.map (·.length)).sum + ys.length * z.length ≤ 16777216 ∧ Q (.str (Txt.join z ys)) H
section
variable {X : Cx}
theorem o_mulS : OpR X (binaryOp .Mult) rMulS := op_mulStr
theorem c_max (hc : X.calm = true) : CallR X (.builtin "max") rMax := call_max2 hc
theorem c_min (hc : X.calm = true) : CallR X (.builtin "min") rMin := call_min2 hc
theorem c_len : CallR X (.builtin "len") (rLen X.K) := call_len_seq
theorem c_listOf : CallR X (.type "list") (rListOf X.K) := call_list_of
theorem c_tupOf : CallR X (.type "tuple") (rTupOf X.K) := call_tuple_of
theorem m_join : MtR X "str.join" (rJoin X.K) := mt_str_join
end
def NewT (xs : List V) (H : Hp) (Q : VK) : Prop := xs.length ≤ sizeLine ∧ ∀ p, H p = none → Q (.ref p) (upd H p (.tup xs))
def NewL (xs : List V) (H : Hp) (Q : VK) : Prop := xs.length ≤ sizeLine ∧ ∀ p, H p = none → Q (.ref p) (upd H p (.lst xs))
def IsB (x : V) (H : Hp) (Q : Bool → Hp → Prop) : Prop := ∃ k, x = .bl k ∧ Q k H
def Fld (K : PySem.W.Frag) (f : Str) (x : V) (H : Hp) (Q : VK) : Prop := ∃ a C dx fs v, x = .ref a ∧ H a = some (.ins C dx fs) ∧ Cls K C ∧ NoAttr K C f ∧ fs.lookup f = some v ∧ Q v H
section
variable {K : PySem.W.Frag} {σ : St} {H : Hp} {Q : VK} {D : Ends} {t u : TS} {ta tb te : TE} {tt tt' : TT} {tl : TA} {v x y : V} {i : Nat} {B : Bool → Hp → Prop}
-- statements
theorem g_seq (h : t { D with nx := u D } σ H) : tSeq t u D σ H := h
theorem g_next (h : D.nx σ H) : tNext D σ H := h
theorem g_asg {g : TG} (h : te σ H fun x H1 => g x σ H1 D.nx) : tAsg te g D σ H := h
theorem g_drop (h : te σ H fun _ H1 => D.nx σ H1) : tDrop te D σ H := h
theorem g_ret (h : te σ H D.rt) : tRet te D σ H := h
theorem g_if (h : tt σ H fun b H1 => if b = true then t D σ H1 else u D σ H1) : tIfS tt t u D σ H := h
-- expressions
theorem g_var (e : σ[i]? = some (some v)) (h : Q v H) : tVar i σ H Q := ⟨v, e, h⟩
theorem g_c (h : Q v H) : tC v σ H Q := h
theorem g_op {r : R2} (h : ta σ H fun x H1 => tb σ H1 fun y H2 => r x y H2 Q) : tOp r ta tb σ H Q := h
theorem g_un {r : V → Hp → VK → Prop} (h : ta σ H fun x H1 => r x H1 Q) : tUn r ta σ H Q := h
theorem g_ifE (h : tt σ H fun c H1 => if c = true then ta σ H1 Q else tb σ H1 Q) : tIf tt ta tb σ H Q := h
theorem g_andV (h : ta σ H fun x H1 => IsB x H1 fun c H1 => if c = true then tb σ H1 Q else Q (.bl false) H1) : tAndV ta tb σ H Q := h
theorem g_notV (h : ta σ H fun x H1 => IsB x H1 fun c H1 => Q (.bl (!c)) H1) : tNotV ta σ H Q := h
theorem g_isN (h : ta σ H fun x H1 => Q (.bl (decide (x = .non))) H1) : tIsN ta σ H Q := h
theorem g_notN (h : ta σ H fun x H1 => Q (.bl (!decide (x = .non))) H1) : tNotN ta σ H Q := h
theorem g_tup (h : tl σ H fun xs H1 => NewT xs H1 Q) : tTup tl σ H Q := h
theorem g_lst (h : tl σ H fun xs H1 => NewL xs H1 Q) : tLst tl σ H Q := h
theorem g_nil {W : List V → Hp → Prop} (h : W [] H) : tNil σ H W := h
theorem g_cons {W : List V → Hp → Prop} (h : te σ H fun x H1 => tl σ H1 fun xs H2 => W (x :: xs) H2) : tCons te tl σ H W := h
theorem g_cb {r : List V → Hp → VK → Prop} (h : tl σ H fun vs H1 => r vs H1 Q) : tCB r tl σ H Q := h
theorem g_call {sp : Sp} {E : XK} (h : tl σ H fun vs H1 => sp vs H1 Q E) : tCall sp [] E tl σ H Q := by
  have e : (fun (vs : List V) H1 => sp (vs ++ []) H1 Q E) = fun vs H1 => sp vs H1 Q E := by funext vs H1; rw [List.append_nil]
  show tl σ H (fun vs H1 => sp (vs ++ []) H1 Q E)
  rw [e]; exact h
def Made (C : Addr) (sp : Sp) (E : XK) (vs : List V) (H : Hp) (Q : VK) : Prop := ∀ x dx, H x = none → H dx = none → dx ≠ x → sp (.ref x :: vs) (upd (upd H dx (.own x)) x (.ins C dx [])) (fun v H2 => v = .non ∧ Q (.ref x) H2) E
theorem g_make {C : Addr} {sp : Sp} {E : XK} (h : tl σ H fun vs H1 => Made C sp E vs H1 Q) : tMake C sp [] E tl σ H Q := by
  have e : (fun (vs : List V) H1 => ∀ x dx, H1 x = none → H1 dx = none → dx ≠ x → sp (.ref x :: (vs ++ [])) (upd (upd H1 dx (.own x)) x (.ins C dx [])) (fun v H2 => v = .non ∧ Q (.ref x) H2) E) = fun vs H1 => Made C sp E vs H1 Q := by
    funext vs H1; rw [List.append_nil]; rfl
  show tl σ H (fun vs H1 => ∀ x dx, H1 x = none → H1 dx = none → dx ≠ x → sp (.ref x :: (vs ++ [])) (upd (upd H1 dx (.own x)) x (.ins C dx [])) (fun v H2 => v = .non ∧ Q (.ref x) H2) E)
  rw [e]; exact h
def SFld (K : PySem.W.Frag) (f : Str) (y x : V) (H : Hp) (R : Hp → Prop) : Prop := ∃ a C dx fs, x = .ref a ∧ H a = some (.ins C dx fs) ∧ Cls K C ∧ NoAttr K C f ∧ fs.length < 1000 ∧ R (upd H a (.ins C dx (putF f y fs)))
theorem g_sfld {f : Str} (h : tb σ H fun y H1 => ta σ H1 fun x H2 => SFld K f y x H2 fun H3 => D.nx σ H3) : sFld K ta tb f D σ H := h
theorem g_fld {f : Str} (h : ta σ H fun x H1 => Fld K f x H1 Q) : tFld K ta f σ H Q := h
theorem g_bm {T : String} {r : V → List V → Hp → VK → Prop} (h : ta σ H fun x H1 => tyV K T x H1 ∧ tl σ H1 fun xs H2 => r x xs H2 Q) : tBM K T r ta tl σ H Q := h
theorem g_bm0 {T : String} {r : V → List V → Hp → VK → Prop} (h : ta σ H fun x H1 => tyV K T x H1 ∧ r x [] H1 Q) : tBM0 K T r ta σ H Q := h
-- tests
theorem g_b (h : te σ H fun x H1 => IsB x H1 B) : tB te σ H B := h
theorem g_test (h : te σ H fun x H1 => IsB x H1 B) : tTest te σ H B := h
theorem g_and (h : tt σ H fun c H1 => if c = true then tt' σ H1 B else B false H1) : tAnd tt tt' σ H B := h
theorem g_or (h : tt σ H fun c H1 => if c = true then B true H1 else tt' σ H1 B) : tOr tt tt' σ H B := h
theorem g_not (h : tt σ H fun c H1 => B (!c) H1) : tNot tt σ H B := h
theorem g_isB {k : Bool} (h : B k H) : IsB (.bl k) H B := ⟨k, rfl, h⟩
-- values
theorem g_rI0 {g : Int → Int → V} {i j : Int} (h : Q (g i j) H) : rI0 g (.int i) (.int j) H Q := ⟨i, j, rfl, rfl, h⟩
theorem g_rI {C : Int → Int → Prop} {g : Int → Int → V} {i j : Int} (c : C i j) (h : Q (g i j) H) : rI C g (.int i) (.int j) H Q := ⟨i, j, rfl, rfl, c, h⟩
theorem g_rU {g : Int → V} {i : Int} (h : Q (g i) H) : rU g (.int i) H Q := ⟨i, rfl, h⟩
theorem g_eqI {i j : Int} (h : Q (.bl (decide (i = j))) H) : rEq (.int i) (.int j) H Q := ⟨rfl, by
  have e : decide (V.int i = V.int j) = decide (i = j) := by
    by_cases z : i = j
    · subst z; simp
    · rw [decide_eq_false z, decide_eq_false fun w => z (V.int.inj w)]
  rw [e]; exact h⟩
theorem g_eqS {i j : Str} (h : Q (.bl (decide (i = j))) H) : rEq (.str i) (.str j) H Q := ⟨rfl, by
  have e : decide (V.str i = V.str j) = decide (i = j) := by
    by_cases z : i = j
    · subst z; simp
    · rw [decide_eq_false z, decide_eq_false fun w => z (V.str.inj w)]
  rw [e]; exact h⟩
theorem g_eqB {i j : Bool} (h : Q (.bl (decide (i = j))) H) : rEq (.bl i) (.bl j) H Q := ⟨rfl, by
  have e : decide (V.bl i = V.bl j) = decide (i = j) := by
    by_cases z : i = j
    · subst z; simp
    · rw [decide_eq_false z, decide_eq_false fun w => z (V.bl.inj w)]
  rw [e]; exact h⟩
theorem g_neI {i j : Int} (h : Q (.bl (!decide (i = j))) H) : rNe (.int i) (.int j) H Q := ⟨rfl, by
  have e : decide (V.int i = V.int j) = decide (i = j) := by
    by_cases z : i = j
    · subst z; simp
    · rw [decide_eq_false z, decide_eq_false fun w => z (V.int.inj w)]
  rw [e]; exact h⟩
-- branches
theorem g_ifT {A B : Prop} (h : A) : if true = true then A else B := by rw [if_pos rfl]; exact h
theorem g_ifF {A B : Prop} (h : B) : if false = true then A else B := by rw [if_neg Bool.false_ne_true]; exact h
theorem g_ifD {p A B : Prop} [Decidable p] (h1 : p → A) (h2 : ¬ p → B) : if decide p = true then A else B := by
  by_cases h : p
  · rw [if_pos (decide_eq_true h)]; exact h1 h
  · rw [if_neg (by rw [decide_eq_false h]; exact Bool.false_ne_true)]; exact h2 h
theorem g_ifDT {p A B : Prop} [Decidable p] (h : p) (a : A) : if decide p = true then A else B := by rw [if_pos (decide_eq_true h)]; exact a
theorem g_ifDF {p A B : Prop} [Decidable p] (h : ¬ p) (b : B) : if decide p = true then A else B := by rw [if_neg (by rw [decide_eq_false h]; exact Bool.false_ne_true)]; exact b
theorem g_ifN {p A B : Prop} [Decidable p] (h1 : p → B) (h2 : ¬ p → A) : if (!decide p) = true then A else B := by
  by_cases h : p
  · rw [if_neg (by rw [decide_eq_true h]; exact Bool.false_ne_true)]; exact h1 h
  · rw [if_pos (by rw [decide_eq_false h]; rfl)]; exact h2 h
theorem g_ifNT {p A B : Prop} [Decidable p] (h : ¬ p) (a : A) : if (!decide p) = true then A else B := by rw [if_pos (by rw [decide_eq_false h]; rfl)]; exact a
theorem g_ifNF {p A B : Prop} [Decidable p] (h : p) (b : B) : if (!decide p) = true then A else B := by rw [if_neg (by rw [decide_eq_true h]; exact Bool.false_ne_true)]; exact b
theorem g_ifNbT {A B : Prop} (h : B) : if (!true) = true then A else B := g_ifF h
theorem g_ifNbF {A B : Prop} (h : A) : if (!false) = true then A else B := g_ifT h
-- sizes of things, text
end
theorem lk_hit {f : Str} {v : V} {r : List (Str × V)} : List.lookup f ((f, v) :: r) = some v := by simp
theorem lk_miss {f g : Str} {v : V} {r : List (Str × V)} (h : (f == g) = false) : List.lookup f ((g, v) :: r) = List.lookup f r := by simp only [List.lookup_cons, h]
section
variable {K : PySem.W.Frag} {P : Addr → Prop} {H0 H H' : Hp} {l l' : List (Addr × Ob)} {fs : List Pr} {p : Addr} {a b : Ob} {o : HO} {Q : VK} {xs : List V} {v : V} {i : Int}
-- what the ledger knows
theorem g_newT (L : Led P H0 H l fs) (hz : xs.length ≤ sizeLine) (h : ∀ p H', H p = none → Led P H0 H' l (tupAt p xs :: fs) → Same H H' → Q (.ref p) H') : NewT xs H Q :=
  ⟨hz, fun p hp => h p _ hp (L.newT hp) (same_upd0 hp)⟩
theorem g_newL (L : Led P H0 H l fs) (hz : xs.length ≤ sizeLine) (h : ∀ p H', H p = none → Led P H0 H' ((p, Eo (.lst xs)) :: l) fs → Same H H' → Q (.ref p) H') : NewL xs H Q :=
  ⟨hz, fun p hp => h p _ hp (L.newO hp rfl) (same_upd0 hp)⟩
theorem g_ixL (L : Led P H0 H l fs) (m : Put p (Eo (.lst xs)) (Eo (.lst xs)) l l') (e : atI xs i = some v) (h : Q v H) : rIxL K (.ref p) (.int i) H Q := ⟨p, xs, i, v, rfl, rfl, SqL.of (L.eo m), e, h⟩
theorem g_ixT (L : Led P H0 H l fs) (m : tupAt p xs ∈ fs) (e : atI xs i = some v) (h : Q v H) : rIxT K (.ref p) (.int i) H Q := ⟨p, xs, i, v, rfl, rfl, SqT.of (L.tup m), e, h⟩
theorem g_ixSq (hs : SqL K H p xs) (e : atI xs i = some v) (h : Q v H) : rIxL K (.ref p) (.int i) H Q := ⟨p, xs, i, v, rfl, rfl, hs, e, h⟩
theorem g_append (L : Led P H0 H l fs) (m : Put p (Eo (.lst xs)) (Eo (.lst (xs ++ [v]))) l l') (hz : xs.length < sizeLine) (h : ∀ H', Led P H0 H' l' fs → Chg p H H' → Q .non H') : rAppend (.ref p) [v] H Q := by
  obtain ⟨o, ho, hp⟩ := L.at_ _ m.mem
  have hp' : o = .lst xs := hp
  subst hp'
  have c : Chg p H (upd H p (.lst (xs ++ [v]))) := Chg.upd ho fun _ z => by cases z
  exact ⟨p, xs, v, rfl, rfl, ho, hz, h _ (L.set m c ⟨_, upd_same, rfl⟩) c⟩
theorem g_tyL {R : Prop} (hs : SqL K H p xs) (h : R) : tyV K "list" (.ref p) H ∧ R := ⟨.inl ⟨rfl, _, hs⟩, h⟩
theorem g_tyS {R : Prop} {z : Str} (h : R) : tyV K "str" (.str z) H ∧ R := ⟨rfl, h⟩
end
def ForW (J : It) (g : TG) (tb : TS) (D : Ends) (σ : St) (H : Hp) : Prop := ∃ W : Nat → Nat → St → Hp → Prop, (∃ m, W 0 m σ H) ∧ ∀ i m σ H, W i m σ H →
  (J.stop i H ∧ D.nx σ H) ∨ (J.go i H ∧ ∃ N : St → Hp → Prop, (∀ σ' H', N σ' H' → ∃ m', m' < m ∧ W (i + 1) m' σ' H') ∧ ∀ x H', J.yld i H x H' → g x σ H' fun σ2 H2 => tb { D with nx := N, ct := N, bk := D.nx } σ2 H2)
def Rng1 (vs : List V) (H : Hp) (R : It → Hp → Prop) : Prop := ∃ j : Int, vs = [.int j] ∧ -(2 ^ 62) ≤ j ∧ j < 2 ^ 62 ∧ R (Itr 0 j.toNat) H
def Rng2 (vs : List V) (H : Hp) (R : It → Hp → Prop) : Prop := ∃ i j : Int, vs = [.int i, .int j] ∧ (-(2 ^ 62) ≤ i ∧ i < 2 ^ 62 ∧ -(2 ^ 62) ≤ j ∧ j < 2 ^ 62) ∧ R (Itr i (j - i).toNat) H
def WkL (K : PySem.W.Frag) (x : V) (H : Hp) (R : It → Hp → Prop) : Prop := ∃ a, x = .ref a ∧ (∃ xs, SqL K H a xs) ∧ R (Itl K a) H
def CompG (J : It) (Q : VK) (σb : St) (g : TG) (tc : TT) (te : TE) (H : Hp) : Prop := ∃ W : Nat → Nat → List V → Hp → Prop, (∃ m, W 0 m [] H) ∧ CompW J W (fun ys H => ∀ p, H p = none → Q (.ref p) (upd H p (.lst ys))) σb g tc te
section
variable {K : PySem.W.Frag} {σ : St} {H : Hp} {Q : VK} {D : Ends} {wi : TI} {g : TG} {tb : TS} {ta : TE} {tl : TA} {R : It → Hp → Prop} {tc : TT} {te : TE}
theorem g_for (h : wi σ H fun J H1 => ForW J g tb D σ H1) : tFor wi g tb D σ H := h
theorem g_rng1 (h : tl σ H fun vs H1 => Rng1 vs H1 R) : iRng1 tl σ H R := h
theorem g_rng2 (h : tl σ H fun vs H1 => Rng2 vs H1 R) : iRng2 tl σ H R := h
theorem g_wkL (h : ta σ H fun x H1 => WkL K x H1 R) : iList K ta σ H R := h
theorem g_rng1v {j : Int} (b : -(2 ^ 62) ≤ j ∧ j < 2 ^ 62) (h : R (Itr 0 j.toNat) H) : Rng1 [.int j] H R := ⟨j, rfl, b.1, b.2, h⟩
theorem g_rng2v {i j : Int} (b : (-(2 ^ 62) ≤ i ∧ i < 2 ^ 62) ∧ -(2 ^ 62) ≤ j ∧ j < 2 ^ 62) (h : R (Itr i (j - i).toNat) H) : Rng2 [.int i, .int j] H R := ⟨i, j, rfl, ⟨b.1.1, b.1.2, b.2.1, b.2.2⟩, h⟩
theorem g_wkLv {a : Addr} {xs : List V} (s : SqL K H a xs) (h : R (Itl K a) H) : WkL K (.ref a) H R := ⟨a, rfl, ⟨xs, s⟩, h⟩
theorem g_forR {lo : Int} {n : Nat} (Pv : Nat → St → Hp → Prop) (h0 : Pv 0 σ H) (hs : ∀ i σ H, i < n → Pv i σ H → g (.int (lo + i)) σ H fun σ2 H2 => tb { D with nx := Pv (i + 1), ct := Pv (i + 1), bk := D.nx } σ2 H2)
    (hd : ∀ σ H, Pv n σ H → D.nx σ H) : ForW (Itr lo n) g tb D σ H := for_range Pv h0 hs hd
theorem g_forL {a : Addr} (xs : List V) (Pv : Nat → St → Hp → Prop) (h0 : Pv 0 σ H) (hl : ∀ i σ H, i ≤ xs.length → Pv i σ H → SqL K H a xs) (hs : ∀ i x σ H, xs[i]? = some x → Pv i σ H → g x σ H fun σ2 H2 => tb { D with nx := Pv (i + 1), ct := Pv (i + 1), bk := D.nx } σ2 H2)
    (hd : ∀ σ H, Pv xs.length σ H → D.nx σ H) : ForW (Itl K a) g tb D σ H := for_list (xs := xs) Pv h0 hl hs hd
theorem g_comp {own : Nat} {cap : List Nat} (h : wi σ H fun J H1 => CompG J Q (blkS own cap σ) g tc te H1) : tComp wi own cap g tc te σ H Q := h
theorem g_compS {i own : Nat} {cap : List Nat} (h : tComp wi own cap g tc te σ H fun v H1 => D.nx (σ.set i (some v)) H1) : tCompS i wi own cap g tc te D σ H := h
theorem g_compL {a : Addr} (xs : List V) {σb : St} (Pv : Nat → List V → Hp → Prop) (h0 : Pv 0 [] H) (hl : ∀ i ys H, i ≤ xs.length → Pv i ys H → SqL K H a xs ∧ ys.length ≤ sizeLine)
    (hs : ∀ i x ys H, xs[i]? = some x → Pv i ys H → g x σb H fun σ2 H2 => tc σ2 H2 fun b H3 => if b = true then te σ2 H3 fun y H4 => Pv (i + 1) (ys ++ [y]) H4 else Pv (i + 1) ys H3) (hd : ∀ ys H, Pv xs.length ys H → ∀ p, H p = none → Q (.ref p) (upd H p (.lst ys))) :
    CompG (Itl K a) Q σb g tc te H := comp_list (xs := xs) Pv h0 hl hs hd
theorem g_compR {lo : Int} {n : Nat} {σb : St} (Pv : Nat → List V → Hp → Prop) (h0 : Pv 0 [] H) (hl : ∀ i ys H, i ≤ n → Pv i ys H → ys.length ≤ sizeLine)
    (hs : ∀ i ys H, i < n → Pv i ys H → g (.int (lo + i)) σb H fun σ2 H2 => tc σ2 H2 fun b H3 => if b = true then te σ2 H3 fun y H4 => Pv (i + 1) (ys ++ [y]) H4 else Pv (i + 1) ys H3) (hd : ∀ ys H, Pv n ys H → ∀ p, H p = none → Q (.ref p) (upd H p (.lst ys))) :
    CompG (Itr lo n) Q σb g tc te H := comp_range Pv h0 hl hs hd
theorem g_tAll {B : Bool → Hp → Prop} (h : B true H) : tAll σ H B := h
-- builtins
theorem g_max {a b : Int} (h : Q (.int (max a b)) H) : rMax [V.int a, V.int b] H Q := ⟨a, b, rfl, by
  have e : (if b > a then b else a) = max a b := by omega
  rw [e]; exact h⟩
theorem g_min {a b : Int} (h : Q (.int (min a b)) H) : rMin [V.int a, V.int b] H Q := ⟨a, b, rfl, by
  have e : (if b < a then b else a) = min a b := by omega
  rw [e]; exact h⟩
theorem g_lenSq {a : Addr} {ys : List V} (s : SqL K H a ys) (h : Q (.int ys.length) H) : rLen K [V.ref a] H Q := ⟨a, ys, rfl, .inl s, h⟩
theorem Led.seq {P : Addr → Prop} {H0 : Hp} {l : List (Addr × Ob)} {fs : List Pr} {a : Addr} {xs : List V} (L : Led P H0 H l fs) (s : SqL K H0 a xs) (n : ¬ P a) : SqL K H a xs := by
  rcases s with (s | ⟨o, s⟩) | s
  · exact .inl (.inl (L.fr _ _ s n))
  · exact .inl (.inr ⟨o, L.fr _ _ s n⟩)
  · exact .inr s
theorem g_mulS {z : Str} {n : Int} (b : z.length ≤ 1000 ∧ -1000 ≤ n ∧ n ≤ 10000) (h : Q (.str (Txt.mul z n)) H) : rMulS (V.str z) (V.int n) H Q := ⟨z, n, rfl, rfl, b.1, b.2.1, b.2.2, h⟩
theorem g_join {z : Str} {p : Addr} {ys : List Str} (s : SqL K H p (ys.map V.str)) (b : (ys.map (·.length)).sum + ys.length * z.length ≤ 16777216) (h : Q (.str (Txt.join z ys)) H) : rJoin K (.str z) [.ref p] H Q := ⟨z, p, ys, rfl, rfl, s, b, h⟩
theorem g_ixS {z : Str} {i : Int} {c : Nat} (hz : z.length ≤ sizeLine) (e : atI z.cps.toList i = some c) (h : Q (.str ⟨#[c]⟩) H) : rIxS (.str z) (.int i) H Q := ⟨z, i, c, rfl, rfl, hz, e, h⟩
end
end L4
namespace L4
open PySem PySem.Spec PyProof.Rows L2 L3
inductive Dt where
  | non | bl (b : Bool) | int (i : Int) | str (x : Str) | tup (ds : List Dt) | lst (ds : List Dt)
mutual
def eqD : Dt → Dt → Bool
  | .non, .non => true
  | .bl a, .bl b => a == b
  | .bl a, .int b => (if a then 1 else 0) == b
  | .int a, .bl b => a == (if b then 1 else 0)
  | .int a, .int b => a == b
  | .str a, .str b => a == b
  | .tup a, .tup b => eqDs a b
  | .lst a, .lst b => eqDs a b
  | _, _ => false
def eqDs : List Dt → List Dt → Bool
  | [], [] => true
  | x :: xs, y :: ys => eqD x y && eqDs xs ys
  | _, _ => false
end
mutual
def dep : Dt → Nat
  | .tup ds => deps ds + 1
  | .lst ds => deps ds + 1
  | _ => 0
def deps : List Dt → Nat
  | [] => 0
  | d :: ds => max (dep d) (deps ds)
end
theorem dep_mem : ∀ {ds : List Dt} {d : Dt}, d ∈ ds → dep d ≤ deps ds
  | [], _, h => by simp at h
  | x :: ds, d, h => by
    rw [deps]
    rcases List.mem_cons.mp h with rfl | h
    · exact Nat.le_max_left _ _
    · exact Nat.le_trans (dep_mem h) (Nat.le_max_right _ _)
mutual
theorem eqD_refl : ∀ d : Dt, eqD d d = true
  | .non => by rw [eqD]
  | .bl b => by rw [eqD]; exact beq_self_eq_true b
  | .int i => by rw [eqD]; exact beq_self_eq_true i
  | .str x => by rw [eqD]; exact beq_self_eq_true x
  | .tup ds => by rw [eqD]; exact eqDs_refl ds
  | .lst ds => by rw [eqD]; exact eqDs_refl ds
theorem eqDs_refl : ∀ ds : List Dt, eqDs ds ds = true
  | [] => by rw [eqDs]
  | d :: ds => by rw [eqDs, eqD_refl d, eqDs_refl ds]; rfl
end
theorem eqDs_all : ∀ (ds es : List Dt), ((List.range (min ds.length es.length)).all (fun j => eqD (ds.getD j .non) (es.getD j .non)) && ds.length == es.length) = eqDs ds es
  | [], [] => by rw [eqDs]; rfl
  | [], _ :: _ => by simp [eqDs]
  | _ :: _, [] => by simp [eqDs]
  | d :: ds, e :: es => by
    have ih := eqDs_all ds es
    rw [eqDs, ← ih]
    have h1 : min (d :: ds).length (e :: es).length = min ds.length es.length + 1 := by simp only [List.length_cons]; omega
    rw [h1, List.range_succ_eq_map, List.all_cons, List.all_map]
    have h2 : ((d :: ds).length == (e :: es).length) = (ds.length == es.length) := by
      rw [Bool.eq_iff_iff]; simp
    rw [h2, Bool.and_assoc]
    rfl
theorem eqDs_lens : ∀ {ds es : List Dt}, ds.length ≠ es.length → eqDs ds es = false := fun {ds es} h => by
  rw [← eqDs_all, show (ds.length == es.length) = false from by simpa using h, Bool.and_false]

mutual
inductive At (K : PySem.W.Frag) (H : Hp) : V → Dt → Prop
  | non : At K H .non .non
  | bl (b : Bool) : At K H (.bl b) (.bl b)
  | int (i : Int) : At K H (.int i) (.int i)
  | str (x : Str) : At K H (.str x) (.str x)
  | tup {a : Addr} {xs : List V} {ds : List Dt} (h : SqT K H a xs) (r : Ats K H xs ds) : At K H (.ref a) (.tup ds)
  | lst {a : Addr} {xs : List V} {ds : List Dt} (h : SqL K H a xs) (r : Ats K H xs ds) : At K H (.ref a) (.lst ds)
inductive Ats (K : PySem.W.Frag) (H : Hp) : List V → List Dt → Prop
  | nil : Ats K H [] []
  | cons {x : V} {d : Dt} {xs : List V} {ds : List Dt} (h : At K H x d) (r : Ats K H xs ds) : Ats K H (x :: xs) (d :: ds)
end
theorem Ats.len {K : PySem.W.Frag} {H : Hp} : ∀ {xs : List V} {ds : List Dt}, Ats K H xs ds → xs.length = ds.length
  | _, _, .nil => rfl
  | _, _, .cons _ r => by rw [List.length_cons, List.length_cons, r.len]
theorem Ats.get {K : PySem.W.Frag} {H : Hp} : ∀ {xs : List V} {ds : List Dt} {j : Nat} {x : V}, Ats K H xs ds → xs[j]? = some x → ∃ d, ds[j]? = some d ∧ At K H x d
  | _, _, _, _, .nil, e => by simp at e
  | _, _, 0, _, .cons h _, e => by simp at e; subst e; exact ⟨_, rfl, h⟩
  | _, _, j + 1, x, .cons _ r, e => by
    obtain ⟨d, h1, h2⟩ := Ats.get (j := j) (x := x) r (by simpa using e)
    exact ⟨d, by simpa using h1, h2⟩
section
variable {X : Cx} {pins : List (Addr × Obj)} {σ : St} {H : Hp} {s : Shared}
mutual
theorem At.inj (I : Inv X pins σ H s) {x : V} : ∀ {d e : Dt}, At X.K H x d → At X.K H x e → d = e
  | _, _, .non, h => by cases h; rfl
  | _, _, .bl _, h => by cases h; rfl
  | _, _, .int _, h => by cases h; rfl
  | _, _, .str _, h => by cases h; rfl
  | _, _, .tup h r, g => by
    cases g with
    | tup h' r' =>
      have e := I.tuple_inj h h'
      subst e
      rw [Ats.inj I r r']
    | lst h' r' =>
      obtain ⟨_, _, ⟨o, e, c, _⟩, _⟩ := I.tuple h
      obtain ⟨_, _, ⟨o', n', e', c', _⟩, _⟩ := I.list h'
      rw [e] at e'; cases e'
      rw [c] at c'; injection c' with z; exact absurd z (by decide)
  | _, _, .lst h r, g => by
    cases g with
    | lst h' r' =>
      have e := I.list_inj h h'
      subst e
      rw [Ats.inj I r r']
    | tup h' r' =>
      obtain ⟨_, _, ⟨o, e, c, _⟩, _⟩ := I.tuple h'
      obtain ⟨_, _, ⟨o', n', e', c', _⟩, _⟩ := I.list h
      rw [e] at e'; cases e'
      rw [c] at c'; injection c' with z; exact absurd z (by decide)
theorem Ats.inj (I : Inv X pins σ H s) {xs : List V} : ∀ {ds es : List Dt}, Ats X.K H xs ds → Ats X.K H xs es → ds = es
  | _, _, .nil, h => by cases h; rfl
  | _, _, .cons h r, g => by
    cases g with
    | cons h' r' => rw [At.inj I h h', Ats.inj I r r']
end
end
theorem rc_V {A : Around} {s : Shared} {y x : V} {u v : Value} (ry : RelV y u) (rx : RelV x v) (fy : flatV y = true) (fx : flatV x = true) : SeqAt.RcAt A s u v (eqV y x) := by
  cases y with
  | non =>
    cases ry
    cases x with
    | non => cases rx; exact SeqAt.RcAt.none_none
    | bl b => cases rx; exact SeqAt.RcAt.none_bool b
    | int b => obtain ⟨t, rfl⟩ := rx; exact SeqAt.RcAt.none_int b t
    | str b => obtain ⟨t, rfl⟩ := rx; exact SeqAt.RcAt.none_str b t
    | _ => exact absurd (show false = true from fx) Bool.false_ne_true
  | bl a =>
    cases ry
    cases x with
    | non => cases rx; exact SeqAt.RcAt.bool_none a
    | bl b => cases rx; exact SeqAt.RcAt.bool_bool a b
    | int b => obtain ⟨t, rfl⟩ := rx; exact SeqAt.RcAt.bool_int a b t
    | str b => obtain ⟨t, rfl⟩ := rx; exact SeqAt.RcAt.bool_str a b t
    | _ => exact absurd (show false = true from fx) Bool.false_ne_true
  | int a =>
    obtain ⟨t', rfl⟩ := ry
    cases x with
    | non => cases rx; exact SeqAt.RcAt.int_none a t'
    | bl b => cases rx; exact SeqAt.RcAt.int_bool a t' b
    | int b => obtain ⟨t, rfl⟩ := rx; exact SeqAt.RcAt.int_int a t' b t
    | str b => obtain ⟨t, rfl⟩ := rx; exact SeqAt.RcAt.int_str a t' b t
    | _ => exact absurd (show false = true from fx) Bool.false_ne_true
  | str a =>
    obtain ⟨t', rfl⟩ := ry
    cases x with
    | non => cases rx; exact SeqAt.RcAt.str_none a t'
    | bl b => cases rx; exact SeqAt.RcAt.str_bool a t' b
    | int b => obtain ⟨t, rfl⟩ := rx; exact SeqAt.RcAt.str_int a t' b t
    | str b => obtain ⟨t, rfl⟩ := rx; exact SeqAt.RcAt.str_str a t' b t
    | _ => exact absurd (show false = true from fx) Bool.false_ne_true
  | _ => exact absurd (show false = true from fy) Bool.false_ne_true
theorem rcne_V {A : Around} {s : Shared} {y x : V} {u v : Value} (ry : RelV y u) (rx : RelV x v) (fy : flatV y = true) (fx : flatV x = true) : SeqAt.RcNeAt A s u v (!eqV y x) := by
  cases y with
  | non =>
    cases ry
    cases x with
    | non => cases rx; exact SeqAt.RcNeAt.none_none
    | bl b => cases rx; exact SeqAt.RcNeAt.none_bool b
    | int b => obtain ⟨t, rfl⟩ := rx; exact SeqAt.RcNeAt.none_int b t
    | str b => obtain ⟨t, rfl⟩ := rx; exact SeqAt.RcNeAt.none_str b t
    | _ => exact absurd (show false = true from fx) Bool.false_ne_true
  | bl a =>
    cases ry
    cases x with
    | non => cases rx; exact SeqAt.RcNeAt.bool_none a
    | bl b => cases rx; exact SeqAt.RcNeAt.bool_bool a b
    | int b => obtain ⟨t, rfl⟩ := rx; exact SeqAt.RcNeAt.bool_int a b t
    | str b => obtain ⟨t, rfl⟩ := rx; exact SeqAt.RcNeAt.bool_str a b t
    | _ => exact absurd (show false = true from fx) Bool.false_ne_true
  | int a =>
    obtain ⟨t', rfl⟩ := ry
    cases x with
    | non => cases rx; exact SeqAt.RcNeAt.int_none a t'
    | bl b => cases rx; exact SeqAt.RcNeAt.int_bool a t' b
    | int b => obtain ⟨t, rfl⟩ := rx; exact SeqAt.RcNeAt.int_int a t' b t
    | str b => obtain ⟨t, rfl⟩ := rx; exact SeqAt.RcNeAt.int_str a t' b t
    | _ => exact absurd (show false = true from fx) Bool.false_ne_true
  | str a =>
    obtain ⟨t', rfl⟩ := ry
    cases x with
    | non => cases rx; exact SeqAt.RcNeAt.str_none a t'
    | bl b => cases rx; exact SeqAt.RcNeAt.str_bool a t' b
    | int b => obtain ⟨t, rfl⟩ := rx; exact SeqAt.RcNeAt.str_int a t' b t
    | str b => obtain ⟨t, rfl⟩ := rx; exact SeqAt.RcNeAt.str_str a t' b t
    | _ => exact absurd (show false = true from fx) Bool.false_ne_true
  | _ => exact absurd (show false = true from fy) Bool.false_ne_true
theorem eq_flat_tuple {A : Around} {s : Shared} {x : V} {u : Value} {a : Addr} {its : Array Value} (rx : RelV x u) (fx : flatV x = true) (h : s.heap.IsTuple a its) (hu : A.units < cLine) : SeqAt.EqAt A s u (.ref a) false := by
  cases x with
  | non => cases rx; exact SeqAt.EqAt.none_tuple h hu
  | bl b => cases rx; exact SeqAt.EqAt.bool_tuple b h hu
  | int b => obtain ⟨t, rfl⟩ := rx; exact SeqAt.EqAt.int_tuple b t h hu
  | str b => obtain ⟨t, rfl⟩ := rx; exact SeqAt.EqAt.str_tuple b t h hu
  | _ => exact absurd (show false = true from fx) Bool.false_ne_true
theorem eq_tuple_flat {A : Around} {s : Shared} {x : V} {u : Value} {a : Addr} {its : Array Value} (rx : RelV x u) (fx : flatV x = true) (h : s.heap.IsTuple a its) (hu : A.units < cLine) : SeqAt.EqAt A s (.ref a) u false := by
  cases x with
  | non => cases rx; exact SeqAt.EqAt.tuple_none h hu
  | bl b => cases rx; exact SeqAt.EqAt.tuple_bool b h hu
  | int b => obtain ⟨t, rfl⟩ := rx; exact SeqAt.EqAt.tuple_int b t h hu
  | str b => obtain ⟨t, rfl⟩ := rx; exact SeqAt.EqAt.tuple_str b t h hu
  | _ => exact absurd (show false = true from fx) Bool.false_ne_true
theorem eq_flat_list {A : Around} {s : Shared} {x : V} {u : Value} {a : Addr} {its : Array Value} (rx : RelV x u) (fx : flatV x = true) (h : s.heap.IsList a its) (hu : A.units < cLine) : SeqAt.EqAt A s u (.ref a) false := by
  cases x with
  | non => cases rx; exact SeqAt.EqAt.none_list h hu
  | bl b => cases rx; exact SeqAt.EqAt.bool_list b h hu
  | int b => obtain ⟨t, rfl⟩ := rx; exact SeqAt.EqAt.int_list b t h hu
  | str b => obtain ⟨t, rfl⟩ := rx; exact SeqAt.EqAt.str_list b t h hu
  | _ => exact absurd (show false = true from fx) Bool.false_ne_true
theorem eq_list_flat {A : Around} {s : Shared} {x : V} {u : Value} {a : Addr} {its : Array Value} (rx : RelV x u) (fx : flatV x = true) (h : s.heap.IsList a its) (hu : A.units < cLine) : SeqAt.EqAt A s (.ref a) u false := by
  cases x with
  | non => cases rx; exact SeqAt.EqAt.list_none h hu
  | bl b => cases rx; exact SeqAt.EqAt.list_bool b h hu
  | int b => obtain ⟨t, rfl⟩ := rx; exact SeqAt.EqAt.list_int b t h hu
  | str b => obtain ⟨t, rfl⟩ := rx; exact SeqAt.EqAt.list_str b t h hu
  | _ => exact absurd (show false = true from fx) Bool.false_ne_true
theorem rc_flat_tuple {A : Around} {s : Shared} {x : V} {u : Value} {a : Addr} {its : Array Value} (rx : RelV x u) (fx : flatV x = true) (h : s.heap.IsTuple a its) (hu : A.units < cLine) : SeqAt.RcAt A s u (.ref a) false := by
  cases x with
  | non => cases rx; exact SeqAt.RcAt.none_tuple h hu
  | bl b => cases rx; exact SeqAt.RcAt.bool_tuple b h hu
  | int b => obtain ⟨t, rfl⟩ := rx; exact SeqAt.RcAt.int_tuple b t h hu
  | str b => obtain ⟨t, rfl⟩ := rx; exact SeqAt.RcAt.str_tuple b t h hu
  | _ => exact absurd (show false = true from fx) Bool.false_ne_true
theorem rc_tuple_flat {A : Around} {s : Shared} {x : V} {u : Value} {a : Addr} {its : Array Value} (rx : RelV x u) (fx : flatV x = true) (h : s.heap.IsTuple a its) (hu : A.units < cLine) : SeqAt.RcAt A s (.ref a) u false := by
  cases x with
  | non => cases rx; exact SeqAt.RcAt.tuple_none h hu
  | bl b => cases rx; exact SeqAt.RcAt.tuple_bool b h hu
  | int b => obtain ⟨t, rfl⟩ := rx; exact SeqAt.RcAt.tuple_int b t h hu
  | str b => obtain ⟨t, rfl⟩ := rx; exact SeqAt.RcAt.tuple_str b t h hu
  | _ => exact absurd (show false = true from fx) Bool.false_ne_true
theorem rc_flat_list {A : Around} {s : Shared} {x : V} {u : Value} {a : Addr} {its : Array Value} (rx : RelV x u) (fx : flatV x = true) (h : s.heap.IsList a its) (hu : A.units < cLine) : SeqAt.RcAt A s u (.ref a) false := by
  cases x with
  | non => cases rx; exact SeqAt.RcAt.none_list h hu
  | bl b => cases rx; exact SeqAt.RcAt.bool_list b h hu
  | int b => obtain ⟨t, rfl⟩ := rx; exact SeqAt.RcAt.int_list b t h hu
  | str b => obtain ⟨t, rfl⟩ := rx; exact SeqAt.RcAt.str_list b t h hu
  | _ => exact absurd (show false = true from fx) Bool.false_ne_true
theorem rc_list_flat {A : Around} {s : Shared} {x : V} {u : Value} {a : Addr} {its : Array Value} (rx : RelV x u) (fx : flatV x = true) (h : s.heap.IsList a its) (hu : A.units < cLine) : SeqAt.RcAt A s (.ref a) u false := by
  cases x with
  | non => cases rx; exact SeqAt.RcAt.list_none h hu
  | bl b => cases rx; exact SeqAt.RcAt.list_bool b h hu
  | int b => obtain ⟨t, rfl⟩ := rx; exact SeqAt.RcAt.list_int b t h hu
  | str b => obtain ⟨t, rfl⟩ := rx; exact SeqAt.RcAt.list_str b t h hu
  | _ => exact absurd (show false = true from fx) Bool.false_ne_true
theorem rn_flat_tuple {A : Around} {s : Shared} {x : V} {u : Value} {a : Addr} {its : Array Value} (rx : RelV x u) (fx : flatV x = true) (h : s.heap.IsTuple a its) (hu : A.units < cLine) : SeqAt.RcNeAt A s u (.ref a) true := by
  cases x with
  | non => cases rx; exact SeqAt.RcNeAt.none_tuple h hu
  | bl b => cases rx; exact SeqAt.RcNeAt.bool_tuple b h hu
  | int b => obtain ⟨t, rfl⟩ := rx; exact SeqAt.RcNeAt.int_tuple b t h hu
  | str b => obtain ⟨t, rfl⟩ := rx; exact SeqAt.RcNeAt.str_tuple b t h hu
  | _ => exact absurd (show false = true from fx) Bool.false_ne_true
theorem rn_tuple_flat {A : Around} {s : Shared} {x : V} {u : Value} {a : Addr} {its : Array Value} (rx : RelV x u) (fx : flatV x = true) (h : s.heap.IsTuple a its) (hu : A.units < cLine) : SeqAt.RcNeAt A s (.ref a) u true := by
  cases x with
  | non => cases rx; exact SeqAt.RcNeAt.tuple_none h hu
  | bl b => cases rx; exact SeqAt.RcNeAt.tuple_bool b h hu
  | int b => obtain ⟨t, rfl⟩ := rx; exact SeqAt.RcNeAt.tuple_int b t h hu
  | str b => obtain ⟨t, rfl⟩ := rx; exact SeqAt.RcNeAt.tuple_str b t h hu
  | _ => exact absurd (show false = true from fx) Bool.false_ne_true
theorem rn_flat_list {A : Around} {s : Shared} {x : V} {u : Value} {a : Addr} {its : Array Value} (rx : RelV x u) (fx : flatV x = true) (h : s.heap.IsList a its) (hu : A.units < cLine) : SeqAt.RcNeAt A s u (.ref a) true := by
  cases x with
  | non => cases rx; exact SeqAt.RcNeAt.none_list h hu
  | bl b => cases rx; exact SeqAt.RcNeAt.bool_list b h hu
  | int b => obtain ⟨t, rfl⟩ := rx; exact SeqAt.RcNeAt.int_list b t h hu
  | str b => obtain ⟨t, rfl⟩ := rx; exact SeqAt.RcNeAt.str_list b t h hu
  | _ => exact absurd (show false = true from fx) Bool.false_ne_true
theorem rn_list_flat {A : Around} {s : Shared} {x : V} {u : Value} {a : Addr} {its : Array Value} (rx : RelV x u) (fx : flatV x = true) (h : s.heap.IsList a its) (hu : A.units < cLine) : SeqAt.RcNeAt A s (.ref a) u true := by
  cases x with
  | non => cases rx; exact SeqAt.RcNeAt.list_none h hu
  | bl b => cases rx; exact SeqAt.RcNeAt.list_bool b h hu
  | int b => obtain ⟨t, rfl⟩ := rx; exact SeqAt.RcNeAt.list_int b t h hu
  | str b => obtain ⟨t, rfl⟩ := rx; exact SeqAt.RcNeAt.list_str b t h hu
  | _ => exact absurd (show false = true from fx) Bool.false_ne_true
inductive Top (K : PySem.W.Frag) (H : Hp) (x : V) (d : Dt) : Prop
  | flat (f : flatV x = true) (h : ∀ y e, At K H y e → flatV y = true → eqV x y = eqD d e) (h1 : ∀ es, eqD d (.tup es) = false ∧ eqD (.tup es) d = false ∧ eqD d (.lst es) = false ∧ eqD (.lst es) d = false)
  | tup (a : Addr) (xs : List V) (ds : List Dt) (e1 : x = .ref a) (e2 : d = .tup ds) (h : SqT K H a xs) (r : Ats K H xs ds)
  | lst (a : Addr) (xs : List V) (ds : List Dt) (e1 : x = .ref a) (e2 : d = .lst ds) (h : SqL K H a xs) (r : Ats K H xs ds)
theorem At.top {K : PySem.W.Frag} {H : Hp} {x : V} {d : Dt} (h : At K H x d) : Top K H x d := by
  cases h with
  | tup h r => exact .tup _ _ _ rfl rfl h r
  | lst h r => exact .lst _ _ _ rfl rfl h r
  | _ => exact .flat rfl (fun y e g f => by cases g <;> first | (exact absurd f Bool.false_ne_true) | (simp only [eqV, eqD])) (fun es => by simp [eqD])
theorem items_at {X : Cx} {H : Hp} {xs ys : List V} {ds es : List Dt} {us vs : List Value} {C : Value → Value → Bool → Prop} (h : ∀ x y d e u v, d ∈ ds → At X.K H x d → At X.K H y e → RelV x u → RelV y v → C u v (eqD d e))
    (r : Ats X.K H xs ds) (r' : Ats X.K H ys es) (rv : Vals xs us) (rv' : Vals ys vs) : ∀ j (h1 : j < us.toArray.size) (h2 : j < vs.toArray.size), C us.toArray[j] vs.toArray[j] (eqD (ds.getD j .non) (es.getD j .non)) := fun j h1 h2 => by
  have l1 : j < xs.length := by rw [rv.length]; simpa using h1
  have l2 : j < ys.length := by rw [rv'.length]; simpa using h2
  obtain ⟨u, e1, q1⟩ := rv.get (List.getElem?_eq_getElem l1)
  obtain ⟨v, e2, q2⟩ := rv'.get (List.getElem?_eq_getElem l2)
  obtain ⟨d, e3, q3⟩ := r.get (List.getElem?_eq_getElem l1)
  obtain ⟨e, e4, q4⟩ := r'.get (List.getElem?_eq_getElem l2)
  have a1 : us.toArray[j] = u := by
    have := List.getElem?_eq_some_iff.mp e1
    obtain ⟨_, z⟩ := this
    simpa using z
  have a2 : vs.toArray[j] = v := by
    obtain ⟨_, z⟩ := List.getElem?_eq_some_iff.mp e2
    simpa using z
  rw [a1, a2, List.getD_eq_getElem?_getD, List.getD_eq_getElem?_getD, e3, e4]
  exact h _ _ _ _ _ _ (List.mem_of_getElem? e3) q3 q4 q1 q2
theorem eq_at {X : Cx} {pins : List (Addr × Obj)} {σ : St} {H : Hp} {s : Shared} (I : Inv X pins σ H s) : ∀ (n : Nat) {x y : V} {d e : Dt} {u v : Value}, dep d ≤ n → At X.K H x d → At X.K H y e → RelV x u → RelV y v → ∀ A : Around, A.units + n < cLine → SeqAt.EqAt A s u v (eqD d e) := by
  intro n
  induction n with
  | zero =>
    intro x y d e u v hd hx hy rx ry A hA
    rcases hx.top with ⟨f, h, h1⟩ | ⟨a, xs, ds, rfl, rfl, h, r⟩ | ⟨a, xs, ds, rfl, rfl, h, r⟩
    · rcases hy.top with ⟨f', h', h1'⟩ | ⟨b, ys, es, rfl, rfl, h', r'⟩ | ⟨b, ys, es, rfl, rfl, h', r'⟩
      · rw [← h y e hy f']; exact eqAt_V rx ry f f'
      · obtain ⟨its, rv, ht, _⟩ := I.tuple h'
        cases ry; rw [(h1 es).1]; exact eq_flat_tuple rx f ht (by omega)
      · obtain ⟨its, rv, ht, _⟩ := I.list h'
        cases ry; rw [(h1 es).2.2.1]; exact eq_flat_list rx f ht.isList (by omega)
    · simp [dep] at hd
    · simp [dep] at hd
  | succ n ih =>
    intro x y d e u v hd hx hy rx ry A hA
    have hu : A.units < cLine := by omega
    rcases hx.top with ⟨f, h, h1⟩ | ⟨a, xs, ds, rfl, rfl, h, r⟩ | ⟨a, xs, ds, rfl, rfl, h, r⟩
    · rcases hy.top with ⟨f', h', h1'⟩ | ⟨b, ys, es, rfl, rfl, h', r'⟩ | ⟨b, ys, es, rfl, rfl, h', r'⟩
      · rw [← h y e hy f']; exact eqAt_V rx ry f f'
      · obtain ⟨its, rv, ht, _⟩ := I.tuple h'
        cases ry; rw [(h1 es).1]; exact eq_flat_tuple rx f ht hu
      · obtain ⟨its, rv, ht, _⟩ := I.list h'
        cases ry; rw [(h1 es).2.2.1]; exact eq_flat_list rx f ht.isList hu
    · obtain ⟨its, rv, ht, _⟩ := I.tuple h
      cases rx
      rw [dep] at hd
      rcases hy.top with ⟨f', h', h1'⟩ | ⟨b, ys, es, rfl, rfl, h', r'⟩ | ⟨b, ys, es, rfl, rfl, h', r'⟩
      · rw [(h1' ds).2.1]; exact eq_tuple_flat ry f' ht hu
      · cases ry
        obtain ⟨its', rv', ht', _⟩ := I.tuple h'
        by_cases hab : a = b
        · subst hab
          have e := I.tuple_inj h h'
          subst e
          rw [Ats.inj I r r', eqD_refl]
          exact SeqAt.EqAt.same _
        · have q := SeqAt.RcAt.tuples (A := A) (e := fun j => eqD (ds.getD j .non) (es.getD j .non)) ht ht' hu (items_at (C := fun u v k => SeqAt.EqAt A.in1 s u v k) (fun x y d e u v hm hx hy rx ry => ih (Nat.le_trans (dep_mem hm) (by omega)) hx hy rx ry A.in1 (by show A.units + 1 + n < _; omega)) r r' rv rv')
          have l1 : its.toArray.size = ds.length := by rw [List.size_toArray, ← rv.length, r.len]
          have l2 : its'.toArray.size = es.length := by rw [List.size_toArray, ← rv'.length, r'.len]
          rw [l1, l2, eqDs_all] at q
          rw [eqD]
          exact SeqAt.EqAt.of_refs hab q
      · cases ry
        obtain ⟨its', rv', ht', _⟩ := I.list h'
        rw [show eqD (.tup ds) (.lst es) = false by simp [eqD]]
        exact SeqAt.EqAt.tuple_list ht ht'.isList hu
    · obtain ⟨its, rv, ht, _⟩ := I.list h
      cases rx
      rw [dep] at hd
      rcases hy.top with ⟨f', h', h1'⟩ | ⟨b, ys, es, rfl, rfl, h', r'⟩ | ⟨b, ys, es, rfl, rfl, h', r'⟩
      · rw [(h1' ds).2.2.2]; exact eq_list_flat ry f' ht.isList hu
      · cases ry
        obtain ⟨its', rv', ht', _⟩ := I.tuple h'
        rw [show eqD (.lst ds) (.tup es) = false by simp [eqD]]
        exact SeqAt.EqAt.list_tuple ht.isList ht' hu
      · cases ry
        obtain ⟨its', rv', ht', _⟩ := I.list h'
        by_cases hab : a = b
        · subst hab
          have e := I.list_inj h h'
          subst e
          rw [Ats.inj I r r', eqD_refl]
          exact SeqAt.EqAt.same _
        · refine SeqAt.EqAt.of_refs hab ?_
          have l1 : its.toArray.size = ds.length := by rw [List.size_toArray, ← rv.length, r.len]
          have l2 : its'.toArray.size = es.length := by rw [List.size_toArray, ← rv'.length, r'.len]
          rw [eqD]
          by_cases hl : ds.length = es.length
          · have q := SeqAt.RcAt.lists (A := A) (e := fun j => eqD (ds.getD j .non) (es.getD j .non)) ht.isList ht'.isList (by rw [l1, l2, hl]) hu (items_at (C := fun u v k => SeqAt.EqAt A.in1 s u v k) (fun x y d e u v hm hx hy rx ry => ih (Nat.le_trans (dep_mem hm) (by omega)) hx hy rx ry A.in1 (by show A.units + 1 + n < _; omega)) r r' rv rv')
            have z := eqDs_all ds es
            rw [hl, Nat.min_self, beq_self_eq_true, Bool.and_true] at z
            rw [l1, hl, z] at q
            exact q
          · rw [eqDs_lens hl]
            exact SeqAt.RcAt.lists_lengths ht.isList ht'.isList (by rw [l1, l2]; simpa using hl) hu
theorem rc_at {X : Cx} {pins : List (Addr × Obj)} {σ : St} {H : Hp} {s : Shared} (I : Inv X pins σ H s) {n : Nat} {x y : V} {d e : Dt} {u v : Value} (hd : dep d ≤ n) (hx : At X.K H x d) (hy : At X.K H y e) (rx : RelV x u) (ry : RelV y v) (A : Around) (hA : A.units + 1 + n < cLine) : SeqAt.RcAt A s u v (eqD d e) := by
  have hu : A.units < cLine := by omega
  rcases hx.top with ⟨f, h, h1⟩ | ⟨a, xs, ds, rfl, rfl, h, r⟩ | ⟨a, xs, ds, rfl, rfl, h, r⟩
  · rcases hy.top with ⟨f', h', h1'⟩ | ⟨b, ys, es, rfl, rfl, h', r'⟩ | ⟨b, ys, es, rfl, rfl, h', r'⟩
    · rw [← h y e hy f']; exact rc_V rx ry f f'
    · obtain ⟨its, rv, ht, _⟩ := I.tuple h'
      cases ry; rw [(h1 es).1]; exact rc_flat_tuple rx f ht hu
    · obtain ⟨its, rv, ht, _⟩ := I.list h'
      cases ry; rw [(h1 es).2.2.1]; exact rc_flat_list rx f ht.isList hu
  · obtain ⟨its, rv, ht, _⟩ := I.tuple h
    cases rx
    rw [dep] at hd
    rcases hy.top with ⟨f', h', h1'⟩ | ⟨b, ys, es, rfl, rfl, h', r'⟩ | ⟨b, ys, es, rfl, rfl, h', r'⟩
    · rw [(h1' ds).2.1]; exact rc_tuple_flat ry f' ht hu
    · cases ry
      obtain ⟨its', rv', ht', _⟩ := I.tuple h'
      have q := SeqAt.RcAt.tuples (A := A) (e := fun j => eqD (ds.getD j .non) (es.getD j .non)) ht ht' hu (items_at (C := fun u v k => SeqAt.EqAt A.in1 s u v k) (fun x y d e u v hm hx hy rx ry => eq_at I n (Nat.le_trans (dep_mem hm) (by omega)) hx hy rx ry A.in1 (by show A.units + 1 + n < _; omega)) r r' rv rv')
      have l1 : its.toArray.size = ds.length := by rw [List.size_toArray, ← rv.length, r.len]
      have l2 : its'.toArray.size = es.length := by rw [List.size_toArray, ← rv'.length, r'.len]
      rw [l1, l2, eqDs_all] at q
      rw [eqD]
      exact q
    · cases ry
      obtain ⟨its', rv', ht', _⟩ := I.list h'
      rw [show eqD (.tup ds) (.lst es) = false by simp [eqD]]
      exact SeqAt.RcAt.tuple_list ht ht'.isList hu
  · obtain ⟨its, rv, ht, _⟩ := I.list h
    cases rx
    rw [dep] at hd
    rcases hy.top with ⟨f', h', h1'⟩ | ⟨b, ys, es, rfl, rfl, h', r'⟩ | ⟨b, ys, es, rfl, rfl, h', r'⟩
    · rw [(h1' ds).2.2.2]; exact rc_list_flat ry f' ht.isList hu
    · cases ry
      obtain ⟨its', rv', ht', _⟩ := I.tuple h'
      rw [show eqD (.lst ds) (.tup es) = false by simp [eqD]]
      exact SeqAt.RcAt.list_tuple ht.isList ht' hu
    · cases ry
      obtain ⟨its', rv', ht', _⟩ := I.list h'
      have l1 : its.toArray.size = ds.length := by rw [List.size_toArray, ← rv.length, r.len]
      have l2 : its'.toArray.size = es.length := by rw [List.size_toArray, ← rv'.length, r'.len]
      rw [eqD]
      by_cases hl : ds.length = es.length
      · have q := SeqAt.RcAt.lists (A := A) (e := fun j => eqD (ds.getD j .non) (es.getD j .non)) ht.isList ht'.isList (by rw [l1, l2, hl]) hu (items_at (C := fun u v k => SeqAt.EqAt A.in1 s u v k) (fun x y d e u v hm hx hy rx ry => eq_at I n (Nat.le_trans (dep_mem hm) (by omega)) hx hy rx ry A.in1 (by show A.units + 1 + n < _; omega)) r r' rv rv')
        have z := eqDs_all ds es
        rw [hl, Nat.min_self, beq_self_eq_true, Bool.and_true] at z
        rw [l1, hl, z] at q
        exact q
      · rw [eqDs_lens hl]
        exact SeqAt.RcAt.lists_lengths ht.isList ht'.isList (by rw [l1, l2]; simpa using hl) hu
theorem rcne_at {X : Cx} {pins : List (Addr × Obj)} {σ : St} {H : Hp} {s : Shared} (I : Inv X pins σ H s) {n : Nat} {x y : V} {d e : Dt} {u v : Value} (hd : dep d ≤ n) (hx : At X.K H x d) (hy : At X.K H y e) (rx : RelV x u) (ry : RelV y v) (A : Around) (hA : A.units + 1 + n < cLine) : SeqAt.RcNeAt A s u v (!eqD d e) := by
  have hu : A.units < cLine := by omega
  rcases hx.top with ⟨f, h, h1⟩ | ⟨a, xs, ds, rfl, rfl, h, r⟩ | ⟨a, xs, ds, rfl, rfl, h, r⟩
  · rcases hy.top with ⟨f', h', h1'⟩ | ⟨b, ys, es, rfl, rfl, h', r'⟩ | ⟨b, ys, es, rfl, rfl, h', r'⟩
    · rw [← h y e hy f']; exact rcne_V rx ry f f'
    · obtain ⟨its, rv, ht, _⟩ := I.tuple h'
      cases ry; rw [(h1 es).1]; exact rn_flat_tuple rx f ht hu
    · obtain ⟨its, rv, ht, _⟩ := I.list h'
      cases ry; rw [(h1 es).2.2.1]; exact rn_flat_list rx f ht.isList hu
  · obtain ⟨its, rv, ht, _⟩ := I.tuple h
    cases rx
    rw [dep] at hd
    rcases hy.top with ⟨f', h', h1'⟩ | ⟨b, ys, es, rfl, rfl, h', r'⟩ | ⟨b, ys, es, rfl, rfl, h', r'⟩
    · rw [(h1' ds).2.1]; exact rn_tuple_flat ry f' ht hu
    · cases ry
      obtain ⟨its', rv', ht', _⟩ := I.tuple h'
      have q := SeqAt.RcNeAt.tuples (A := A) (e := fun j => eqD (ds.getD j .non) (es.getD j .non)) ht ht' hu (items_at (C := fun u v k => SeqAt.EqAt A.in1 s u v k) (fun x y d e u v hm hx hy rx ry => eq_at I n (Nat.le_trans (dep_mem hm) (by omega)) hx hy rx ry A.in1 (by show A.units + 1 + n < _; omega)) r r' rv rv')
      have l1 : its.toArray.size = ds.length := by rw [List.size_toArray, ← rv.length, r.len]
      have l2 : its'.toArray.size = es.length := by rw [List.size_toArray, ← rv'.length, r'.len]
      rw [l1, l2, eqDs_all] at q
      rw [eqD]
      exact q
    · cases ry
      obtain ⟨its', rv', ht', _⟩ := I.list h'
      rw [show eqD (.tup ds) (.lst es) = false by simp [eqD]]
      exact SeqAt.RcNeAt.tuple_list ht ht'.isList hu
  · obtain ⟨its, rv, ht, _⟩ := I.list h
    cases rx
    rw [dep] at hd
    rcases hy.top with ⟨f', h', h1'⟩ | ⟨b, ys, es, rfl, rfl, h', r'⟩ | ⟨b, ys, es, rfl, rfl, h', r'⟩
    · rw [(h1' ds).2.2.2]; exact rn_list_flat ry f' ht.isList hu
    · cases ry
      obtain ⟨its', rv', ht', _⟩ := I.tuple h'
      rw [show eqD (.lst ds) (.tup es) = false by simp [eqD]]
      exact SeqAt.RcNeAt.list_tuple ht.isList ht' hu
    · cases ry
      obtain ⟨its', rv', ht', _⟩ := I.list h'
      have l1 : its.toArray.size = ds.length := by rw [List.size_toArray, ← rv.length, r.len]
      have l2 : its'.toArray.size = es.length := by rw [List.size_toArray, ← rv'.length, r'.len]
      rw [eqD]
      by_cases hl : ds.length = es.length
      · have q := SeqAt.RcNeAt.lists (A := A) (e := fun j => eqD (ds.getD j .non) (es.getD j .non)) ht.isList ht'.isList (by rw [l1, l2, hl]) hu (items_at (C := fun u v k => SeqAt.EqAt A.in1 s u v k) (fun x y d e u v hm hx hy rx ry => eq_at I n (Nat.le_trans (dep_mem hm) (by omega)) hx hy rx ry A.in1 (by show A.units + 1 + n < _; omega)) r r' rv rv')
        have z := eqDs_all ds es
        rw [hl, Nat.min_self, beq_self_eq_true, Bool.and_true] at z
        rw [l1, hl, z] at q
        exact q
      · rw [eqDs_lens hl]
        exact SeqAt.RcNeAt.lists_lengths ht.isList ht'.isList (by rw [l1, l2]; simpa using hl) hu
def rEqD (K : PySem.W.Frag) : R2 := fun x y H Q => ∃ d e, At K H x d ∧ At K H y e ∧ dep d ≤ 100 ∧ Q (.bl (eqD d e)) H
def rNeD (K : PySem.W.Frag) : R2 := fun x y H Q => ∃ d e, At K H x d ∧ At K H y e ∧ dep d ≤ 100 ∧ Q (.bl (!eqD d e)) H
theorem op_eqD {X : Cx} (hr : Room 0 X.A) : OpR X (compareOp .Eq) (rEqD X.K) := by
  intro pins s σ H x y v u Q I rx ry h
  obtain ⟨d, e, hx, hy, hd, q⟩ := h
  exact rc_at I hd hx hy rx ry X.A (by have := hr.un; omega) _ _ _ _ ⟨.bl _, H, I, rfl, q⟩
theorem op_neD {X : Cx} (hr : Room 0 X.A) : OpR X (compareOp .NotEq) (rNeD X.K) := by
  intro pins s σ H x y v u Q I rx ry h
  obtain ⟨d, e, hx, hy, hd, q⟩ := h
  exact rcne_at I hd hx hy rx ry X.A (by have := hr.un; omega) _ _ _ _ ⟨.bl _, H, I, rfl, q⟩
theorem g_eqDT {K : PySem.W.Frag} {x y : V} {H : Hp} {Q : VK} {d : Dt} (hx : At K H x d) (hy : At K H y d) (hd : dep d ≤ 100) (h : Q (.bl true) H) : rEqD K x y H Q := ⟨d, d, hx, hy, hd, by rw [eqD_refl]; exact h⟩
theorem g_neDF {K : PySem.W.Frag} {x y : V} {H : Hp} {Q : VK} {d : Dt} (hx : At K H x d) (hy : At K H y d) (hd : dep d ≤ 100) (h : Q (.bl false) H) : rNeD K x y H Q := ⟨d, d, hx, hy, hd, by rw [eqD_refl]; exact h⟩
theorem g_eqD {K : PySem.W.Frag} {x y : V} {H : Hp} {Q : VK} {d e : Dt} (hx : At K H x d) (hy : At K H y e) (hd : dep d ≤ 100) (h : Q (.bl (eqD d e)) H) : rEqD K x y H Q := ⟨d, e, hx, hy, hd, h⟩
end L4
namespace L4
open PySem PySem.Spec PyProof.Rows L2 L3
theorem ints_of : ∀ {ns : List Int} {us : List Value}, Vals (ns.map V.int) us → IntsAre us ns
  | [], _, .nil => .nil
  | n :: ns, _, .cons r t => by
    obtain ⟨tk, rfl⟩ := r
    exact .cons n tk (ints_of t)
theorem vals_ints : ∀ {ns : List Int} {us : List Value}, IntsAre us ns → Vals (ns.map V.int) us
  | _, _, .nil => .nil
  | _, _, .cons n t r => .cons ⟨t, rfl⟩ (vals_ints r)
theorem vals_strs : ∀ {ns : List Str} {us : List Value}, StrsAre us ns → Vals (ns.map V.str) us
  | _, _, .nil => .nil
  | _, _, .cons n t r => .cons ⟨t, rfl⟩ (vals_strs r)
def rSortS (K : PySem.W.Frag) : RL := fun xs H Q => ∃ (p : Addr) (ns : List Str), xs = [.ref p] ∧ SqL K H p (ns.map V.str) ∧ ns.length < 64 ∧ ∀ (l : Addr) (ms : List Str), H l = none → ms.Perm ns → sortedS ms = true → Q (.ref l) (upd H l (.lst (ms.map V.str)))
section
variable {X : Cx}
theorem c_sortS : CallR X (.builtin "sorted") (rSortS X.K) := by
  intro pins s σ H xs us Q I r h
  obtain ⟨p, ns, rfl, hq, h64, q⟩ := h
  obtain ⟨u, rfl, rx⟩ := vals1 r
  cases rx
  obtain ⟨its, rv, pl, hz⟩ := I.list hq
  have hl : its.length = ns.length := by rw [← rv.length, List.length_map]
  refine sorted_strs pl.isList (strs_of rv) (by omega) fun out ms a1 a2 a3 => ?_
  obtain ⟨e, he⟩ := sortedAll_at s.heap its out
  have ro := vals_strs a1
  have hz2 : (ms.map V.str).length ≤ sizeLine := by rw [List.length_map, a2.length_eq]; exact Nat.le_of_lt (small1000 (by omega))
  refine ⟨.ref (s.heap.objs.size + 1), _, I.laid (a := s.heap.objs.size + 1) (o := .lst (ms.map V.str)) (t' := s.toks) (fun b o hb => sortedAll_old hb) (Nat.le_succ _) ⟨hz2, out.toList, e, ro, ?_⟩, rfl, q _ ms (I.hok.fresh (Nat.le_succ _)) a2 a3⟩
  rw [he]
end
end L4
namespace L4
open PySem PySem.Spec PyProof.Rows L2 L3
def ZIt (k : Bool) (h : Heap) (i a : Addr) (n : Nat) : Prop := match k with | true => h.IsListIter i a n | false => h.IsTupleIter i a n
section
variable {prog : Program} {w : World} {A : Around} {E : Value → Shared → Prop} {s : Shared}
structure ZAp (z T O i j : Addr) : Prop where
  nd : [z, T, O, i, j].Nodup
structure ZAt (k1 k2 : Bool) (h : Heap) (z T O i j a b : Addr) (f : Value) (n : Nat) : Prop where
  z : IsZip h z T O f
  t : IsPair h T (.ref i) (.ref j)
  o : ∃ x y, IsPair h O x y
  i : ZIt k1 h i a n
  j : ZIt k2 h j b n
end
section
variable {X : Cx} {pins : List (Addr × Obj)} {σ : St} {H : Hp} {s : Shared} {h' : Heap} {ch : List Addr}
def SqK (k : Bool) (K : PySem.W.Frag) (H : Hp) (a : Addr) (xs : List V) : Prop := match k with | true => SqL K H a xs | false => SqT K H a xs
theorem SqK.inj {k : Bool} {a : Addr} {xs ys : List V} (I : Inv X pins σ H s) (q : SqK k X.K H a xs) (q' : SqK k X.K H a ys) : xs = ys := by
  cases k with
  | true => exact I.list_inj q q'
  | false => exact I.tuple_inj q q'
end
end L4
namespace HT2
open PySem PyProof.Rows HT
theorem rcGt_int (A : Around) (s : Shared) (a : Int) (t : Tok) (c : Int) (u : Tok) (prog : Program) (w : World) (E : Value → Shared → Prop) (Q : Value → Shared → Prop) (h : Q (.bool (decide (c < a))) s) :
    wpAny (model prog w) A (richCompare .Gt (.int a t) (.int c u)) Q E s :=
  (PyProof.Rows.gt_int h : wpAny (model prog w) A (compareOp .Gt (.int a t) (.int c u)) Q E s)
section
open PySem.SeqAt
open PySem.AutoSeq1 (wpAny_loadPart')
open PySem.MeetsSeq PySem.MeetsSeq2 PySem.MeetsSeq3
theorem tuple_gt_ints (l b : Addr) (xs ys : Array Value) (n m : Nat) (dd ee : Option Addr) (sl tl : Array (Option Value)) (ns ms : List Int) (hi : IntsAre xs.toList ns) (hj : IntsAre ys.toList ms) :
    Meets (Builtin.«tuple.__gt__» ⟨[.ref l, .ref b], []⟩)
      (fun _ R s => s.heap.get? l = some { cls := .type "tuple", dict := dd, data := .seq xs n, slots := sl } ∧ s.heap.get? b = some { cls := .type "tuple", dict := ee, data := .seq ys m, slots := tl } ∧
        R (.ok (.ret (.bool (lexLt ms ns)))) s) :=
  .of_wp fun prog w A R s h => by
    obtain ⟨hp, g, d, tk, os⟩ := s; obtain ⟨hl, hb, h⟩ := h
    have f2 := AutoSeq1.sub_tuple_tuple
    have z1 : xs.size = ns.length := by rw [← hi.length]; simp
    have z2 : ys.size = ms.length := by rw [← hj.length]; simp
    wp_walk using wpAny_loadPart' hl, wpAny_loadPart' hb, wpAny_forIn_list _ (fun rest b s' => b.1 = none ∧ s' = ⟨hp, g, d, tk, os⟩ ∧ ∃ (vs ws : List Value) (as bs : List Int), rest = vs.zip ws ∧
      IntsAre vs as ∧ IntsAre ws bs ∧ as.length + ys.size = bs.length + xs.size ∧ R (.ok (.ret (.bool (lexLt bs as)))) ⟨hp, g, d, tk, os⟩) _
    case turn =>
      rintro ⟨y, x⟩ rest b s' ⟨hb', rfl, vs, ws, as, bs, hz, hvi, hwi, hlen, hR⟩
      cases hvi with
      | nil => rw [List.zip_nil_left] at hz; cases hz
      | cons a t hvi' =>
        cases hwi with
        | nil => rw [List.zip_nil_right] at hz; cases hz
        | cons c u hwi' =>
          rw [List.zip_cons_cons] at hz
          injection hz with hyx hrest
          injection hyx with hy hx
          subst hy hx
          rw [lexLt_cons] at hR
          simp only [List.length_cons] at hlen
          obtain ⟨e, he, hiff⟩ := eqAt_int A.in1 ⟨hp, g, d, tk, os⟩ a t c u
          refine wpAny_bind (he prog w _ _ ?_)
          cases e with
          | true =>
            rw [if_pos (hiff.mp rfl).symm] at hR
            wp_walk
            exact ⟨rfl, rfl, _, _, _, _, hrest, hvi', hwi', by omega, hR⟩
          | false =>
            rw [if_neg (fun q => absurd (hiff.mpr q.symm) Bool.false_ne_true)] at hR
            have hri := rcGt_int A.in1 ⟨hp, g, d, tk, os⟩ a t c u prog w
            wp_walk using hri
            exact ⟨_, rfl, by simpa using hR⟩
    case fin =>
      rintro ⟨b1, b2⟩ s' ⟨hb', rfl, vs, ws, as, bs, hz, hvi, hwi, hlen, hR⟩
      simp only at hb'
      subst hb'
      have hv : lexLt bs as = decide (ys.size < xs.size) := by
        cases hvi with
        | nil =>
          cases hwi with
          | nil =>
            simp only [List.length_nil] at hlen
            rw [lexLt_nil_nil]
            exact (decide_eq_false (by omega)).symm
          | cons c u hw =>
            simp only [List.length_nil, List.length_cons] at hlen
            rw [lexLt_cons_nil]
            exact (decide_eq_false (by omega)).symm
        | cons a t hv =>
          cases hwi with
          | nil =>
            simp only [List.length_nil, List.length_cons] at hlen
            rw [lexLt_nil_cons]
            exact (decide_eq_true (by omega)).symm
          | cons c u hw =>
            rw [List.zip_cons_cons] at hz
            cases hz
      rw [hv] at hR
      wp_walk
      exact ⟨_, rfl, by simpa [Builtin.Tuple.tupleCompareSizes] using hR⟩
    case h =>
      exact ⟨rfl, rfl, xs.toList, ys.toList, ns, ms, rfl, hi, hj, by omega, h⟩
end
section
variable {prog : Program} {w : World} {A : Around} {E : Value → Shared → Prop} {s : Shared}
theorem gt_tupInts {l b : Addr} {xs ys : Array Value} {ns ms : List Int} {Q : Value → Shared → Prop} (hl : IsTup s.heap l xs) (hb : IsTup s.heap b ys) (hi : IntsAre xs.toList ns) (hj : IntsAre ys.toList ms)
    (hu : A.units < cLine) (h : Q (.bool (lexLt ms ns)) s) : wpAny (model prog w) A (richCompare .Gt (.ref l) (.ref b)) Q E s := by
  obtain ⟨⟨cls, dd, data, sl⟩, ho, hc, n, hd⟩ := id hl
  obtain ⟨⟨cls2, ee, data2, tl⟩, ho2, hc2, m, hd2⟩ := id hb
  simp only at hc hd hc2 hd2
  subst hc hd hc2 hd2
  exact richCompare_meets_room (op := .Gt) ⟨_, ho, rfl⟩ ⟨_, ho2, rfl⟩ PySem.F.slot_tuple_gt PySem.F.entry_tuple_gt (PySem.F.args_tuple_gt_2 _ _) (tuple_gt_ints l b xs ys n m dd ee sl tl ns ms hi hj)
    ⟨ho, ho2, show Value.bool (lexLt ms ns) ≠ Value.notImplemented ∧ Q (.bool (lexLt ms ns)) s from ⟨(fun x => nomatch x), h⟩⟩ hu
end
end HT2
namespace L4
open PySem PySem.Spec PyProof.Rows L2 L3
def Kp (h0 h : Heap) : Prop := ∀ b o, h0.get? b = some o → h.get? b = some o
def HCmp (prog : Program) (w : World) (A : Around) (op : CmpOp) (P : Nat → Value → Prop) (bt : Nat → Nat → Bool) (h0 : Heap) : Prop :=
  ∀ i j vi vj (s : Shared) (Q E : Value → Shared → Prop), P i vi → P j vj → Kp h0 s.heap → Q (.bool (bt i j)) s → wpAny (model prog w) A (richCompare op vi vj) Q E s
section
variable {prog : Program} {w : World} {A : Around} {R : Result → Shared → Prop} {I S : Addr} {fp wr : List Addr} {n : Nat} {P : Nat → Value → Prop} {St : Nat → Heap → Prop} {bt : Nat → Nat → Bool} {h0 : Heap} {kw : List (Str × Value)}
theorem mm_max (W : Walks prog w A.in1 I fp wr n P St) (hc : HCmp prog w A.in1 .Gt P bt h0) (nS : S ∉ fp) (nw : ∀ b ∈ wr, h0.get? b = none) (n0 : h0.get? S = none) :
    ∀ (k j : Nat) (s : Shared) (vb : Value) (c : Nat), n - (j + 1) = k → j + 1 ≤ n → St (j + 1) s.heap → P (argBest bt j) vb → Kp h0 s.heap →
    s.heap.get? S = some { cls := .type "list", dict := none, data := .seq #[vb, vb] c, slots := #[] } →
    (∀ v h' tk, P (argBest bt (n - 1)) v → Kp h0 h' → R (.ok (.ret v)) { s with heap := h', toks := tk }) → codeAny (model prog w) A (.builtin "max.loop" ⟨[.ref I, .none, .ref S], kw⟩) R s := by
  have nSw : S ∉ wr := fun h => nS (W.sub _ h)
  have nm : (toString "max" ++ toString ".loop" : String) = "max.loop" := by decide
  intro k
  induction k with
  | zero =>
    intro j s vb c hk hj st hP kp hS hR
    have en : j + 1 = n := by omega
    refine codeAny_builtin PySem.F.entry_max_loop ?_
    rw [Around.under_plainId PySem.F.plain_max_loop _]
    show wpAny _ A.in1 (seqItems? (.ref S) >>= _) _ _ s; refine wpAny_bind (wpAny_seqItems hS rfl ?_)
    show wpAny _ A.in1 (tryCatch (pyNext (.ref I)) _ >>= _) _ _ s; refine wpAny_bind (wpAny_tryCatch (W.done s _ _ (en ▸ st) fun h1 tk k1 => ?_))
    have hS1 := k1 S _ nSw hS
    show wpAny _ A.in1 (updateSeq S (fun _ => #[]) >>= _) _ _ _; refine wpAny_bind ?_
    refine wpAny_updateSeq hS1 rfl (wpAny_bind (wpAny_letGo (wpAny_pure ?_)))
    refine hR vb _ tk (by rw [← en]; exact hP) fun b o e => (Heap.get?_update_other _ _ (fun z : S = b => by rw [← z, n0] at e; cases e)).trans (k1 b o (fun z => by rw [nw b z] at e; cases e) (kp b o e))
  | succ k ih =>
    intro j s vb c hk hj st hP kp hS hR
    have lt : j + 1 < n := by omega
    refine codeAny_builtin PySem.F.entry_max_loop ?_
    rw [Around.under_plainId PySem.F.plain_max_loop _]
    show wpAny _ A.in1 (seqItems? (.ref S) >>= _) _ _ s; refine wpAny_bind (wpAny_seqItems hS rfl ?_)
    show wpAny _ A.in1 (tryCatch (pyNext (.ref I)) _ >>= _) _ _ s; refine wpAny_bind (wpAny_tryCatch (W.item (j + 1) s _ _ lt st fun v h1 tk p1 st1 k1 => ?_))
    have hS1 := k1 S _ nSw hS
    have kp1 : Kp h0 h1 := fun b o e => k1 b o (fun z => by rw [nw b z] at e; cases e) (kp b o e)
    show wpAny _ A.in1 (tryCatch (holding [v, v] (richCompare .Gt v vb >>= _)) _ >>= _) _ _ _
    refine wpAny_bind (wpAny_tryCatch (wpAny_holding (wpAny_bind (hc (j + 1) (argBest bt j) v vb _ _ _ p1 hP kp1 ?_))))
    refine wpAny_bind (wpAny_holding (wpAny_truthy_bool ?_)); refine wpAny_bind (wpAny_letGo (wpAny_pure ?_))
    cases hb : bt (j + 1) (argBest bt j) with
    | true =>
      simp only [if_true]; refine wpAny_bind ?_
      refine wpAny_updateSeq hS1 rfl (wpAny_bind (wpAny_letGo ?_)); rw [nm]
      refine wpAny_pure ⟨plainId_quiet PySem.F.plain_max_loop _, ih (j + 1) _ v _ (by omega) lt (W.frame _ _ _ st1 fun b hf o e => ?_) (by simp only [argBest, hb, if_true]; exact p1) (fun b o e => ?_) (Heap.get?_update_self _ hS1 rfl) fun v2 h2 tk2 p2 k2 => hR v2 h2 tk2 p2 k2⟩
      · exact (Heap.get?_update_other _ _ (fun h : S = b => nS (by rw [h]; exact hf))).trans e
      · exact (Heap.get?_update_other _ _ (fun z : S = b => by rw [← z, n0] at e; cases e)).trans (kp1 b o e)
    | false =>
      simp only [Bool.false_eq_true, if_false]; refine wpAny_bind (wpAny_letGo ?_); rw [nm]
      exact wpAny_pure ⟨plainId_quiet PySem.F.plain_max_loop _, ih (j + 1) _ vb c (by omega) lt st1 (by simp only [argBest, hb, Bool.false_eq_true, if_false]; exact hP) kp1 hS1 fun v2 h2 tk2 p2 k2 => hR v2 h2 tk2 p2 k2⟩
theorem mm_max_first (W : Walks prog w A.in1 I fp wr n P St) (hc : HCmp prog w A.in1 .Gt P bt h0) (nS : S ∉ fp) (nw : ∀ b ∈ wr, h0.get? b = none) (n0 : h0.get? S = none) (hn : 0 < n) {s : Shared} {c : Nat} (st : St 0 s.heap) (kp : Kp h0 s.heap)
    (hS : s.heap.get? S = some { cls := .type "list", dict := none, data := .seq #[] c, slots := #[] })
    (hR : ∀ v h' tk, P (argBest bt (n - 1)) v → Kp h0 h' → R (.ok (.ret v)) { s with heap := h', toks := tk }) : codeAny (model prog w) A (.builtin "max.loop" ⟨[.ref I, .none, .ref S], kw⟩) R s := by
  have nSw : S ∉ wr := fun h => nS (W.sub _ h)
  have nm : (toString "max" ++ toString ".loop" : String) = "max.loop" := by decide
  refine codeAny_builtin PySem.F.entry_max_loop ?_
  rw [Around.under_plainId PySem.F.plain_max_loop _]
  show wpAny _ A.in1 (seqItems? (.ref S) >>= _) _ _ s; refine wpAny_bind (wpAny_seqItems hS rfl ?_)
  show wpAny _ A.in1 (tryCatch (pyNext (.ref I)) _ >>= _) _ _ s; refine wpAny_bind (wpAny_tryCatch (W.item 0 s _ _ hn st fun v h1 tk p1 st1 k1 => ?_))
  have hS1 := k1 S _ nSw hS
  have kp1 : Kp h0 h1 := fun b o e => k1 b o (fun z => by rw [nw b z] at e; cases e) (kp b o e)
  show wpAny _ A.in1 (updateSeq S (fun _ => #[v, v]) >>= _) _ _ _; refine wpAny_bind ?_
  refine wpAny_updateSeq hS1 rfl ?_; rw [nm]
  refine wpAny_pure ⟨plainId_quiet PySem.F.plain_max_loop _, mm_max W hc nS nw n0 _ 0 _ v _ rfl hn (W.frame _ _ _ st1 fun b hf o e => ?_) p1 (fun b o e => ?_) (Heap.get?_update_self _ hS1 rfl) fun v2 h2 tk2 p2 k2 => hR v2 h2 tk2 p2 k2⟩
  · exact (Heap.get?_update_other _ _ (fun h : S = b => nS (by rw [h]; exact hf))).trans e
  · exact (Heap.get?_update_other _ _ (fun z : S = b => by rw [← z, n0] at e; cases e)).trans (kp1 b o e)
end
section
variable {prog : Program} {w : World} {A : Around} {E : Value → Shared → Prop} {s : Shared}
theorem args_max3 (a b c : Value) : argsOk "max" ⟨[a, b, c], []⟩ := by unfold argsOk; kernel_rfl
theorem mm_max_tup {vs : List Value} {bt : Nat → Nat → Bool} {Q : Value → Shared → Prop} (hh : A.handled = none) (hv : 0 < vs.length) (hc : HCmp prog w A.in1 .Gt (fun i v => vs.toArray[i]? = some v) bt s.heap)
    (hQ : ∀ v h' tk, vs.toArray[argBest bt (vs.length - 1)]? = some v → Kp s.heap h' → Q v { s with heap := h', toks := tk }) :
    wpAny (model prog w) A.in1 (do let it ← pyIter (.ref s.heap.objs.size); again (.builtin "max.loop" ⟨[it, .none, ← newList []], []⟩)) (fun fin s' => match fin with
      | .done f => (match (Except.ok f : Result) with | .ok (.ret v) => Q v s' | .ok _ => False | .error e => E e s')
      | .again c' => c'.quiet = true ∧ codeAny (model prog w) A c' (fun r s' => match r with | .ok (.ret v) => Q v s' | .ok _ => False | .error e => E e s') s') E { s with heap := s.heap.push { cls := .type "tuple", data := .seq vs.toArray } } := by
  have ht : (s.heap.push { cls := .type "tuple", data := .seq vs.toArray }).IsTuple s.heap.objs.size vs.toArray := ⟨_, Heap.get?_push_size _ rfl, rfl, 0, rfl⟩
  have z1 : (s.heap.push { cls := .type "tuple", data := .seq vs.toArray }).objs.size = s.heap.objs.size + 1 := Heap.size_push ..
  refine wpAny_bind (wpAny_pyIter_tuple ht ?_)
  refine wpAny_bind (wpAny_newObj_type ?_)
  have gone : ∀ b, s.heap.objs.size ≤ b → s.heap.get? b = none := fun b hb => by
    cases q : s.heap.get? b with
    | none => rfl
    | some o => exact absurd (Heap.lt_size q) (Nat.not_lt.mpr hb)
  have W := Walks.tuple (prog := prog) (w := w) (A := A.in1) hh (s.heap.push { cls := .type "tuple", data := .seq vs.toArray }).objs.size s.heap.objs.size (by rw [z1]; exact Nat.ne_of_lt (Nat.lt_succ_self _)) vs.toArray
  have z2 : ((s.heap.push { cls := .type "tuple", data := .seq vs.toArray }).push { cls := .type "tuple_iterator", data := .fields #[.ref s.heap.objs.size, .int 0 0] }).objs.size = s.heap.objs.size + 2 := by rw [Heap.size_push, z1]
  refine wpAny_pure ⟨plainId_quiet PySem.F.plain_max_loop _, mm_max_first W hc (h0 := s.heap) ?_ ?_ (gone _ (by rw [z2]; omega)) (by simpa using hv) (W.frame 0 _ _ ⟨⟨_, Heap.get?_push_size _ rfl, rfl, rfl⟩, ht.push _⟩ fun b _ o e => Heap.get?_push_of_some _ e)
    (fun b o e => Heap.get?_push_of_some _ (Heap.get?_push_of_some _ (Heap.get?_push_of_some _ e))) (Heap.get?_push_size _ rfl) fun v h' tk p k => ?_⟩
  · intro hm
    rw [z2, z1] at hm
    simp at hm
  · intro b hb
    simp at hb
    rw [hb]
    exact gone _ (by first | omega | (rw [z1]; omega))
  · exact hQ v h' tk (by simpa using p) k
theorem call_max_2 {a b : Value} {bt : Nat → Nat → Bool} {Q : Value → Shared → Prop} (hh : A.handled = none) (hc : HCmp prog w A.in1 .Gt (fun i v => #[a, b][i]? = some v) bt s.heap)
    (hQ : ∀ v h' tk, #[a, b][argBest bt 1]? = some v → Kp s.heap h' → Q v { s with heap := h', toks := tk }) : wpAny (model prog w) A (call (.builtin "max") [a, b]) Q E s := by
  have nm : (toString "max" ++ toString ".loop" : String) = "max.loop" := by decide
  refine call_function_tree PySem.F.kind_max PySem.F.plain_max PySem.F.entry_max (PySem.F.args_max2 _ _) ?_
  show wpAny _ A.in1 (Builtin.Builtins.bindParams "max" ["key", "default"] 0 ⟨[], []⟩ >>= _) _ _ s
  refine wpAny_bind (wpAny_of_eq (show Builtin.Builtins.bindParams "max" ["key", "default"] 0 ⟨[], []⟩ = pure [none, none] from rfl) ?_)
  show wpAny _ A.in1 (newTuple [a, b] >>= _) _ _ s
  refine wpAny_bind (wpAny_newObj_type ?_)
  have go := mm_max_tup (prog := prog) (w := w) (E := E) (Q := Q) (s := s) (vs := [a, b]) hh (Nat.zero_lt_succ _) hc hQ
  rw [← nm] at go
  exact go
theorem call_max_3 {a b c : Value} {bt : Nat → Nat → Bool} {Q : Value → Shared → Prop} (hh : A.handled = none) (hc : HCmp prog w A.in1 .Gt (fun i v => #[a, b, c][i]? = some v) bt s.heap)
    (hQ : ∀ v h' tk, #[a, b, c][argBest bt 2]? = some v → Kp s.heap h' → Q v { s with heap := h', toks := tk }) : wpAny (model prog w) A (call (.builtin "max") [a, b, c]) Q E s := by
  have nm : (toString "max" ++ toString ".loop" : String) = "max.loop" := by decide
  refine call_function_tree PySem.F.kind_max PySem.F.plain_max PySem.F.entry_max (args_max3 _ _ _) ?_
  show wpAny _ A.in1 (Builtin.Builtins.bindParams "max" ["key", "default"] 0 ⟨[], []⟩ >>= _) _ _ s
  refine wpAny_bind (wpAny_of_eq (show Builtin.Builtins.bindParams "max" ["key", "default"] 0 ⟨[], []⟩ = pure [none, none] from rfl) ?_)
  show wpAny _ A.in1 (newTuple [a, b, c] >>= _) _ _ s
  refine wpAny_bind (wpAny_newObj_type ?_)
  have go := mm_max_tup (prog := prog) (w := w) (E := E) (Q := Q) (s := s) (vs := [a, b, c]) hh (Nat.zero_lt_succ _) hc hQ
  rw [← nm] at go
  exact go
end
section
variable {prog : Program} {w : World} {A : Around} {R : Result → Shared → Prop} {I S : Addr} {fp wr : List Addr} {n : Nat} {P : Nat → Value → Prop} {St : Nat → Heap → Prop} {bt : Nat → Nat → Bool} {h0 : Heap} {kw : List (Str × Value)}
end
section
variable {prog : Program} {w : World} {A : Around} {E : Value → Shared → Prop} {s : Shared}
end

def rMaxT (K : PySem.W.Frag) : RL := fun xs H Q => ∃ a b ns ms, xs = [.ref a, .ref b] ∧ SqT K H a (ns.map V.int) ∧ SqT K H b (ms.map V.int) ∧ Q (.ref (if HT.lexLt ns ms = true then b else a)) H
def rMax3 : RL := fun xs H Q => ∃ i j k, xs = [.int i, .int j, .int k] ∧ Q (.int (max (max i j) k)) H
def rIntB : RL := fun xs H Q => ∃ k : Bool, xs = [.bl k] ∧ Q (.int (if k then 1 else 0)) H
section
variable {X : Cx}
theorem c_intB : CallR X (.type "int") rIntB := by
  intro pins s σ H xs us Q I r h
  obtain ⟨k, rfl, q⟩ := h
  exact call_int1 pins s σ H _ us Q I r (.inr ⟨k, rfl, q⟩)
theorem c_max3 (hc : X.calm = true) : CallR X (.builtin "max") rMax3 := by
  intro pins s σ H xs us Q I r h
  obtain ⟨i, j, k, rfl, q⟩ := h
  obtain ⟨a, b, c, rfl, ra, rb, rc⟩ : ∃ a b c, us = [a, b, c] ∧ RelV (.int i) a ∧ RelV (.int j) b ∧ RelV (.int k) c := by
    cases r with
    | cons ra r => cases r with
      | cons rb r => cases r with
        | cons rc r => cases r with
          | nil => exact ⟨_, _, _, rfl, ra, rb, rc⟩
  obtain ⟨t1, rfl⟩ := ra
  obtain ⟨t2, rfl⟩ := rb
  obtain ⟨t3, rfl⟩ := rc
  refine call_max_3 (bt := fun x y => decide ([i, j, k].getD x 0 > [i, j, k].getD y 0)) (I.ok.hd hc) (fun x y vx vy s' Q' E' px py _ q' => ?_) (fun v h' tk pv kp => ?_)
  · exact CmpOf.ints_gt (P := fun i' v => #[Value.int i t1, .int j t2, .int k t3][i']? = some v) (fun x => [i, j, k].getD x 0) (fun x v e => by
      match x, e with
      | 0, e => simp at e; exact ⟨t1, e.symm⟩
      | 1, e => simp at e; exact ⟨t2, e.symm⟩
      | 2, e => simp at e; exact ⟨t3, e.symm⟩
      | x + 3, e => simp at e) x y vx vy s' Q' E' px py q'
  · have e : ∃ t, v = Value.int (max (max i j) k) t := by
      have b1 : argBest (fun x y => decide ([i, j, k].getD x 0 > [i, j, k].getD y 0)) 1 = if j > i then 1 else 0 := by
        show (if decide (j > i) = true then 1 else 0) = _
        simp
      have b2 : argBest (fun x y => decide ([i, j, k].getD x 0 > [i, j, k].getD y 0)) 2 = if decide (k > [i, j, k].getD (if j > i then 1 else 0) 0) = true then 2 else (if j > i then 1 else 0) := by
        rw [argBest, b1]; rfl
      rw [b2] at pv
      by_cases h1 : j > i
      · simp only [if_pos h1] at pv
        by_cases h2 : k > j
        · rw [if_pos (show decide (k > [i, j, k].getD 1 0) = true from decide_eq_true h2)] at pv
          cases pv; exact ⟨t3, by rw [show max (max i j) k = k by omega] <;> rfl⟩
        · rw [if_neg (show ¬ decide (k > [i, j, k].getD 1 0) = true from by simpa using h2)] at pv
          cases pv; exact ⟨t2, by rw [show max (max i j) k = j by omega] <;> rfl⟩
      · simp only [if_neg h1] at pv
        by_cases h2 : k > i
        · rw [if_pos (show decide (k > [i, j, k].getD 0 0) = true from decide_eq_true h2)] at pv
          cases pv; exact ⟨t3, by rw [show max (max i j) k = k by omega] <;> rfl⟩
        · rw [if_neg (show ¬ decide (k > [i, j, k].getD 0 0) = true from by simpa using h2)] at pv
          cases pv; exact ⟨t1, by rw [show max (max i j) k = i by omega] <;> rfl⟩
    obtain ⟨t, rfl⟩ := e
    exact ⟨.int _, H, I.kept (t' := tk) kp, ⟨t, rfl⟩, q⟩
theorem c_maxT (hc : X.calm = true) (hu : X.A.units + 1 < cLine) : CallR X (.builtin "max") (rMaxT X.K) := by
  intro pins s σ H xs us Q I r h
  obtain ⟨a, b, ns, ms, rfl, ha, hb, q⟩ := h
  obtain ⟨u, v, rfl, ru, rv⟩ : ∃ u v, us = [u, v] ∧ RelV (.ref a) u ∧ RelV (.ref b) v := by
    cases r with
    | cons ra r => cases r with
      | cons rb r => cases r with
        | nil => exact ⟨_, _, rfl, ra, rb⟩
  cases ru; cases rv
  obtain ⟨its, r1, p1, _⟩ := I.tuple ha
  obtain ⟨its2, r2, p2, _⟩ := I.tuple hb
  have i1 : IntsAre its.toArray.toList ns := intsAre_of r1
  have i2 : IntsAre its2.toArray.toList ms := intsAre_of r2
  refine call_max_2 (bt := fun x y => if x = 0 then (if y = 0 then HT.lexLt ns ns else HT.lexLt ms ns) else (if y = 0 then HT.lexLt ns ms else HT.lexLt ms ms)) (I.ok.hd hc) (fun x y vx vy s' Q' E' px py kp q' => ?_) (fun v h' tk pv kp => ?_)
  · have t1 : IsTup s'.heap a its.toArray := by obtain ⟨ob, e, c⟩ := p1; exact ⟨ob, kp _ _ e, c⟩
    have t2 : IsTup s'.heap b its2.toArray := by obtain ⟨ob, e, c⟩ := p2; exact ⟨ob, kp _ _ e, c⟩
    match x, y, px, py with
    | 0, 0, px, py => simp at px py; subst px py; exact HT2.gt_tupInts t1 t1 i1 i1 hu (by simpa using q')
    | 0, 1, px, py => simp at px py; subst px py; exact HT2.gt_tupInts t1 t2 i1 i2 hu (by simpa using q')
    | 1, 0, px, py => simp at px py; subst px py; exact HT2.gt_tupInts t2 t1 i2 i1 hu (by simpa using q')
    | 1, 1, px, py => simp at px py; subst px py; exact HT2.gt_tupInts t2 t2 i2 i2 hu (by simpa using q')
    | x + 2, _, px, _ => simp at px
    | _, y + 2, _, py => simp at py
  · have e : v = Value.ref (if HT.lexLt ns ms = true then b else a) := by
      simp only [argBest] at pv
      cases hl : HT.lexLt ns ms with
      | true => rw [hl] at pv; simp at pv; rw [if_pos rfl]; exact pv.symm
      | false => rw [hl] at pv; simp at pv; rw [if_neg Bool.false_ne_true]; exact pv.symm
    subst e
    exact ⟨.ref _, H, I.kept (t' := tk) kp, rfl, q⟩
end
section
variable {H : Hp} {Q : VK}
theorem g_max3 {a b c : Int} (h : Q (.int (max (max a b) c)) H) : rMax3 [V.int a, V.int b, V.int c] H Q := ⟨a, b, c, rfl, h⟩
theorem g_intB {k : Bool} (h : Q (.int (if k then 1 else 0)) H) : rIntB [.bl k] H Q := ⟨k, rfl, h⟩
theorem g_maxT2 {K : PySem.W.Frag} {a b : Addr} {m c m' c' : Int} (ha : H a = some (.tup [.int m, .int c])) (hb : H b = some (.tup [.int m', .int c'])) (h : Q (.ref (if HT.lexLt [m, c] [m', c'] = true then b else a)) H) : rMaxT K [.ref a, .ref b] H Q :=
  ⟨a, b, [m, c], [m', c'], rfl, SqT.of ha, SqT.of hb, h⟩
end
section
variable {K : PySem.W.Frag} {P : Addr → Prop} {H0 H H' : Hp} {l l' l2 : List (Addr × Ob)} {fs : List Pr} {p r : Addr} {Q : VK} {xs ys : List V} {lo hi : Option Int}
theorem g_cat (L : Led P H0 H l fs) (m1 : Put p (Eo (.lst xs)) (Eo (.lst xs)) l l') (m2 : Put r (Eo (.lst ys)) (Eo (.lst ys)) l l2) (hz : xs.length + ys.length ≤ sizeLine)
    (h : ∀ b H', H b = none → Led P H0 H' ((b, Eo (.lst (xs ++ ys))) :: l) fs → Same H H' → Q (.ref b) H') : rCat (.ref p) (.ref r) H Q :=
  ⟨p, r, xs, ys, rfl, rfl, L.eo m1, L.eo m2, hz, fun b nb => h b _ nb (L.newO nb rfl) (same_upd0 nb)⟩
theorem g_listOf (L : Led P H0 H l fs) (s : SqL K H p xs ∨ SqT K H p xs) (h : ∀ b H', H b = none → Led P H0 H' ((b, Eo (.lst xs)) :: l) fs → Same H H' → Q (.ref b) H') : rListOf K [.ref p] H Q :=
  ⟨p, xs, rfl, s, fun b nb => h b _ nb (L.newO nb rfl) (same_upd0 nb)⟩
end
end L4
namespace L4
open PySem PySem.Spec PyProof.Rows
def ExcAt (h : Heap) (x : Addr) (C : Value) (dx T : Option Addr) (fl : Value) : Prop :=
  ∃ oe vs, h.get? x = some oe ∧ oe.cls = C ∧ oe.dict = dx ∧ oe.data = .fields vs ∧ vs[1]? = some (T.elim .none .ref) ∧ ∀ t, T = some t → t ≠ x ∧ ∃ oT ts, h.get? t = some oT ∧ oT.data = .fields ts ∧ ts[3]? = some fl
def frsE (l : List Env) : List Addr := l.filterMap (·.frame)
structure But (x : Addr) (T : Option Addr) (fs : List Addr) (h h' : Heap) : Prop where
  keep : ∀ b o, h.get? b = some o → b ≠ x → some b ≠ T → b ∉ fs → h'.get? b = some o
  slot : ∀ b o, h.get? b = some o → b ≠ x → some b ≠ T → ∃ sl, h'.get? b = some { o with slots := sl }
  there : ∀ b o, h.get? b = some o → ∃ o', h'.get? b = some o'
theorem But.refl {x : Addr} {T : Option Addr} {fs : List Addr} {h : Heap} : But x T fs h h := ⟨fun _ _ e _ _ _ => e, fun _ o e _ _ => ⟨o.slots, e⟩, fun _ o e => ⟨o, e⟩⟩
theorem ExcAt.there {h : Heap} {x : Addr} {C : Value} {dx T : Option Addr} {fl : Value} (e : ExcAt h x C dx T fl) : ∃ o, h.get? x = some o := let ⟨o, _, q, _⟩ := e; ⟨o, q⟩
section
variable {M : Model} {A : Around} {E : Value → Shared → Prop} {s : Shared} {base : Heap} {env : Env} {outer : List Env} {L x t : Addr} {C fl : Value} {dx T : Option Addr} {Q : Unit → Shared → Prop}
theorem set_flight {fr : Option Addr} (he : ExcAt s.heap x C dx (some t) fl) (h : ∀ h', ExcAt h' x C dx (some t) (fr.elim .none fun f => rawInt f) → But x (some t) [] s.heap h' → Q () { s with heap := h' }) : wpAny M A (setFlight (.ref x) fr) Q E s := by
  obtain ⟨oe, vs, e1, e2, e3, e4, e5, e6⟩ := he
  obtain ⟨ne, oT, ts, f1, f2, f3⟩ := e6 t rfl
  have hz : 3 < ts.size := (Array.getElem?_eq_some_iff.mp f3).1
  have oth : ∀ b, b ≠ t → (s.heap.update t (Obj.mapFields (·.setIfInBounds 3 (fr.elim .none fun f => rawInt f)))).get? b = s.heap.get? b := fun b hb => Heap.get?_update_other _ _ (Ne.symm hb)
  have d3 := Obj.data_mapFields f2 (·.setIfInBounds 3 (fr.elim .none fun f => rawInt f))
  have self := Heap.get?_update_self (Obj.mapFields (·.setIfInBounds 3 (fr.elim .none fun f => rawInt f))) f1 (Obj.isFreed_of_fields d3)
  unfold setFlight
  refine wpAny_bind (wpAny_field e1 e4 e5 ?_)
  rw [if_pos (show (((some t).elim Value.none Value.ref) != Value.none) = true from by simp)]
  refine wpAny_setField f1 f2 hz (h _ ⟨oe, vs, (oth x (Ne.symm ne)).trans e1, e2, e3, e4, e5, fun t' ht => ?_⟩ ⟨fun b o q _ n _ => ?_, fun b o q _ n => ?_, fun b o q => ?_⟩)
  · cases ht
    exact ⟨ne, _, _, self, d3, by simp [hz]⟩
  · exact (oth b fun z => n (by rw [z])).trans q
  · exact ⟨o.slots, (oth b fun z => n (by rw [z])).trans q⟩
  · by_cases z : b = t
    · exact ⟨_, by rw [z]; exact self⟩
    · exact ⟨o, (oth b z).trans q⟩
theorem new_entry {head : Value} {hadNext : Bool} {oe : Obj} {vs : Array Value} (hfr : A.frames = some (env :: outer)) (hl : s.heap.FunFrames base (env :: outer)) (hf : env.frame = some L)
    (e1 : s.heap.get? x = some oe) (e4 : oe.data = .fields vs) (hz : 1 < vs.size)
    (h : ∀ h' t', ExcAt h' x oe.cls oe.dict (some t') (rawInt L) → But x none (frsE (env :: outer)) s.heap h' → s.heap.objs.size ≤ t' → Q () { s with heap := h' }) :
    wpAny M A (do let a ← frameOf env; let pl ← entryPlaceOf L hadNext; let b ← EntryCells.newEntry head a .none (rawInt L) .none pl; setField (.ref x) 1 b) Q E s := by
  have nfr : x ∉ (env :: outer).filterMap (·.frame) := fun hm => by
    obtain ⟨_, o, ho, hn⟩ := hl.mem hm
    rw [e1] at ho; cases ho; exact hn vs e4
  refine wpAny_bind (wpAny_frameOf_fun hfr hl hf fun h1 s1 => ?_)
  refine wpAny_bind (wpAny_entryPlaceOf fun pl hpl => ?_)
  unfold EntryCells.newEntry newFields
  refine wpAny_bind (wpAny_newObj_type ?_ (hpl.sizeOk5 _ _ _ _ _))
  have x1 : h1.get? x = some oe := (s1.2.1 x nfr).trans e1
  generalize hnew : ({ cls := .type "traceback", dict := none, data := .fields ([head, .ref L, .none, rawInt L, .none] ++ (if pl.isEmpty then List.replicate 6 Value.none else pl)).toArray } : Obj) = new
  have x2 := Heap.get?_push_of_some (h := h1) new x1
  have x3 : h1.objs.size ≠ x := Nat.ne_of_gt (Heap.lt_size x1)
  have d3 := Obj.data_mapFields e4 (·.setIfInBounds 1 (Value.ref h1.objs.size))
  have x4 := Heap.get?_update_self (Obj.mapFields (·.setIfInBounds 1 (Value.ref h1.objs.size))) x2 (Obj.isFreed_of_fields d3)
  have x5 := (Heap.get?_update_other (h1.push new) (Obj.mapFields (·.setIfInBounds 1 (Value.ref h1.objs.size))) (Ne.symm x3)).trans (Heap.get?_push_size h1 (by subst hnew; rfl))
  have up : ∀ b o, b ≠ x → h1.get? b = some o → ((h1.push new).update x (Obj.mapFields (·.setIfInBounds 1 (Value.ref h1.objs.size)))).get? b = some o := fun b o n q => by
    rw [Heap.get?_update_other _ _ (Ne.symm n)]; exact Heap.get?_push_of_some _ q
  refine wpAny_setField x2 e4 hz (h _ h1.objs.size ⟨_, _, x4, Obj.cls_mapFields _ _, ?_, d3, by simp [hz], fun t' ht => ?_⟩ ⟨fun b o q n _ nf => ?_, fun b o q n _ => ?_, fun b o q => ?_⟩ ?_)
  · cases oe with | mk c d da sl => cases da <;> rfl
  · cases ht
    refine ⟨x3, new, _, x5, by subst hnew; rfl, ?_⟩
    first | (simp; done) | (rcases hpl with rfl | ⟨_, _, _, _, _, _, _, rfl⟩ <;> simp)
  · exact up b o n ((s1.2.1 b nf).trans q)
  · obtain ⟨sl, e⟩ := s1.2.2 b o q
    exact ⟨sl, up b _ n e⟩
  · by_cases z : b = x
    · exact ⟨_, by rw [z]; exact x4⟩
    · obtain ⟨sl, e⟩ := s1.2.2 b o q
      exact ⟨_, up b _ z e⟩
  · exact s1.1 ▸ Nat.le_refl _
theorem note_frame (hfr : A.frames = some (env :: outer)) (hl : s.heap.FunFrames base (env :: outer)) (hf : env.frame = some L) (he : ExcAt s.heap x C dx T fl) (hfl : fl = .none ∨ fl = rawInt L)
    (h : ∀ h' t', ExcAt h' x C dx (some t') (rawInt L) → But x T (frsE (env :: outer)) s.heap h' → (some t' = T ∨ s.heap.objs.size ≤ t') → Q () { s with heap := h' }) : wpAny M A (noteFrame (.ref x) env) Q E s := by
  obtain ⟨oe, vs, e1, rfl, rfl, e4, e5, e6⟩ := he
  have hz : 1 < vs.size := (Array.getElem?_eq_some_iff.mp e5).1
  unfold noteFrame
  simp only [hf]
  refine wpAny_bind (wpAny_field e1 e4 e5 ?_)
  cases T with
  | none =>
    rw [if_neg (by decide)]
    exact new_entry hfr hl hf e1 e4 hz fun h' t' a b c => h h' t' a b (.inr c)
  | some t =>
    obtain ⟨ne, oT, ts, f1, f2, f3⟩ := e6 t rfl
    rw [if_pos (show (((some t).elim Value.none Value.ref) != Value.none) = true from by simp)]
    refine wpAny_bind (wpAny_field f1 f2 f3 ?_)
    by_cases z : fl = rawInt L
    · subst z
      rw [if_pos (by simp)]
      exact wpAny_pure (h _ t ⟨oe, vs, e1, rfl, rfl, e4, e5, fun t' ht => by cases ht; exact ⟨ne, oT, ts, f1, f2, f3⟩⟩ But.refl (.inl rfl))
    · obtain rfl : fl = .none := hfl.resolve_right z
      rw [if_neg (show ¬ ((Value.none == rawInt L) = true) from by simp [rawInt])]
      refine wpAny_bind (wpAny_setField f1 f2 (Array.getElem?_eq_some_iff.mp f3).1 ?_)
      have oth : ∀ b, b ≠ t → (s.heap.update t (Obj.mapFields (·.setIfInBounds 3 Value.none))).get? b = s.heap.get? b := fun b hb => Heap.get?_update_other _ _ (Ne.symm hb)
      have self := Heap.get?_update_self (Obj.mapFields (·.setIfInBounds 3 Value.none)) f1 (Obj.isFreed_of_fields (Obj.data_mapFields f2 _))
      refine new_entry (base := base) (outer := outer) hfr (hl.of_keeps fun b o q hn => ⟨o, (oth b fun z => ?_).trans q, rfl⟩) hf ((oth x (Ne.symm ne)).trans e1) e4 hz fun h' t' a b c => h h' t' a ⟨fun b' o q n m nf => ?_, fun b' o q n m => ?_, fun b' o q => ?_⟩ (.inr ?_)
      · subst z; rw [f1] at q; cases q; exact hn ts f2
      · exact b.keep b' o ((oth b' fun z => m (by rw [z])).trans q) n (by simp) nf
      · exact b.slot b' o ((oth b' fun z => m (by rw [z])).trans q) n (by simp)
      · by_cases z : b' = t
        · exact b.there b' _ (by rw [z]; exact self)
        · exact b.there b' o ((oth b' z).trans q)
      · simpa using c
theorem leave_exc (hfr : A.frames = some (env :: outer)) (hl : s.heap.FunFrames base (env :: outer)) (hf : env.frame = some L) (he : ExcAt s.heap x C dx T fl) (hfl : fl = .none ∨ fl = rawInt L)
    (h : ∀ h' t', ExcAt h' x C dx (some t') .none → But x T (frsE (env :: outer)) s.heap h' → (some t' = T ∨ s.heap.objs.size ≤ t') → Q () { s with heap := h' }) : wpAny M A (leaving env (.ref x)) Q E s := by
  unfold leaving
  refine wpAny_bind (note_frame hfr hl hf he hfl fun h1 t1 a b c => ?_)
  refine set_flight (fr := none) a fun h2 a2 b2 => h h2 t1 a2 ⟨fun b' o q n m nf => ?_, fun b' o q n m => ?_, fun b' o q => ?_⟩ c
  · refine b2.keep b' o (b.keep b' o q n m nf) n (fun z => ?_) (by simp)
    rcases c with c | c
    · exact m (z.trans c)
    · have lt := Heap.lt_size q; cases z; exact absurd lt (Nat.not_lt.mpr c)
  · obtain ⟨sl, e⟩ := b.slot b' o q n m
    refine ⟨sl, b2.keep b' _ e n (fun z => ?_) (by simp)⟩
    rcases c with c | c
    · exact m (z.trans c)
    · have lt := Heap.lt_size q; cases z; exact absurd lt (Nat.not_lt.mpr c)
  · obtain ⟨o1, e⟩ := b.there b' o q
    exact b2.there b' o1 e
end
end L4
namespace L4
open PySem PySem.Spec PyProof.Rows L2 L3
structure Own1 (X : Cx) (pins : List (Addr × Obj)) (H : Hp) (b : Addr) : Prop where
  no : H b = none
  ab : X.s₀.heap.objs.size ≤ b
  lo : b ≠ X.env.locals
  ce : ∀ x c, X.env.cells.lookup x = some c → c ≠ b
  pi : ∀ p ∈ X.pn ++ pins, p.1 ≠ b
def CX1 (P : Program) (w : World) : CXT := fun outer H s E e s' => ∃ x C dx t H', e = Value.ref x ∧ s'.os = s.os ∧ AllBare s'.gens ∧ Un (frs outer) [] H H' s.heap s'.heap ∧ HOk P w H' s'.heap ∧
  ExcAt s'.heap x C dx (some t) .none ∧ s.heap.objs.size ≤ x ∧ s.heap.objs.size ≤ t ∧ H' x = none ∧ H' t = none ∧ E C dx H'
theorem noErr1 {P : Program} {w : World} : NoErr (CX1 P w) := fun _ _ _ _ _ ⟨_, _, _, _, _, _, _, _, _, _, _, _, _, _, _, h⟩ => h
def XS (X : Cx) (Ex : St → XK) (e : Value) (s' : Shared) : Prop := ∃ pins σ H x C dx T fl, e = Value.ref x ∧ Inv X pins σ H s' ∧ ExcAt s'.heap x C dx T fl ∧ (fl = .none ∨ fl = rawInt X.env.locals) ∧ Own1 X pins H x ∧ (∀ t, T = some t → Own1 X pins H t) ∧ Ex σ C dx H
def PaX (X : Cx) (Ex : St → XK) : Prop := ∀ e s', XS X Ex e s' → X.xe e s'
section
variable {X : Cx} {pins : List (Addr × Obj)} {σ : St} {H H' : Hp} {s s' : Shared} {Ex : St → XK} {e : Value}
theorem own1_of (I : Inv X pins σ H s) {b : Addr} (hb : s.heap.objs.size ≤ b) (n : H' b = none) : Own1 X pins H' b :=
  ⟨n, Nat.le_trans I.sz hb, Nat.ne_of_gt (Nat.lt_of_lt_of_le I.lt hb), fun x c e z => by
    obtain ⟨v, o, ho, _⟩ := I.cell x c e
    exact absurd (Heap.lt_size ho) (by rw [z]; exact Nat.not_lt.mpr hb), fun p hp z => by
    have := (I.pin p hp).1
    exact absurd (Heap.lt_size this) (by rw [z]; exact Nat.not_lt.mpr hb)⟩
theorem inv_but {x : Addr} {T : Option Addr} {h' : Heap} (I : Inv X pins σ H s) (hx : Own1 X pins H x) (hT : ∀ t, T = some t → Own1 X pins H t) (b : But x T (frs X.stack) s.heap h') : Inv X pins σ H { s with heap := h' } := by
  have nx : ∀ c, c ∉ x :: T.toList → c ≠ x ∧ some c ≠ T := fun c hc => ⟨fun z => hc (by rw [z]; exact List.mem_cons_self), fun z => hc (List.mem_cons_of_mem _ (by rw [← z]; simp))⟩
  refine I.call' (s' := { s with heap := h' }) (ch := x :: T.toList) rfl ⟨fun c o q _ nf nc => b.keep c o q (nx c nc).1 (nx c nc).2 nf, fun c o q _ _ nc => b.slot c o q (nx c nc).1 (nx c nc).2, fun _ _ _ n _ => n, fun c o q _ => b.there c o q, fun _ _ q => q, fun _ _ _ q => q, fun _ ps q => ⟨#[], by rw [q]; simp⟩⟩ (fun a o q => ?_) I.bare (fun c hc => ?_)
  · refine (I.hok a o q).stay (fun c u hc r => ?_) (fun _ r => r) fun _ _ r => r
    obtain ⟨v, hv⟩ : ∃ v, H c = some v := by
      rcases hc with rfl | hc
      · exact ⟨_, q⟩
      · exact ⟨_, hc⟩
    refine b.keep c u r (fun z => ?_) (fun z => ?_) (fun z => ?_)
    · rw [z, hx.no] at hv; cases hv
    · rw [(hT c z.symm).no] at hv; cases hv
    · rw [I.stkFree c z] at hv; cases hv
  · have w : Own1 X pins H c := by
      rcases List.mem_cons.mp hc with rfl | hc
      · exact hx
      · exact hT c (by simpa using hc)
    exact ⟨.inr w.ab, w.lo, w.ce, w.pi⟩
theorem xs_call (I : Inv X pins σ H s) (h : CX1 X.prog X.w X.stack H s (Ex σ) e s') : XS X Ex e s' := by
  obtain ⟨x, C, dx, t, H', rfl, os, bare, un, hok, ex, x1, t1, nx, nt, q⟩ := h
  exact ⟨pins, σ, H', x, C, dx, some t, .none, rfl, I.call' (ch := []) os un hok bare (fun b z => absurd z (by simp)), ex, .inl rfl, own1_of I x1 nx, fun t' z => by cases z; exact own1_of I t1 nt, q⟩
theorem xs_leave {P : Program} {w : World} {K : PySem.W.Frag} {mg : Str → Option Value} {base : Heap} {N : List Str} {qual : Str} {scope : Scope} {f : Addr} {cd : Value} {A : Around} {outer : List Env} {s0 : Shared} {H0 : Hp} {E : XK} :
    PaX (cxOf (CX1 P w) P w K mg base N qual scope f cd A outer s0 H0 E) (fun _ => E) := fun e s' h => by
  obtain ⟨pins, σ, H, x, C, dx, T, fl, rfl, I, ex, hfl, ox, oT, q⟩ := h
  refine leave_exc (base := base) (outer := outer) I.ok.frames I.stack rfl ex hfl fun h' t' a b c => ?_
  have J := inv_but I ox oT b
  have ot : s0.heap.objs.size ≤ t' ∧ H t' = none := by
    rcases c with c | c
    · exact ⟨(oT t' c.symm).ab, (oT t' c.symm).no⟩
    · exact ⟨Nat.le_trans I.sz c, I.hok.fresh c⟩
  exact ⟨x, C, dx, t', H, rfl, J.os, J.bare, J.base, J.hok, a, ox.ab, ot.1, ox.no, ot.2, q⟩
end
def tCallX (sp : Sp) (Ex : St → XK) (t : TA) : TE := fun σ H Q => t σ H fun vs H1 => sp vs H1 Q (Ex σ)
section
variable {X : Cx} {k : Nat} {f C : Addr} {fd : FuncData} {ps : List Str} {sp : Sp} {Ex : St → XK} {x m : Str} {p pos apos : Pos} {e o : Expr} {es : List Expr} {ta : TE} {t : TA}
theorem run_fnX {pins : List (Addr × Obj)} {σ : St} {H : Hp} {s : Shared} {Q : VK} {us : List Value} {vs : List V} (F : FnOk X.prog X.w X.K X.mg X.base (CX1 X.prog X.w) k f fd ps sp) (hr : Room k X.A) (hb : Binds X.K fd ps []) (hx : PaX X Ex)
    (I : Inv X pins σ H s) (r : Vals vs us) (h : sp vs H Q (Ex σ)) : wpAny (model X.prog X.w) X.A (call (.ref f) us) (EP X pins σ Q) X.xe s := by
  have hl : us.length = ps.length := by rw [← r.length]; exact F.len _ _ _ _ h
  have hb' := hb s us I.kIn (by rw [List.append_nil]; exact hl)
  rw [List.append_nil] at hb'
  refine wpAny_call (codeAny_mono (F.run X.A X.stack s H ⟨us, []⟩ us vs Q (Ex σ) hr I.env0 hb' r h) fun r s' hq => ?_)
  cases r with
  | error e => exact hx e s' (xs_call I hq)
  | ok fl =>
    cases fl with
    | ret u => exact I.after hq
    | _ => exact False.elim hq
theorem pe_fnX (C : Cal X.prog X.w X.K X.mg X.base (CX1 X.prog X.w) x k ps sp) (hr : Room k X.A) (hx : PaX X Ex) (ha : PA X (e :: es) t) (hg : Gl X x := by rfl)
    (hdb : (x == ("__debug__" : Str)) = false := by decide) (he : starEach (e :: es) X.env = (false, eval e X.env) :: starEach es X.env := by rfl) (hpl : (backTo pos (starEach es X.env)).any (·.1) = false := by rfl) :
    PE X (.Call (.Name x p) (e :: es) [] pos) (tCallX sp Ex t) := by
  obtain ⟨f, fd, F, b, kp, m⟩ := C.ex
  intro pins s σ H Q I h
  refine wpAny_Call_Name_kw (ld_glob I hg m ?_ hdb)
  refine PySem.W.callWith_K (h₀ := X.base) I.ok.mod.kin kp (thn (ha pos pins s σ H _ I h) fun us s1 ⟨vs, H1, I1, r, q⟩ => ⟨I1.kIn, ?_⟩) he hpl
  exact run_fnX F hr b hx I1 r q
end
end L4
namespace L4
open PySem PySem.Spec PyProof.Rows L2 L3 PySem.W
section
variable {prog : Program} {w : World} {A : Around} {E : Value → Shared → Prop} {h : Heap} {g : Array GenState} {d : Drawn} {t : Nat} {os : OsState}
variable {nm q : Str} {C N : Addr} {bs bm bmB : List Value} {hdct : Bool} {sn : List Str} {sub : List Value} {ab : Bool} {col : Option Bool} {dd : Option Addr} {k0 k1 k2 k3 k5 : Option Value} {B newId initId : String}
abbrev exc2 (h : Heap) (C : Addr) (rest : List Value) : Heap := (h.push { cls := .type "tuple", data := .seq rest.toArray }).push { cls := .ref C, data := .fields #[.ref h.objs.size, .none, .none, .none, .bool false, .none] }
theorem exc2_keeps {rest : List Value} : ∀ b o, h.get? b = some o → (exc2 h C rest).get? b = some o := fun _ _ e => Heap.get?_push_of_some _ (Heap.get?_push_of_some _ e)
theorem exc2_get {rest : List Value} : (exc2 h C rest).get? (h.objs.size + 1) = some { cls := .ref C, data := .fields #[.ref h.objs.size, .none, .none, .none, .bool false, .none] } := by heap_get
theorem exc_type_call (F : ExcBaseFacts B newId initId bmB) (T : OwnTail h bmB bm) {rest : List Value} {init : Value} {Q : Fin → Shared → Prop}
    (hC : h.get? C = some (excClassObj nm q C N bs bm hdct sn sub ab col dd k0 k1 k2 k3 k5 newId)) (hi : Looks (model prog w) h (typeLookup (.ref C) "__init__") (some init)) (hb : ∀ self, Looks (model prog w) h (bindSpecial init self) (init, [self]))
    (hq : wpAny (model prog w) A (call init (.ref (h.objs.size + 1) :: rest)) (fun r s' => r = .none ∧ Q (.done (.ret (.ref (h.objs.size + 1)))) s') E ⟨exc2 h C rest, g, d, t, os⟩) (hrest : rest.length ≤ sizeLine) :
    wpAny (model prog w) A (Builtin.«type.__call__» ⟨.ref C :: rest, []⟩) Q E ⟨h, g, d, t, os⟩ := by
  repeat (first | with_reducible refine wpAny_loadPart_at hC ?_ | with_reducible refine wpAny_madeBy_exc hC ?_ | wp_step)
  refine codeAny_call_builtin_code (Code.quiet_builtin _ F.quiet) (wpAny_check_new_subT F T hC ?_)
  refine codeAny_exc_new_subT F T hC ?_ hrest
  show wpAny _ _ _ _ _ _
  have hC1 := exc2_keeps (C := C) (rest := rest) _ _ hC
  have hg := exc2_get (h := h) (C := C) (rest := rest)
  have hcC : (Value.ref C :: bm).contains (.ref C) = true := by simp
  unfold isInstance
  repeat (first | with_reducible refine wpAny_loadPart_at hg ?_ | (with_reducible refine wpAny_isSubtype_exc hC1 ?_; rw [hcC]) | wp_step)
  show wpAny _ _ (typeLookup (.ref C) _) _ _ _
  refine hi _ _ _ _ exc2_keeps ?_
  refine wpAny_holding (wpAny_bind (hb _ _ _ _ _ exc2_keeps ?_))
  refine wpAny_bind (wpAny_mono hq (fun r s' hr => ?_) fun _ _ x => x)
  obtain ⟨rfl, hQ⟩ := hr
  wp_walk
  exact hQ
theorem exc_call (F : ExcBaseFacts B newId initId bmB) (T : OwnTail h bmB bm) {rest : List Value} {init : Value} {Q : Value → Shared → Prop}
    (hC : h.get? C = some (excClassObj nm q C N bs bm hdct sn sub ab col dd k0 k1 k2 k3 k5 newId)) (hi : Looks (model prog w) h (typeLookup (.ref C) "__init__") (some init)) (hb : ∀ self, Looks (model prog w) h (bindSpecial init self) (init, [self]))
    (hq : wpAny (model prog w) (A.under (.builtin "type.__call__" ⟨.ref C :: rest, []⟩)) (call init (.ref (h.objs.size + 1) :: rest)) (fun r s' => r = .none ∧ Q (.ref (h.objs.size + 1)) s') E ⟨exc2 h C rest, g, d, t, os⟩) (hrest : rest.length ≤ sizeLine) :
    wpAny (model prog w) A (call (.ref C) rest) Q E ⟨h, g, d, t, os⟩ := by
  have f1 := tc_lookup
  have f2 := tc_bind (.ref C)
  have hT : (⟨h, g, d, t, os⟩ : Shared).TypeIs (.ref C) "type" := ⟨_, hC, rfl⟩
  refine wpAny_call (codeAny_of_tree ?_)
  show wpAny _ _ (callAny (.ref C) _) _ _ _
  repeat (any_goals (first | assumption | with_reducible refine wpAny_loadPart_at hC ?_ | wp_step))
  refine ⟨rfl, ?_⟩
  exact codeAny_call_builtin_at (Code.quiet_builtin _ (by decide +kernel)) entry_typeCall (wpAny_check_type_call_sub hC (exc_type_call F T hC hi hb hq hrest))
theorem exc_init (F : ExcBaseFacts B newId initId bmB) (T : OwnTail h bmB bm) {e a0 : Addr} {oe : Obj} {vs : Array Value} {rest : List Value} {Q : Value → Shared → Prop}
    (hC : h.get? C = some (excClassObj nm q C N bs bm hdct sn sub ab col dd k0 k1 k2 k3 k5 newId)) (he : h.get? e = some oe) (hcls : oe.cls = .ref C) (hd : oe.data = .fields vs) (hz : 0 < vs.size) (h0 : vs[0]? = some (.ref a0))
    (hq : ∀ h', h' = (h.push { cls := .type "tuple", data := .seq rest.toArray }).update e (Obj.mapFields (·.setIfInBounds 0 (.ref h.objs.size))) → Q .none ⟨h', g, d, t, os⟩) (hrest : rest.length ≤ sizeLine) :
    wpAny (model prog w) A (call (.builtin initId) (.ref e :: rest)) Q E ⟨h, g, d, t, os⟩ := by
  refine wpAny_call (codeAny_call_builtin F.init.plain F.initEntry (wpAny_check_init_subT F T hC he hcls ?_))
  obtain ⟨oc, od, da, sl⟩ := oe
  dsimp only at hcls hd
  subst hcls hd
  unfold Builtin.«BaseException.__init__»
  repeat (first | with_reducible refine wpAny_loadPart_at he ?_ | wp_step)
  rw [h0]
  refine wpAny_pure ?_
  refine wpAny_bind (wpAny_setField (Heap.get?_push_of_some _ he) rfl hz (wpAny_letGo ?_))
  exact wpAny_pure (hq _ rfl)
end
section
variable {M : Model} {A : Around} {E : Value → Shared → Prop} {env : Env}
variable {nm q : Str} {C N : Addr} {bs bm : List Value} {hdct : Bool} {sn : List Str} {sub : List Value} {ab : Bool} {col : Option Bool} {dd : Option Addr} {k0 k1 k2 k3 k5 : Option Value} {newId : String}
theorem raise_made {s : Shared} {x : Sem Value} {Q : Flow → Shared → Prop} (hbase : bm.contains (.type "BaseException") = true) (hh : A.handled = none)
    (h : wpAny M A x (fun v s₁ => ∃ e oe vs, v = .ref e ∧ s₁.heap.get? C = some (excClassObj nm q C N bs bm hdct sn sub ab col dd k0 k1 k2 k3 k5 newId) ∧
      s₁.heap.get? e = some oe ∧ oe.cls = .ref C ∧ oe.data = .fields vs ∧ vs[1]? = some .none ∧ E (.ref e) s₁) E s) :
    wpAny M A (raiseStmt env (some x) none) Q E s := by
  have hcB : (Value.ref C :: bm).contains (.type "BaseException") = true := by rw [List.contains_cons, hbase, Bool.or_true]
  unfold raiseStmt
  refine wpAny_bind (wpAny_mono h (fun v s₁ h₁ => ?_) fun _ _ x => x)
  obtain ⟨e, oe, vs, rfl, hC, he, hcls, hd, h1, hE⟩ := h₁
  obtain ⟨hp, g, d, tk, os⟩ := s₁
  have hnd : ∀ cd, oe.data ≠ .cls cd := fun cd z => by rw [hd] at z; cases z
  obtain ⟨oc, od, da, sl⟩ := oe
  dsimp only at hcls hd
  subst hcls hd
  repeat (first | with_reducible refine wpAny_loadPart_at he ?_ | with_reducible refine wpAny_loadPart_at hC ?_ | (with_reducible refine wpAny_isSubtype_exc hC ?_; rw [hcB]) | wp_step)
  rw [h1]
  refine wpAny_pure ?_
  rw [if_neg (by decide)]
  exact wpAny_pure (wpAny_raiseNew_none hh hE)
end
end L4
namespace L4
open PySem PySem.Spec PyProof.Rows L2 L3 PySem.W
abbrev xcx (X : Cx) (Ex : St → XK) : Cx := X.wish (XS X Ex)
section
variable {X : Cx} {Ex : St → XK} {st : List Stmt} {t : TS}
theorem Own1.unwish {E : Value → Shared → Prop} {pins : List (Addr × Obj)} {H : Hp} {b : Addr} (o : Own1 (X.wish E) pins H b) : Own1 X pins H b := ⟨o.no, o.ab, o.lo, o.ce, o.pi⟩
theorem paX_self : PaX (xcx X Ex) Ex := fun _ _ ⟨pins, σ, H, x, C, dx, T, fl, a, I, b, c, o, oT, q⟩ =>
  ⟨pins, σ, H, x, C, dx, T, fl, a, I.unwish, b, c, o.unwish, fun t ht => (oT t ht).unwish, q⟩
theorem PSs.x (h : PSs (xcx X Ex) st t) (hx : PaX X Ex) : PSs X st t := fun pins s σ H D I hw => wpAny_mono (h pins s σ H D (I.wish _) hw) (fun _ _ q => q.unwish) hx
theorem But.mono {x : Addr} {T : Option Addr} {fs fs' : List Addr} {h h' : Heap} (b : But x T fs h h') (m : ∀ a ∈ fs, a ∈ fs') : But x T fs' h h' := ⟨fun c o q n k f => b.keep c o q n k fun z => f (m c z), b.slot, b.there⟩
end
section
variable {P : Program} {w : World} {K : Frag} {mg : Str → Option Value} {base : Heap} {x qual : Str} {st : Stmt} {N ps : List Str} {k : Nat} {sp : Sp} {C : Addr}
theorem _root_.L3.Dat.okR (D : Dat K mg x qual st ps) (S : FnScope N ps (defScope st)) (len : ∀ vs H Q E, sp vs H Q E → vs.length = ps.length)
    (hbody : ∀ (f : Addr) (cdv : Value) (A : Around) (outer : List Env) (s : Shared) (H : Hp) (vs : List V) (Q : VK) (E : XK), Room k (A.deeper (envOfC qual (defScope st) s.heap.objs.size f cdv)) → sp vs H Q E →
      ∃ t, PSs (xcx (cxOf (CX1 P w) P w K mg base N qual (defScope st) f cdv A outer s H E) (fun _ => E)) (defBody st) t ∧ t { nx := fun _ H' => Q .non H', rt := Q } (start N vs) H) : Cal P w K mg base (CX1 P w) x (k + 1) ps sp :=
  D.okX S len fun f cdv A outer s H vs Q E hr h => by
    obtain ⟨t, ht, q⟩ := hbody f cdv A outer s H vs Q E hr h
    exact ⟨t, L4.PSs.x ht xs_leave, q⟩
end
def vErr : List Value := [.type "ValueError", .type "Exception", .type "BaseException", .type "object"]
def exc1In (K : Frag) (C : Addr) (bmB : List Value) (newId : String) : Bool := match K.lookup C with
  | some ⟨.type "type", _, .cls cd, sl⟩ => (match cd.mro, sl.toList with
    | .ref c :: bm, [_, _, _, _, some (.builtin n), _] => c == C && n == newId && !cd.hasDel && tailIn K bmB bm
    | _, _ => false)
  | _ => false
theorem exc1_of {K : Frag} {h : Heap} {C : Addr} {bmB : List Value} {newId : String} (X : K.In h) (z : exc1In K C bmB newId = true) : ∃ nm q N bs bm hdct sn sub ab col dd k0 k1 k2 k3 k5,
    h.get? C = some (excClassObj nm q C N bs bm hdct sn sub ab col dd k0 k1 k2 k3 k5 newId) ∧ OwnTail h bmB bm := by
  unfold exc1In at z
  split at z
  · rename_i dd cd sl ho
    split at z
    · rename_i c bm k0 k1 k2 k3 n k5 hm hs
      simp only [Bool.and_eq_true, beq_iff_eq, Bool.not_eq_true'] at z
      obtain ⟨⟨⟨rfl, rfl⟩, hdel⟩, ht⟩ := z
      obtain ⟨nm, bs, mro, ns, qn, hd, sn, sub, ab, col, del⟩ := cd
      dsimp only at hm hdel
      subst hm hdel
      obtain ⟨l⟩ := sl
      simp only at hs
      subst hs
      exact ⟨nm, qn, ns, bs, bm, hd, sn, sub, ab, col, dd, k0, k1, k2, k3, k5, X _ _ ho, tail_of_in X ht⟩
    · cases z
  · cases z
structure ECls (K : Frag) (mg : Str → Option Value) (x : Str) (C : Addr) : Prop where
  ok : exc1In K C vErr "ValueError.__new__" = true
  init : findIn K (.ref C) "__init__" = some (some (.builtin "ValueError.__init__"))
  kp : keepIn K (.ref C) = true
  mg : mg x = some (.ref C)
def tRaise (C : Addr) (Ex : St → XK) (tl : TA) : TS := fun _ σ H => tl σ H fun vs H1 => vs.length ≤ 1000 ∧ Ex σ (.ref C) none H1
theorem ps_raise {X : Cx} {Ex : St → XK} {x : Str} {C : Addr} {e : Expr} {es : List Expr} {t : TA} {np cpos pos : Pos} (O : ECls X.K X.mg x C) (hc : X.calm = true) (hx : PaX X Ex) (ha : PA X (e :: es) t) (hg : Gl X x := by rfl)
    (hdb : (x == ("__debug__" : Str)) = false := by decide) (he : starEach (e :: es) X.env = (false, eval e X.env) :: starEach es X.env := by rfl) (hpl : (backTo cpos (starEach es X.env)).any (·.1) = false := by rfl) :
    PS X (.Raise (some (.Call (.Name x np) (e :: es) [] cpos)) none pos) (tRaise C Ex t) := by
  intro pins s σ H D I h
  obtain ⟨nm, q, N, bs, bm, hdct, sn, sub, ab, col, dd, k0, k1, k2, k3, k5, hC, T⟩ := exc1_of I.ok.mod.kin O.ok
  rw [arm_exec_Raise]
  refine wpAny_bind (wpAny_standAt (raise_made (C := C) (nm := nm) (q := q) (N := N) (bs := bs) (bm := bm) (hdct := hdct) (sn := sn) (sub := sub) (ab := ab) (col := col) (dd := dd) (k0 := k0) (k1 := k1) (k2 := k2) (k3 := k3) (k5 := k5) (newId := "ValueError.__new__") (T.hasType (by decide +kernel)) (I.ok.hd hc) (wpAny_bind ?_)))
  refine wpAny_Call_Name_kw (ld_glob I hg O.mg ?_ hdb)
  refine callWith_K (h₀ := X.base) I.ok.mod.kin O.kp (thn (ha cpos pins s σ H _ I h) fun us s1 ⟨vs, H1, I1, r, hz, qx⟩ => ⟨I1.kIn, ?_⟩) he hpl
  have hl : us.length ≤ sizeLine := by rw [← r.length]; exact Nat.le_of_lt (small1000 hz)
  have T1 := T.keeps I1.bk
  have hC1 := I1.bk _ _ hC
  obtain ⟨hp, g, d, tk, os⟩ := s1
  show wpAny (model X.prog X.w) X.A (call (.ref C) us) _ _ _
  refine exc_call PySem.F.excBase_ValueError T1 hC1 (looks_findIn I1.kIn O.init) (fun self => Looks.of_pure (PySem.F.excBase_ValueError.init.bind self)) ?_ hl
  refine exc_init PySem.F.excBase_ValueError (T1.keeps exc2_keeps) (exc2_keeps _ _ hC1) exc2_get rfl rfl (Nat.zero_lt_succ _) rfl (fun h3 e3 => ⟨rfl, ?_⟩) hl
  have kp : ∀ b o, hp.get? b = some o → h3.get? b = some o := fun b o z => by
    rw [e3, Heap.get?_update_other _ _ (Nat.ne_of_gt (Nat.lt_succ_of_lt (Heap.lt_size z)))]
    exact Heap.get?_push_of_some _ (exc2_keeps _ _ z)
  have hz3 : (exc2 hp C us).objs.size = hp.objs.size + 2 := by rw [Heap.size_push, Heap.size_push]
  have g3 := Heap.get?_update_self (Obj.mapFields (·.setIfInBounds 0 (.ref (exc2 hp C us).objs.size))) (Heap.get?_push_of_some { cls := .type "tuple", data := .seq us.toArray } (exc2_get (h := hp) (C := C) (rest := us))) rfl
  rw [← e3] at g3
  have I3 : Inv X pins σ H1 ⟨h3, g, d, tk, os⟩ := I1.kept (t' := tk) kp
  refine wpAny_bind (wpAny_standAt (wpAny_pure ⟨_, _, _, rfl, kp _ _ hC1, g3, rfl, rfl, rfl, hx _ _ ⟨pins, σ, H1, hp.objs.size + 1, .ref C, none, none, .none, rfl, I3, ⟨_, _, g3, rfl, rfl, rfl, rfl, fun t ht => by cases ht⟩, .inl rfl, own1_of I1 (Nat.le_succ _) (I1.hok.fresh (Nat.le_succ _)), (fun t ht => by cases ht), qx⟩⟩))
end L4
namespace L4
open PySem PySem.Spec PyProof.Rows L2 L3 PySem.W
def ExcP (x : Addr) (C : Value) (dx : Option Addr) : Heap → Prop := fun h => ∃ oe vs, h.get? x = some oe ∧ oe.cls = C ∧ oe.dict = dx ∧ oe.data = .fields vs
abbrev ExcO (x : Addr) (C : Value) (dx : Option Addr) : HO := .ext (ExcP x C dx)
section
variable {X : Cx} {pins : List (Addr × Obj)} {σ : St} {H : Hp} {s : Shared}
theorem inv_track {x : Addr} {φ : Heap → Prop} (I : Inv X pins σ H s) (o : Own1 X pins H x) (p : φ s.heap) (th : ∃ ob, s.heap.get? x = some ob) (st : ∀ h1 h2 : Heap, φ h1 → (∀ ob, h1.get? x = some ob → h2.get? x = some ob) → φ h2) : Inv X pins σ (upd H x (.ext φ)) s := by
  have ne : ∀ b u, H b = some u → b ≠ x := fun b u e z => by rw [z, o.no] at e; cases e
  refine ⟨I.ok, I.os, I.bare, ⟨I.base.keep, I.base.slot, fun b ob e n hx => ?_, I.base.there, fun b xs e => ?_, fun b ob u e => ?_, fun b ps e => ?_⟩, I.loc, I.cell, ?_, fun y c e => ?_, fun q hq => ?_, fun b u e => ?_, I.len⟩
  · rw [upd_ne (Nat.ne_of_lt (Nat.lt_of_lt_of_le (Heap.lt_size e) o.ab))]; exact I.base.free b ob e n hx
  · have := I.base.tups b xs e; rw [upd_ne (ne _ _ this)]; exact this
  · have := I.base.frzs b ob u e; rw [upd_ne (ne _ _ this)]; exact this
  · obtain ⟨m, h⟩ := I.base.tbls b ps e
    exact ⟨m, by rw [upd_ne (ne _ _ h)]; exact h⟩
  · rw [upd_ne (Ne.symm o.lo)]; exact I.free
  · rw [upd_ne (o.ce y c e)]; exact I.freeC y c e
  · obtain ⟨a, b, r⟩ := I.pin q hq
    exact ⟨a, by rw [upd_ne (o.pi q hq)]; exact b, r⟩
  · by_cases z : b = x
    · subst z; rw [upd_same] at e; cases e; exact ⟨p, th, st⟩
    · rw [upd_ne z] at e
      exact (I.hok b u e).stay (fun _ _ _ q => q) (fun c q => by rw [upd_ne (ne _ _ q)]; exact q) fun c xs q => by rw [upd_ne (ne _ _ q)]; exact q
theorem ExcP.stay {x : Addr} {C : Value} {dx : Option Addr} : ∀ h1 h2 : Heap, ExcP x C dx h1 → (∀ ob, h1.get? x = some ob → h2.get? x = some ob) → ExcP x C dx h2 := fun _ _ ⟨oe, vs, a, b⟩ k => ⟨oe, vs, k _ a, b⟩
theorem ExcAt.p {h : Heap} {x : Addr} {C : Value} {dx T : Option Addr} {fl : Value} (e : ExcAt h x C dx T fl) : ExcP x C dx h := let ⟨oe, vs, a, b, c, d, _⟩ := e; ⟨oe, vs, a, b, c, d⟩
theorem del_inv {i : Nat} {n : Str} {m : Str → Option Value} {v : Option Value} {h' : Heap} (I : Inv X pins σ H s) (hN : X.N.Nodup) (hi : X.N[i]? = some n)
    (hl : ∀ (i : Nat) (x : Str) (v : V), X.N[i]? = some x → σ[i]? = some (some v) → Vis X.env.scope x → ∃ u, RelV v u ∧ Look X.env s.heap m x u) (hs : s.heap.Ns X.env.locals m)
    (hn : h'.Ns X.env.locals (fun x => if x = n then v else m x)) (sb : Heap.SameBut X.env.locals s.heap h') (t' : Nat) : Inv X pins (σ.set i none) H { s with heap := h', toks := t' } := by
  have neL : ∀ b o, X.s₀.heap.get? b = some o → b ≠ X.env.locals := fun b o e => Nat.ne_of_lt (Nat.lt_of_lt_of_le (Heap.lt_size e) I.ok.above)
  have iσ : i < σ.length := by rw [I.len]; exact (List.getElem?_eq_some_iff.mp hi).1
  refine ⟨I.ok, I.os, I.bare, ⟨fun b o e q hb hx => (sb.2 b (neL b o e)).trans (I.base.keep b o e q hb hx), fun b o e q hb hx => ?_, I.base.free, fun b o e hx => ?_, I.base.tups, I.base.frzs, I.base.tbls⟩, ⟨_, hn, fun j y v' e1 e2 e3 => ?_⟩, fun y c e => ?_, I.free, I.freeC, fun p hp => ?_, fun b u e => ?_, by rw [List.length_set]; exact I.len⟩
  · obtain ⟨sl, z⟩ := I.base.slot b o e q hb hx
    exact ⟨sl, (sb.2 b (neL b o e)).trans z⟩
  · obtain ⟨o', z⟩ := I.base.there b o e hx
    exact ⟨o', (sb.2 b (neL b o e)).trans z⟩
  · by_cases hj : j = i
    · subst hj
      rw [List.getElem?_set_self iσ] at e2
      cases e2
    · rw [List.getElem?_set_ne (Ne.symm hj)] at e2
      have hy : y ≠ n := fun z => by
        subst z
        exact hj ((List.getElem?_inj (List.getElem?_eq_some_iff.mp e1).1 hN).mp (e1.trans hi.symm))
      obtain ⟨u, r, q⟩ := hl j y v' e1 e2 e3
      refine ⟨u, r, ?_⟩
      rcases q with ⟨k, e⟩ | ⟨k, c, e, ⟨oc, hc, hd⟩⟩
      · exact .inl ⟨k, by show (if y = n then v else m y) = some u; rw [if_neg hy]; exact e⟩
      · exact .inr ⟨k, c, e, oc, (sb.2 c (I.cne y c e)).trans hc, hd⟩
  · obtain ⟨w, oc, hc, hd⟩ := I.cell y c e
    exact ⟨w, oc, (sb.2 c (I.cne y c e)).trans hc, hd⟩
  · obtain ⟨a, b, c, d⟩ := I.pin p hp
    exact ⟨(sb.2 _ c).trans a, b, c, d⟩
  · refine (I.hok b u e).stay (fun c w' hc q => (sb.2 c fun z => ?_).trans q) (fun _ q => q) fun _ _ q => q
    subst z
    rcases hc with rfl | hc
    · rw [I.free] at e; cases e
    · rw [I.free] at hc; cases hc
theorem unbind_ok {M : Model} {A : Around} {E : Value → Shared → Prop} {i : Nat} {n : Str} {pos : Pos} {Q : Unit → Shared → Prop} (I : Inv X pins σ H s) (hN : X.N.Nodup) (hi : X.N[i]? = some n) (hl : X.env.scope.names.lookup n = some .local)
    (h : ∀ s', Inv X pins (σ.set i none) H s' → Q () s') : wpAny M A (do bindName X.env n .none; unbindBehindTheSuite X.env n pos) Q E s := by
  have hcls : (X.env.scope.kind == .class || (X.env.scope.kind == .module && X.env.locals != X.env.globals)) = false := by rw [I.ok.kind]; rfl
  have hk : X.env.kindOf n = some .local := hl
  refine wpAny_bind (wpAny_bindName (store_ok (v := .non) I hN hi (.inl hl) rfl (fun s1 I1 => ?_) (.inr hl)))
  obtain ⟨m, hm, hq⟩ := id I1.loc
  unfold unbindBehindTheSuite
  refine wpAny_onRaise ?_
  unfold unbindName
  refine wpAny_bind (wpAny_point (wpAny_bind ?_))
  unfold deleteName
  simp only [hk, hcls]
  rw [if_neg (by decide)]
  refine wpAny_bind (wpAny_nsDel_keeps hm fun h2 v hn2 sb2 => ?_)
  have hsome : (m n).isSome = true := by
    obtain ⟨u, r, q⟩ := hq i n .non hi (by rw [List.getElem?_set_self (by rw [I.len]; exact (List.getElem?_eq_some_iff.mp hi).1)]) (.inl hl)
    rcases q with ⟨_, e⟩ | ⟨k, _⟩
    · rw [e]; rfl
    · rw [hk] at k; rcases k with k | k <;> cases k
  rw [hsome]
  simp only [Bool.not_true, Bool.false_eq_true, if_false]
  have J := del_inv I1 hN hi hq hm hn2 sb2 s1.toks
  rw [List.set_set] at J
  exact wpAny_pure (wpAny_point (h _ J))
end
end L4
namespace L4
open PySem PySem.Spec PyProof.Rows L2 L3 PySem.W
abbrev Cx.pinned (X : Cx) (pins : List (Addr × Obj)) : Cx := { X with pn := X.pn ++ pins }
abbrev Cx.hand (X : Cx) (x : Addr) : Cx := { X with A := X.A.mark (some (.ref x)), calm := false, xe := fun _ _ => False }
def undo (i : Nat) (D : Ends) : Ends := { nx := fun σ H => D.nx (σ.set i none) H, rt := D.rt, bk := fun σ H => D.bk (σ.set i none) H, ct := fun σ H => D.ct (σ.set i none) H }
section
variable {X : Cx} {pins pins' : List (Addr × Obj)} {σ : St} {H : Hp} {s : Shared}
theorem ok_pin (ok : X.Ok) : (Cx.pinned X pins).Ok := ⟨ok.mod, ok.kind, ok.glob, ok.blt, ok.above, ok.inj, ok.has, ok.cab, ok.hd, ok.frames, ok.stk, ok.exf, ok.bs, ok.bsz, ok.noex, ok.exfs, ok.funs, ok.frf⟩
theorem ok_unpin (ok : (Cx.pinned X pins).Ok) : X.Ok := ⟨ok.mod, ok.kind, ok.glob, ok.blt, ok.above, ok.inj, ok.has, ok.cab, ok.hd, ok.frames, ok.stk, ok.exf, ok.bs, ok.bsz, ok.noex, ok.exfs, ok.funs, ok.frf⟩
theorem inv_pin (I : Inv X pins σ H s) : Inv (Cx.pinned X pins) [] σ H s := ⟨ok_pin I.ok, I.os, I.bare, I.base, I.loc, I.cell, I.free, I.freeC, fun p hp => I.pin p (by simpa using hp), I.hok, I.len⟩
theorem inv_unpin (I : Inv (Cx.pinned X pins) pins' σ H s) : Inv X pins σ H s := ⟨ok_unpin I.ok, I.os, I.bare, I.base, I.loc, I.cell, I.free, I.freeC, fun p hp => I.pin p (List.mem_append_left _ hp), I.hok, I.len⟩
theorem own_unpin {b : Addr} (o : Own1 (Cx.pinned X pins) pins' H b) : Own1 X pins H b := ⟨o.no, o.ab, o.lo, o.ce, fun p hp => o.pi p (List.mem_append_left _ hp)⟩
theorem inv_hand {x : Addr} (I : Inv X pins σ H s) : Inv (Cx.hand X x) pins σ H s :=
  ⟨⟨I.ok.mod, I.ok.kind, I.ok.glob, I.ok.blt, I.ok.above, I.ok.inj, I.ok.has, I.ok.cab, (fun z => absurd z Bool.false_ne_true), I.ok.frames, I.ok.stk, I.ok.exf, I.ok.bs, I.ok.bsz, I.ok.noex, I.ok.exfs, I.ok.funs, I.ok.frf⟩, I.os, I.bare, I.base, I.loc, I.cell, I.free, I.freeC, I.pin, I.hok, I.len⟩
theorem inv_unhand {x : Addr} (ok : X.Ok) (I : Inv (Cx.hand X x) pins σ H s) : Inv X pins σ H s := ⟨ok, I.os, I.bare, I.base, I.loc, I.cell, I.free, I.freeC, I.pin, I.hok, I.len⟩
theorem sp_unpin {E : Value → Shared → Prop} {D : Ends} {f : Flow} {s' : Shared} (h : SP ((Cx.pinned X pins).wish E) pins' D f s') : SP X pins D f s' := by
  have h := h.unwish
  cases f with
  | next => obtain ⟨σ', H', I, q⟩ := h; exact ⟨σ', H', inv_unpin I, q⟩
  | brk => obtain ⟨σ', H', I, q⟩ := h; exact ⟨σ', H', inv_unpin I, q⟩
  | cont => obtain ⟨σ', H', I, q⟩ := h; exact ⟨σ', H', inv_unpin I, q⟩
  | ret u => obtain ⟨v, σ', H', I, r, q⟩ := h; exact ⟨v, σ', H', inv_unpin I, r, q⟩
theorem at_handler {M : Model} {E : Value → Shared → Prop} {Q : Shared → Prop} {x : Addr} {C fl : Value} {dx T : Option Addr} (hs : X.stack = X.env :: X.outer) (hf : X.env.frame = some X.env.locals) (I : Inv X pins σ H s) (ex : ExcAt s.heap x C dx T fl) (hfl : fl = .none ∨ fl = rawInt X.env.locals) (ox : Own1 X pins H x) (oT : ∀ t, T = some t → Own1 X pins H t)
    (h : ∀ s' t, Inv X pins σ H s' → ExcAt s'.heap x C dx (some t) .none → Own1 X pins H t → Q s') :
    wpAny M X.A (noteFrame (.ref x) X.env) (fun _ s2 => wpAny M X.A (setFlight (.ref x) none) (fun _ s3 => Q s3) E s2) E s := by
  have hfr := I.ok.frames
  have hst := I.stack
  rw [hs] at hfr hst
  refine note_frame (base := X.base) hfr hst hf ex hfl fun h1 t1 a b c => ?_
  have ot : Own1 X pins H t1 := by
    rcases c with c | c
    · exact oT t1 c.symm
    · exact own1_of I c (I.hok.fresh c)
  have J := inv_but I ox oT (by rw [hs]; exact b)
  exact set_flight (fr := none) a fun h2 a2 b2 => h _ t1 (inv_but J ox (fun t ht => by cases ht; exact ot) (b2.mono fun _ z => absurd z (by simp))) a2 ot
end
def tTryAs (K : Frag) (CH : Value) (i : Nat) (tb : (St → XK) → TS) (th : TS) (Ex : St → XK) : TS := fun D σ H =>
  tb (fun σ' C dx H' => ∃ b, exmOne K C CH = some b ∧ if b = true then ∀ x, H' x = none → th (undo i D) (σ'.set i (some (.ref x))) (upd H' x (ExcO x C dx)) else Ex σ' C dx H') D σ H
section
variable {X : Cx} {Ex : St → XK} {body suite : List Stmt} {b₀ : Stmt} {cx n : Str} {np hpos pos : Pos} {CH : Addr} {i : Nat} {tb : (St → XK) → TS} {th : TS}
theorem looks_cls {M : Model} {h : Heap} {x : Addr} {C : Value} {dx T : Option Addr} {fl : Value} (ex : ExcAt h x C dx T fl) : Looks M h (typeOf (.ref x)) C := by
  obtain ⟨oe, vs, e1, e2, _⟩ := ex
  rw [← e2]
  exact (Looks.ld e1).andThen .now
theorem pass_on {pins : List (Addr × Obj)} {σ : St} {H : Hp} {s : Shared} {x t : Addr} {C fl : Value} {dx : Option Addr} {Q : Flow → Shared → Prop} (hf : X.env.frame = some X.env.locals) (hx : PaX X Ex) (I : Inv X pins σ H s) (ex : ExcAt s.heap x C dx (some t) fl) (ox : Own1 X pins H x) (ot : Own1 X pins H t) (q : Ex σ C dx H) :
    wpAny (model X.prog X.w) X.A (handleBy (.ref x) X.env []) Q X.xe s := by
  refine wpAny_handleBy_nil ?_
  unfold PySem.passOn
  obtain ⟨oe, vs, e1, e2, e3, e4, e5, e6⟩ := id ex
  refine wpAny_bind (wpAny_field e1 e4 e5 ?_)
  rw [if_neg (by simp)]
  refine wpAny_bind (set_flight (fr := X.env.frame) ex fun h2 a2 b2 => wpAny_throw (hx _ _ ?_))
  exact ⟨pins, σ, H, x, C, dx, some t, _, rfl, inv_but I ox (fun t ht => by cases ht; exact ot) (b2.mono fun _ z => absurd z (by simp)), a2, .inr (by rw [hf]; rfl), ox, fun t ht => by cases ht; exact ot, q⟩
theorem ps_tryAs (hs : X.stack = X.env :: X.outer) (hf : X.env.frame = some X.env.locals) (hm : X.mg cx = some (.ref CH)) (hN : X.N.Nodup) (hi : X.N[i]? = some n) (hl : X.env.scope.names.lookup n = some .local) (hx : PaX X Ex)
    (hb : ∀ pins Exb, PSs (xcx (Cx.pinned X pins) Exb) body (tb Exb)) (hh : ∀ x, PSs (Cx.hand X x) (b₀ :: suite) th) (hg : Gl X cx := by rfl) (hdb : (cx == ("__debug__" : Str)) = false := by decide) :
    PS X (.Try body [.ExceptHandler (some (.Name cx np)) (some n) (b₀ :: suite) hpos] [] [] pos) (tTryAs X.K (.ref CH) i tb th Ex) := by
  intro pins s σ H D I h
  refine wpAny_Try_except (wpAny_mono (hb pins _ [] s σ H D ((inv_pin I).wish _) h) (fun f s1 q => ?_) (fun e s1 q => ?_))
  · have q := sp_unpin q
    cases f with
    | next => obtain ⟨σ', H', I', q⟩ := q; exact pss_nil pins s1 σ' H' D I' q
    | _ => exact q
  · obtain ⟨pins', σ', H', x, C, dx, T, fl, rfl, I', ex, hfl, ox, oT, b, hm2, q⟩ := q
    refine at_handler hs hf (inv_unpin I') ex hfl (own_unpin ox) (fun t ht => own_unpin (oT t ht)) fun s2 t I2 ex2 ot => ?_
    have ox := own_unpin ox
    refine wpAny_handleBy_cons (codeAny_handlers_test ?_) (by intro z; cases z)
    refine ld_glob (X := Cx.hand X x) (inv_hand I2) hg hm ?_ hdb
    refine (exm_one I2.kIn (looks_cls ex2) hm2).here ?_
    cases b with
    | false => exact pass_on hf hx I2 ex2 ox ot q
    | true =>
      refine codeAny_handlers_suite_as ?_
      refine set_flight (fr := none) ex2 fun h3 a3 b3 => ?_
      have I3 := inv_but I2 ox (fun t ht => by cases ht; exact ot) (b3.mono fun _ z => absurd z (by simp))
      have I4 := inv_track I3 ox a3.p a3.there ExcP.stay
      refine store_ok (X := X) (v := .ref x) I4 hN hi (.inl hl) rfl (fun s5 I5 => ?_) (.inr hl)
      refine wpAny_mono (hh x pins s5 _ _ (undo i D) (inv_hand I5) (q x ox.no)) (fun f s6 r => ?_) fun _ _ z => False.elim z
      cases f with
      | next =>
        obtain ⟨σ6, H6, I6, q6⟩ := r
        exact unbind_ok (inv_unhand I.ok I6) hN hi hl fun s7 I7 => ⟨_, H6, I7, q6⟩
      | brk =>
        obtain ⟨σ6, H6, I6, q6⟩ := r
        exact unbind_ok (inv_unhand I.ok I6) hN hi hl fun s7 I7 => ⟨_, H6, I7, q6⟩
      | cont =>
        obtain ⟨σ6, H6, I6, q6⟩ := r
        exact unbind_ok (inv_unhand I.ok I6) hN hi hl fun s7 I7 => ⟨_, H6, I7, q6⟩
      | ret u =>
        obtain ⟨v, σ6, H6, I6, r6, q6⟩ := r
        exact unbind_ok (inv_unhand I.ok I6) hN hi hl fun s7 I7 => ⟨v, _, H6, I7, r6, q6⟩
end
end L4
namespace L4
open PySem PySem.Spec PyProof.Rows L2 L3 PySem.W
structure EGet (K : Frag) (C : Addr) : Prop where
  ga : findIn K (.ref C) "__getattribute__" = some (some (.builtin "BaseException.__getattribute__"))
  gh : findIn K (.ref C) "__getattr__" = some none
  bs : mroIn K C (.type "BaseException") = some true
  ob : mroIn K C (.type "object") = some true
  ca : findIn K (.ref C) "__class__" = some (some (.builtin "object.__class__"))
  cg : specialIn K (.builtin "object.__class__") "__get__" = some (some (.builtin "getset_descriptor.__get__"))
  ct : takesIn K (.builtin "object.__class__") = some true
  cd : (clsIn K C).isSome = true
section
variable {prog : Program} {w : World} {A : Around} {E : Value → Shared → Prop} {s : Shared} {K : Frag} {x C : Addr} {ox : Obj} {od : Option Obj} {name : Str}
theorem exc_ga_cls {R : Result → Shared → Prop} {tk : Tok} (X : K.In s.heap) (I : InstAt s.heap x ox C od) (G : EGet K C) (hq : R (.ok (.ret (.ref C))) s) :
    codeAny (model prog w) A (.call (.builtin "BaseException.__getattribute__") ⟨[.ref x, .str "__class__" tk], []⟩) R s := by
  have hk : builtinKind "BaseException.__getattribute__" = some .slot := by decide +kernel
  have hsplit : splitId "BaseException.__getattribute__" = some ("BaseException", "__getattribute__") := by decide +kernel
  have hf : findObj K C od "__class__" = some (.bind (.builtin "getset_descriptor.__get__") (.builtin "object.__class__")) := by
    obtain ⟨cd, hcd⟩ := Option.isSome_iff_exists.mp G.cd
    unfold findObj
    rw [hcd, Option.bind_some, G.ca, Option.bind_some]
    dsimp only
    rw [G.cg, Option.bind_some]
    dsimp only
    rw [G.ct, Option.bind_some]
  have cls := fun (A : Around) (R : Result → Shared → Prop) (h : R (.ok (.ret (.ref C))) s) => class_get (prog := prog) (w := w) (A := A) (R := R) (tp := .ref C) X I G.ob h
  obtain ⟨h0, g, d, tt, os⟩ := s
  have LT := I.type (M := model prog w)
  have typ : Looks (model prog w) h0 (isInstance (.ref x) (.type "BaseException")) true := LT.andThen (looks_mroIn X G.bs)
  have LF := looks_find (M := model prog w) X I hf
  refine codeAny_call_builtin PySem.F.attrBase_ValueError.ga.plain PySem.F.entry_bexc_ga ?_
  have ha := PySem.F.args_bexc_ga (.ref x) (.str "__class__" tk)
  simp only [checkBuiltinCall, hk, hsplit]
  refine wpAny_bind (typ.here ?_)
  simp only [Bool.not_true, Bool.false_eq_true, if_false]
  unfold argsOk at ha
  refine wpAny_of_eq ha ?_
  unfold Builtin.«object.__getattribute__»
  repeat (any_goals (first | assumption | with_reducible refine wpAny_call ?_ | lk | wp_step))
  refine cls _ _ ?_
  exact wpAny_pure hq
theorem exc_by {tk : Tok} {fill expr : Bool} {v : Value} {Q : Value → Shared → Prop} (X : K.In s.heap) (I : InstAt s.heap x ox C od) (G : EGet K C) (hv : handedIn v = true)
    (hc : ∀ (A : Around) (R : Result → Shared → Prop), R (.ok (.ret v)) s → codeAny (model prog w) A (.call (.builtin "BaseException.__getattribute__") ⟨[.ref x, .str name tk], []⟩) R s) (hq : Q v s) :
    wpAny (model prog w) A (getAttrBy (.ref x) (.str name tk) fill expr) Q E s := by
  obtain ⟨h0, g, d, tt, os⟩ := s
  have LT := I.type (M := model prog w)
  have L1 := looks_findIn (M := model prog w) X G.ga
  have L2 := looks_findIn (M := model prog w) X G.gh
  have f3 := PySem.F.attrBase_ValueError.ga.bind (.ref x)
  have hx0 : (expr && onTheHeap (Value.builtin "BaseException.__getattribute__")) = false := by cases expr <;> rfl
  have hx2 : (Value.builtin "BaseException.__getattribute__" == Value.builtin "object.__getattribute__") = false := by decide +kernel
  have hx1 : (onTheHeap (Value.ref C) && Value.builtin "BaseException.__getattribute__" == Value.builtin "object.__getattribute__") = false := by rw [hx2]; rfl
  unfold getAttrBy
  repeat (any_goals (first | assumption | with_reducible refine wpAny_call ?_ | with_reducible refine wpAny_attempt ?_ | lk | wp_step))
  exact hc _ _ (handed_on hv hq)
theorem exc_cls {Q : Option Value → Shared → Prop} (X : K.In s.heap) (I : InstAt s.heap x ox C od) (G : EGet K C) (hq : Q (some (.ref C)) { s with toks := s.toks + 1 }) :
    wpAny (model prog w) A (getAttr? (.ref x) "__class__") Q E s := by
  unfold getAttr? getAttrBy?
  have go : ∀ (tk : Tok) (Q : Value → Shared → Prop) (E : Value → Shared → Prop) (t' : Nat), Q (.ref C) { s with toks := t' } → wpAny (model prog w) A (getAttrBy (.ref x) (.str "__class__" tk) false) Q E { s with toks := t' } := fun tk Q E t' h => exc_by (s := { s with toks := t' }) X I G rfl (fun A R h => exc_ga_cls (s := { s with toks := t' }) X I G h) h
  obtain ⟨h0, g, d, tt, os⟩ := s
  repeat (any_goals (first | assumption | with_reducible refine wpAny_attempt ?_ | (refine go _ _ _ _ ?_) | lk | wp_step))
theorem kitx_exc (G : EGet K C) : KitX K (.ref x) (.ref C) (fun h => ∃ ox od, InstAt h x ox C od) where
  ty := fun _ _ _ ⟨_, _, I⟩ => I.type
  it := fun _ _ X _ => by
    obtain ⟨cd, hc⟩ := Option.isSome_iff_exists.mp G.cd
    unfold clsIn at hc
    split at hc
    · rename_i ho
      intro A' Q' E' s' k q
      unfold isType loadHead
      exact wpAny_bind (wpAny_loadPart (k _ _ (X _ _ ho)) (wpAny_pure q))
    · cases hc
  ne := fun h tp dd its n sl X htp => by
    obtain ⟨cd, hc⟩ := Option.isSome_iff_exists.mp G.cd
    refine Bool.eq_false_iff.mpr fun q => ?_
    have e : C = tp := Value.ref.inj (beq_iff_eq.mp q)
    subst e
    unfold clsIn at hc
    split at hc
    · rename_i ho
      have z := (X _ _ ho).symm.trans htp
      cases z
    · cases hc
  ca := fun X ⟨_, _, I⟩ k => exc_cls X I G k
end
end L4
namespace L4
open PySem PySem.Spec PyProof.Rows L2 L3 PySem.W
def ExD (H : Hp) : Option Addr → Prop
  | none => True
  | some d => ∃ fs, H d = some (.xd fs)
structure ExA (K : Frag) (H : Hp) (x C : Addr) (dx : Option Addr) : Prop where
  at_ : H x = some (ExcO x (.ref C) dx)
  g : EGet K C
  d : ExD H dx
section
variable {X : Cx} {pins : List (Addr × Obj)} {σ : St} {H : Hp} {s : Shared} {x C : Addr} {dx : Option Addr}
theorem inst_of (I : Inv X pins σ H s) (e : ExA X.K H x C dx) : ∃ ox od, InstAt s.heap x ox C od ∧ ∀ d, dx = some d → ∃ o, od = some o ∧ s.heap.get? d = some o := by
  obtain ⟨⟨oe, vs, e1, e2, e3, e4⟩, _⟩ := (show ObjOk X.prog X.w H s.heap x (ExcO x (.ref C) dx) from I.hok x _ e.at_)
  have nc : notCls oe = true := by unfold notCls; rw [e4]
  cases dx with
  | none => exact ⟨oe, none, ⟨e1, e2, nc, by rw [e3]; trivial⟩, fun d z => by cases z⟩
  | some d =>
    obtain ⟨fs, hd⟩ := e.d
    obtain ⟨mA, ⟨od, es, ep, h1, h2⟩, _⟩ := (show ObjOk X.prog X.w H s.heap d (.xd fs) from I.hok d _ hd)
    exact ⟨oe, some od, ⟨e1, e2, nc, by rw [e3]; exact h1⟩, fun d' z => by cases z; exact ⟨od, rfl, h1⟩⟩
end
def rIsiX (K : Frag) : RL := fun xs H Q => ∃ x C dx c b, xs = [.ref x, c] ∧ ExA K H x C dx ∧ ((∃ T, c = .ty T ∧ kitOne K (.ref C) (.type T) = some b) ∨ ∃ D, c = .ref D ∧ kitOne K (.ref C) (.ref D) = some b) ∧ Q (.bl b) H
section
variable {X : Cx}
theorem call_isiX : CallR X (.builtin "isinstance") (rIsiX X.K) := by
  intro pins s σ H xs us Q I r h
  obtain ⟨x, C, dx, c, b, rfl, e, hc, q⟩ := h
  obtain ⟨u, w', rfl, rx, rc⟩ := vals2 r
  cases (show u = Value.ref x from rx)
  obtain ⟨ox, od, J, _⟩ := inst_of I e
  rcases hc with ⟨T, rfl, k⟩ | ⟨D, rfl, k⟩
  · cases (show w' = Value.type T from rc)
    exact kia_one (kitx_exc e.g) I.kIn ⟨ox, od, J⟩ k (fun z => nomatch z) fun tk => ⟨.bl b, H, I.tok _, rfl, q⟩
  · cases (show w' = Value.ref D from rc)
    exact kia_one (kitx_exc e.g) I.kIn ⟨ox, od, J⟩ k (fun z => nomatch z) fun tk => ⟨.bl b, H, I.tok _, rfl, q⟩
theorem pe_cl {c : Str} {C : Addr} {p : Pos} (hm : X.mg c = some (.ref C)) (hg : Gl X c := by rfl) (hdb : (c == ("__debug__" : Str)) = false := by decide) : PE X (.Name c p) (tC (.ref C)) := fun pins s σ H Q I h => ld_glob I hg hm ⟨.ref C, H, I, rfl, h⟩ hdb
end
end L4
namespace L4
open PySem PySem.Spec PyProof.Rows L2 L3 PySem.W
theorem paX_no {X : Cx} : PaX X.nox (fun _ _ _ _ => False) := fun _ _ ⟨_, _, _, _, _, _, _, _, _, _, _, _, _, _, q⟩ => q
section
variable {X : Cx} {K : Frag} {e : Expr} {te : TE} {c : Str} {T : String} {D : Addr} {p p' pos : Pos}
theorem pe_isiXc (hK : X.K = K) (hm : X.mg "isinstance" = none) (hc : X.mg c = some (.ref D)) (he : PE X e te) (hg : Gl X "isinstance" := by rfl) (hg' : Gl X c := by rfl) (hd : (c == ("__debug__" : Str)) = false := by decide)
    (hs : starEach [e, .Name c p'] X.env = (false, eval e X.env) :: starEach [.Name c p'] X.env := by rfl) (hs2 : starEach [.Name c p'] X.env = (false, eval (.Name c p') X.env) :: starEach [] X.env := by rfl) (hpl : (backTo pos (starEach [.Name c p'] X.env)).any (·.1) = false := by rfl) :
    PE X (.Call (.Name "isinstance" p) [e, .Name c p'] [] pos) (tCB (rIsiX K) (tCons te (tCons (tC (.ref D)) tNil))) := by
  subst hK
  exact pe_callB call_isiX hg hm bt_isinstance (pa_cons he (pa_cons (pe_cl hc hg' hd) pa_nil hs2) hs) (by decide) (by decide) hs hpl
end
section
variable {X : Cx} {K : Frag} {Ex : St → XK} {body suite : List Stmt} {b₀ : Stmt} {cx n : Str} {np hpos pos : Pos} {CH : Addr} {i : Nat} {tb : (St → XK) → TS} {th : TS}
theorem ps_tryAsK (hK : X.K = K) (hs : X.stack = X.env :: X.outer) (hf : X.env.frame = some X.env.locals) (hm : X.mg cx = some (.ref CH)) (hN : X.N.Nodup) (hi : X.N[i]? = some n) (hl : X.env.scope.names.lookup n = some .local) (hx : PaX X Ex)
    (hb : ∀ pins Exb, PSs (xcx (Cx.pinned X pins) Exb) body (tb Exb)) (hh : ∀ x, PSs (Cx.hand X x) (b₀ :: suite) th) (hg : Gl X cx := by rfl) (hdb : (cx == ("__debug__" : Str)) = false := by decide) :
    PS X (.Try body [.ExceptHandler (some (.Name cx np)) (some n) (b₀ :: suite) hpos] [] [] pos) (tTryAs K (.ref CH) i tb th Ex) := by
  subst hK
  exact ps_tryAs hs hf hm hN hi hl hx hb hh hg hdb
end
section
variable {K : Frag} {σ : St} {H : Hp} {Q : VK} {D : Ends} {tl : TA} {ta : TE} {sp : Sp} {Ex : St → XK} {C : Addr}
theorem g_callX (h : tl σ H fun vs H1 => sp vs H1 Q (Ex σ)) : tCallX sp Ex tl σ H Q := h
def Raises (C : Addr) (Ex : XK) (vs : List V) (H : Hp) : Prop := vs.length ≤ 1000 ∧ Ex (.ref C) none H
theorem g_raise (h : tl σ H fun vs H1 => Raises C (Ex σ) vs H1) : tRaise C Ex tl D σ H := h
theorem g_raise1 {E : XK} {v : V} (h : E (.ref C) none H) : Raises C E [v] H := ⟨(by show 1 ≤ 1000; decide), h⟩
def tHandAs (K : Frag) (CH : Value) (i : Nat) (th : TS) (Ex : St → XK) (D : Ends) : St → XK := fun σ' C dx H' => ∃ b, exmOne K C CH = some b ∧ if b = true then ∀ x, H' x = none → th (undo i D) (σ'.set i (some (.ref x))) (upd H' x (ExcO x C dx)) else Ex σ' C dx H'
theorem g_tryAs {CH : Value} {i : Nat} {tb : (St → XK) → TS} {th : TS} (h : tb (tHandAs K CH i th Ex D) D σ H) : tTryAs K CH i tb th Ex D σ H := h
theorem g_handAs {CH C : Value} {i : Nat} {th : TS} {dx : Option Addr} (e : exmOne K C CH = some true) (h : ∀ x, H x = none → th (undo i D) (σ.set i (some (.ref x))) (upd H x (ExcO x C dx))) : tHandAs K CH i th Ex D σ C dx H := ⟨true, e, by rw [if_pos rfl]; exact h⟩
theorem g_isiXc {x C D : Addr} {dx : Option Addr} {b : Bool} (e : ExA K H x C dx) (k : kitOne K (.ref C) (.ref D) = some b) (h : Q (.bl b) H) : rIsiX K [.ref x, .ref D] H Q := ⟨x, C, dx, _, b, rfl, e, .inr ⟨D, rfl, k⟩, h⟩
theorem g_undoR {i : Nat} {v : V} (h : D.rt v H) : (undo i D).rt v H := h
end
end L4
namespace L4
open PySem PySem.Spec PyProof.Rows L2 L3 PySem.W
open Builtin Builtin.ObjectAttr
inductive OverErr : List Value → Prop
  | base : OverErr vErr
  | own {c : Addr} {r : List Value} : OverErr r → OverErr (.ref c :: r)
theorem refuse_over (self : Value) {l : List Value} (h : OverErr l) : refuseLoop self "__setattr__" l = pure () := by
  induction h with
  | base => exact PySem.F.store_ValueError.passes self
  | own _ ih => rw [refuseLoop_ref]; exact ih
section
variable {prog : Program} {w : World} {A : Around} {E : Value → Shared → Prop} {s : Shared} {K : Frag} {x C : Addr} {ox : Obj} {od : Option Obj} {name : Str} {v : Value} {cd : ClassData}
theorem exc_osa_open {R : Result → Shared → Prop} {tk : Tok} {r : Option Value} (X : K.In s.heap) (I : InstAt s.heap x ox C od) (G : EGet K C) (hc : clsIn K C = some cd) (ho : OverErr cd.mro) (ht : takerIn K C name = some r)
    (h : ∀ b, wpAny (model prog w) A.in1 (match r with | some a => setByDescriptor a (.ref x) v | none => storeInOwnDict (.ref x) (.ref C) (.str name tk) name v b)
      (fun fin s' => match fin with | .done f => R (.ok f) s' | .again c' => c'.quiet = true ∧ codeAny (model prog w) A c' R s') (fun e s' => R (.error e) s') s) :
    codeAny (model prog w) A (.call (.builtin "object.__setattr__") ⟨[.ref x, .str name tk, v], []⟩) R s := by
  have SF := PySem.F.store_object
  have sub : Looks (model prog w) s.heap (isInstance (.ref x) (.type "object")) true := I.type.andThen (looks_mroIn X G.ob)
  refine codeAny_call_builtin SF.slot.plain SF.entry (@check_slot (model prog w) _ _ s "object.__setattr__" "object" "__setattr__" (.ref x) [.str name tk, v] [] _ SF.kind SF.split sub (SF.args (.ref x) (.str name tk) v) ?_)
  obtain ⟨attr, ha, hr⟩ := Option.bind_eq_some_iff.mp ht
  have hm : Looks (model prog w) s.heap (mroOf (.ref C)) cd.mro := (looks_clsIn X hc).andThen .now
  have L3 : Looks (model prog w) s.heap (storeTaker? attr) r := by
    cases attr with
    | none => cases hr; exact .now
    | some a =>
      obtain ⟨b, hb, rfl⟩ := Option.map_eq_some_iff.mp hr
      refine (looks_takesIn X hb).andThen ?_
      cases b <;> exact .now
  rw [osa_eq, refuse_eq]
  refine wpAny_bind (wpAny_bind (I.type.here (wpAny_bind (hm.here ?_))))
  rw [refuse_over _ ho]
  refine wpAny_pure (wpAny_bind (I.type.here (wpAny_bind ((looks_findIn X ha).here (wpAny_bind (L3.here ?_))))))
  exact h _
theorem exc_set0 {Q : Unit → Shared → Prop} {vs : Array Value} (X : K.In s.heap) (I : InstAt s.heap x ox C none) (G : EGet K C) (hs : findIn K (.ref C) "__setattr__" = some (some (.builtin "object.__setattr__")))
    (hc : clsIn K C = some cd) (ho : OverErr cd.mro) (hh : cd.hasDict = true) (ht : takerIn K C name = some none) (hdn : ox.dict = none) (hda : ox.data = .fields vs)
    (h : ∀ h' t, h'.get? x = some { ox with dict := some s.heap.objs.size } → h'.Ns1 s.heap.objs.size (fun y => if y = name then some v else none) → (∀ b o, b ≠ x → s.heap.get? b = some o → h'.get? b = some o) → Q () { s with heap := h', toks := t }) :
    wpAny (model prog w) A (setAttr (.ref x) name v) Q E s := by
  refine set_plain X I hs (exc_osa_open (s := { s with toks := s.toks + 1 }) (r := none) X I G hc ho ht fun b => ?_)
  have hx := I.at_
  have hcl := I.cls
  obtain ⟨oc, odi, oda, osl⟩ := ox
  dsimp only at hcl hdn hda hx
  subst hcl hdn hda
  refine wpAny_bind (wpAny_pure (wpAny_bind (wpAny_bind (wpAny_loadPart hx (wpAny_bind (PySem.W.Looks.here (s := { s with toks := s.toks + 1 }) (PySem.W.looks_clsIn X hc) ?_))))))
  rw [hh, if_neg (by decide)]
  have hxs : x ≠ s.heap.objs.size := Nat.ne_of_lt (Heap.lt_size hx)
  have hx1 : (s.heap.push { cls := .type "dict", data := .dict #[] }).get? x = some ⟨.ref C, none, .fields vs, osl⟩ := Heap.get?_push_of_some _ hx
  show wpAny (model prog w) A.in1 (alloc { cls := Value.type "dict", data := Data.dict #[] } >>= fun d => update x (fun o => { cls := o.cls, dict := some d, data := o.data, slots := o.slots }) >>= fun _ => dictMade (.ref C) x d) _ _ _
  refine wpAny_bind (wpAny_alloc' ?_)
  refine wpAny_bind (wpAny_update' hx1 ?_)
  refine wpAny_pure ?_
  have hgd : ((s.heap.push { cls := .type "dict", data := .dict #[] }).update x fun o => { cls := o.cls, dict := some s.heap.objs.size, data := o.data, slots := o.slots }).get? s.heap.objs.size
      = some { cls := .type "dict", data := .dict #[] } := (Heap.get?_update_ne _ _ _ _ hxs.symm).trans (Heap.get?_push_at rfl rfl)
  have hnd : ((s.heap.push { cls := .type "dict", data := .dict #[] }).update x fun o => { cls := o.cls, dict := some s.heap.objs.size, data := o.data, slots := o.slots }).Ns s.heap.objs.size (fun _ => none) :=
    ⟨_, #[], _, hgd, rfl, fun e he => absurd he (by simp), fun _ => rfl⟩
  show wpAny _ _ (storeInDict s.heap.objs.size (.str name _) name v) _ _ _
  unfold storeInDict newKeyGuard
  refine wpAny_bind (wpAny_pure (wpAny_bind (wpAny_nsSet1 (Heap.Ns1.of_empty hnd) fun h' hn' sb => ?_)))
  obtain ⟨oD, esD, epD, hoD, hdD, hcD⟩ := hn'.count (PySem.Within.cons name v PySem.Within.nil)
  refine wpAny_bind (wpAny_lookBehind hoD (by rw [hdD]; exact pastItsLine_dict (Nat.le_trans hcD (by rw [List.length_cons, List.length_nil, sizeLine_eq]; omega))) ?_)
  refine wpAny_pure (h h' _ ?_ hn' fun b o nb hb => ?_)
  · exact (sb.2 x hxs).trans (Heap.get?_update_self _ hx1 rfl)
  · exact (sb.2 b (Nat.ne_of_lt (Heap.lt_size hb))).trans ((Heap.get?_update_ne _ _ _ _ nb).trans (Heap.get?_push_of_some _ hb))
theorem exc_set1 {Q : Unit → Shared → Prop} {dx : Addr} {mA : Str → Option Value} {ns : List Str} {oD : Obj} (X : K.In s.heap) (I : InstAt s.heap x ox C (some oD)) (G : EGet K C) (hs : findIn K (.ref C) "__setattr__" = some (some (.builtin "object.__setattr__")))
    (hc : clsIn K C = some cd) (ho : OverErr cd.mro) (hh : cd.hasDict = true) (ht : takerIn K C name = some none) (hdn : ox.dict = some dx) (hN : s.heap.Ns1 dx mA) (hw : PySem.Within mA ns) (hsz : ns.length ≤ sizeLine)
    (h : ∀ h' t, h'.Ns1 dx (fun y => if y = name then some v else mA y) → Heap.SameBut dx s.heap h' → Q () { s with heap := h', toks := t }) :
    wpAny (model prog w) A (setAttr (.ref x) name v) Q E s := by
  refine set_plain X I hs (exc_osa_open (s := { s with toks := s.toks + 1 }) (r := none) X I G hc ho ht fun b => ?_)
  have hx := I.at_
  have hcl := I.cls
  obtain ⟨oc, odi, oda, osl⟩ := ox
  dsimp only at hcl hdn hx
  subst hcl hdn
  refine wpAny_bind (wpAny_pure (wpAny_bind (wpAny_bind (wpAny_loadPart hx (wpAny_bind (PySem.W.Looks.here (s := { s with toks := s.toks + 1 }) (PySem.W.looks_clsIn X hc) ?_))))))
  rw [hh]
  refine wpAny_pure (a := some dx) (wpAny_bind (wpAny_pure (wpAny_bind ?_)))
  refine wpAny_nsSet1 (s := { s with toks := s.toks + 1 }) hN fun h' hn2 hs2 => ?_
  obtain ⟨oD, esD, epD, hoD, hdD, hcD⟩ := hn2.count (PySem.Within.cons name v hw)
  refine wpAny_bind (wpAny_lookBehind hoD (by rw [hdD]; exact pastItsLine_dict (Nat.le_trans hcD (by rw [List.length_cons]; omega))) ?_)
  exact wpAny_pure (h _ _ hn2 hs2)
end
def ExN (x : Addr) (C : Value) (dx : Option Addr) : Heap → Prop := fun h => ∃ oe a0, h.get? x = some oe ∧ oe.cls = C ∧ oe.dict = dx ∧ oe.data = .fields #[.ref a0, .none, .none, .none, .bool false, .none]
abbrev ExNO (x : Addr) (C : Value) (dx : Option Addr) : HO := .ext (ExN x C dx)
def XdP (d : Addr) (fs : List (Str × V)) : Heap → Prop := fun h => ∃ mA, h.Ns1 d mA ∧ (∀ f, RelO (fs.lookup f) (mA f)) ∧ PySem.Within mA (fs.map (·.1))
abbrev XdO (d : Addr) (fs : List (Str × V)) : HO := .ext (XdP d fs)
def ers (H : Hp) (x : Addr) : Hp := fun b => if b = x then none else H b
theorem ers_same {H : Hp} {x : Addr} : ers H x x = none := if_pos rfl
theorem ers_ne {H : Hp} {x b : Addr} (h : b ≠ x) : ers H x b = H b := if_neg h
theorem ExN.stay {x : Addr} {C : Value} {dx : Option Addr} : ∀ h1 h2 : Heap, ExN x C dx h1 → (∀ ob, h1.get? x = some ob → h2.get? x = some ob) → ExN x C dx h2 := fun _ _ ⟨oe, a, e, b⟩ k => ⟨oe, a, k _ e, b⟩
theorem XdP.stay {d : Addr} {fs : List (Str × V)} : ∀ h1 h2 : Heap, XdP d fs h1 → (∀ ob, h1.get? d = some ob → h2.get? d = some ob) → XdP d fs h2 := fun _ _ ⟨mA, N, r⟩ k => ⟨mA, N.at k, r⟩
section
variable {X : Cx} {pins : List (Addr × Obj)} {σ : St} {H : Hp} {s : Shared} {x C : Addr} {dx : Option Addr}
theorem inv_erase {φ : Heap → Prop} (I : Inv X pins σ H s) (e : H x = some (.ext φ)) : Inv X pins σ (ers H x) s := by
  have nn : ∀ b, H b = none → ers H x b = none := fun b n => by unfold ers; split <;> first | rfl | exact n
  have ne : ∀ b u, H b = some u → (∀ ψ, u ≠ .ext ψ) → b ≠ x := fun b u q n z => by rw [z, e] at q; cases q; exact n _ rfl
  refine ⟨I.ok, I.os, I.bare, ⟨I.base.keep, I.base.slot, fun b ob q n hx => nn _ (I.base.free b ob q n hx), I.base.there, fun b xs q => ?_, fun b ob u q => ?_, fun b ps q => ?_⟩, I.loc, I.cell, nn _ I.free, fun y c q => nn _ (I.freeC y c q), fun q hq => ?_, fun b u q => ?_, I.len⟩
  · have := I.base.tups b xs q; rw [ers_ne (ne _ _ this fun _ z => by cases z)]; exact this
  · have := I.base.frzs b ob u q; rw [ers_ne (ne _ _ this fun _ z => by cases z)]; exact this
  · obtain ⟨m, h⟩ := I.base.tbls b ps q
    exact ⟨m, by rw [ers_ne (ne _ _ h fun _ z => by cases z)]; exact h⟩
  · obtain ⟨a, b, r⟩ := I.pin q hq
    exact ⟨a, nn _ b, r⟩
  · by_cases z : b = x
    · rw [z, ers_same] at q; cases q
    · rw [ers_ne z] at q
      exact (I.hok b u q).stay (fun _ _ _ r => r) (fun c r => by rw [ers_ne (ne _ _ r fun _ z => by cases z)]; exact r) fun c xs r => by rw [ers_ne (ne _ _ r fun _ z => by cases z)]; exact r
end
structure EBase (K : Frag) (mg : Str → Option Value) (R : Str) (CR : Addr) : Prop where
  gm : mg R = some (.ref CR)
  sg : specialIn K (.ref CR) "__getattribute__" = some (some (.builtin "type.__getattribute__"))
  rd : readsIn K CR (.type "type") = true
  fc : findCls K (.ref CR) (.type "type") "__init__" = some (.val (.builtin "ValueError.__init__"))
def rBaseI (K : Frag) : RL := fun vs H Q => ∃ (x C : Addr) (dx : Option Addr) (rest : List V), vs = .ref x :: rest ∧ H x = some (ExNO x (.ref C) dx) ∧ exc1In K C vErr "ValueError.__new__" = true ∧ rest.length ≤ 1000 ∧ Q .non H
def tBaseI (K : Frag) (t : TA) : TE := fun σ H Q => t σ H fun vs H1 => rBaseI K vs H1 Q
theorem upd_own {H : Hp} {x : Addr} {o : HO} (h : H x = some o) : upd H x o = H := by
  funext b
  by_cases z : b = x
  · subst z; rw [upd_same, h]
  · rw [upd_ne z]
section
variable {X : Cx}
theorem pe_baseI {R : Str} {CR : Addr} {np apos pos : Pos} {e : Expr} {es : List Expr} {t : TA} {pl : Sem Bool} (B : EBase X.K X.mg R CR) (ha : PA X (e :: es) t) (hg : Gl X R := by rfl) (hdb : (R == ("__debug__" : Str)) = false := by decide)
    (hst : starEach (e :: es) X.env = (false, eval e X.env) :: starEach es X.env := by rfl) (hpl : (backTo pos (starEach es X.env)).any (·.1) = false := by rfl)
    (ht : eval (.Call (.Attribute (.Name R np) "__init__" apos) (e :: es) [] pos) X.env = (do
      let ov ← eval (.Name R np) X.env
      standAt apos.atName
      let (f, first) ← holding [ov] (getMethod ov "__init__" pl)
      callWith pos f first (backTo pos (starEach (e :: es) X.env)) (backToKw pos (keywordEach [] X.env))) := by rfl) :
    PE X (.Call (.Attribute (.Name R np) "__init__" apos) (e :: es) [] pos) (tBaseI X.K t) := by
  intro pins s σ H Q I h
  refine PySem.W.methodCall_KW (pl := pl) (ld_glob I hg B.gm ?_ hdb) ht
  refine method_cls I.kIn B.sg (cls_value I.kIn B.rd B.fc rfl ?_)
  have I0 := I.tok (s.toks + 1)
  refine PyProof.Rows.callWith_method1 (first := []) (thn (ha pos pins _ σ H _ I0 h) fun us s1 ⟨vs, H1, I1, r, x, C, dx, rest, ev, hx, hC, hz, q⟩ => ?_) hst hpl
  subst ev
  cases r with
  | @cons _ u _ us' r0 r1 =>
    obtain rfl : u = Value.ref x := r0
    obtain ⟨⟨oe, a0, e1, e2, e3, e4⟩, _⟩ := (show ObjOk X.prog X.w H1 s1.heap x (ExNO x (.ref C) dx) from I1.hok x _ hx)
    obtain ⟨nm, q', N, bs, bm, hdct, sn, sub, ab, col, dd, k0, k1, k2, k3, k5, hCC, T⟩ := exc1_of I1.kIn hC
    have hl : us'.length ≤ sizeLine := by rw [← r1.length]; exact Nat.le_of_lt (small1000 hz)
    obtain ⟨hp, g, d, tk, os⟩ := s1
    show wpAny (model X.prog X.w) X.A (call (.builtin "ValueError.__init__") (.ref x :: us')) _ _ _
    refine exc_init PySem.F.excBase_ValueError T hCC e1 e2 e4 (Nat.zero_lt_succ _) rfl (fun h3 eh => ?_) hl
    obtain ⟨oc, odd, da, sl⟩ := oe
    dsimp only at e2 e3 e4
    subst e2 e3 e4
    have g3 := Heap.get?_update_self (Obj.mapFields (·.setIfInBounds 0 (.ref hp.objs.size))) (Heap.get?_push_of_some { cls := .type "tuple", data := .seq us'.toArray } e1) rfl
    rw [← eh] at g3
    have J := I1.write (x := x) (e := x) (o := ExNO x (.ref C) odd) (h' := h3) (t' := tk) (by rw [hx]; exact True.intro) (.inl rfl) (fun b u nb hb => by rw [eh, Heap.get?_update_other _ _ (Ne.symm nb)]; exact Heap.get?_push_of_some _ hb) ⟨_, g3⟩ ⟨⟨_, _, g3, rfl, rfl, rfl⟩, ⟨_, g3⟩, ExN.stay⟩
    rw [upd_own hx] at J
    exact ⟨.non, H1, J, rfl, q⟩
end
structure EPut (K : Frag) (C : Addr) (f : Str) : Prop where
  g : EGet K C
  sa : findIn K (.ref C) "__setattr__" = some (some (.builtin "object.__setattr__"))
  cd : ∃ cd, clsIn K C = some cd ∧ OverErr cd.mro ∧ cd.hasDict = true
  tk : takerIn K C f = some none
def SetN (K : Frag) (f : Str) (x y : V) (H : Hp) (R : Hp → Prop) : Prop := ∃ a C dx, x = .ref a ∧ H a = some (ExNO a (.ref C) dx) ∧ EPut K C f ∧
  (dx = none → ∀ d, H d = none → R (upd (upd H a (ExNO a (.ref C) (some d))) d (XdO d [(f, y)]))) ∧ ∀ d, dx = some d → ∃ fs, H d = some (XdO d fs) ∧ fs.length < 1000 ∧ R (upd H d (XdO d (putF f y fs)))
def sFldN (K : Frag) (ta tv : TE) (f : Str) : TS := fun D σ H => tv σ H fun y H1 => ta σ H1 fun x H2 => SetN K f x y H2 fun H3 => D.nx σ H3
section
variable {X : Cx} {pins : List (Addr × Obj)} {σ : St} {H : Hp} {s : Shared}
theorem setn_ok {A : Around} {E : Value → Shared → Prop} {f : Str} {a : Addr} {x y : V} {u : Value} {R : Hp → Prop} {Q : Unit → Shared → Prop} (I : Inv X pins σ H s) (ex : x = .ref a) (ry : RelV y u) (h : SetN X.K f x y H R)
    (hq : ∀ H' s', Inv X pins σ H' s' → R H' → Q () s') : wpAny (model X.prog X.w) A (setAttr (.ref a) f u) Q E s := by
  obtain ⟨a', C, dx, ex', ha, P, h0, h1⟩ := h
  rw [ex] at ex'
  cases ex'
  obtain ⟨⟨oe, a0, e1, e2, e3, e4⟩, _⟩ := (show ObjOk X.prog X.w H s.heap a (ExNO a (.ref C) dx) from I.hok a _ ha)
  obtain ⟨cd, c1, c2, c3⟩ := P.cd
  have nc : notCls oe = true := by unfold notCls; rw [e4]
  cases dx with
  | none =>
    have J : InstAt s.heap a oe C none := ⟨e1, e2, nc, by rw [e3]; trivial⟩
    refine exc_set0 I.kIn J P.g P.sa c1 c2 c3 P.tk e3 e4 fun h' t b1 b2 b3 => ?_
    have hd := I.hok.fresh (Nat.le_refl s.heap.objs.size)
    have na : a ≠ s.heap.objs.size := Nat.ne_of_lt (Heap.lt_size e1)
    have I1 := I.write (x := a) (e := a) (o := ExNO a (.ref C) (some s.heap.objs.size)) (h' := h') (t' := t) (by rw [ha]; exact True.intro) (.inl rfl) (fun b u nb hb => b3 b u nb hb) ⟨_, b1⟩ ⟨⟨_, a0, b1, e2, rfl, e4⟩, ⟨_, b1⟩, ExN.stay⟩
    have o1 : Own1 X pins (upd H a (ExNO a (.ref C) (some s.heap.objs.size))) s.heap.objs.size := own1_of I (Nat.le_refl _) (by rw [upd_ne na.symm]; exact hd)
    have pd : XdP s.heap.objs.size [(f, y)] h' := ⟨_, b2, fun g => by
      show RelO (List.lookup g [(f, y)]) (if g = f then some u else none)
      by_cases z : g = f
      · subst z; rw [if_pos rfl, lk_hit]; exact ry
      · rw [if_neg z, lk_miss (beq_eq_false_iff_ne.mpr z)]; trivial, fun g hg => by
      by_cases z : g = f
      · rw [z]; exact List.mem_cons_self
      · exact absurd (show (if g = f then some u else none) = none by rw [if_neg z]) hg⟩
    have I2 := inv_track I1 o1 pd (let ⟨o, _, _, e, _⟩ := b2; ⟨o, e⟩) XdP.stay
    exact hq _ _ I2 (h0 rfl _ hd)
  | some d =>
    obtain ⟨fs, hd, hz, r⟩ := h1 d rfl
    obtain ⟨⟨mA, N, rel, wi⟩, _⟩ := (show ObjOk X.prog X.w H s.heap d (XdO d fs) from I.hok d _ hd)
    obtain ⟨oD, hoD⟩ : ∃ o, s.heap.get? d = some o := let ⟨o, _, _, e, _⟩ := N; ⟨o, e⟩
    have J : InstAt s.heap a oe C (some oD) := ⟨e1, e2, nc, by rw [e3]; exact hoD⟩
    have hz' : (fs.map (·.1)).length ≤ sizeLine := by rw [List.length_map, sizeLine_eq]; omega
    refine exc_set1 I.kIn J P.g P.sa c1 c2 c3 P.tk e3 N wi hz' fun h' t b2 sb => ?_
    refine hq _ _ (I.write (x := d) (e := d) (o := XdO d (putF f y fs)) (h' := h') (t' := t) (by rw [hd]; exact True.intro) (.inl rfl) (fun b u nb hb => (sb.2 b nb).trans hb) (let ⟨o, _, _, e, _⟩ := b2; ⟨o, e⟩) ⟨⟨_, b2, fun g => ?_, fun g hg => ?_⟩, (let ⟨o, _, _, e, _⟩ := b2; ⟨o, e⟩), XdP.stay⟩) r
    · show RelO ((putF f y fs).lookup g) (if g = f then some u else mA g)
      rw [lookup_putF]
      by_cases z : g = f
      · rw [if_pos z, if_pos z]; exact ry
      · rw [if_neg z, if_neg z]; exact rel g
    · by_cases z : g = f
      · rw [z]; exact (keys_putF f y fs).1
      · refine (keys_putF f y fs).2 g (wi g fun n => hg ?_)
        show (if g = f then some u else mA g) = none
        rw [if_neg z]; exact n
theorem ps_fldN {o value : Expr} {f : Str} {pos pos' : Pos} {ta tv : TE} (ha : PE X o ta) (hv : PE X value tv) (hs : swapsWith value (some (.Attribute o f pos')) pos.line X.env = pure false) : PS X (.Assign [.Attribute o f pos'] value pos) (sFldN X.K ta tv f) := by
  intro pins s σ H D I h
  refine plainObj_wpAny_Assign_Attribute (thn (hv pins s σ H _ I h) fun u s1 ⟨y, H1, I1, ry, q⟩ => thn (ha pins s1 σ H1 _ I1 q) fun ov s2 ⟨x, H2, I2, rx, q2⟩ => ?_) hs
  obtain ⟨a, C, dx, ex, r⟩ := id q2
  subst ex
  obtain rfl : ov = Value.ref a := rx
  exact setn_ok I2 rfl ry q2 fun H3 s3 I3 q3 => ⟨σ, H3, I3, q3⟩
end
structure EOwn (P : Program) (w : World) (K : Frag) (mg : Str → Option Value) (base : Heap) (x : Str) (C : Addr) (k : Nat) (ps : List Str) (sp : Sp) : Prop where
  ok : exc1In K C vErr "ValueError.__new__" = true
  kp : keepIn K (.ref C) = true
  gm : mg x = some (.ref C)
  fn : ∃ f fd, findIn K (.ref C) "__init__" = some (some (.ref f)) ∧ typeIn K (.ref f) = some (.type "function") ∧ FnOk P w K mg base (CX1 P w) k f fd ps sp ∧ Binds K fd ps []
def Rz (C x : Addr) (Ex : XK) (r : V) (H : Hp) : Prop := r = .non ∧ ∃ dx, H x = some (ExNO x (.ref C) dx) ∧ (dx = none → Ex (.ref C) none (ers H x)) ∧ ∀ d, dx = some d → ∃ fs, H d = some (XdO d fs) ∧ d ≠ x ∧ Ex (.ref C) (some d) (upd (ers H x) d (.xd fs))
def tRaiseI (C : Addr) (sp : Sp) (Ex : St → XK) (tl : TA) : TS := fun _ σ H => tl σ H fun vs H1 => vs.length ≤ 1000 ∧ ∀ x, H1 x = none → sp (.ref x :: vs) (upd H1 x (ExNO x (.ref C) none)) (Rz C x (Ex σ)) fun _ _ _ => False
theorem ps_raiseI {X : Cx} {Ex : St → XK} {x : Str} {C : Addr} {k : Nat} {ps : List Str} {sp : Sp} {e : Expr} {es : List Expr} {t : TA} {np cpos pos : Pos} (O : EOwn X.prog X.w X.K X.mg X.base x C k ps sp) (hr : Room (k + 1) X.A) (hc : X.calm = true) (hx : PaX X Ex) (ha : PA X (e :: es) t) (hg : Gl X x := by rfl)
    (hdb : (x == ("__debug__" : Str)) = false := by decide) (he : starEach (e :: es) X.env = (false, eval e X.env) :: starEach es X.env := by rfl) (hpl : (backTo cpos (starEach es X.env)).any (·.1) = false := by rfl) :
    PS X (.Raise (some (.Call (.Name x np) (e :: es) [] cpos)) none pos) (tRaiseI C sp Ex t) := by
  intro pins s σ H D I h
  obtain ⟨f, fd, fi, ft, F, fb⟩ := O.fn
  obtain ⟨nm, q, N, bs, bm, hdct, sn, sub, ab, col, dd, k0, k1, k2, k3, k5, hC, T⟩ := exc1_of I.ok.mod.kin O.ok
  rw [arm_exec_Raise]
  refine wpAny_bind (wpAny_standAt (raise_made (C := C) (nm := nm) (q := q) (N := N) (bs := bs) (bm := bm) (hdct := hdct) (sn := sn) (sub := sub) (ab := ab) (col := col) (dd := dd) (k0 := k0) (k1 := k1) (k2 := k2) (k3 := k3) (k5 := k5) (newId := "ValueError.__new__") (T.hasType (by decide +kernel)) (I.ok.hd hc) (wpAny_bind ?_)))
  refine wpAny_Call_Name_kw (ld_glob I hg O.gm ?_ hdb)
  refine callWith_K (h₀ := X.base) I.ok.mod.kin O.kp (thn (ha cpos pins s σ H _ I h) fun us s1 ⟨vs, H1, I1, r, hz, qx⟩ => ⟨I1.kIn, ?_⟩) he hpl
  have hl : us.length ≤ sizeLine := by rw [← r.length]; exact Nat.le_of_lt (small1000 hz)
  have T1 := T.keeps I1.bk
  have hC1 := I1.bk _ _ hC
  have nx := I1.hok.fresh (Nat.le_succ s1.heap.objs.size)
  have hq := qx _ nx
  have I2 := I1.laid (a := s1.heap.objs.size + 1) (o := ExNO (s1.heap.objs.size + 1) (.ref C) none) (h' := exc2 s1.heap C us) (t' := s1.toks) exc2_keeps (Nat.le_succ _) ⟨⟨_, _, exc2_get, rfl, rfl, rfl⟩, ⟨_, exc2_get⟩, ExN.stay⟩
  have r2 : Vals (V.ref (s1.heap.objs.size + 1) :: vs) (Value.ref (s1.heap.objs.size + 1) :: us) := .cons rfl r
  have hl2 : (Value.ref (s1.heap.objs.size + 1) :: us).length = ps.length := by rw [← r2.length]; exact F.len _ _ _ _ hq
  have hb' := fb _ (Value.ref (s1.heap.objs.size + 1) :: us) I2.kIn (by rw [List.append_nil]; exact hl2)
  rw [List.append_nil] at hb'
  obtain ⟨hp, g, d, tk, os⟩ := s1
  show wpAny (model X.prog X.w) X.A (call (.ref C) us) _ _ _
  refine exc_call PySem.F.excBase_ValueError T1 hC1 (looks_findIn I1.kIn fi) (fun self => bind_fn I1.kIn self ft) ?_ hl
  refine wpAny_call (codeAny_mono (F.run _ X.stack _ _ ⟨Value.ref (hp.objs.size + 1) :: us, []⟩ (Value.ref (hp.objs.size + 1) :: us) _ _ (fun _ _ _ => False) (hr.make C us []) (I2.env0.make C us []) hb' r2 hq) fun r s' hq' => ?_)
  cases r with
  | error e => exact (noErr1 _ _ _ _ _ hq').elim
  | ok fl =>
    cases fl with
    | ret u =>
      obtain ⟨v, H3, I3, rv, ev, dx, hx3, q0, q1⟩ := I2.after hq'
      subst ev
      refine ⟨rv, ?_⟩
      obtain ⟨⟨oe, a0, e1, e2, e3, e4⟩, _⟩ := (show ObjOk X.prog X.w H3 s'.heap (hp.objs.size + 1) (ExNO (hp.objs.size + 1) (.ref C) dx) from I3.hok _ _ hx3)
      have ea : ExcAt s'.heap (hp.objs.size + 1) (.ref C) dx none .none := ⟨oe, _, e1, e2, e3, e4, rfl, fun t ht => by cases ht⟩
      have I4 := inv_erase I3 hx3
      have hCs := I3.bk _ _ hC
      refine wpAny_bind (wpAny_standAt (wpAny_pure ⟨_, oe, _, rfl, hCs, e1, e2, e4, rfl, hx _ _ ?_⟩))
      cases dx with
      | none => exact ⟨pins, σ, _, hp.objs.size + 1, .ref C, none, none, .none, rfl, I4, ea, .inl rfl, own1_of I1 (Nat.le_succ _) ers_same, (fun t ht => by cases ht), q0 rfl⟩
      | some d =>
        obtain ⟨fs, hd, nd, qd⟩ := q1 d rfl
        obtain ⟨⟨mA, N', rel, _⟩, od, _⟩ := (show ObjOk X.prog X.w H3 s'.heap d (XdO d fs) from I3.hok _ _ hd)
        have hd4 : ers H3 (hp.objs.size + 1) d = some (XdO d fs) := by rw [ers_ne nd]; exact hd
        have I5 := I4.write (x := d) (e := d) (o := .xd fs) (h' := s'.heap) (t' := s'.toks) (by rw [hd4]; exact True.intro) (.inl rfl) (fun b u _ hb => hb) od ⟨mA, N', rel⟩
        exact ⟨pins, σ, _, hp.objs.size + 1, .ref C, some d, none, .none, rfl, I5, ea, .inl rfl, own1_of I1 (Nat.le_succ _) (by rw [upd_ne (Ne.symm nd)]; exact ers_same), (fun t ht => by cases ht), qd⟩
    | _ => exact False.elim hq'
end L4
namespace L4
open PySem PySem.Spec PyProof.Rows L2 L3 PySem.W
structure RoomU (k : Nat) (A : Around) : Prop where
  dp : A.depth + 3 * k + 5 < recursionLimit
  un : A.units + 16 * k + 200 < cLine
structure FnOkU (P : Program) (w : World) (K : Frag) (mg : Str → Option Value) (base : Heap) (CX : CXT) (k : Nat) (f : Addr) (fd : FuncData) (ps : List Str) (sp : Sp) : Prop where
  len : ∀ vs H Q E, sp vs H Q E → vs.length = ps.length
  run : ∀ (A : Around) (outer : List Env) (s : Shared) (H : Hp) (args : Args) (us : List Value) (vs : List V) (Q : VK) (E : XK), RoomU k A → Env0 P w K mg base A outer s H → BindsTo s fd args (ps.zip us) → Vals vs us → sp vs H Q E →
    codeAny (model P w) A (.call (.ref f) args) (CR CX outer P w H s Q E) s
section
variable {CX : CXT} {P : Program} {w : World} {K : Frag} {mg : Str → Option Value} {base : Heap} {k : Nat} {f : Addr} {N ps : List Str} {sp : Sp}
end
structure CalU (P : Program) (w : World) (K : Frag) (mg : Str → Option Value) (base : Heap) (CX : CXT) (x : Str) (k : Nat) (ps : List Str) (sp : Sp) : Prop where
  ex : ∃ f fd, FnOkU P w K mg base CX k f fd ps sp ∧ Binds K fd ps [] ∧ PySem.W.keepIn K (.ref f) = true ∧ mg x = some (.ref f)
section
variable {P : Program} {w : World} {K : Frag} {mg : Str → Option Value} {base : Heap} {CX : CXT} {x qual : Str} {st : Stmt} {N ps : List Str} {k : Nat} {sp : Sp}
end
section
variable {X : Cx} {CX : CXT} {k : Nat} {ps : List Str} {sp : Sp} {E : XK} {x : Str} {p pos : Pos} {e : Expr} {es : List Expr} {t : TA}
end
end L4
namespace L4
open PySem PySem.Spec PyProof.Rows L2 L3 PySem.W
theorem some_is {α : Type} {o : Option α} {x : α} (e : o = some x) : o.isSome = true := by rw [e]; rfl
theorem exc1_ofIn {K : Frag} {C : Addr} {bmB : List Value} {newId : String} (q : excIn K C bmB newId = true) : exc1In K C bmB newId = true := by
  unfold excIn at q
  unfold exc1In
  split at q
  · rename_i dd cd sl ho
    split at q
    · rename_i C' bm k0 k1 k2 k3 n k5 hm hs
      simp only [Bool.and_eq_true] at q
      simp only [ho, hm, hs, Bool.and_eq_true]
      exact q.1.1
    · cases q
  · cases q
theorem exc1_own {K : Frag} {C CR : Addr} {newId : String} {dd : Option Addr} {cd : ClassData} {k0 k1 k2 k3 k5 : Option Value} (l : K.lookup C = some ⟨.type "type", dd, .cls cd, #[k0, k1, k2, k3, some (.builtin newId), k5]⟩) (hm : cd.mro = .ref C :: .ref CR :: vErr) (hdel : cd.hasDel = false) (q : excIn K CR vErr newId = true) : exc1In K C vErr newId = true := by
  have hv : tailIn K vErr vErr = true := by
    show tailIn K vErr (.type "ValueError" :: [.type "Exception", .type "BaseException", .type "object"]) = true
    unfold tailIn
    rw [show ((Value.type "ValueError" :: [Value.type "Exception", .type "BaseException", .type "object"]) == vErr) = true from beq_self_eq_true vErr, Bool.true_or]
  have ht : tailIn K vErr (.ref CR :: vErr) = true := by
    unfold excIn at q
    unfold tailIn
    refine Bool.or_eq_true_iff.mpr (.inr ?_)
    split at q
    · rename_i ho
      split at q
      · simp only [Bool.and_eq_true] at q
        simp only [ho, Bool.and_eq_true]
        exact ⟨⟨q.1.2, q.2⟩, hv⟩
      · cases q
    · cases q
  unfold exc1In
  simp only [l, hm]
  simp [hdel, ht]
theorem OverErr.two {C CR : Addr} : OverErr (.ref C :: .ref CR :: vErr) := .own (.own .base)
structure EDat (K : Frag) (mg : Str → Option Value) (x qual : Str) (C : Addr) (st : Stmt) (ps : List Str) : Prop where
  ok : exc1In K C vErr "ValueError.__new__" = true
  kp : keepIn K (.ref C) = true
  gm : mg x = some (.ref C)
  ex : ∃ f fd, Fun K "__init__" qual st f fd ∧ Binds K fd ps [] ∧ findIn K (.ref C) "__init__" = some (some (.ref f)) ∧ typeIn K (.ref f) = some (.type "function")
section
variable {P : Program} {w : World} {K : Frag} {mg : Str → Option Value} {base : Heap} {x qual : Str} {C : Addr} {st : Stmt} {N ps : List Str} {k : Nat} {sp : Sp}
theorem edat_mk {h : Heap} (X : K.In h) (G : h.Ns mainGlobals mg) {f : Addr} {oc : Value} {od an : Option Addr} {osl : Array (Option Value)} {kV doc pm cdv ct : Value} (aC : nsIn K mainGlobals x = some (some (.ref C))) (o : exc1In K C vErr "ValueError.__new__" = true)
    (a : findIn K (.ref C) "__init__" = some (some (.ref f))) (i : typeIn K (.ref f) = some (.type "function"))
    (l : K.lookup f = some ⟨oc, od, .func (fnOf "__init__" qual (defArgs st) (defBody st) (defScope st) .none kV doc pm an cdv ct), osl⟩) (c : codeIn K cdv qual = true) (kp : keepIn K (.ref f) = true) (kc : keepIn K (.ref C) = true)
    (b : ∀ (kV doc pm : Value) (an : Option Addr) (cdv ct : Value) (us : List Value), us.length = ps.length → bindArgs (fnOf "__init__" qual (defArgs st) (defBody st) (defScope st) .none kV doc pm an cdv ct) ⟨us, []⟩ = pure (ps.zip us)) : EDat K mg x qual C st ps := by
  have F := fun_mk (st := st) l c kp
  exact ⟨o, kc, mg_of X G aC, f, _, F, F.binds b, a, i⟩
theorem EDat.ok' (D : EDat K mg x qual C st ps) (S : FnScope N ps (defScope st)) (len : ∀ vs H Q E, sp vs H Q E → vs.length = ps.length)
    (hbody : ∀ (f : Addr) (cdv : Value) (A : Around) (outer : List Env) (s : Shared) (H : Hp) (vs : List V) (Q : VK) (E : XK), Room k (A.deeper (envOfC qual (defScope st) s.heap.objs.size f cdv)) → sp vs H Q E →
      ∃ t, PSs (cxOf (CX1 P w) P w K mg base N qual (defScope st) f cdv A outer s H E).nox (defBody st) t ∧ t { nx := fun _ H' => Q .non H', rt := Q } (start N vs) H) : EOwn P w K mg base x C (k + 1) ps sp := by
  obtain ⟨f, fd, F, b, a, i⟩ := D.ex
  exact ⟨D.ok, D.kp, D.gm, f, fd, a, i, fun_ok F S len hbody, b⟩
end
section
variable {K : Frag} {σ : St} {H : Hp} {Q : VK} {D : Ends} {tl : TA} {ta tv : TE} {sp : Sp} {Ex : St → XK} {C : Addr}
theorem g_baseI (h : tl σ H fun vs H1 => rBaseI K vs H1 Q) : tBaseI K tl σ H Q := h
theorem g_baseIv {x : Addr} {dx : Option Addr} {v : V} (e : H x = some (ExNO x (.ref C) dx)) (k : exc1In K C vErr "ValueError.__new__" = true) (h : Q .non H) : rBaseI K [.ref x, v] H Q := ⟨x, C, dx, [v], rfl, e, k, (by show 1 ≤ 1000; decide), h⟩
theorem g_sfldN {f : Str} (h : tv σ H fun y H1 => ta σ H1 fun x H2 => SetN K f x y H2 fun H3 => D.nx σ H3) : sFldN K ta tv f D σ H := h
theorem g_set0 {f : Str} {a : Addr} {y : V} {R : Hp → Prop} (e : H a = some (ExNO a (.ref C) none)) (P : EPut K C f) (h : ∀ d, H d = none → R (upd (upd H a (ExNO a (.ref C) (some d))) d (XdO d [(f, y)]))) : SetN K f (.ref a) y H R := ⟨a, C, none, rfl, e, P, fun _ => h, fun d z => by cases z⟩
def RaisesI (C : Addr) (sp : Sp) (Ex : XK) (vs : List V) (H : Hp) : Prop := vs.length ≤ 1000 ∧ ∀ x, H x = none → sp (.ref x :: vs) (upd H x (ExNO x (.ref C) none)) (Rz C x Ex) fun _ _ _ => False
theorem g_raiseI (h : tl σ H fun vs H1 => RaisesI C sp (Ex σ) vs H1) : tRaiseI C sp Ex tl D σ H := h
def spInit1 (C : Addr) (f : Str) : Sp := fun vs H Q _ => ∃ x v, vs = [.ref x, v] ∧ H x = some (ExNO x (.ref C) none) ∧ ∀ d, H d = none → Q .non (upd (upd H x (ExNO x (.ref C) (some d))) d (XdO d [(f, v)]))
theorem g_raiseI1 {E : XK} {v : V} {f : Str} (h : ∀ d H', Same H H' → H' d = some (.xd [(f, v)]) → E (.ref C) (some d) H') : RaisesI C (spInit1 C f) E [v] H := by
  refine ⟨(by show 1 ≤ 1000; decide), fun x nx => ⟨x, v, rfl, upd_same, fun d nd => ⟨rfl, some d, ?_, (fun z => by cases z), fun d' z => ?_⟩⟩⟩
  · have ne : x ≠ d := fun z => by rw [z, upd_same] at nd; cases nd
    rw [upd_ne ne, upd_same]
  · cases z
    have ne : d ≠ x := fun z => by rw [z, upd_same] at nd; cases nd
    have nd' : H d = none := by rw [upd_ne ne] at nd; exact nd
    refine ⟨_, upd_same, ne, h d _ (fun b o e => ?_) upd_same⟩
    rw [upd_ne (ne_of_none e nd'), ers_ne (ne_of_none e nx), upd_ne (ne_of_none e nd'), upd_ne (ne_of_none e nx), upd_ne (ne_of_none e nx)]
    exact e
end
section
theorem walk_ofX {l : PySem.W.OpenLaw} {n k : Nat} {q : Program} {loose : List Str} {XP : (Str → Option Value) → Heap → Prop} {YP : World → Heap → Prop} {d : DefRec} {K : Params → PySem.W.Frag} {CX : Program → World → CXT} {sp : PySem.W.Frag → Sp} {x : Str}
    (hn : l.most = some n) (hn2 : n ≤ sizeLine) (hdf : d.params.defaults = []) (hr : Room k callerA)
    (hY : ∀ (w : World) (h : Heap), YP w h → (K w.params).In h)
    (F : ∀ (w : World) (mg : Str → Option Value) (fa : Addr) (h : Heap), (K w.params).In h → h.Ns mainGlobals mg → mg d.name = some (.ref fa) →
      ∃ fd : FuncData, (∀ (s : Shared) (u : Value), BindsTo s fd ⟨[u], []⟩ [(x, u)]) ∧
        ∀ base : Heap, (K w.params).In base → base.Ns mainGlobals mg → FnOk l.prog w (K w.params) mg base (CX l.prog w) k fa fd [x] (sp (K w.params)))
    (hsp : ∀ (K : PySem.W.Frag) (H : Hp) (a : Addr) (ns : List Int), ns.length ≤ n → Only H → SqL K H a (ns.map V.int) → sp K [.ref a] H (fun v _ => v = .bl true) fun _ _ _ => False)
    (hCX : ∀ (P : Program) (w : World) (H : Hp) (s : Shared) (e : Value) (s' : Shared), CX P w [] H s (fun _ _ _ => False) e s' → False) :
    PySem.W.WalkO q loose XP YP l.row.toRowW d [] (fun f vs => PySem.call f vs) :=
  walk_of (K := K) (CX := fun w => CX l.prog w) (sp := fun w => sp (K w.params)) hn hn2 hdf hr hY F (fun w H a ns h1 h2 h3 => hsp (K w.params) H a ns h1 h2 h3) fun w H s e s' => hCX l.prog w H s e s'
end
end L4
namespace HT3
open PySem PyProof.Rows HT
section
open PySem.SeqAt
open PySem.AutoSeq1 (wpAny_loadPart')
open PySem.MeetsSeq PySem.MeetsSeq2 PySem.MeetsSeq3
end
section
variable {prog : Program} {w : World} {A : Around} {E : Value → Shared → Prop} {s : Shared}
end
section
open PySem.SeqAt
open PySem.AutoSeq1 (wpAny_loadPart')
open PySem.MeetsSeq PySem.MeetsSeq2 PySem.MeetsSeq3
end
section
variable {prog : Program} {w : World} {A : Around} {E : Value → Shared → Prop} {s : Shared}
end
end HT3
namespace L4
open PySem PySem.Spec PyProof.Rows L2 L3
section
variable {X : Cx}
end
section
variable {K : PySem.W.Frag} {H : Hp} {Q : VK} {a b : Addr} {m k m' k' : Int}
end
end L4
namespace L4
open PySem PySem.Spec PyProof.Rows L2 L3
end L4
namespace L4
open PySem PySem.Spec PyProof.Rows L2 L3
theorem bl_at {bs : List Bool} {us : List Value} (rv : Vals (bs.map V.bl) us) {i : Nat} {v : Value} (e : us[i]? = some v) : ∃ b, bs[i]? = some b ∧ v = .bool b := by
  have hi : i < bs.length := by
    have h1 := (List.getElem?_eq_some_iff.mp e).1
    have h2 := rv.length
    rw [List.length_map] at h2
    omega
  obtain ⟨u, hu, ru⟩ := rv.get (i := i) (x := V.bl bs[i]) (by rw [List.getElem?_map, List.getElem?_eq_getElem hi]; rfl)
  rw [e] at hu
  cases hu
  cases ru
  exact ⟨_, List.getElem?_eq_getElem hi, rfl⟩
theorem range_allB (bs : List Bool) : ((List.range bs.length).all fun i => (bs[i]?).getD true) = bs.all id := by
  rw [Bool.eq_iff_iff, List.all_eq_true, List.all_eq_true]
  constructor
  · intro h b hb
    obtain ⟨i, hi, e⟩ := List.getElem_of_mem hb
    have := h i (List.mem_range.mpr hi)
    rw [List.getElem?_eq_getElem hi, Option.getD_some, e] at this
    exact this
  · intro h i hi
    have hi' := List.mem_range.mp hi
    rw [List.getElem?_eq_getElem hi', Option.getD_some]
    exact h _ (List.getElem_mem hi')
theorem kept_it {s : Shared} {h' : Heap} {o : Obj} (hk : ∀ b x, b ∉ [s.heap.objs.size] → (s.heap.push o).get? b = some x → h'.get? b = some x) : ∀ b x, s.heap.get? b = some x → h'.get? b = some x :=
  fun b x e => hk b x (fun hm => by rw [List.mem_singleton.mp hm] at e; exact Nat.lt_irrefl _ (Heap.lt_size e)) (Heap.get?_push_of_some _ e)
def rAll (K : PySem.W.Frag) : RL := fun xs H Q => ∃ (p : Addr) (bs : List Bool), xs = [.ref p] ∧ SqL K H p (bs.map V.bl) ∧ Q (.bl (bs.all id)) H
section
variable {X : Cx}
theorem call_all (hc : X.calm = true) : CallR X (.builtin "all") (rAll X.K) := by
  intro pins s σ H xs us Q I r h
  obtain ⟨p, bs, rfl, hq, q⟩ := h
  obtain ⟨u, rfl, rx⟩ := vals1 r
  cases rx
  obtain ⟨its, rv, pl, hz⟩ := I.list hq
  have hl := pl.isList
  have hlt : p < s.heap.objs.size := by obtain ⟨_, e, _⟩ := hl; exact Heap.lt_size e
  have hlen : its.length = bs.length := by rw [← rv.length, List.length_map]
  refine call_all_walk (wpAny_pyIter_list hl ?_)
  refine ⟨s.heap.objs.size, [s.heap.objs.size, p], [s.heap.objs.size], its.toArray.size, _, _, fun i => (bs[i]?).getD true, rfl, Walks.list (A := X.A.in1) (I.ok.hd hc) _ p (Nat.ne_of_lt hlt) its.toArray,
    ⟨⟨_, Heap.get?_push_size _ rfl, rfl, rfl⟩, hl.push _⟩, fun i v s' Q' E' hP hQ => ?_, fun h' tk hk => ?_⟩
  · obtain ⟨b, e, rfl⟩ := bl_at rv (i := i) (v := v) (by simpa using hP)
    simp only [e, Option.getD_some] at hQ
    exact wpAny_truthy_bool hQ
  · have e : ((List.range its.toArray.size).all fun i => (bs[i]?).getD true) = bs.all id := by
      rw [List.size_toArray, hlen]; exact range_allB bs
    rw [e]
    exact ⟨.bl _, H, I.kept (kept_it hk), rfl, q⟩
theorem ix_tupK {K : PySem.W.Frag} (h : X.K = K) : IxR X (rIxT K) := h ▸ ix_tup
end
section
variable {K : PySem.W.Frag} {H : Hp} {Q : VK} {p : Addr} {P : Addr → Prop} {H0 : Hp} {l : List (Addr × Ob)} {fs : List Pr} {a b : Addr} {xs ys : List V}
theorem g_allB {bs : List Bool} (s : SqL K H p (bs.map V.bl)) (h : Q (.bl (bs.all id)) H) : rAll K [.ref p] H Q := ⟨p, bs, rfl, s, h⟩
end
end L4
namespace L4
open PySem PySem.Spec PyProof.Rows L2 L3 PySem.W
structure MCal (P : Program) (w : World) (K : Frag) (mg : Str → Option Value) (base : Heap) (CX : CXT) (C : Addr) (m : Str) (k : Nat) (ps : List Str) (sp : Sp) : Prop where
  cl : Cls K C
  ex : ∃ f fd, Meth K C m f ∧ FnOk P w K mg base CX k f fd ps sp ∧ Binds K fd ps []
section
variable {P : Program} {w : World} {K : Frag} {mg : Str → Option Value} {base : Heap} {CX : CXT} {x qual : Str} {C : Addr} {st : Stmt} {N ps : List Str} {k j : Nat} {sp sp' : Sp}
theorem mdat_ok (D : MDat K C x qual st ps) (S : FnScope N ps (defScope st)) (len : ∀ vs H Q E, sp vs H Q E → vs.length = ps.length)
    (hbody : ∀ (f : Addr) (cdv : Value) (A : Around) (outer : List Env) (s : Shared) (H : Hp) (vs : List V) (Q : VK) (E : XK), Room k (A.deeper (envOfC qual (defScope st) s.heap.objs.size f cdv)) → sp vs H Q E →
      ∃ t, PSs (cxOf CX P w K mg base N qual (defScope st) f cdv A outer s H E).nox (defBody st) t ∧ t { nx := fun _ H' => Q .non H', rt := Q } (start N vs) H) : MCal P w K mg base CX C x (k + 1) ps sp := by
  obtain ⟨f, fd, F, b, m, c⟩ := D.ex
  exact ⟨c, f, fd, m, fun_ok F S len hbody, b⟩
theorem mdat_okR (D : MDat K C x qual st ps) (S : FnScope N ps (defScope st)) (len : ∀ vs H Q E, sp vs H Q E → vs.length = ps.length)
    (hbody : ∀ (f : Addr) (cdv : Value) (A : Around) (outer : List Env) (s : Shared) (H : Hp) (vs : List V) (Q : VK) (E : XK), Room k (A.deeper (envOfC qual (defScope st) s.heap.objs.size f cdv)) → sp vs H Q E →
      ∃ t, PSs (xcx (cxOf (CX1 P w) P w K mg base N qual (defScope st) f cdv A outer s H E) (fun _ => E)) (defBody st) t ∧ t { nx := fun _ H' => Q .non H', rt := Q } (start N vs) H) : MCal P w K mg base (CX1 P w) C x (k + 1) ps sp := by
  obtain ⟨f, fd, F, b, m, c⟩ := D.ex
  obtain ⟨oc, od, kV, doc, pm, an, cdv, ct, osl, rfl, lk, hcd⟩ := F.ex
  refine ⟨c, f, _, m, fn_of lk hcd S len fun A outer s H vs Q E hr hsp => ?_, b⟩
  obtain ⟨t, ht, q⟩ := hbody f cdv A outer s H vs Q E hr hsp
  exact ⟨t, L4.PSs.x ht xs_leave, q⟩
theorem mdat_mk {f : Addr} {oc : Value} {od an : Option Addr} {osl : Array (Option Value)} {kV doc pm cdv ct : Value} (c : Cls K C) (a : findIn K (.ref C) x = some (some (.ref f))) (i : isFn K (.ref f) = true)
    (l : K.lookup f = some ⟨oc, od, .func (fnOf x qual (defArgs st) (defBody st) (defScope st) .none kV doc pm an cdv ct), osl⟩) (cd : codeIn K cdv qual = true) (kp : keepIn K (.ref f) = true)
    (b : ∀ (kV doc pm : Value) (an : Option Addr) (cdv ct : Value) (us : List Value), us.length = ps.length → bindArgs (fnOf x qual (defArgs st) (defBody st) (defScope st) .none kV doc pm an cdv ct) ⟨us, []⟩ = pure (ps.zip us)) : MDat K C x qual st ps := by
  have F := fun_mk (st := st) l cd kp
  exact ⟨f, _, F, F.binds b, ⟨a, i, kp⟩, c⟩
end
section
variable {X : Cx} {CX : CXT} {k : Nat} {C : Addr} {ps : List Str} {sp : Sp} {E : XK} {Ex : St → XK} {m : Str} {pos apos : Pos} {e o : Expr} {es : List Expr} {ta : TE} {t : TA}
theorem pe_mt {pl : Sem Bool} (M : MCal X.prog X.w X.K X.mg X.base CX C m k ps sp) (hr : Room k X.A) (hx : Passes CX X E) (he : PE X o ta) (ha : PA X (e :: es) t)
    (hst : starEach (e :: es) X.env = (false, eval e X.env) :: starEach es X.env := by rfl) (hpl : (backTo pos (starEach es X.env)).any (·.1) = false := by rfl)
    (ht : eval (.Call (.Attribute o m apos) (e :: es) [] pos) X.env = (do
      let ov ← eval o X.env
      standAt apos.atName
      let (f, first) ← holding [ov] (getMethod ov m pl)
      callWith pos f first (backTo pos (starEach (e :: es) X.env)) (backToKw pos (keywordEach [] X.env))) := by rfl) :
    PE X (.Call (.Attribute o m apos) (e :: es) [] pos) (tMeth C m sp [] E ta t) := by
  obtain ⟨f, fd, hm, F, b⟩ := M.ex
  exact pe_meth he M.cl hm F hr b .nil hx ha hst hpl ht
theorem pe_mt0 {pl : Sem Bool} (M : MCal X.prog X.w X.K X.mg X.base CX C m k ps sp) (hr : Room k X.A) (hx : Passes CX X E) (he : PE X o ta)
    (ht : eval (.Call (.Attribute o m apos) [] [] pos) X.env = (do
      let ov ← eval o X.env
      standAt apos.atName
      let (f, first) ← holding [ov] (getMethod ov m pl)
      callWith pos f first (backTo pos (starEach [] X.env)) (backToKw pos (keywordEach [] X.env))) := by rfl) :
    PE X (.Call (.Attribute o m apos) [] [] pos) (tMeth C m sp [] E ta tNil) := by
  obtain ⟨f, fd, hm, F, b⟩ := M.ex
  exact pe_meth0 he M.cl hm F hr b .nil hx ht
def tMethX (C : Addr) (m : Str) (sp : Sp) (Ex : St → XK) (ta : TE) (t : TA) : TE := fun σ H Q => ta σ H fun x H1 => ∃ a dx fs, x = .ref a ∧ H1 a = some (.ins C dx fs) ∧ fs.lookup m = none ∧ t σ H1 fun vs H2 => sp (x :: vs) H2 Q (Ex σ)
theorem pe_mtX {pl : Sem Bool} (M : MCal X.prog X.w X.K X.mg X.base (CX1 X.prog X.w) C m k ps sp) (hr : Room k X.A) (hx : PaX X Ex) (he : PE X o ta) (ha : PA X (e :: es) t)
    (hst : starEach (e :: es) X.env = (false, eval e X.env) :: starEach es X.env := by rfl) (hpl : (backTo pos (starEach es X.env)).any (·.1) = false := by rfl)
    (ht : eval (.Call (.Attribute o m apos) (e :: es) [] pos) X.env = (do
      let ov ← eval o X.env
      standAt apos.atName
      let (f, first) ← holding [ov] (getMethod ov m pl)
      callWith pos f first (backTo pos (starEach (e :: es) X.env)) (backToKw pos (keywordEach [] X.env))) := by rfl) :
    PE X (.Call (.Attribute o m apos) (e :: es) [] pos) (tMethX C m sp Ex ta t) := by
  obtain ⟨f, fd, hm, F, b⟩ := M.ex
  intro pins s σ H Q I h
  refine methodCall_KW (pl := pl) (thn (he pins s σ H _ I h) fun u s1 ⟨x, H1, I1, rx, a, dx, fs, ex, ea, l, q⟩ => ?_) ht
  subst ex
  obtain rfl : u = Value.ref a := rx
  refine getmeth_ok I1 ea M.cl hm l ?_
  refine callWith_K (first := [.ref a]) (h₀ := X.base) I.ok.mod.kin hm.kp (thn (ha pos pins s1 σ H1 _ I1 q) fun us s2 ⟨vs, H2, I2, r, q2⟩ => ⟨I2.kIn, ?_⟩) hst hpl
  exact run_fnX (us := .ref a :: us) (vs := .ref a :: vs) F hr b hx I2 (.cons rfl r) q2
theorem pe_mtX0 {pl : Sem Bool} (M : MCal X.prog X.w X.K X.mg X.base (CX1 X.prog X.w) C m k ps sp) (hr : Room k X.A) (hx : PaX X Ex) (he : PE X o ta)
    (ht : eval (.Call (.Attribute o m apos) [] [] pos) X.env = (do
      let ov ← eval o X.env
      standAt apos.atName
      let (f, first) ← holding [ov] (getMethod ov m pl)
      callWith pos f first (backTo pos (starEach [] X.env)) (backToKw pos (keywordEach [] X.env))) := by rfl) :
    PE X (.Call (.Attribute o m apos) [] [] pos) (tMethX C m sp Ex ta tNil) := by
  obtain ⟨f, fd, hm, F, b⟩ := M.ex
  intro pins s σ H Q I h
  refine methodCall_KW (pl := pl) (thn (he pins s σ H _ I h) fun u s1 ⟨x, H1, I1, rx, a, dx, fs, ex, ea, l, q⟩ => ?_) ht
  subst ex
  obtain rfl : u = Value.ref a := rx
  refine getmeth_ok I1 ea M.cl hm l ?_
  exact callWith_K0 (first := [.ref a]) I1.kIn hm.kp (run_fnX (us := [.ref a]) (vs := [.ref a]) F hr b hx I1 (.cons rfl .nil) q)
theorem pe_mk0 {x : Str} {p : Pos} (M : Mak X.prog X.w X.K X.mg X.base CX x C k ps sp) (hr : Room (k + 1) X.A) (hx : Passes CX X E) (hg : Gl X x := by rfl)
    (hdb : (x == ("__debug__" : Str)) = false := by decide) : PE X (.Call (.Name x p) [] [] pos) (tMake C sp [] E tNil) := by
  obtain ⟨f, fd, m, F, b, g⟩ := M.ex
  exact pe_make0 m F hr hg g b .nil hx hdb
def Mth (C : Addr) (m : Str) (sp : Sp) (E : XK) (t : TA) (σ : St) (x : V) (H : Hp) (Q : VK) : Prop := ∃ a dx fs, x = .ref a ∧ H a = some (.ins C dx fs) ∧ fs.lookup m = none ∧ t σ H fun vs H2 => sp (x :: vs) H2 Q E
theorem g_meth {σ : St} {H : Hp} {Q : VK} (h : ta σ H fun x H1 => Mth C m sp E t σ x H1 Q) : tMeth C m sp [] E ta t σ H Q := by
  have e : (fun x H1 => Mth C m sp E t σ x H1 Q) = fun x H1 => ∃ a dx fs, x = .ref a ∧ H1 a = some (.ins C dx fs) ∧ fs.lookup m = none ∧ t σ H1 fun vs H2 => sp (x :: (vs ++ [])) H2 Q E := by
    funext x H1
    unfold Mth
    simp only [List.append_nil]
  rw [e] at h
  exact h
theorem g_methX {σ : St} {H : Hp} {Q : VK} (h : ta σ H fun x H1 => Mth C m sp (Ex σ) t σ x H1 Q) : tMethX C m sp Ex ta t σ H Q := h
theorem g_methv {σ : St} {H : Hp} {Q : VK} {a dx : Addr} {fs : List (Str × V)} (hx : H a = some (.ins C dx fs)) (hl : fs.lookup m = none) (h : t σ H fun vs H2 => sp (.ref a :: vs) H2 Q E) : Mth C m sp E t σ (.ref a) H Q := ⟨a, dx, fs, rfl, hx, hl, h⟩
end
end L4
namespace L4
open PySem PySem.Spec PyProof.Rows L2 L3
section
variable {X : Cx} {e st : Expr} {te : TE} {ts : TO} {pos p2 : Pos}
end
section
variable {K : PySem.W.Frag} {P : Addr → Prop} {H0 H : Hp} {l l' : List (Addr × Ob)} {fs : List Pr} {Q : VK} {σ : St} {r r' : R2} {ta tb tc te : TE} {ts : TO} {tl : TA}
end
end L4
namespace L4
open PySem PySem.Spec PyProof.Rows L2 L3
section
variable {X : Cx}
end
section
variable {K : PySem.W.Frag} {H : Hp} {Q : VK} {p : Addr} {ns : List Int} {P : Addr → Prop} {H0 : Hp} {l : List (Addr × Ob)} {fs : List Pr}
end
end L4
namespace L4
open PySem PySem.Spec PyProof.Rows L2 L3
section
variable {prog : Program} {w : World} {A : Around} {E : Value → Shared → Prop} {s : Shared} {R : Result → Shared → Prop} {I S : Addr} {fp wr : List Addr} {n : Nat} {P : Nat → Value → Prop} {St : Nat → Heap → Prop}
def BestTo (val : Nat → Int) (i : Nat) (old : Array Value) : Prop := (old = #[] ∧ i = 0) ∨ ∃ (m : Int) (t : Tok), old = #[.int m t, .int m t] ∧ 1 ≤ i ∧ (∃ j, j < i ∧ val j = m) ∧ ∀ j, j < i → val j ≤ m
theorem maxd_go (W : Walks prog w A.in1 I fp wr n P St) (val : Nat → Int) (hval : ∀ i v, P i v → ∃ t, v = .int (val i) t) (hSf : S ∉ fp) (d : Value) :
    ∀ (r i : Nat) (s : Shared) (old : Array Value) (c : Nat), n - i = r → i ≤ n → St i s.heap → BestTo val i old → s.heap.get? S = some { cls := .type "list", dict := none, data := .seq old c, slots := #[] } →
    (∀ v h' tk, ((n = 0 ∧ v = d) ∨ ∃ m t, v = .int m t ∧ (∃ j, j < n ∧ val j = m) ∧ ∀ j, j < n → val j ≤ m) → (∀ b o, b ∉ wr → b ≠ S → s.heap.get? b = some o → h'.get? b = some o) → R (.ok (.ret v)) { s with heap := h', toks := tk }) →
    codeAny (model prog w) A (.builtin "max.loop" ⟨[.ref I, .none, .ref S], [("default", d)]⟩) R s := by
  have hSw : S ∉ wr := fun h => hSf (W.sub _ h)
  have hnm : (toString "max" ++ toString ".loop" : String) = "max.loop" := by decide
  have hcmp := CmpOf.ints_gt (prog := prog) (w := w) (A := A.in1) val hval
  intro r
  induction r with
  | zero =>
    intro i s old c hr hi hst hb hS hR
    have hin : i = n := by omega
    subst hin
    refine codeAny_builtin F.entry_max_loop ?_
    rw [Around.under_plainId F.plain_max_loop _]
    show wpAny _ A.in1 (seqItems? (.ref S) >>= _) _ _ s
    refine wpAny_bind (wpAny_seqItems hS rfl ?_)
    show wpAny _ A.in1 (tryCatch (pyNext (.ref I)) _ >>= _) _ _ s
    refine wpAny_bind (wpAny_tryCatch (W.done s _ _ hst fun h' tk hk' => ?_))
    have hS' := hk' S _ hSw hS
    rcases hb with ⟨rfl, rfl⟩ | ⟨m, t, rfl, _, hm1, hm2⟩
    · show wpAny _ A.in1 (rule _ >>= _) _ _ _
      refine wpAny_bind (wpAny_rule (wpAny_pure ?_))
      exact hR d _ tk (.inl ⟨rfl, rfl⟩) fun b o hbw _ e => hk' b o hbw e
    · show wpAny _ A.in1 (updateSeq S (fun _ => #[]) >>= _) _ _ _
      refine wpAny_bind (wpAny_updateSeq hS' rfl (wpAny_bind (wpAny_letGo (wpAny_pure ?_))))
      exact hR _ _ tk (.inr ⟨m, t, rfl, hm1, hm2⟩) fun b o hbw hbS e => (Heap.get?_update_other _ _ (Ne.symm hbS)).trans (hk' b o hbw e)
  | succ r ih =>
    intro i s old c hr hi hst hb hS hR
    have hlt : i < n := by omega
    refine codeAny_builtin F.entry_max_loop ?_
    rw [Around.under_plainId F.plain_max_loop _]
    show wpAny _ A.in1 (seqItems? (.ref S) >>= _) _ _ s
    refine wpAny_bind (wpAny_seqItems hS rfl ?_)
    show wpAny _ A.in1 (tryCatch (pyNext (.ref I)) _ >>= _) _ _ s
    refine wpAny_bind (wpAny_tryCatch (W.item i s _ _ hlt hst fun v h' tk hP hst' hk' => ?_))
    have hS' := hk' S _ hSw hS
    obtain ⟨tv, ev⟩ := hval i v hP
    rcases hb with ⟨rfl, rfl⟩ | ⟨m, t, rfl, h1, hm1, hm2⟩
    · show wpAny _ A.in1 (updateSeq S (fun _ => #[v, v]) >>= _) _ _ _
      refine wpAny_bind (wpAny_updateSeq hS' rfl ?_)
      rw [hnm]
      refine wpAny_pure ⟨plainId_quiet F.plain_max_loop _, ih 1 _ _ _ (by omega) hlt (W.frame _ _ _ hst' fun b hbf o e => (Heap.get?_update_other _ _ (fun h : S = b => hSf (by rw [h]; exact hbf))).trans e) (.inr ⟨val 0, tv, by rw [ev], Nat.le_refl 1, ⟨0, Nat.zero_lt_one, rfl⟩, fun j hj => by rw [show j = 0 by omega]; exact Int.le_refl _⟩) (Heap.get?_update_self _ hS' rfl) fun v' h2 tk2 hv hk2 => ?_⟩
      exact hR v' h2 tk2 hv fun b o hbw hbS e => hk2 b o hbw hbS ((Heap.get?_update_other _ _ (Ne.symm hbS)).trans (hk' b o hbw e))
    · obtain ⟨jb, hjb, ejb⟩ := hm1
      show wpAny _ A.in1 (tryCatch (holding [v, v] (richCompare .Gt v (.int m t) >>= _)) _ >>= _) _ _ _
      subst ev
      refine wpAny_bind (wpAny_tryCatch (wpAny_holding (wpAny_bind (richCompare_gives (op := .Gt) (typeIs_int _ _ tv) (typeIs_int _ _ t) F.slot_int_gt F.entry_int_gt (F.args_int_gt_2 _ _) (gives_int_gt _ _ tv t) (fun x => nomatch x) ?_))))
      refine wpAny_bind (wpAny_holding (wpAny_truthy_bool ?_))
      refine wpAny_bind (wpAny_letGo (wpAny_pure ?_))
      by_cases hgt : val i > m
      · simp only [hgt, decide_true, if_true]
        refine wpAny_bind (wpAny_updateSeq hS' rfl (wpAny_bind (wpAny_letGo ?_)))
        rw [hnm]
        refine wpAny_pure ⟨plainId_quiet F.plain_max_loop _, ih (i + 1) _ _ _ (by omega) hlt (W.frame _ _ _ hst' fun b hbf o e => (Heap.get?_update_other _ _ (fun h : S = b => hSf (by rw [h]; exact hbf))).trans e) (.inr ⟨val i, tv, rfl, by omega, ⟨i, Nat.lt_succ_self i, rfl⟩, fun j hj => ?_⟩) (Heap.get?_update_self _ hS' rfl) fun v' h2 tk2 hv hk2 => ?_⟩
        · rcases Nat.lt_succ_iff_lt_or_eq.mp hj with z | z
          · have := hm2 j z; omega
          · rw [z]; exact Int.le_refl _
        · exact hR v' h2 tk2 hv fun b o hbw hbS e => hk2 b o hbw hbS ((Heap.get?_update_other _ _ (Ne.symm hbS)).trans (hk' b o hbw e))
      · simp only [hgt, decide_false, Bool.false_eq_true, if_false]
        refine wpAny_bind (wpAny_letGo ?_)
        rw [hnm]
        refine wpAny_pure ⟨plainId_quiet F.plain_max_loop _, ih (i + 1) _ _ c (by omega) hlt hst' (.inr ⟨m, t, rfl, by omega, ⟨jb, by omega, ejb⟩, fun j hj => ?_⟩) hS' fun v' h2 tk2 hv hk2 => ?_⟩
        · rcases Nat.lt_succ_iff_lt_or_eq.mp hj with z | z
          · exact hm2 j z
          · rw [z]; omega
        · exact hR v' h2 tk2 hv fun b o hbw hbS e => hk2 b o hbw hbS (hk' b o hbw e)
theorem call_kw_tree {id : String} {b : Builtin} {args : List Value} {kw : List (Str × Value)} {Q : Value → Shared → Prop} (hk : builtinKind id = none) (hp : plainId id = true) (hb : entryFor table id = some b) (ha : argsOk id ⟨args, kw⟩)
    (hc : wpAny (model prog w) A.in1 (b ⟨args, kw⟩) (fun fin s' => match fin with
      | .done f => (match (Except.ok f : Result) with | .ok (.ret v) => Q v s' | .ok _ => False | .error e => E e s')
      | .again c' => c'.quiet = true ∧ codeAny (model prog w) A c' (fun r s' => match r with | .ok (.ret v) => Q v s' | .ok _ => False | .error e => E e s') s') E s) :
    wpAny (model prog w) A (call (.builtin id) args kw) Q E s := by
  refine wpAny_call (codeAny_call_builtin hp hb ?_)
  simp only [checkBuiltinCall, hk]
  cases hsig : Manifest.signature? id with
  | none => exact wpAny_pure hc
  | some sig =>
    have ha' : Bind.checkArgs id sig ⟨args, kw⟩ = pure () := by simpa only [argsOk, hsig] using ha
    simp only [ha']
    exact wpAny_pure hc
theorem args_maxd (a d : Value) : argsOk "max" ⟨[a], [("default", d)]⟩ := by unfold argsOk; kernel_rfl
theorem max_default {l : Addr} {xs : Array (Int × Tok)} {d : Value} {Q : Value → Shared → Prop} (hh : A.handled = none) (hl : s.heap.IsList l (intItems xs))
    (h : ∀ v h' tk, ((xs.size = 0 ∧ v = d) ∨ ∃ m t, v = .int m t ∧ (∃ j, j < xs.size ∧ numAt xs j = m) ∧ ∀ j, j < xs.size → numAt xs j ≤ m) → (∀ b o, s.heap.get? b = some o → h'.get? b = some o) → Q v { s with heap := h', toks := tk }) :
    wpAny (model prog w) A (call (.builtin "max") [.ref l] [("default", d)]) Q E s := by
  have hnm : (toString "max" ++ toString ".loop" : String) = "max.loop" := by decide
  refine call_kw_tree F.kind_max F.plain_max F.entry_max (args_maxd _ _) ?_
  show wpAny _ A.in1 (Builtin.Builtins.bindParams "max" ["key", "default"] 0 ⟨[], [("default", d)]⟩ >>= _) _ _ s
  refine wpAny_bind (wpAny_of_eq (show Builtin.Builtins.bindParams "max" ["key", "default"] 0 ⟨[], [("default", d)]⟩ = pure [none, some d] from rfl) ?_)
  refine wpAny_bind (wpAny_pure ?_)
  refine wpAny_bind (iter_intList hl fun s₂ e st hfp hlI => ?_)
  subst e
  have hsz : (intItems xs).size = xs.size := by simp [intItems]
  have W := Walks.list (prog := prog) (w := w) (A := A.in1) hh s.heap.objs.size l hlI (intItems xs)
  refine wpAny_bind (wpAny_newObj_type ?_)
  rw [hnm]
  refine wpAny_pure ⟨plainId_quiet F.plain_max_loop _, maxd_go W (numAt xs) (fun _ _ => intItems_at) (fun hm => Nat.lt_irrefl _ (hfp _ hm)) d _ 0 _ #[] _ rfl (Nat.zero_le _) (W.frame _ _ _ st fun b _ o e => Heap.get?_push_of_some _ e) (.inl ⟨rfl, rfl⟩) (Heap.get?_push_size _ rfl) fun v h' tk hv hk => ?_⟩
  rw [hsz] at hv
  exact h v h' tk hv (old_kept fun b o hbw e => hk b o hbw (Nat.ne_of_lt (Heap.lt_size e)) (Heap.get?_push_of_some _ e))
end
def rMaxD (K : PySem.W.Frag) (x y : V) (H : Hp) (Q : VK) : Prop := ∃ (p : Addr) (ns : List Int) (d : Int), x = .ref p ∧ y = .int d ∧ SqL K H p (ns.map V.int) ∧ (ns = [] → Q (.int d) H) ∧ ∀ M, M ∈ ns → (∀ a ∈ ns, a ≤ M) → Q (.int M) H
def tMaxD (K : PySem.W.Frag) (te td : TE) : TE := fun σ H Q => te σ H fun x H1 => td σ H1 fun y H2 => rMaxD K x y H2 Q
section
variable {X : Cx} {p pos kp : Pos} {e d : Expr} {te td : TE}
theorem pe_maxd (hc : X.calm = true) (hg : Gl X "max") (hm : X.mg "max" = none) (he : PE X e te) (hd : PE X d td) (hst : starEach [e] X.env = [(false, eval e X.env)] := by rfl) :
    PE X (.Call (.Name "max" p) [e] [⟨some "default", d, kp⟩] pos) (tMaxD X.K te td) := by
  intro pins s σ H Q I h
  refine wpAny_Call_Name_kw (ld_blt I hg hm L3.bt_max ?_)
  refine callWith_kw ?_ (by rw [hst]; rfl) (by rw [hst]; rfl)
  rw [hst]
  show wpAny (model X.prog X.w) X.A (spliced ((false, eval e X.env) :: [])) _ X.xe s
  refine Calls.spliced_cons (thn (he pins s σ H _ I h) fun u s1 ⟨x, H1, I1, r1, q1⟩ => Calls.spliced_nil ?_)
  refine kws_cons (thn (hd pins s1 σ H1 _ I1 q1) fun v s2 ⟨y, H2, I2, r2, q2⟩ => kws_nil ?_)
  show wpAny (model X.prog X.w) X.A (call (.builtin "max") [u] [("default", v)]) (EP X pins σ Q) X.xe s2
  obtain ⟨p, ns, d, rfl, rfl, hq, q0, q⟩ := q2
  cases r1
  obtain ⟨t, rfl⟩ := r2
  obtain ⟨its, rv, pl, hz⟩ := I2.list hq
  have hi := ints_of rv
  obtain ⟨xs, e⟩ := hi.allInts.items
  have hl : s2.heap.IsList p (intItems xs) := e ▸ pl.isList
  have hns : ns = xs.toList.map (·.1) := by
    rw [← nums_intItems, ← e]
    exact (show numsOf its.toArray.toList = ns from hi.numsOf).symm
  refine max_default (I.ok.hd hc) hl fun v h' tk hv hk => ?_
  rcases hv with ⟨h0, rfl⟩ | ⟨m, t, rfl, ⟨j, hj, ej⟩, hm⟩
  · exact ⟨.int d, H2, I2.kept hk, ⟨_, rfl⟩, q0 (by rw [hns, List.map_eq_nil_iff]; exact List.eq_nil_of_length_eq_zero (by rw [Array.length_toList]; exact h0))⟩
  · refine ⟨.int m, H2, I2.kept hk, ⟨_, rfl⟩, q m ?_ fun a ha => ?_⟩
    · rw [hns, ← ej, numAt_eq]; exact getD_mem (by rw [List.length_map, Array.length_toList]; exact hj)
    · rw [hns] at ha
      obtain ⟨j, hj, rfl⟩ := mem_getD ha
      rw [List.length_map, Array.length_toList] at hj
      rw [← numAt_eq]; exact hm j hj
end
section
variable {K : PySem.W.Frag} {H : Hp} {Q : VK} {p : Addr} {ns : List Int} {d : Int} {te td : TE} {σ : St}
theorem g_maxd (h : te σ H fun x H1 => td σ H1 fun y H2 => rMaxD K x y H2 Q) : tMaxD K te td σ H Q := h
theorem g_maxD (s : SqL K H p (ns.map V.int)) (h0 : ns = [] → Q (.int d) H) (h : ∀ M, M ∈ ns → (∀ a ∈ ns, a ≤ M) → Q (.int M) H) : rMaxD K (.ref p) (.int d) H Q := ⟨p, ns, d, rfl, rfl, s, h0, h⟩
theorem g_ixTq {xs : List V} {i : Int} {v : V} (hs : SqT K H p xs) (e : atI xs i = some v) (h : Q v H) : rIxT K (.ref p) (.int i) H Q := ⟨p, xs, i, v, rfl, rfl, hs, e, h⟩
end
section
variable {X : Cx} {pins : List (Addr × Obj)} {σ : St} {H : Hp} {s : Shared} {A : Around} {E : Value → Shared → Prop} {Q : Value → Shared → Prop} {c : Value} {b : Bool}
end
section
variable {X : Cx}
end
end L4
namespace L4
open PySem PySem.Spec PyProof.Rows L2 L3
def apartS : List Str → List Str → List Str
  | acc, [] => acc
  | acc, x :: xs => apartS (if x ∈ acc then acc else acc ++ [x]) xs
theorem apartS_app : ∀ (xs ys acc : List Str), apartS acc (xs ++ ys) = apartS (apartS acc xs) ys
  | [], _, _ => rfl
  | x :: xs, ys, acc => apartS_app xs ys _
theorem apartS_snoc {xs : List Str} {i : Nat} {x : Str} (h : xs[i]? = some x) : apartS [] (xs.take (i + 1)) = if x ∈ apartS [] (xs.take i) then apartS [] (xs.take i) else apartS [] (xs.take i) ++ [x] := by
  rw [List.take_add_one, h, apartS_app]; rfl
theorem apartS_len : ∀ (xs acc : List Str), (apartS acc xs).length ≤ acc.length + xs.length
  | [], _ => Nat.le_refl _
  | x :: xs, acc => by
    have := apartS_len xs (if x ∈ acc then acc else acc ++ [x])
    show (apartS (if x ∈ acc then acc else acc ++ [x]) xs).length ≤ _
    rw [List.length_cons]
    by_cases c : x ∈ acc
    · rw [if_pos c] at this ⊢; omega
    · rw [if_neg c] at this ⊢; rw [List.length_append, List.length_singleton] at this; omega
theorem apartS_all : ∀ (xs acc : List Str), xs.Nodup → (∀ x ∈ xs, ¬ x ∈ acc) → (apartS acc xs).length = acc.length + xs.length
  | [], _, _, _ => rfl
  | x :: xs, acc, h, hn => by
    rw [List.nodup_cons] at h
    show (apartS (if x ∈ acc then acc else acc ++ [x]) xs).length = _
    rw [if_neg (hn x List.mem_cons_self), apartS_all xs (acc ++ [x]) h.2 fun y hy z => ?_]
    · rw [List.length_append, List.length_singleton, List.length_cons]; omega
    · rcases List.mem_append.mp z with z | z
      · exact hn y (List.mem_cons_of_mem _ hy) z
      · rw [List.mem_singleton.mp z] at hy; exact h.1 hy
section
variable {prog : Program} {w : World} {A : Around} {E : Value → Shared → Prop} {s : Shared} {R : Result → Shared → Prop} {I S : Addr} {fp wr : List Addr} {G : Array GenState → Array GenState → Prop} {P : Nat → Value → Prop} {St : Nat → Shared → Prop} {xs : List Str}
theorem seto_keep {h h' : Heap} {f : Str → Bool} {c : Nat} (hS : h.SetOf (strKind prog w) S f c) (k : ∀ o, h.get? S = some o → h'.get? S = some o) : h'.SetOf (strKind prog w) S f c := by
  obtain ⟨o, es, ep, t, ho, rest⟩ := hS
  exact ⟨o, es, ep, t, k o ho, rest⟩
theorem setx_go (W : WalksS prog w A.in1 I fp wr G xs.length P St) (hSf : S ∉ fp) (hval : ∀ i v, P i v → ∃ x t, xs[i]? = some x ∧ v = .str x t) (hb : xs.length + 1 < scanBound) :
    ∀ (r i : Nat) (s : Shared), xs.length - i = r → i ≤ xs.length → St i s → s.heap.SetOf (strKind prog w) S (fun k => decide (k ∈ apartS [] (xs.take i))) (apartS [] (xs.take i)).length →
      (∀ s', Moved (S :: wr) G s s' → s'.heap.SetOf (strKind prog w) S (fun k => decide (k ∈ apartS [] xs)) (apartS [] xs).length → R (.ok (.ret .none)) s') →
      codeAny (model prog w) A (.builtin "set.update.loop" ⟨[.ref S, .ref I], []⟩) R s := by
  have hSw : S ∉ wr := fun h => hSf (W.sub _ h)
  have up : ∀ b ∈ wr, b ∈ S :: wr := fun b hb => List.mem_cons_of_mem _ hb
  intro r
  induction r with
  | zero =>
    intro i s hr hi st hS k
    obtain rfl : i = xs.length := by omega
    rw [List.take_length] at hS
    refine codeAny_builtin F.entry_set_update_loop ?_
    rw [Around.under_plainId F.plain_set_update_loop _]
    show wpAny _ A.in1 (pyNext (.ref I) >>= _) _ _ s
    refine wpAny_bind (W.done s _ _ st fun s' hm => ?_)
    exact wpAny_pure (k s' (hm.mono up) (seto_keep hS fun o e => hm.heap S o hSw e))
  | succ r ih =>
    intro i s hr hi st hS k
    have hlt : i < xs.length := by omega
    refine codeAny_builtin F.entry_set_update_loop ?_
    rw [Around.under_plainId F.plain_set_update_loop _]
    show wpAny _ A.in1 (pyNext (.ref I) >>= _) _ _ s
    refine wpAny_bind (W.item i s _ _ hlt st fun v s1 hP st1 hm => ?_)
    obtain ⟨x, t, hx, rfl⟩ := hval i v hP
    have hS1 := seto_keep hS fun o e => hm.heap S o hSw e
    have hl := apartS_len (xs.take i) []
    rw [List.length_take] at hl
    show wpAny _ A.in1 (holding [Value.str x t] (setAdd S (.str x t)) >>= _) _ _ s1
    refine wpAny_bind (wpAny_holding ?_)
    unfold setAdd
    refine wpAny_holding (wpAny_bind ((strKind prog w).pyHash (k := x) (strKind_is _ _ _ _) ?_))
    refine wpAny_setAddHashed_of (knd := strKind prog w) (s := { s1 with toks := s1.toks + 1 }) (strKind_is _ _ _ _) rfl hS1 (by simp at hl; omega) fun h2 same hS2 => ?_
    have hS3 : h2.SetOf (strKind prog w) S (fun k => decide (k ∈ apartS [] (xs.take (i + 1)))) (apartS [] (xs.take (i + 1))).length := by
      refine SetOf_congr hS2 (fun k' => ?_) ?_
      · rw [apartS_snoc hx]
        by_cases c : x ∈ apartS [] (xs.take i)
        · rw [if_pos c]
          by_cases e : k' = x
          · subst e; simp [c]
          · simp [e]
        · rw [if_neg c]; simp [List.mem_append]
      · rw [apartS_snoc hx]
        by_cases c : x ∈ apartS [] (xs.take i)
        · rw [if_pos c, if_pos (decide_eq_true c)]
        · rw [if_neg c, if_neg (by rw [decide_eq_false c]; exact Bool.false_ne_true), List.length_append, List.length_singleton]
    refine wpAny_pure ⟨plainId_quiet F.plain_set_update_loop _, ih (i + 1) _ (by omega) hlt (W.frame _ s1 _ _ st1 (Nat.le_succ _) fun b hb o e => ?_) hS3 fun s' hm' hS' => ?_⟩
    · rw [same.2 b (fun h : b = S => hSf (by rw [← h]; exact hb))]; exact e
    · refine k s' (Moved.trans W.gtrans ((hm.mono up).then_heap (Nat.le_succ _) fun b o hb e => ?_) hm') hS'
      rw [same.2 b (fun h : b = S => hb (by rw [h]; exact List.mem_cons_self))]; exact e
set_option maxRecDepth 100000 in
set_option maxHeartbeats 3200000 in
theorem set_texts {l : Addr} {items : Array Value} {Q : Value → Shared → Prop} (hh : A.handled = none) (hl : s.heap.IsList l items) (hn : items.size = xs.length) (hi : ∀ (i : Nat) (v : Value), items[i]? = some v → ∃ x t, xs[i]? = some x ∧ v = Value.str x t) (hb : xs.length + 1 < scanBound)
    (h : ∀ (h' : Heap) (tk : Nat), h'.SetOf (strKind prog w) s.heap.objs.size (fun k => decide (k ∈ apartS [] xs)) (apartS [] xs).length → (∀ b o, s.heap.get? b = some o → h'.get? b = some o) → Q (.ref s.heap.objs.size) { s with heap := h', toks := tk }) :
    wpAny (model prog w) A (call (.type "set") [.ref l]) Q E s := by
  obtain ⟨c, tl, hmro⟩ := F.called_set.mro
  have hmade := F.called_set.made
  have hsub := F.called_set.sub
  have h1 := F.called_set.notType
  have h2 := F.called_set.canCreate
  have hct := F.typeCall_set_1 (.ref l)
  refine wpAny_call (codeAny_of_tree ?_)
  show wpAny _ _ (callAny (.type "set") _) _ _ _
  refine wpAny_pure ⟨Code.quiet_builtin _ (by decide +kernel), codeAny_builtin F.entry_type_call ?_⟩
  rw [Around.under_plain (weight_type_call_type "set" [.ref l] []) rfl]
  repeat (any_goals (first | assumption | wp_step))
  refine codeAny_mono (code_set_new_1 (.ref l) (E := E) (Q₁ := fun obj s₁ => ∃ led : Bool, obj = .ref s.heap.objs.size ∧ s₁ = { s with heap := s.heap.push { cls := .type "set", dict := none, data := .set #[] 0 (.fresh 0 0 led) } }) fun led => ⟨led, rfl, rfl⟩) fun r s₁ hr => ?_
  rcases r with e | fl
  · exact hr
  cases fl with
  | ret obj =>
    obtain ⟨led, rfl, rfl⟩ := hr
    generalize ho : ({ cls := .type "set", dict := none, data := .set #[] 0 (.fresh 0 0 led) } : Obj) = so at *
    have hS : (s.heap.push so).get? s.heap.objs.size = some so := Heap.get?_push_size _ (by rw [← ho]; rfl)
    have hT : Shared.TypeIs { s with heap := s.heap.push so } (.ref s.heap.objs.size) "set" := ⟨_, hS, by rw [← ho]⟩
    have hli := F.called_set.init.lookup
    have hbi := F.called_set.init.bind (.ref s.heap.objs.size)
    repeat (any_goals (first | assumption | wp_step))
    refine codeAny_mono (codeAny_call_builtin (R := wants (fun r s₂ => r = .none ∧ ∃ h' tk, s₂ = { s with heap := h', toks := tk } ∧ h'.SetOf (strKind prog w) s.heap.objs.size (fun k => decide (k ∈ apartS [] xs)) (apartS [] xs).length ∧ ∀ b o, s.heap.get? b = some o → h'.get? b = some o) E) F.called_set.init.plain F.entry_set_init (check_set_init_1 hT ?_)) fun r₂ s₂ hr₂ => ?_
    · have hlS : l < s.heap.objs.size := by obtain ⟨_, e, _⟩ := hl; exact Heap.lt_size e
      subst ho
      have hl1 := hl.push { cls := .type "set", dict := none, data := .set #[] 0 (.fresh 0 0 led) }
      obtain ⟨⟨lc, ld, ldat, lsl⟩, e1, e2, nl, e3⟩ := id hl1
      simp only at e2 e3
      subst e2 e3
      have hsls := F.sub_list_set
      have hslf := F.sub_list_frozenset
      have hne : (Value.type "list" == Value.type "dict") = false := by decide
      unfold Builtin.«set.__init__» noKeywords Builtin.Frozenset.updateFrom
      generalize hPI : pyIter = PI
      wp_walk
      subst hPI
      refine wpAny_pyIter_list hl1 ?_
      refine wpAny_bind (wpAny_runValue ?_)
      have hsz : (s.heap.push { cls := .type "set", dict := none, data := .set #[] 0 (.fresh 0 0 led) }).objs.size = s.heap.objs.size + 1 := Heap.size_push ..
      have W := (Walks.list (prog := prog) (w := w) (A := A.in1.in1.in1) (by simp [hh]) (s.heap.push { cls := .type "set", dict := none, data := .set #[] 0 (.fresh 0 0 led) }).objs.size l (by rw [hsz]; exact Nat.ne_of_lt (Nat.lt_succ_of_lt hlS)) items).toS
      rw [hn] at W
      refine setx_go (xs := xs) W (by rw [hsz]; simp only [List.mem_cons, List.not_mem_nil, or_false, not_or]; exact ⟨Nat.ne_of_lt (Nat.lt_succ_self _), Nat.ne_of_gt hlS⟩) (fun i v hv => hi i v hv) hb _ 0 _ rfl (Nat.zero_le _) ⟨⟨_, Heap.get?_push_size _ rfl, rfl, rfl⟩, hl1.push _⟩ ?_ fun s' hm hS' => ?_
      · exact SetOf_congr ((setObjOf_fresh (knd := strKind prog w) led).setOf (Heap.get?_push_of_some _ hS) (by unfold scanBound; decide)) (fun _ => rfl) rfl
      · obtain ⟨h', g', d', tk', os'⟩ := s'
        obtain rfl : g' = s.gens := hm.gens
        obtain rfl : d' = s.drawn := hm.drawn
        obtain rfl : os' = s.os := hm.os
        refine wpAny_pure (wpAny_pure ⟨rfl, h', tk', rfl, hS', fun b o e => ?_⟩)
        have hb1 := Heap.lt_size e
        exact hm.heap b o (by rw [hsz]; simp only [List.mem_cons, List.not_mem_nil, or_false, not_or]; exact ⟨Nat.ne_of_lt hb1, Nat.ne_of_lt (Nat.lt_succ_of_lt hb1)⟩) (Heap.get?_push_of_some _ (Heap.get?_push_of_some _ e))
    · rcases r₂ with e | fl₂
      · exact hr₂
      cases fl₂ with
      | ret r =>
        obtain ⟨rfl, h', tk, rfl, hS', hk'⟩ := hr₂
        repeat (any_goals (first | assumption | wp_step))
        exact h _ _ hS' hk'
      | _ => exact hr₂.elim
  | _ => exact hr.elim
end
end L4
namespace L4
open PySem PySem.Spec PyProof.Rows L2 L3
def rLenSet (K : PySem.W.Frag) (x : V) (H : Hp) (Q : VK) : Prop := ∃ (a : Addr) (xs : List Str), x = .ref a ∧ SqL K H a (xs.map V.str) ∧ xs.length ≤ 1000 ∧ Q (.int (((apartS [] xs).length : Nat) : Int)) H
def tLenSet (K : PySem.W.Frag) (te : TE) : TE := fun σ H Q => te σ H fun x H1 => rLenSet K x H1 Q
section
variable {X : Cx} {e : Expr} {te : TE} {p p2 pos pos2 : Pos}
theorem pe_lenSet (hc : X.calm = true) (hg : Gl X "len") (hg2 : Gl X "set") (hm : X.mg "len" = none) (hm2 : X.mg "set" = none) (he : PE X e te) (hs1 : starEach [.Call (.Name "set" p2) [e] [] pos2] X.env = [(false, eval (.Call (.Name "set" p2) [e] [] pos2) X.env)] := by rfl) (hs2 : starEach [e] X.env = [(false, eval e X.env)] := by rfl) :
    PE X (.Call (.Name "len" p) [.Call (.Name "set" p2) [e] [] pos2] [] pos) (tLenSet X.K te) := by
  intro pins s σ H Q I h
  refine wpAny_Call_Name_kw (ld_blt I hg hm L3.bt_len ?_)
  refine PyProof.Rows.callWith_builtin1 ?_ (by rw [hs1]; rfl) (by rfl)
  rw [hs1]
  show wpAny (model X.prog X.w) X.A (spliced ((false, eval (.Call (.Name "set" p2) [e] [] pos2) X.env) :: [])) _ X.xe s
  refine Calls.spliced_cons (wpAny_Call_Name_kw (ld_blt I hg2 hm2 L3.bt_set ?_))
  refine PyProof.Rows.callWith_type1 ?_ (by rw [hs2]; rfl) (by rfl)
  rw [hs2]
  show wpAny (model X.prog X.w) X.A (spliced ((false, eval e X.env) :: [])) _ X.xe s
  refine Calls.spliced_cons (thn (he pins s σ H _ I h) fun u s1 ⟨x, H1, I1, r1, q1⟩ => Calls.spliced_nil ?_)
  obtain ⟨a, xs, rfl, hq, h1000, q⟩ := q1
  cases r1
  obtain ⟨its, rv, pl, hz⟩ := I1.list hq
  have hlen : its.length = xs.length := by rw [← rv.length, List.length_map]
  have hsb : xs.length + 1 < scanBound := by unfold scanBound; omega
  refine set_texts (I.ok.hd hc) pl.isList (by rw [List.size_toArray]; exact hlen) (fun i v hv => ?_) hsb fun h' tk hS hk => ?_
  · have hv' : its[i]? = some v := by simpa using hv
    have hi : i < xs.length := by
      have := (List.getElem?_eq_some_iff.mp hv').1
      omega
    obtain ⟨u, hu, ru⟩ := rv.get (i := i) (x := V.str xs[i]) (by rw [List.getElem?_map, List.getElem?_eq_getElem hi]; rfl)
    rw [hv'] at hu
    cases hu
    obtain ⟨t, rfl⟩ := ru
    exact ⟨_, t, List.getElem?_eq_getElem hi, rfl⟩
  · have I2 := I1.kept (t' := tk) hk
    refine Calls.spliced_nil ?_
    obtain ⟨o, es, ep, t, ho, hex, hd, _, _, hb, hf, hn⟩ := hS
    have h63 : (es.size : Int) < 2 ^ 63 := by unfold scanBound at hb; omega
    exact call_len_set ho hex hd hf h63 ⟨.int es.size, H1, I2.tok _, ⟨_, rfl⟩, by rw [hn]; exact q⟩
theorem g_lenSet {K : PySem.W.Frag} {σ : St} {H : Hp} {Q : VK} (h : te σ H fun x H1 => rLenSet K x H1 Q) : tLenSet K te σ H Q := h
theorem g_lenSetv {K : PySem.W.Frag} {H : Hp} {Q : VK} {a : Addr} {xs : List Str} (s : SqL K H a (xs.map V.str)) (hl : xs.length ≤ 1000) (h : Q (.int (((apartS [] xs).length : Nat) : Int)) H) : rLenSet K (.ref a) H Q := ⟨a, xs, rfl, s, hl, h⟩
end
structure CDatD (K : PySem.W.Frag) (mg : Str → Option Value) (x qual : Str) (C : Addr) (st : Stmt) (ps : List Str) : Prop where
  ex : ∃ (f : Addr) (oc dV kV doc pm cdv ct : Value) (od an : Option Addr) (osl : Array (Option Value)), K.lookup f = some ⟨oc, od, .func (PySem.W.fnOf "__init__" qual (defArgs st) (defBody st) (defScope st) dV kV doc pm an cdv ct), osl⟩ ∧ PySem.W.codeIn K cdv qual = true ∧
    Binds K (PySem.W.fnOf "__init__" qual (defArgs st) (defBody st) (defScope st) dV kV doc pm an cdv ct) ps [] ∧ mg x = some (.ref C) ∧ Mk K C f
  cl : Cls K C
section
variable {P : Program} {w : World} {K : PySem.W.Frag} {mg : Str → Option Value} {base : Heap} {CX : CXT} {x qual : Str} {C : Addr} {st : Stmt} {N ps : List Str} {k : Nat} {sp : Sp}
theorem CDatD.ok (D : CDatD K mg x qual C st ps) (S : FnScope N ps (defScope st)) (len : ∀ vs H Q E, sp vs H Q E → vs.length = ps.length)
    (hbody : ∀ (f : Addr) (cdv : Value) (A : Around) (outer : List Env) (s : Shared) (H : Hp) (vs : List V) (Q : VK) (E : XK), Room k (A.deeper (envOfC qual (defScope st) s.heap.objs.size f cdv)) → sp vs H Q E →
      ∃ t, PSs (cxOf CX P w K mg base N qual (defScope st) f cdv A outer s H E).nox (defBody st) t ∧ t { nx := fun _ H' => Q .non H', rt := Q } (start N vs) H) : Mak P w K mg base CX x C (k + 1) ps sp := by
  obtain ⟨f, oc, dV, kV, doc, pm, cdv, ct, od, an, osl, lk, hcd, b, m, mk⟩ := D.ex
  refine ⟨f, _, mk, fn_of lk hcd S len fun A outer s H vs Q E hr hsp => ?_, b, m⟩
  obtain ⟨t, h, q⟩ := hbody f cdv A outer s H vs Q E hr hsp
  exact ⟨t, h.nox, q⟩
theorem cdatd_mk {h : Heap} (X : K.In h) (G : h.Ns mainGlobals mg) {f T : Addr} {oc tc : Value} {od td an : Option Addr} {osl tsl : Array (Option Value)} {its : Array Value} {tn : Nat} {kV doc pm cdv ct : Value} (aC : PySem.W.nsIn K mainGlobals x = some (some (.ref C)))
    (a : PySem.W.findIn K (.ref C) "__init__" = some (some (.ref f))) (i : PySem.W.isFn K (.ref f) = true)
    (l : K.lookup f = some ⟨oc, od, .func (PySem.W.fnOf "__init__" qual (defArgs st) (defBody st) (defScope st) (.ref T) kV doc pm an cdv ct), osl⟩) (tl : K.lookup T = some ⟨tc, td, .seq its tn, tsl⟩) (c : PySem.W.codeIn K cdv qual = true)
    (pg : PySem.W.plainGet K C Str.empty = true) (hd : PySem.W.hasDictIn K C = true) (po : PySem.W.plainOver K C = true) (sa : PySem.W.findIn K (.ref C) "__setattr__" = some (some (.builtin "object.__setattr__"))) (mk : PySem.W.makesIn K C = true) (kc : PySem.W.keepIn K (.ref C) = true)
    (b : ∀ (T : Addr) (kV doc pm : Value) (an : Option Addr) (cdv ct : Value) (us : List Value), us.length = ps.length → ∃ k : Option (Array Value) → Sem (List (Str × Value)), bindArgs (PySem.W.fnOf "__init__" qual (defArgs st) (defBody st) (defScope st) (.ref T) kV doc pm an cdv ct) ⟨us, []⟩ = (seqItems? (.ref T) >>= k) ∧ k (some its) = pure (ps.zip us)) : CDatD K mg x qual C st ps :=
  ⟨⟨f, oc, .ref T, kV, doc, pm, cdv, ct, od, an, osl, l, c, fun s us hK hl => by
    rw [List.append_nil] at hl ⊢
    obtain ⟨k, h1, h2⟩ := b T kV doc pm an cdv ct us hl
    exact BindsTo.of_defaults (T := T) rfl (hK _ _ tl) rfl h1 h2, PySem.W.mg_of X G aC, ⟨mk, a, i, kc⟩⟩, ⟨pg, hd, po, sa⟩⟩
end
end L4
namespace L4
open PySem PySem.Spec PyProof.Rows L2 L3
def rIsiN (K : PySem.W.Frag) : RL := fun vs H Q => ∃ (x : V) (t : Value) (tp : Addr) (Ts : List String) (b : Bool), vs = [x, .ref tp] ∧ TyOf K H x t ∧ H tp = some (.tup (Ts.map V.ty)) ∧ PySem.W.kitAny K t (Ts.map Value.type) = some b ∧ Q (.bl b) H
theorem vals_tys : ∀ {Ts : List String} {us : List Value}, Vals (Ts.map V.ty) us → us = Ts.map Value.type
  | [], _, .nil => rfl
  | T :: Ts, _, .cons r t => by rw [List.map_cons, vals_tys t]; cases (show _ = Value.type T from r); rfl
section
variable {X : Cx}
theorem call_isiN : CallR X (.builtin "isinstance") (rIsiN X.K) := by
  intro pins s σ H xs us Q I r h
  obtain ⟨x, t, tp, Ts, b, rfl, ty, ht, e, q⟩ := h
  obtain ⟨u, w', rfl, rx, rc⟩ := vals2 r
  cases (show w' = Value.ref tp from rc)
  obtain ⟨_, its, rv, ⟨⟨oc, od', da, sl⟩, h1, h2, n, h3⟩⟩ := (show ObjOk X.prog X.w H s.heap tp (.tup (Ts.map V.ty)) from I.hok tp _ ht)
  have ei := vals_tys rv
  subst ei
  dsimp only at h2 h3
  subst h2 h3
  have fin : ∀ tk, EP X pins σ Q (.bool b) { s with toks := tk } := fun tk => ⟨.bl b, H, I.tok _, rfl, q⟩
  cases ty with
  | non => cases (show u = Value.none from rx); exact PySem.W.kia_tup PySem.W.kitx_none I.kIn True.intro h1 e (fun z => nomatch z) fin
  | bl y => cases (show u = Value.bool y from rx); exact PySem.W.kia_tup PySem.W.kitx_bool I.kIn True.intro h1 e (fun z => nomatch z) fin
  | int i => obtain ⟨t, q⟩ := (show ∃ t, u = Value.int i t from rx); cases q; exact PySem.W.kia_tup PySem.W.kitx_int I.kIn True.intro h1 e (fun z => nomatch z) fin
  | str y => obtain ⟨t, q⟩ := (show ∃ t, u = Value.str y t from rx); cases q; exact PySem.W.kia_tup PySem.W.kitx_str I.kIn True.intro h1 e (fun z => nomatch z) fin
  | flt y => obtain ⟨t, q⟩ := (show ∃ t, u = Value.float y t from rx); cases q; exact PySem.W.kia_tup PySem.W.kitx_float I.kIn True.intro h1 e (fun z => nomatch z) fin
  | @lst a xs ea =>
    cases (show u = Value.ref a from rx)
    obtain ⟨_, _, n, _, h4⟩ := (show ObjOk X.prog X.w H s.heap a (.lst xs) from I.hok a _ ea)
    exact PySem.W.kia_tup PySem.W.kitx_list I.kIn ⟨_, h4, rfl⟩ h1 e (fun z => nomatch z) fin
  | @frz a ob xs ea =>
    cases (show u = Value.ref a from rx)
    obtain ⟨_, _, _, n, _, h4⟩ := (show ObjOk X.prog X.w H s.heap a (.frz ob (.lst xs)) from I.hok a _ ea)
    exact PySem.W.kia_tup PySem.W.kitx_list I.kIn ⟨_, h4, rfl⟩ h1 e (fun z => nomatch z) fin
  | @tup a xs ea =>
    cases (show u = Value.ref a from rx)
    obtain ⟨_, _, _, p⟩ := (show ObjOk X.prog X.w H s.heap a (.tup xs) from I.hok a _ ea)
    obtain ⟨o, h4, h5, _⟩ := p
    exact PySem.W.kia_tup PySem.W.kitx_tuple I.kIn ⟨o, h4, h5⟩ h1 e (fun z => nomatch z) fin
  | @dK a kvs ea =>
    cases (show u = Value.ref a from rx)
    obtain ⟨_, _, vs, _, p⟩ := (show ObjOk X.prog X.w H s.heap a (.dK kvs) from I.hok a _ ea)
    obtain ⟨o, es, ep, h4, h5, _⟩ := p
    exact PySem.W.kia_tup PySem.W.kitx_dict I.kIn ⟨o, h4, h5.1⟩ h1 e (fun z => nomatch z) fin
  | @dT a kvs ea =>
    cases (show u = Value.ref a from rx)
    obtain ⟨_, _, xs, _, o, es, ep, h4, h5, _⟩ := (show ObjOk X.prog X.w H s.heap a (.dT kvs) from I.hok a _ ea)
    exact PySem.W.kia_tup PySem.W.kitx_dict I.kIn ⟨o, h4, h5.1⟩ h1 e (fun z => nomatch z) fin
  | @ins a C dx fs ea cl ha hn htk hm =>
    cases (show u = Value.ref a from rx)
    obtain ⟨mA, O, _⟩ := ins_get I.hok ea
    obtain ⟨od, J, _⟩ := O.look
    exact PySem.W.kia_tup (PySem.W.kitx_own (cl.get _) cl.hd ha hn htk hm) I.kIn J h1 e (fun z => nomatch z) fin
theorem pe_isiT {e : Expr} {te : TE} {p pos : Pos} {es : List Expr} {ec : Nat} {tpos : Pos} {tl : TA} (hm : X.mg "isinstance" = none) (he : PE X e te) (ht : PE X (.Tuple es ec tpos) (tTup tl)) (hg : Gl X "isinstance" := by rfl)
    (hs : starEach [e, .Tuple es ec tpos] X.env = (false, eval e X.env) :: starEach [.Tuple es ec tpos] X.env := by rfl) (hs2 : starEach [.Tuple es ec tpos] X.env = (false, eval (.Tuple es ec tpos) X.env) :: starEach [] X.env := by rfl) (hpl : (backTo pos (starEach [.Tuple es ec tpos] X.env)).any (·.1) = false := by rfl) :
    PE X (.Call (.Name "isinstance" p) [e, .Tuple es ec tpos] [] pos) (tCB (rIsiN X.K) (tCons te (tCons (tTup tl) tNil))) :=
  pe_callB call_isiN hg hm bt_isinstance (pa_cons he (pa_cons ht pa_nil hs2) hs) (by decide) (by decide) hs hpl
end
theorem inV_str (z : Str) (ws : List Str) : inV (.str z) (ws.map V.str) = decide (z ∈ ws) := by
  unfold inV
  rw [List.any_map, Bool.eq_iff_iff, List.any_eq_true, decide_eq_true_iff]
  constructor
  · rintro ⟨x, hx, e⟩
    have e : (x == z) = true := e
    exact (eq_of_beq e) ▸ hx
  · intro h
    exact ⟨z, h, by show (z == z) = true; exact beq_self_eq_true z⟩
theorem flat_str (ws : List Str) : (ws.map V.str).all flatV = true := by
  rw [List.all_map, List.all_eq_true]
  intro _ _; rfl
section
variable {K : PySem.W.Frag} {H : Hp} {Q : VK} {p a : Addr} {z : Str} {ws : List Str} {P : Addr → Prop} {H0 : Hp} {l : List (Addr × Ob)} {fs : List Pr}
theorem g_isiN {x : V} {t : Value} {tp : Addr} {b : Bool} (Ts : List String) (ty : TyOf K H x t) (ht : H tp = some (.tup (Ts.map V.ty))) (e : PySem.W.kitAny K t (Ts.map Value.type) = some b) (h : Q (.bl b) H) : rIsiN K [x, .ref tp] H Q := ⟨x, t, tp, Ts, b, rfl, ty, ht, e, h⟩
theorem g_inT (s : SqT K H p (ws.map V.str)) (h : Q (.bl (decide (z ∈ ws))) H) : rIn K false (.str z) (.ref p) H Q :=
  ⟨p, _, rfl, .inr s, rfl, flat_str ws, by rw [if_neg Bool.false_ne_true, inV_str]; exact h⟩
theorem g_sortS (L : Led P H0 H l fs) (s : SqL K H p (ws.map V.str)) (hl : ws.length < 64) (h : ∀ (b : Addr) (ms : List Str) (H' : Hp), H b = none → ms.Perm ws → sortedS ms = true → Led P H0 H' ((b, Eo (.lst (ms.map V.str))) :: l) fs → Same H H' → Q (.ref b) H') : rSortS K [.ref p] H Q :=
  ⟨p, ws, rfl, s, hl, fun b ms nb pm pw => h b ms _ nb pm pw (L.newO nb rfl) (same_upd0 nb)⟩
theorem g_tupOfL {ys : List V} (L : Led P H0 H l fs) (s : SqL K H p ys) (h : ∀ (t : Addr) (H' : Hp), H t = none → Led P H0 H' l (tupAt t ys :: fs) → Same H H' → Q (.ref t) H') : rTupOf K [.ref p] H Q :=
  ⟨p, ys, rfl, .inl ⟨s, fun t nt => h t _ nt (L.newT nt) (same_upd0 nt)⟩⟩
end
end L4
namespace LS
open PySem PySem.W PyProof.Rows
structure Pm (n : Nat) (p : Array Nat) : Prop where
  size : p.size = n
  perm : p.toList.Perm (List.range n)
section
variable {n : Nat} {f : Nat → Int} {cmp : Nat → Nat → (Bool → Shared → Prop) → Shared → Prop} {s : Shared}
end
end LS
namespace LS
open PySem PySem.W PyProof.Rows
section
variable {prog : Program} {w : World} {A : Around} {E : Value → Shared → Prop} {s : Shared}
section
variable {α : Type}
end
end
end LS
namespace L4
open PySem PySem.Spec PyProof.Rows L2 L3
section
variable {X : Cx}
end
section
variable {K : PySem.W.Frag} {H : Hp} {Q : VK} {p : Addr} {P : Addr → Prop} {H0 : Hp} {l : List (Addr × Ob)} {fs : List Pr} {α : Type} {ps : List α} {ad : α → Addr}
end
end L4
set_option hygiene false
local macro_rules | `(tactic| walk_at "put") => `(tactic| first | exact L4.Put.head | (apply L4.Put.tail; walk_at "put"))
local macro_rules | `(tactic| walk_at "mem") => `(tactic| first | exact List.mem_cons_self | (refine List.mem_cons_of_mem _ ?_; walk_at "mem"))
local macro_rules | `(tactic| walk_at "lk") => `(tactic| first | exact L4.lk_hit | (refine (L4.lk_miss (by decide +kernel)).trans ?_; walk_at "lk"))
local macro_rules | `(tactic| walk_at "sz") => `(tactic| first | (show (_ : Nat) ≤ sizeLine; exact Nat.le_of_lt (L2.small1000 (by first | decide | omega | (simp only [List.length_cons, List.length_nil, List.length_append, List.length_map]; omega)))) | exact L2.small1000 (by first | decide | omega | (simp only [List.length_cons, List.length_nil, List.length_append, List.length_map]; omega)))
local macro_rules | `(tactic| walk_at "side") => `(tactic| first
  | omega
  | (show (0 : Int) < _; first | omega | decide)
  | (refine ⟨⟨?_, ?_⟩, ?_, ?_⟩ <;> first | omega | decide)
  | (refine ⟨?_, ?_⟩ <;> first | omega | decide)
  | (refine ⟨?_, ?_, ?_⟩ <;> first | omega | decide))
local macro_rules | `(tactic| walk_at "g0") => `(tactic| first
  | (with_reducible refine L4.g_asg ?_)
  | (with_reducible refine L4.g_var (by with_unfolding_all exact rfl) ?_)
  | (with_reducible refine L4.g_c ?_)
  | (with_reducible refine L4.g_cons ?_)
  | (with_reducible refine L4.g_nil ?_)
  | (with_reducible refine L4.g_op ?_)
  | (with_reducible refine L4.g_rI0 ?_)
  | (with_reducible refine L4.g_if ?_)
  | (with_reducible refine L4.g_test ?_)
  | (with_reducible refine L4.g_isB ?_)
  | (with_reducible refine L4.g_eqI ?_)
  | (with_reducible refine L4.g_eqS ?_)
  | (with_reducible refine L4.g_eqB ?_)
  | (with_reducible refine L4.g_neI ?_)
  | (with_reducible refine L4.g_neS ?_)
  | (with_reducible refine L4.g_call ?_)
  | (with_reducible refine L4.g_cb ?_)
  | (with_reducible refine L4.g_ret ?_)
  | (with_reducible refine L4.g_next ?_)
  | (with_reducible refine L4.g_drop ?_)
  | (with_reducible refine L4.g_b ?_)
  | (with_reducible refine L4.g_and ?_)
  | (with_reducible refine L4.g_or ?_)
  | (with_reducible refine L4.g_not ?_)
  | (with_reducible refine L4.g_andV ?_)
  | (with_reducible refine L4.g_orV ?_)
  | (with_reducible refine L4.g_notV ?_)
  | (with_reducible refine L4.g_isN ?_)
  | (with_reducible refine L4.g_notN ?_)
  | (with_reducible refine L4.g_un ?_)
  | (with_reducible refine L4.g_rU ?_)
  | (with_reducible refine L4.g_tup ?_)
  | (with_reducible refine L4.g_lst ?_)
  | (with_reducible refine L4.g_fld ?_)
  | (with_reducible refine L4.g_make ?_)
  | (with_reducible refine L4.g_sfld ?_)
  | (with_reducible refine L4.g_ifE ?_)
  | (with_reducible refine L4.g_sl ?_)
  | (with_reducible refine L4.g_noPart ?_)
  | (with_reducible refine L4.g_part ?_)
  | (with_reducible refine L4.g_part1 ?_)
  | (with_reducible refine L4.g_gCons ?_)
  | (with_reducible refine L4.g_gNil ?_)
  | (with_reducible refine L4.g_gSub ?_)
  | (with_reducible refine L4.g_retN ?_)
  | (with_reducible refine L4.g_break ?_)
  | (with_reducible refine L4.g_cont ?_)
  | (with_reducible refine L4.g_ifT ?_)
  | (with_reducible refine L4.g_ifF ?_)
  | (with_reducible refine L4.g_ifNbT ?_)
  | (with_reducible refine L4.g_ifNbF ?_)
  | (with_reducible refine L4.g_bm ?_)
  | (with_reducible refine L4.g_bm0 ?_)
  | (with_reducible refine L4.g_for ?_)
  | (with_reducible refine L4.g_rng1 ?_)
  | (with_reducible refine L4.g_rng2 ?_)
  | (with_reducible refine L4.g_wkL ?_)
  | (with_reducible refine L4.g_wkT ?_)
  | (with_reducible refine L4.g_zip ?_)
  | (with_reducible refine L4.g_enum ?_)
  | (with_reducible refine L4.g_meth ?_)
  | (with_reducible refine L4.g_methX ?_)
  | (with_reducible refine L4.g_comp ?_)
  | (with_reducible refine L4.g_compS ?_)
  | (with_reducible refine L4.g_tAll ?_)
  | (with_reducible refine L4.g_rev ?_)
  | (with_reducible refine L4.g_maxd ?_)
  | (with_reducible refine L4.g_lenSet ?_)
  | (with_reducible refine L4.g_chain ?_)
  | (with_reducible refine L4.g_revSq (by assumption) (L2.SqL.of (L4.Led.eo (by assumption) (by walk_at "put"))) fun l' H' n' L' _ => ?_)
  | (with_reducible refine L4.g_divm (by assumption) (by constructor <;> omega) fun t' H' n' L' _ => ?_)
  | (with_reducible refine L4.g_tTru ?_)
  | (with_reducible refine L4.g_addS (by walk_at "sz") ?_)
  | (with_reducible refine L4.g_lenStr (by first | assumption | walk_at "sz") ?_)
  | (with_reducible refine L4.g_mulS (by refine ⟨?_, ?_, ?_⟩ <;> first | omega | decide) ?_)
  | (with_reducible refine L4.g_cat (by assumption) (by walk_at "put") (by walk_at "put") (by first | assumption | walk_at "sz") fun l' H' n' L' _ => ?_)
  | (with_reducible refine L4.g_slI (by assumption) (by assumption) (by first | exact not_false | assumption) fun l' H' n' L' _ => ?_)
  | (with_reducible refine L4.g_callX ?_)
  | (with_reducible refine L4.g_makeX ?_)
  | (with_reducible refine L4.g_raise ?_)
  | (with_reducible refine L4.g_raise1 ?_)
  | (with_reducible refine L4.g_baseI ?_)
  | (with_reducible refine L4.g_sfldN ?_)
  | (with_reducible refine L4.g_raiseI ?_)
  | (with_reducible refine L4.g_undo ?_)
  | (with_reducible refine L4.g_undoR ?_)
  | (with_reducible refine L4.g_tryAs ?_)
  | (with_reducible refine L4.g_try ?_)
  | (with_reducible refine L4.g_fldX ?_)
  | (with_reducible refine L4.g_max ?_)
  | (with_reducible refine L4.g_max3 ?_)
  | (with_reducible refine L4.g_isBlB ?_)
  | (with_reducible refine L4.g_isNotBlB ?_)
  | (with_reducible refine L4.g_intB ?_)
  | (with_reducible refine L4.g_neB ?_)
  | (with_reducible refine L4.g_min ?_)
  | ((with_reducible refine L4.g_rng1v ?_ ?_); (focus (walk_at "side"; done)))
  | ((with_reducible refine L4.g_rng2v ?_ ?_); (focus (walk_at "side"; done)))
  | (with_reducible refine L4.g_tyL (L2.SqL.of (L4.Led.eo (by assumption) (by walk_at "put"))) ?_)
  | (with_reducible refine L4.g_tyS ?_)
  | (with_reducible refine L4.g_wkLv (L2.SqL.of (L4.Led.eo (by assumption) (by walk_at "put"))) ?_)
  | (with_reducible refine L4.g_wkTv (L2.SqT.of (L4.Led.tup (by assumption) (by walk_at "mem"))) ?_)
  | (with_reducible refine L4.g_lenI (by assumption) (by assumption) (by first | exact not_false | assumption) ?_)
  | (with_reducible refine L4.g_lenSq (L2.SqL.of (L4.Led.eo (by assumption) (by walk_at "put"))) ?_)
  | (with_reducible refine L4.g_lenTu (L2.SqT.of (L4.Led.tup (by assumption) (by walk_at "mem"))) ?_)
  | (with_reducible refine L4.g_append (by assumption) (by walk_at "put") (by walk_at "sz") fun H' L' _ => ?_)
  | (with_reducible refine L4.g_newT (by assumption) (by walk_at "sz") fun t' H' n' L' _ => ?_)
  | (with_reducible refine L4.g_newL (by assumption) (by walk_at "sz") fun l' H' n' L' _ => ?_)
  | ((with_reducible refine L4.g_rI ?_ ?_); (focus (walk_at "side"; done)))
  | (with_reducible refine L4.g_gTup (by assumption) (by walk_at "mem") (by with_unfolding_all exact rfl) ?_)
  | (with_reducible refine L4.g_geT2 (L4.Led.tup (by assumption) (by walk_at "mem")) (L4.Led.tup (by assumption) (by walk_at "mem")) ?_)
  | (with_reducible refine L4.g_leT2 (L4.Led.tup (by assumption) (by walk_at "mem")) (L4.Led.tup (by assumption) (by walk_at "mem")) ?_)
  | (with_reducible refine L4.g_ixL (by assumption) (by walk_at "put") (by with_unfolding_all exact rfl) ?_)
  | (with_reducible refine L4.g_ixT (by assumption) (by walk_at "mem") (by with_unfolding_all exact rfl) ?_)
  | (with_reducible refine L4.g_ixTq (by assumption) (by with_unfolding_all exact rfl) ?_)
  | (with_reducible refine L4.g_fldL (by assumption) (by walk_at "put") (by assumption) (by assumption) (by walk_at "lk") ?_)
  | (with_reducible refine L4.g_ifDT (by first | omega | assumption | exact rfl | (simp only [List.length_cons, List.length_nil, List.length_append, List.length_map]; omega)) ?_)
  | (with_reducible refine L4.g_ifDF (by first | omega | assumption | exact rfl | (simp only [List.length_cons, List.length_nil, List.length_append, List.length_map]; omega)) ?_)
  | (with_reducible refine L4.g_ifNT (by first | omega | assumption | exact rfl | (simp only [List.length_cons, List.length_nil, List.length_append, List.length_map]; omega)) ?_)
  | (with_reducible refine L4.g_ifNF (by first | omega | assumption | exact rfl | (simp only [List.length_cons, List.length_nil, List.length_append, List.length_map]; omega)) ?_))
local macro_rules | `(tactic| walk_at "g1") => `(tactic| first | (with_reducible refine L4.g_seq ?_) | walk_at "g0")
local macro_rules | `(tactic| walk_at "one") => `(tactic| repeat walk_at "g0")
local macro_rules | `(tactic| walk_at "go") => `(tactic| repeat walk_at "g1")
local macro_rules | `(tactic| walk_at "s") => `(tactic| exact ⟨rfl, rfl, rfl, by decide +kernel, rfl, by decide +kernel, by decide +kernel⟩)
local macro_rules | `(tactic| walk_at "d") => `(tactic| refine D.ok S (fun vs H Q E h => ?_) (fun f cdv A outer s H vs Q E hr h => ?_))
namespace Law
open PySem PySem.Spec PyProof.Rows L2 L3 L4
abbrev St := L2.St
def top (i : Nat) : Stmt := PySem.Challenge.pw_risemarks_k54_grants_and_news_read.main.body.getD i (.Pass ⟨0, 0, 0, 0⟩)
theorem tp29 : (10 : Int) ^ Int.toNat 29 = 10 ^ 29 := rfl
theorem seq_mid {t u : TS} {D : Ends} {σ : St} {H : Hp} (P : St → Hp → Prop) (h1 : ∀ nx : St → Hp → Prop, (∀ σ H, P σ H → nx σ H) → t { D with nx := nx } σ H) (h2 : ∀ σ H, P σ H → u D σ H) : tSeq t u D σ H := h1 (u D) h2
def Oth (p : Addr) (H H' : Hp) : Prop := ∀ q o, H q = some o → q ≠ p → H' q = some o
theorem Oth.refl (p : Addr) (H : Hp) : Oth p H H := fun _ _ h _ => h
theorem Oth.trans {p : Addr} {H H1 H2 : Hp} (a : Oth p H H1) (b : Oth p H1 H2) : Oth p H H2 := fun q o h n => b q o (a q o h n) n
theorem Oth.upd {p : Addr} {H H1 : Hp} (a : Oth p H H1) (o : HO) : Oth p H (upd H1 p o) := fun q u h n => by rw [upd_ne n]; exact a q u h n
theorem Oth.same {p : Addr} {H0 H H' : Hp} (a : Oth p H H') (s : Same H0 H) (n : H0 p = none) : Same H0 H' := fun q o h => a q o (s q o h) (ne_of_none h n)
theorem same_new {H : Hp} {p : Addr} (h : H p = none) (o : HO) : Same H (upd H p o) := fun b u q => by rw [upd_ne (ne_of_none q h)]; exact q
def HandAt (H : Hp) (p : Addr) (n : Int) : Prop := ∃ a b c : Int, H p = some (.lst [.int a, .int b, .int c]) ∧ 0 ≤ a ∧ a < 10 ^ 121 ∧ 0 ≤ b ∧ b ≤ n
theorem HandAt.mono {H : Hp} {p : Addr} {n m : Int} (h : HandAt H p n) (l : n ≤ m) : HandAt H p m := by
 obtain ⟨a, b, c, e, h1, h2, h3, h4⟩ := h
 exact ⟨a, b, c, e, h1, h2, h3, Int.le_trans h4 l⟩
theorem HandAt.same {H H' : Hp} {p : Addr} {n : Int} (h : HandAt H p n) (o : Same H H') : HandAt H' p n := by
 obtain ⟨a, b, c, e, r⟩ := h
 exact ⟨a, b, c, o _ _ e, r⟩
section
variable {P : Program} {w : World} {K : PySem.W.Frag} {mg : Str → Option Value} {base : Heap} {CX : CXT}
theorem Dat.none {x qual : Str} {st : Stmt} {ps : List Str} {sp : Sp} (D : Dat K mg x qual st ps) (no : ∀ vs H Q E, ¬ sp vs H Q E) : Cal P w K mg base CX x 0 ps sp := by
 obtain ⟨f, fd, F, b, m⟩ := D.ex
 exact ⟨f, fd, ⟨fun vs H Q E h => absurd h (no vs H Q E), fun A outer s H args us vs Q E _ _ _ _ h => absurd h (no vs H Q E)⟩, b, F.kp, m⟩
end
end Law

namespace Law
open PySem PySem.Spec PyProof.Rows L2 L3 L4
section
variable {P : Program} {w : World} {K : PySem.W.Frag} {mg : Str → Option Value} {base : Heap} {CX : CXT}
theorem sc_hand : FnScope ["_law_script", "_law_k", "_law_hand_here"] ["_law_script", "_law_k"] (defScope (top 65)) := by walk_at "s"
def spHand (K : PySem.W.Frag) : Sp := fun vs H Q _ => ∃ (a : Addr) (ns : List Int) (k : Int), vs = [.ref a, .int k] ∧ SqL K H a (ns.map V.int) ∧ ns.length ≤ 63 ∧ 0 ≤ k ∧
 ∀ (p : Addr) (H' : Hp), H p = none → HandAt H' p 0 → Same H H' → Q (.ref p) H'
theorem atI_ints {ns : List Int} {k : Int} (h0 : 0 ≤ k) (h : k < (ns.length : Int)) : ∃ v : Int, atI (ns.map V.int) k = some (.int v) := by
 have hk : k.toNat < ns.length := by omega
 have ek : k = ((k.toNat : Nat) : Int) := by omega
 have q : atI (ns.map V.int) ((k.toNat : Nat) : Int) = some (.int ns[k.toNat]) := atI_nat (by rw [List.getElem?_map, List.getElem?_eq_getElem hk] <;> rfl)
 rw [← ek] at q
 exact ⟨_, q⟩
theorem ok_hand (D : Dat K mg "_law_hand" "_law_hand" (top 65) ["_law_script", "_law_k"]) (BT : Bt mg) : Cal P w K mg base CX "_law_hand" 1 ["_law_script", "_law_k"] (spHand K) := by
 have S := sc_hand
 walk_at "d"
 ·obtain ⟨a, ns, k, rfl, _⟩ := h
  rfl
 obtain ⟨a, ns, k, rfl, hS, h63, h0, q⟩ := h
 refine ⟨_, (@pss_cons _ _ _ _ _ (@ps_set _ _ 2 _ _ _ _ S.nd rfl (by first | exact Or.inl rfl | exact Or.inr rfl) (@pe_lst _ _ _ _ (@pa_cons _ _ _ _ _ (@pe_int _ _ _ _) (@pa_cons _ _ _ _ _ (@pe_int _ _ _ _) (@pa_cons _ _ _ _ _ (@pe_int _ _ _ _) (@pa_nil _) (by rfl)) (by rfl)) (by rfl))) (by rfl) (by first | exact .inl rfl | exact .inr rfl | assumption)) (@pss_cons _ _ _ _ _ (@ps_if _ _ _ _ _ _ _ _ (@pt_cmpR _ _ _ _ _ _ _ _ (@op_lt _) (@pv _ 1 _ _ (by rfl) (by first | exact Or.inl rfl | exact Or.inr (Or.inl rfl) | exact Or.inr (Or.inr rfl)) (by decide) (by decide)) (@pe_callB _ _ _ _ _ _ _ _ _ (@c_len _) rfl BT.len L3.bt_len (@pa_cons _ _ _ _ _ (@pv _ 0 _ _ (by rfl) (by first | exact Or.inl rfl | exact Or.inr (Or.inl rfl) | exact Or.inr (Or.inr rfl)) (by decide) (by decide)) (@pa_nil _) (by rfl)) (by decide) (by decide) (by rfl) (by rfl)) (@nomark _ _ (by decide) (by decide))) (@pss_one _ _ _ (@ps_asg _ _ _ _ _ _ (@pe_op _ _ _ _ _ _ _ _ (@op_mod _) (@pe_ix _ _ _ _ _ _ _ (@ix_list _) (@pv _ 0 _ _ (by rfl) (by first | exact Or.inl rfl | exact Or.inr (Or.inl rfl) | exact Or.inr (Or.inr rfl)) (by decide) (by decide)) (@pv _ 1 _ _ (by rfl) (by first | exact Or.inl rfl | exact Or.inr (Or.inl rfl) | exact Or.inr (Or.inr rfl)) (by decide) (by decide)) (fun _ _ => rfl)) (@pe_op _ _ _ _ _ _ _ _ (@op_mulB _) (@pe_op _ _ _ _ _ _ _ _ (@op_pow _) (@pe_int _ _ _ _) (@pe_int _ _ _ _)) (@pe_op _ _ _ _ _ _ _ _ (@op_pow _) (@pe_int _ _ _ _) (@pe_int _ _ _ _)))) (@pg_sub _ _ _ _ _ _ _ (@pv _ 2 _ _ (by rfl) (by first | exact Or.inl rfl | exact Or.inr (Or.inl rfl) | exact Or.inr (Or.inr rfl)) (by decide) (by decide)) (@pe_int _ _ _ _) (@set_list _) (by intro _; rfl)) (by rfl) (by rfl) (by rfl))) (@pss_nil _)) (@pss_cons _ _ _ _ _ (@ps_if _ _ _ _ _ _ _ _ (@PW.pt _ _ _ (@pw_and _ _ _ _ _ _ _ (@pt_cmpR _ _ _ _ _ _ _ _ (@op_ge _) (@pe_ix _ _ _ _ _ _ _ (@ix_list _) (@pv _ 2 _ _ (by rfl) (by first | exact Or.inl rfl | exact Or.inr (Or.inl rfl) | exact Or.inr (Or.inr rfl)) (by decide) (by decide)) (@pe_int _ _ _ _) (fun _ _ => rfl)) (@pe_op _ _ _ _ _ _ _ _ (@op_pow _) (@pe_int _ _ _ _) (@pe_int _ _ _ _)) (@nomark _ _ (by decide) (by decide))) (@pw_and1 _ _ _ _ (@pt_cmpR _ _ _ _ _ _ _ _ (@op_eq _) (@pe_op _ _ _ _ _ _ _ _ (@op_mod _) (@pe_ix _ _ _ _ _ _ _ (@ix_list _) (@pv _ 0 _ _ (by rfl) (by first | exact Or.inl rfl | exact Or.inr (Or.inl rfl) | exact Or.inr (Or.inr rfl)) (by decide) (by decide)) (@pe_int _ _ _ _) (fun _ _ => rfl)) (@pe_int _ _ _ _)) (@pe_int _ _ _ _) (@nomark _ _ (by decide) (by decide)))))) (@pss_one _ _ _ (@ps_asg _ _ _ _ _ _ (@pe_int _ _ _ _) (@pg_sub _ _ _ _ _ _ _ (@pv _ 2 _ _ (by rfl) (by first | exact Or.inl rfl | exact Or.inr (Or.inl rfl) | exact Or.inr (Or.inr rfl)) (by decide) (by decide)) (@pe_int _ _ _ _) (@set_list _) (by intro _; rfl)) (by rfl) (by rfl) (by rfl))) (@pss_nil _)) (@pss_cons _ _ _ _ _ (@ps_if _ _ _ _ _ _ _ _ (@pt_cmpR _ _ _ _ _ _ _ _ (@op_eq _) (@pv _ 1 _ _ (by rfl) (by first | exact Or.inl rfl | exact Or.inr (Or.inl rfl) | exact Or.inr (Or.inr rfl)) (by decide) (by decide)) (@pe_int _ _ _ _) (@nomark _ _ (by decide) (by decide))) (@pss_one _ _ _ (@ps_asg _ _ _ _ _ _ (@pe_op _ _ _ _ _ _ _ _ (@op_fdivB _) (@pe_ix _ _ _ _ _ _ _ (@ix_list _) (@pv _ 2 _ _ (by rfl) (by first | exact Or.inl rfl | exact Or.inr (Or.inl rfl) | exact Or.inr (Or.inr rfl)) (by decide) (by decide)) (@pe_int _ _ _ _) (fun _ _ => rfl)) (@pe_int _ _ _ _)) (@pg_sub _ _ _ _ _ _ _ (@pv _ 2 _ _ (by rfl) (by first | exact Or.inl rfl | exact Or.inr (Or.inl rfl) | exact Or.inr (Or.inr rfl)) (by decide) (by decide)) (@pe_int _ _ _ _) (@set_list _) (by intro _; rfl)) (by rfl) (by rfl) (by rfl))) (@pss_nil _)) (@pss_one _ _ _ (@ps_ret _ _ _ _ (@pv _ 2 _ _ (by rfl) (by first | exact Or.inl rfl | exact Or.inr (Or.inl rfl) | exact Or.inr (Or.inr rfl)) (by decide) (by decide)))))))), ?_⟩
 have hl : (ns.map V.int).length = ns.length := List.length_map _
 refine ⟨(by show 3 ≤ sizeLine; decide), fun p hp => ?_⟩
 have sq : ∀ o, SqL K (upd H p o) a (ns.map V.int) := fun o => (same_new hp o).seq hS
 -- the number
 dsimp only [gName]
 refine seq_mid (fun σ H' => ∃ x : Int, σ = [some (.ref a), some (.int k), some (.ref p)] ∧ H' = upd H p (.lst [.int x, .int 0, .int 1]) ∧ 0 ≤ x ∧ x < 10 ^ 121 ∧ (x = 0 ∨ k < (ns.length : Int))) (fun nx kk => ?_) ?_
 ·refine ⟨_, rfl, _, rfl, a, _, rfl, .inl (sq _), _, _, rfl, rfl, _, rfl, ?_⟩
  refine ite2 (fun c => ?_) (fun c => ?_)
  ·have c' : k < ((ns.map V.int).length : Int) := of_decide_eq_true c
   rw [hl] at c'
   obtain ⟨v, hv⟩ := atI_ints h0 c'
   refine ⟨_, rfl, _, rfl, a, _, _, _, rfl, rfl, sq _, hv, _, _, rfl, rfl, ⟨by decide, by decide, by decide⟩, _, _, rfl, rfl, ⟨by decide, by decide, by decide⟩, _, _, rfl, rfl, ⟨⟨by decide, by decide⟩, by decide, by decide⟩, _, _, rfl, rfl, (by show (0 : Int) < _; decide), ?_⟩
   refine ⟨_, rfl, p, _, _, 0, rfl, rfl, upd_same, rfl, ?_⟩
   refine kk _ _ ⟨_, rfl, upd_upd, ?_, ?_, .inr c'⟩
   ·exact Int.emod_nonneg _ (by decide)
   ·exact Int.lt_trans (Int.emod_lt_of_pos _ (by decide)) (by decide)
  ·exact kk _ _ ⟨0, rfl, rfl, by decide, by decide, .inl rfl⟩
 rintro σ H' ⟨x, rfl, rfl, x0, x1, xk⟩
 -- the way
 refine seq_mid (fun σ H' => ∃ m : Int, σ = [some (.ref a), some (.int k), some (.ref p)] ∧ H' = upd H p (.lst [.int x, .int 0, .int m])) (fun nx kk => ?_) ?_
 ·refine ⟨_, rfl, p, _, _, _, rfl, rfl, SqL.of upd_same, rfl, _, _, rfl, rfl, ⟨by decide, by decide, by decide⟩, _, _, rfl, rfl, _, rfl, ?_⟩
  refine ite2 (fun c => ?_) (fun c => ?_)
  ·have c' : (10 : Int) ^ 18 ≤ x := of_decide_eq_true c
   have hk : k < (ns.length : Int) := by
    rcases xk with z | z
    ·rw [z] at c'; exact absurd c' (by decide)
    ·exact z
   obtain ⟨v, hv⟩ := atI_ints (k := 0) (ns := ns) (Int.le_refl 0) (by omega)
   refine ⟨_, rfl, a, _, _, _, rfl, rfl, sq _, hv, _, _, rfl, rfl, (by show (0 : Int) < _; decide), rfl, _, rfl, ?_⟩
   refine ite2 (fun c => ?_) (fun c => ?_)
   ·refine ⟨_, rfl, p, _, _, 2, rfl, rfl, upd_same, rfl, ?_⟩
    exact kk _ _ ⟨0, rfl, upd_upd⟩
   ·exact kk _ _ ⟨1, rfl, rfl⟩
  ·refine iteF ?_
   exact kk _ _ ⟨1, rfl, rfl⟩
 rintro σ H' ⟨m, rfl, rfl⟩
 refine seq_mid (fun σ H' => ∃ y : Int, σ = [some (.ref a), some (.int k), some (.ref p)] ∧ H' = upd H p (.lst [.int y, .int 0, .int m]) ∧ 0 ≤ y ∧ y < 10 ^ 121) (fun nx kk => ?_) ?_
 ·refine ⟨_, rfl, rfl, _, rfl, ?_⟩
  refine ite2 (fun c => ?_) (fun c => ?_)
  ·refine ⟨_, rfl, p, _, _, _, rfl, rfl, SqL.of upd_same, rfl, _, _, rfl, rfl, ⟨by decide, by decide⟩, _, rfl, p, _, _, 0, rfl, rfl, upd_same, rfl, ?_⟩
   exact kk _ _ ⟨x / 2, rfl, upd_upd, by omega, by omega⟩
  ·exact kk _ _ ⟨x, rfl, rfl, x0, x1⟩
 rintro σ H' ⟨y, rfl, rfl, y0, y1⟩
 refine ⟨_, rfl, ?_⟩
 exact q p _ hp ⟨y, 0, m, upd_same, y0, y1, Int.le_refl _, Int.le_refl _⟩ (same_new hp _)

theorem sc_pick : FnScope ["_law_hand_here", "_law_many", "_law_found", "_law_low", "_law_by", "_law_one", "_law_two"] ["_law_hand_here", "_law_many"] (defScope (top 66)) := by walk_at "s"
def lim (n : Nat) : Int := 10 ^ (6 + 5 * n)
def spPickN : Nat → Sp
 | 0 => fun _ _ _ _ => False
 | n + 1 => fun vs H Q _ => ∃ (p : Addr) (many b : Int), vs = [.ref p, .int many] ∧ 0 < many ∧ many ≤ lim n ∧ HandAt H p b ∧ b + 2 ^ n ≤ 2 ^ 60 ∧ n ≤ 12 ∧
  ∀ (r : Int) (H' : Hp), 0 ≤ r → r < many → HandAt H' p (b + 2 ^ n) → Oth p H H' → Q (.int r) H'
theorem lim_next {n : Nat} {m : Int} (h0 : 0 < m) (h : m ≤ lim (n + 1)) : m / 1000000 + 1 ≤ lim n := by
 have e : lim (n + 1) = 100000 * lim n := by
  unfold lim
  rw [show 6 + 5 * (n + 1) = (6 + 5 * n) + 5 from by omega, Int.pow_add]
  rw [show (10 : Int) ^ 5 = 100000 from by decide, Int.mul_comm]
 have e1 : (1000000 : Int) ≤ lim n := by
  unfold lim
  rw [Int.pow_add]
  have : (0 : Int) < 10 ^ (5 * n) := Int.pow_pos (by decide)
  rw [show (10 : Int) ^ 6 = 1000000 from by decide]
  have h1 : (1 : Int) ≤ 10 ^ (5 * n) := this
  have := Int.mul_le_mul_of_nonneg_left h1 (show (0 : Int) ≤ 1000000 by decide)
  rw [Int.mul_one] at this
  exact this
 omega
theorem lim_big {n : Nat} : (1000000 : Int) ≤ lim n := by
 unfold lim
 rw [Int.pow_add]
 have : (0 : Int) < 10 ^ (5 * n) := Int.pow_pos (by decide)
 rw [show (10 : Int) ^ 6 = 1000000 from by decide]
 have h1 : (1 : Int) ≤ 10 ^ (5 * n) := this
 have := Int.mul_le_mul_of_nonneg_left h1 (show (0 : Int) ≤ 1000000 by decide)
 rw [Int.mul_one] at this
 exact this
theorem lim_le {n : Nat} (h : n ≤ 12) : lim n < 2 ^ 250 := by
 unfold lim
 refine Int.lt_of_le_of_lt (b := 10 ^ 66) ?_ (by decide)
 have : (10 : Nat) ^ (6 + 5 * n) ≤ 10 ^ 66 := Nat.pow_le_pow_right (by decide) (by omega)
 exact_mod_cast this
theorem mul_in {u v A B : Int} (h1 : 0 ≤ u) (h2 : u ≤ A) (h3 : 0 ≤ v) (h4 : v ≤ B) : 0 ≤ u * v ∧ u * v ≤ A * B :=
 ⟨Int.mul_nonneg h1 h3, Int.le_trans (Int.mul_le_mul_of_nonneg_right h2 h3) (Int.mul_le_mul_of_nonneg_left h4 (Int.le_trans h1 h2))⟩
theorem pow20 {n : Nat} (h : n ≤ 12) : (1 : Int) ≤ 2 ^ n ∧ (2 : Int) ^ n ≤ 1048576 := by
 have h1 : 1 ≤ 2 ^ n := Nat.one_le_two_pow
 have h2 : 2 ^ n ≤ 2 ^ 20 := Nat.pow_le_pow_right (by decide) (by omega)
 have e : ((2 : Int) ^ n) = ((2 ^ n : Nat) : Int) := by norm_cast
 rw [e]
 omega
theorem ok_pickN (D : Dat K mg "_law_pick" "_law_pick" (top 66) ["_law_hand_here", "_law_many"]) (NE : NoErr CX) : ∀ n : Nat, Cal P w K mg base CX "_law_pick" n ["_law_hand_here", "_law_many"] (spPickN n)
 | 0 => Dat.none D fun _ _ _ _ h => h
 | n + 1 => by
  have c__law_pick := ok_pickN D NE n
  have S := sc_pick
  walk_at "d"
  ·obtain ⟨p, many, b, rfl, _⟩ := h
   rfl
  obtain ⟨p, many, b, rfl, hm, hlm, hh, hb, hn, q⟩ := h
  have hm6 := Int.lt_of_le_of_lt hlm (lim_le hn)
  refine ⟨_, (@pss_cons _ _ _ _ _ (@ps_if _ _ _ _ _ _ _ _ (@pt_cmpR _ _ _ _ _ _ _ _ (@op_eq _) (@pe_ix _ _ _ _ _ _ _ (@ix_list _) (@pv _ 0 _ _ (by rfl) (by first | exact Or.inl rfl | exact Or.inr (Or.inl rfl) | exact Or.inr (Or.inr rfl)) (by decide) (by decide)) (@pe_int _ _ _ _) (fun _ _ => rfl)) (@pe_int _ _ _ _) (@nomark _ _ (by decide) (by decide))) (@pss_cons _ _ _ _ _ (@ps_set _ _ 2 _ _ _ _ S.nd rfl (by first | exact Or.inl rfl | exact Or.inr rfl) (@pe_op _ _ _ _ _ _ _ _ (@op_mod _) (@pe_ix _ _ _ _ _ _ _ (@ix_list _) (@pv _ 0 _ _ (by rfl) (by first | exact Or.inl rfl | exact Or.inr (Or.inl rfl) | exact Or.inr (Or.inr rfl)) (by decide) (by decide)) (@pe_int _ _ _ _) (fun _ _ => rfl)) (@pv _ 1 _ _ (by rfl) (by first | exact Or.inl rfl | exact Or.inr (Or.inl rfl) | exact Or.inr (Or.inr rfl)) (by decide) (by decide))) (by rfl) (by first | exact .inl rfl | exact .inr rfl | assumption)) (@pss_cons _ _ _ _ _ (@ps_asg _ _ _ _ _ _ (@pe_op _ _ _ _ _ _ _ _ (@op_fdivB _) (@pe_ix _ _ _ _ _ _ _ (@ix_list _) (@pv _ 0 _ _ (by rfl) (by first | exact Or.inl rfl | exact Or.inr (Or.inl rfl) | exact Or.inr (Or.inr rfl)) (by decide) (by decide)) (@pe_int _ _ _ _) (fun _ _ => rfl)) (@pv _ 1 _ _ (by rfl) (by first | exact Or.inl rfl | exact Or.inr (Or.inl rfl) | exact Or.inr (Or.inr rfl)) (by decide) (by decide))) (@pg_sub _ _ _ _ _ _ _ (@pv _ 0 _ _ (by rfl) (by first | exact Or.inl rfl | exact Or.inr (Or.inl rfl) | exact Or.inr (Or.inr rfl)) (by decide) (by decide)) (@pe_int _ _ _ _) (@set_list _) (by intro _; rfl)) (by rfl) (by rfl) (by rfl)) (@pss_one _ _ _ (@ps_ret _ _ _ _ (@pv _ 2 _ _ (by rfl) (by first | exact Or.inl rfl | exact Or.inr (Or.inl rfl) | exact Or.inr (Or.inr rfl)) (by decide) (by decide)))))) (@pss_nil _)) (@pss_cons _ _ _ _ _ (@ps_if _ _ _ _ _ _ _ _ (@pt_cmpR _ _ _ _ _ _ _ _ (@op_gt _) (@pv _ 1 _ _ (by rfl) (by first | exact Or.inl rfl | exact Or.inr (Or.inl rfl) | exact Or.inr (Or.inr rfl)) (by decide) (by decide)) (@pe_int _ _ _ _) (@nomark _ _ (by decide) (by decide))) (@pss_cons _ _ _ _ _ (@ps_set _ _ 3 _ _ _ _ S.nd rfl (by first | exact Or.inl rfl | exact Or.inr rfl) (@pe_fn _ _ _ _ _ _ _ _ _ _ _ _ c__law_pick (hr.mono (by first | decide | omega)) NE.pass (@pa_cons _ _ _ _ _ (@pv _ 0 _ _ (by rfl) (by first | exact Or.inl rfl | exact Or.inr (Or.inl rfl) | exact Or.inr (Or.inr rfl)) (by decide) (by decide)) (@pa_cons _ _ _ _ _ (@pe_int _ _ _ _) (@pa_nil _) (by rfl)) (by rfl)) (by rfl) (by decide) (by rfl) (by rfl)) (by rfl) (by first | exact .inl rfl | exact .inr rfl | assumption)) (@pss_one _ _ _ (@ps_ret _ _ _ _ (@pe_op _ _ _ _ _ _ _ _ (@op_mod _) (@pe_op _ _ _ _ _ _ _ _ (@op_add _) (@pv _ 3 _ _ (by rfl) (by first | exact Or.inl rfl | exact Or.inr (Or.inl rfl) | exact Or.inr (Or.inr rfl)) (by decide) (by decide)) (@pe_op _ _ _ _ _ _ _ _ (@op_mulB _) (@pe_int _ _ _ _) (@pe_fn _ _ _ _ _ _ _ _ _ _ _ _ c__law_pick (hr.mono (by first | decide | omega)) NE.pass (@pa_cons _ _ _ _ _ (@pv _ 0 _ _ (by rfl) (by first | exact Or.inl rfl | exact Or.inr (Or.inl rfl) | exact Or.inr (Or.inr rfl)) (by decide) (by decide)) (@pa_cons _ _ _ _ _ (@pe_op _ _ _ _ _ _ _ _ (@op_add _) (@pe_op _ _ _ _ _ _ _ _ (@op_fdivB _) (@pv _ 1 _ _ (by rfl) (by first | exact Or.inl rfl | exact Or.inr (Or.inl rfl) | exact Or.inr (Or.inr rfl)) (by decide) (by decide)) (@pe_int _ _ _ _)) (@pe_int _ _ _ _)) (@pa_nil _) (by rfl)) (by rfl)) (by rfl) (by decide) (by rfl) (by rfl)))) (@pv _ 1 _ _ (by rfl) (by first | exact Or.inl rfl | exact Or.inr (Or.inl rfl) | exact Or.inr (Or.inr rfl)) (by decide) (by decide)))))) (@pss_nil _)) (@pss_cons _ _ _ _ _ (@ps_asg _ _ _ _ _ _ (@pe_op _ _ _ _ _ _ _ _ (@op_add _) (@pe_ix _ _ _ _ _ _ _ (@ix_list _) (@pv _ 0 _ _ (by rfl) (by first | exact Or.inl rfl | exact Or.inr (Or.inl rfl) | exact Or.inr (Or.inr rfl)) (by decide) (by decide)) (@pe_int _ _ _ _) (fun _ _ => rfl)) (@pe_int _ _ _ _)) (@pg_sub _ _ _ _ _ _ _ (@pv _ 0 _ _ (by rfl) (by first | exact Or.inl rfl | exact Or.inr (Or.inl rfl) | exact Or.inr (Or.inr rfl)) (by decide) (by decide)) (@pe_int _ _ _ _) (@set_list _) (by intro _; rfl)) (by rfl) (by rfl) (by rfl)) (@pss_cons _ _ _ _ _ (@ps_set _ _ 4 _ _ _ _ S.nd rfl (by first | exact Or.inl rfl | exact Or.inr rfl) (@pe_op _ _ _ _ _ _ _ _ (@op_add _) (@pe_int _ _ _ _) (@pe_op _ _ _ _ _ _ _ _ (@op_mulB _) (@pe_op _ _ _ _ _ _ _ _ (@op_mulB _) (@pe_int _ _ _ _) (@pe_ix _ _ _ _ _ _ _ (@ix_list _) (@pv _ 0 _ _ (by rfl) (by first | exact Or.inl rfl | exact Or.inr (Or.inl rfl) | exact Or.inr (Or.inr rfl)) (by decide) (by decide)) (@pe_int _ _ _ _) (fun _ _ => rfl))) (@pe_ix _ _ _ _ _ _ _ (@ix_list _) (@pv _ 0 _ _ (by rfl) (by first | exact Or.inl rfl | exact Or.inr (Or.inl rfl) | exact Or.inr (Or.inr rfl)) (by decide) (by decide)) (@pe_int _ _ _ _) (fun _ _ => rfl)))) (by rfl) (by first | exact .inl rfl | exact .inr rfl | assumption)) (@pss_cons _ _ _ _ _ (@ps_set _ _ 5 _ _ _ _ S.nd rfl (by first | exact Or.inl rfl | exact Or.inr rfl) (@pe_op _ _ _ _ _ _ _ _ (@op_mod _) (@pe_op _ _ _ _ _ _ _ _ (@op_mulB _) (@pe_op _ _ _ _ _ _ _ _ (@op_add _) (@pe_op _ _ _ _ _ _ _ _ (@op_mod _) (@pe_ix _ _ _ _ _ _ _ (@ix_list _) (@pv _ 0 _ _ (by rfl) (by first | exact Or.inl rfl | exact Or.inr (Or.inl rfl) | exact Or.inr (Or.inr rfl)) (by decide) (by decide)) (@pe_int _ _ _ _) (fun _ _ => rfl)) (@pe_int _ _ _ _)) (@pe_int _ _ _ _)) (@pv _ 4 _ _ (by rfl) (by first | exact Or.inl rfl | exact Or.inr (Or.inl rfl) | exact Or.inr (Or.inr rfl)) (by decide) (by decide))) (@pe_int _ _ _ _)) (by rfl) (by first | exact .inl rfl | exact .inr rfl | assumption)) (@pss_cons _ _ _ _ _ (@ps_set _ _ 6 _ _ _ _ S.nd rfl (by first | exact Or.inl rfl | exact Or.inr rfl) (@pe_op _ _ _ _ _ _ _ _ (@op_mod _) (@pe_op _ _ _ _ _ _ _ _ (@op_add _) (@pe_op _ _ _ _ _ _ _ _ (@op_mulB _) (@pv _ 5 _ _ (by rfl) (by first | exact Or.inl rfl | exact Or.inr (Or.inl rfl) | exact Or.inr (Or.inr rfl)) (by decide) (by decide)) (@pv _ 5 _ _ (by rfl) (by first | exact Or.inl rfl | exact Or.inr (Or.inl rfl) | exact Or.inr (Or.inr rfl)) (by decide) (by decide))) (@pe_op _ _ _ _ _ _ _ _ (@op_mulB _) (@pe_int _ _ _ _) (@pv _ 5 _ _ (by rfl) (by first | exact Or.inl rfl | exact Or.inr (Or.inl rfl) | exact Or.inr (Or.inr rfl)) (by decide) (by decide)))) (@pe_int _ _ _ _)) (by rfl) (by first | exact .inl rfl | exact .inr rfl | assumption)) (@pss_one _ _ _ (@ps_ret _ _ _ _ (@pe_op _ _ _ _ _ _ _ _ (@op_mod _) (@pe_op _ _ _ _ _ _ _ _ (@op_fdivB _) (@pe_op _ _ _ _ _ _ _ _ (@op_mod _) (@pe_op _ _ _ _ _ _ _ _ (@op_mulB _) (@pv _ 6 _ _ (by rfl) (by first | exact Or.inl rfl | exact Or.inr (Or.inl rfl) | exact Or.inr (Or.inr rfl)) (by decide) (by decide)) (@pe_int _ _ _ _)) (@pe_int _ _ _ _)) (@pe_int _ _ _ _)) (@pv _ 1 _ _ (by rfl) (by first | exact Or.inl rfl | exact Or.inr (Or.inl rfl) | exact Or.inr (Or.inr rfl)) (by decide) (by decide))))))))))), ?_⟩
  obtain ⟨a, d, c, hp, a0, a1, d0, d1⟩ := id hh
  have p20 := pow20 hn
  refine ⟨_, rfl, p, _, _, _, rfl, rfl, SqL.of hp, rfl, rfl, _, rfl, ?_⟩
  refine ite2 (fun cc => ?_) (fun cc => ?_)
  ·refine ⟨_, rfl, p, _, _, _, rfl, rfl, SqL.of hp, rfl, _, rfl, _, _, rfl, rfl, hm, ?_⟩
   refine ⟨_, rfl, p, _, _, _, rfl, rfl, SqL.of hp, rfl, _, rfl, _, _, rfl, rfl, ⟨hm, hm6⟩, _, rfl, p, _, _, 0, rfl, rfl, hp, rfl, _, rfl, ?_⟩
   refine q _ _ (Int.emod_nonneg _ (by omega)) (Int.emod_lt_of_pos _ hm) ⟨a / many, d, c, upd_same, Int.ediv_nonneg a0 (by omega), Int.lt_of_le_of_lt (Int.ediv_le_self _ a0) a1, d0, by omega⟩ ((Oth.refl p H).upd _)
  refine ⟨_, rfl, _, _, rfl, rfl, _, rfl, ?_⟩
  refine ite2 (fun cg => ?_) (fun cg => ?_)
  ·have cg' : (1000000 : Int) < many := of_decide_eq_true cg
   -- two smaller ones
   cases n with
   | zero =>
    have : many ≤ 1000000 := hlm
    omega
   | succ n =>
    have p21 := pow20 (n := n) (by omega)
    have e2 : (2 : Int) ^ (n + 1) = 2 * 2 ^ n := by rw [Int.pow_succ, Int.mul_comm]
    have hm2 := lim_next hm hlm
    have hm3 := lim_le (n := n) (by omega)
    have hm4 := Int.ediv_nonneg (Int.le_of_lt hm) (show (0 : Int) ≤ 1000000 by decide)
    rw [e2] at hb
    refine ⟨_, rfl, p, 1000000, b, rfl, by decide, lim_big, hh, by omega, by omega, fun r1 H1 r10 r11 hh1 o1 => ?_⟩
    refine ⟨_, rfl, _, rfl, _, rfl, _, _, rfl, rfl, ⟨by decide, by decide⟩, _, _, rfl, rfl, p, _, _, rfl, by omega, hm2, hh1, by omega, by omega, fun r2 H2 r20 r21 hh2 o2 => ?_⟩
    ·refine ⟨_, _, rfl, rfl, ⟨⟨by decide, by decide⟩, by omega, by omega⟩, _, _, rfl, rfl, _, rfl, _, _, rfl, rfl, hm, ?_⟩
     refine q _ _ (Int.emod_nonneg _ (by omega)) (Int.emod_lt_of_pos _ hm) (hh2.mono ?_) (o1.trans o2)
     show b + 2 ^ n + 2 ^ n ≤ b + 2 ^ (n + 1)
     omega
  ·have hb60 : b ≤ 1152921504606846976 := by omega
   refine ⟨_, rfl, p, _, _, _, rfl, rfl, SqL.of hp, rfl, _, _, rfl, rfl, _, rfl, p, _, _, 1, rfl, rfl, hp, rfl, ?_⟩
   have hp1 : (upd H p (HO.lst [.int a, .int (d + 1), .int c])) p = some (.lst [.int a, .int (d + 1), .int c]) := upd_same
   have m1 := mul_in (u := 39916801 * (d + 1)) (v := d + 1) (A := 2 ^ 90) (B := 2 ^ 62) (by omega) (by omega) (by omega) (by omega)
   have m0 := Int.emod_nonneg a (show (2147483629 : Int) ≠ 0 by decide)
   have m0' := Int.emod_lt_of_pos a (show (0 : Int) < 2147483629 by decide)
   refine ⟨_, rfl, p, _, _, _, rfl, rfl, SqL.of hp1, rfl, _, _, rfl, rfl, ⟨⟨by decide, by decide⟩, by omega, by omega⟩, _, rfl, p, _, _, _, rfl, rfl, SqL.of hp1, rfl, _, _, rfl, rfl, ⟨⟨by omega, by omega⟩, by omega, by omega⟩, _, _, rfl, rfl, ?_⟩
   refine ⟨_, rfl, p, _, _, _, rfl, rfl, SqL.of hp1, rfl, _, _, rfl, rfl, (by show (0 : Int) < _; decide), _, _, rfl, rfl, _, rfl, _, _, rfl, rfl, ⟨⟨by omega, by omega⟩, by omega, by omega⟩, _, _, rfl, rfl, (by show (0 : Int) < _; decide), ?_⟩
   generalize hx : (a % 2147483629 + 11) * (716151937 + 39916801 * (d + 1) * (d + 1)) % 998244353 = x
   have x0 : 0 ≤ x := hx ▸ Int.emod_nonneg _ (by decide)
   have x1 : x < 998244353 := hx ▸ Int.emod_lt_of_pos _ (by decide)
   refine ⟨_, rfl, _, rfl, _, _, rfl, rfl, ⟨⟨by omega, by omega⟩, by omega, by omega⟩, _, rfl, _, _, rfl, rfl, ⟨⟨by decide, by decide⟩, by omega, by omega⟩, _, _, rfl, rfl, _, _, rfl, rfl, (by show (0 : Int) < _; decide), ?_⟩
   generalize hy : (x * x + 48271 * x) % 1000000007 = y
   have y0 : 0 ≤ y := hy ▸ Int.emod_nonneg _ (by decide)
   have y1 : y < 1000000007 := hy ▸ Int.emod_lt_of_pos _ (by decide)
   refine ⟨_, rfl, _, _, rfl, rfl, ⟨⟨by omega, by omega⟩, by decide, by decide⟩, _, _, rfl, rfl, (by show (0 : Int) < _; decide), _, _, rfl, rfl, ⟨by decide, by decide⟩, _, rfl, _, _, rfl, rfl, hm, ?_⟩
   exact q _ _ (Int.emod_nonneg _ (by omega)) (Int.emod_lt_of_pos _ hm) ⟨a, d + 1, c, hp1, a0, a1, by omega, by omega⟩ ((Oth.refl p H).upd _)
def spPick : Sp := fun vs H Q _ => ∃ (p : Addr) (many b : Int), vs = [.ref p, .int many] ∧ 0 < many ∧ many ≤ 10 ^ 50 ∧ HandAt H p b ∧ b ≤ 1000000000 ∧
  ∀ (r : Int) (H' : Hp), 0 ≤ r → r < many → HandAt H' p (b + 1024) → Oth p H H' → Q (.int r) H'
theorem ok_pick (D : Dat K mg "_law_pick" "_law_pick" (top 66) ["_law_hand_here", "_law_many"]) (NE : NoErr CX) : Cal P w K mg base CX "_law_pick" 11 ["_law_hand_here", "_law_many"] spPick :=
 (ok_pickN D NE 11).imp fun vs H Q E ⟨p, many, b, e, h1, h2, hh, hb, q⟩ => ⟨p, many, b, e, h1, Int.le_trans h2 (by decide), hh, (by show b + 1024 ≤ 1152921504606846976; omega), by decide, q⟩

end
end Law

namespace Law
open PySem PySem.Spec PyProof.Rows L2 L3 L4
def HandO (n : Int) : Ob := ⟨fun _ o => ∃ a b c : Int, o = .lst [.int a, .int b, .int c] ∧ 0 ≤ a ∧ a < 10 ^ 121 ∧ 0 ≤ b ∧ b ≤ n, fun _ h => h⟩
theorem HandO.at {n : Int} {H : Hp} {p : Addr} (h : ∃ o, H p = some o ∧ (HandO n).p H o) : HandAt H p n := by
 obtain ⟨o, e, a, b, c, rfl, r⟩ := h
 exact ⟨a, b, c, e, r⟩
theorem HandAt.ob {n : Int} {H : Hp} {p : Addr} (h : HandAt H p n) : ∃ o, H p = some o ∧ (HandO n).p H o := by
 obtain ⟨a, b, c, e, r⟩ := h
 exact ⟨_, e, a, b, c, rfl, r⟩
theorem HandAt.ts {n : Int} {H H' : Hp} {p : Addr} (h : HandAt H p n) (o : Oth p H H') : Chg p H H' := by
 obtain ⟨a, b, c, e, _⟩ := h
 exact ⟨o, fun q xs hq => o q _ hq fun z => by rw [z, e] at hq; cases hq⟩
section
variable {K : PySem.W.Frag} {P : Addr → Prop} {H0 H : Hp} {l l' : List (Addr × Ob)} {fs : List Pr} {p : Addr} {Q : VK} {E : XK}
theorem use_hand {a : Addr} {ns : List Int} {k : Int} (L : Led P H0 H l fs) (hS : SqL K H a (ns.map V.int)) (h63 : ns.length ≤ 63) (h0 : 0 ≤ k)
  (q : ∀ p H', H p = none → Led P H0 H' ((p, HandO 0) :: l) fs → Same H H' → Q (.ref p) H') : spHand K [.ref a, .int k] H Q E :=
 ⟨a, ns, k, rfl, hS, h63, h0, fun p H' np hh s => q p H' np ⟨fun x hx => by
   rcases List.mem_cons.mp hx with rfl | hx
   ·exact hh.ob
   ·exact (L.keep s).at_ x hx,
  by
   rw [List.map_cons, List.nodup_cons]
   refine ⟨fun z => ?_, L.nd⟩
   obtain ⟨x, hx, e⟩ := List.mem_map.mp z
   exact (L.fresh np).1 x hx e,
  fun x hx => by
   rcases List.mem_cons.mp hx with rfl | hx
   ·exact (L.fresh np).2
   ·exact L.own x hx, (L.keep s).fr, (L.keep s).st⟩ s⟩
theorem use_pick {many b : Int} (L : Led P H0 H l fs) (m : Put p (HandO b) (HandO (b + 1024)) l l') (h0 : 0 < many) (h1 : many ≤ 10 ^ 50) (hb : b ≤ 1000000000)
  (q : ∀ r H', 0 ≤ r → r < many → Led P H0 H' l' fs → Chg p H H' → Q (.int r) H') : spPick [.ref p, .int many] H Q E :=
 have hh := HandO.at (L.at_ _ m.mem)
 ⟨p, many, b, rfl, h0, h1, hh, hb, fun r H' r0 r1 hh' o => q r H' r0 r1 (L.set m (hh.ts o) hh'.ob) (hh.ts o)⟩
theorem led_hand {b : Int} (h : HandAt H p b) : Led (· = p) H H [(p, HandO b)] [] :=
 ⟨fun x hx => by rw [List.mem_singleton.mp hx]; exact h.ob, by simp, fun x hx => .inl (by rw [List.mem_singleton.mp hx]), fun _ _ h _ => h, fun _ h => by simp at h⟩
end
end Law

namespace Law
open PySem PySem.Spec PyProof.Rows L2 L3 L4
structure ShN (c s : Int) : Prop where
 c1 : 1 ≤ c
 c2 : c ≤ 1000
 s1 : 1 ≤ s
 s2 : s ≤ 1000
theorem cs_ne : ¬ (("counts" : Str) = "slots") := by decide +kernel
def shF (c s : Int) : List (Str × V) := [("counts", .int c), ("slots", .int s)]
theorem shF_put (c s : Int) : putF "slots" (.int s) (putF "counts" (.int c) []) = shF c s := by
 show (if ("counts" : Str) = "slots" then _ else (("counts" : Str), V.int c) :: [(("slots" : Str), V.int s)]) = _
 rw [if_neg cs_ne]
 rfl
theorem shF_c (c s : Int) : (shF c s).lookup ("counts" : Str) = some (.int c) := by unfold shF; walk_at "lk"
theorem shF_s (c s : Int) : (shF c s).lookup ("slots" : Str) = some (.int s) := by unfold shF; walk_at "lk"
def ShapeO (C : Addr) (c s : Int) : Ob := ⟨fun _ o => ∃ dx, o = .ins C dx (shF c s), fun _ h => h⟩
structure ShC (K : PySem.W.Frag) (C : Addr) : Prop where
 cl : Cls K C
 nc : NoAttr K C "counts"
 ns : NoAttr K C "slots"
section
variable {P : Program} {w : World} {K : PySem.W.Frag} {mg : Str → Option Value} {base : Heap} {CX : CXT} {C : Addr}
theorem sc_whole : FnScope ["thing"] ["thing"] (defScope (top 15)) := by walk_at "s"
def spWholeI : Sp := fun vs H Q _ => ∃ i : Int, vs = [.int i] ∧ Q (.bl true) H
theorem g_isiI {H : Hp} {Q : VK} {x : V} {t : Value} {T : String} {b : Bool} (ty : TyOf K H x t) (e : PySem.W.kitOne K t (.type T) = some b) (h : Q (.bl b) H) : rIsi K [x, .ty T] H Q := ⟨x, _, t, b, rfl, ty, .inl ⟨T, rfl, e⟩, h⟩
theorem ok_whole (D : Dat K mg "is_whole" "is_whole" (top 15) ["thing"]) (BT : Bt mg) : Cal P w K mg base CX "is_whole" 1 ["thing"] spWholeI := by
 have S := sc_whole
 walk_at "d"
 ·obtain ⟨i, rfl, _⟩ := h
  rfl
 obtain ⟨i, rfl, q⟩ := h
 refine ⟨_, (pss_one (ps_ret (pe_and (pe_isi BT.isinstance BT.int_ L3.bt_int (pv 0)) (pe_one (pe_not (pe_isi BT.isinstance BT.bool_ L3.bt_bool (pv 0))))))), ?_⟩
 dsimp only [cxOf]
 walk_at "go"
 refine g_isiI (.int i) rfl ?_
 walk_at "go"
 refine g_isiI (.int i) rfl ?_
 walk_at "go"
 exact q
theorem sc_from : FnScope ["thing", "least"] ["thing", "least"] (defScope (top 16)) := by walk_at "s"
def spFromI : Sp := fun vs H Q _ => ∃ i n : Int, vs = [.int i, .int n] ∧ Q (.bl (decide (n ≤ i))) H
theorem ok_from (D : Dat K mg "is_whole_from" "is_whole_from" (top 16) ["thing", "least"]) (NE : NoErr CX) (c_is_whole : Cal P w K mg base CX "is_whole" 1 ["thing"] spWholeI) : Cal P w K mg base CX "is_whole_from" 2 ["thing", "least"] spFromI := by
 have S := sc_from
 walk_at "d"
 ·obtain ⟨i, n, rfl, _⟩ := h
  rfl
 obtain ⟨i, n, rfl, q⟩ := h
 refine ⟨_, (pss_one (ps_ret (pe_and (pe_fn c_is_whole (hr.mono (by first | decide | omega)) NE.pass (pa_cons (pv 0) pa_nil)) (pe_one (pe_cmpR op_le (pv 1) (pv 0) (nomark _)))))), ?_⟩
 walk_at "go"
 refine ⟨i, rfl, ?_⟩
 walk_at "go"
 exact q
theorem sc_side : FnScope ["thing"] ["thing"] (defScope (top 17)) := by walk_at "s"
def spSide : Sp := fun vs H Q _ => ∃ i : Int, vs = [.int i] ∧ 1 ≤ i ∧ i ≤ 1000 ∧ Q (.bl true) H
theorem ok_side (D : Dat K mg "is_side" "is_side" (top 17) ["thing"]) (NE : NoErr CX) (g_GREATEST_SIDE : GlV mg "GREATEST_SIDE" (.int 1000)) (c_is_whole_from : Cal P w K mg base CX "is_whole_from" 2 ["thing", "least"] spFromI) : Cal P w K mg base CX "is_side" 3 ["thing"] spSide := by
 have S := sc_side
 walk_at "d"
 ·obtain ⟨i, rfl, _⟩ := h
  rfl
 obtain ⟨i, rfl, h1, h2, q⟩ := h
 refine ⟨_, (pss_one (ps_ret (pe_and (pe_fn c_is_whole_from (hr.mono (by first | decide | omega)) NE.pass (pa_cons (pv 0) (pa_cons pe_int pa_nil))) (pe_one (pe_cmpR op_le (pv 0) (pe_g g_GREATEST_SIDE) (nomark _)))))), ?_⟩
 walk_at "go"
 refine ⟨i, 1, rfl, ?_⟩
 rw [decide_eq_true h1]
 walk_at "go"
 rw [decide_eq_true h2]
 exact q
theorem sc_shape : FnScope ["self", "counts", "slots"] ["self", "counts", "slots"] (defScope (inClass (top 18) 0)) := by walk_at "s"
def spShape (C : Addr) : Sp := fun vs H Q _ => ∃ (p dx : Addr) (c s : Int), vs = [.ref p, .int c, .int s] ∧ ShN c s ∧ H p = some (.ins C dx []) ∧ ∀ H', H' p = some (.ins C dx (shF c s)) → (∀ q o, H q = some o → q ≠ p → H' q = some o) → Q .non H'
theorem ok_shape (D : CDat K mg "Shape" "Shape.__init__" C (inClass (top 18) 0) ["self", "counts", "slots"]) (SC : ShC K C) (NE : NoErr CX) (c_is_side : Cal P w K mg base CX "is_side" 3 ["thing"] spSide) : Mak P w K mg base CX "Shape" C 4 ["self", "counts", "slots"] (spShape C) := by
 have S := sc_shape
 walk_at "d"
 ·obtain ⟨p, dx, c, s, rfl, _⟩ := h
  rfl
 obtain ⟨p, dx, c, sl, rfl, n, hp, q⟩ := h
 refine ⟨_, (pss_cons (ps_if (PW.pt (pw_or (pt_not (pt_val (pe_fn c_is_side (hr.mono (by first | decide | omega)) NE.pass (pa_cons (pv 1) pa_nil)))) (pw_or1 (pt_not (pt_val (pe_fn c_is_side (hr.mono (by first | decide | omega)) NE.pass (pa_cons (pv 2) pa_nil))))))) (pss_one ps_never) pss_nil)
   (pss_cons (ps_fld (pv 0) (pv 1) rfl)
   (pss_one (ps_fld (pv 0) (pv 2) rfl)))), ?_⟩
 dsimp only [cxOf]
 walk_at "go"
 refine ⟨c, rfl, n.c1, n.c2, ?_⟩
 walk_at "go"
 refine ⟨sl, rfl, n.s1, n.s2, ?_⟩
 walk_at "go"
 refine ⟨p, C, dx, [], rfl, hp, SC.cl, SC.nc, by decide, ?_⟩
 walk_at "go"
 refine ⟨p, C, dx, _, rfl, upd_same, SC.cl, SC.ns, (by show 1 < 1000; decide), ?_⟩
 rw [upd_upd, shF_put]
 exact q _ upd_same fun x o h z => by rw [upd_ne z]; exact h
theorem use_shape {PP : Addr → Prop} {H0 H : Hp} {l : List (Addr × Ob)} {fs : List Pr} {Q : VK} {E : XK} {c s : Int} (L : Led PP H0 H l fs) (n : ShN c s) (q : ∀ x H', H x = none → Led PP H0 H' ((x, ShapeO C c s) :: l) fs → Same H H' → Q (.ref x) H') : Made C (spShape C) E [.int c, .int s] H Q := by
 intro x dx nx nd ne
 refine ⟨x, dx, c, s, rfl, n, upd_same, fun H' h1 h2 => ⟨rfl, ?_⟩⟩
 have sm : Same H H' := fun b o e => h2 b o (by rw [upd_ne (ne_of_none e nx), upd_ne (ne_of_none e nd)]; exact e) (ne_of_none e nx)
 exact q x H' nx (L.add sm nx ⟨_, h1, dx, rfl⟩) sm
def mk (c s m l k : Int) : Int := (m * s + l) * c + k
def ShAt (C : Addr) (H : Hp) (p : Addr) (c s : Int) : Prop := ∃ dx, H p = some (.ins C dx (shF c s))
theorem sc_mark : FnScope ["shape", "moment", "slot", "count"] ["shape", "moment", "slot", "count"] (defScope (top 19)) := by walk_at "s"
def spMark (C : Addr) : Sp := fun vs H Q _ => ∃ (p : Addr) (c s m l k : Int), vs = [.ref p, .int m, .int l, .int k] ∧ ShN c s ∧ ShAt C H p c s ∧ Q (.int (mk c s m l k)) H
theorem ok_mark (D : Dat K mg "mark_of" "mark_of" (top 19) ["shape", "moment", "slot", "count"]) (SC : ShC K C) : Cal P w K mg base CX "mark_of" 1 ["shape", "moment", "slot", "count"] (spMark C) := by
 have S := sc_mark
 walk_at "d"
 ·obtain ⟨p, c, s, m, l, k, rfl, _⟩ := h
  rfl
 obtain ⟨p, c, sl, m, l, k, rfl, n, ⟨dx, hp⟩, q⟩ := h
 obtain ⟨c1, c2, s1, s2⟩ := n
 refine ⟨_, (pss_one (ps_ret (pe_op op_add (pe_op op_mul (pe_op op_add (pe_op op_mul (pv 1) (pe_fld (pv 0) rfl)) (pv 2)) (pe_fld (pv 0) rfl)) (pv 3)))), ?_⟩
 dsimp only [cxOf]
 walk_at "go"
 refine ⟨p, C, dx, _, _, rfl, hp, SC.cl, SC.ns, shF_s c sl, ?_⟩
 refine g_rI (show CMul _ _ from .inr ⟨by omega, by omega⟩) ?_
 walk_at "go"
 refine ⟨p, C, dx, _, _, rfl, hp, SC.cl, SC.nc, shF_c c sl, ?_⟩
 refine g_rI (show CMul _ _ from .inr ⟨by omega, by omega⟩) ?_
 walk_at "go"
 exact q
end
end Law

namespace Law
open PySem PySem.Spec PyProof.Rows L2 L3 L4
def ruleW : List Str := ["ahead", "apart", "ends", "once", "spoken"]
structure RuN (ws : List Str) : Prop where
 sub : ∀ x ∈ ws, x ∈ ruleW
 nd : ws.Nodup
def stF (sh : V) (far room term : Int) (tr : Addr) : List (Str × V) := [("shape", sh), ("far", .int far), ("room", .int room), ("term", .int term), ("rules", .ref tr)]
structure StC (K : PySem.W.Frag) (C : Addr) : Prop where
 cl : Cls K C
 n1 : NoAttr K C "shape"
 n2 : NoAttr K C "far"
 n3 : NoAttr K C "room"
 n4 : NoAttr K C "term"
 n5 : NoAttr K C "rules"
def StAt (C : Addr) (H : Hp) (p : Addr) (sh : V) (far room term : Int) (ws : List Str) : Prop := ∃ (dx tr : Addr) (ms : List Str), H p = some (.ins C dx (stF sh far room term tr)) ∧ H tr = some (.tup (ms.map V.str)) ∧ ms.Perm ws
structure StN (far room term : Int) : Prop where
 f0 : 0 ≤ far
 f1 : far ≤ 1000000000000
 r0 : 1 ≤ room
 r1 : room ≤ 1000000000000
 t0 : 1 ≤ term
 t1 : term ≤ 1000000000000
theorem stF_put (sh : V) (far room term : Int) (tr : Addr) : putF "rules" (.ref tr) (putF "term" (.int term) (putF "room" (.int room) (putF "far" (.int far) (putF "shape" sh [])))) = stF sh far room term tr := by
 have a1 : ¬ (("shape" : Str) = "far") := by decide +kernel
 have a2 : ¬ (("shape" : Str) = "room") := by decide +kernel
 have a3 : ¬ (("shape" : Str) = "term") := by decide +kernel
 have a4 : ¬ (("shape" : Str) = "rules") := by decide +kernel
 have b2 : ¬ (("far" : Str) = "room") := by decide +kernel
 have b3 : ¬ (("far" : Str) = "term") := by decide +kernel
 have b4 : ¬ (("far" : Str) = "rules") := by decide +kernel
 have c3 : ¬ (("room" : Str) = "term") := by decide +kernel
 have c4 : ¬ (("room" : Str) = "rules") := by decide +kernel
 have d4 : ¬ (("term" : Str) = "rules") := by decide +kernel
 simp only [putF, if_neg a1, if_neg a2, if_neg a3, if_neg a4, if_neg b2, if_neg b3, if_neg b4, if_neg c3, if_neg c4, if_neg d4]
 rfl
theorem putF_len (f : Str) (v : V) : ∀ fs : List (Str × V), (putF f v fs).length ≤ fs.length + 1
 | [] => Nat.le_refl 1
 | (g, x) :: r => by
  show (if g = f then (g, v) :: r else (g, x) :: putF f v r).length ≤ _
  have := putF_len f v r
  by_cases c : g = f
  ·rw [if_pos c, List.length_cons, List.length_cons]; omega
  ·rw [if_neg c, List.length_cons, List.length_cons]; omega
theorem stF_rules (sh : V) (far room term : Int) (tr : Addr) : (stF sh far room term tr).lookup ("rules" : Str) = some (.ref tr) := by unfold stF; walk_at "lk"
theorem stF_shape (sh : V) (far room term : Int) (tr : Addr) : (stF sh far room term tr).lookup ("shape" : Str) = some sh := by unfold stF; walk_at "lk"
theorem stF_far (sh : V) (far room term : Int) (tr : Addr) : (stF sh far room term tr).lookup ("far" : Str) = some (.int far) := by unfold stF; walk_at "lk"
theorem stF_room (sh : V) (far room term : Int) (tr : Addr) : (stF sh far room term tr).lookup ("room" : Str) = some (.int room) := by unfold stF; walk_at "lk"
section
variable {P : Program} {w : World} {K : PySem.W.Frag} {mg : Str → Option Value} {base : Heap} {CX : CXT} {C aR : Addr}
theorem sc_span : FnScope ["thing", "least"] ["thing", "least"] (defScope (top 41)) := by walk_at "s"
def spSpan : Sp := fun vs H Q _ => ∃ i n : Int, vs = [.int i, .int n] ∧ n ≤ i ∧ i ≤ 1000000000000 ∧ Q (.bl true) H
theorem ok_span (D : Dat K mg "is_span" "is_span" (top 41) ["thing", "least"]) (NE : NoErr CX) (g_GREATEST_SPAN : GlV mg "GREATEST_SPAN" (.int 1000000000000)) (c_is_whole_from : Cal P w K mg base CX "is_whole_from" 2 ["thing", "least"] spFromI) : Cal P w K mg base CX "is_span" 3 ["thing", "least"] spSpan := by
 have S := sc_span
 walk_at "d"
 ·obtain ⟨i, n, rfl, _⟩ := h
  rfl
 obtain ⟨i, n, rfl, h1, h2, q⟩ := h
 refine ⟨_, (pss_one (ps_ret (pe_and (pe_fn c_is_whole_from (hr.mono (by first | decide | omega)) NE.pass (pa_cons (pv 0) (pa_cons (pv 1) pa_nil))) (pe_one (pe_cmpR op_le (pv 0) (pe_g g_GREATEST_SPAN) (nomark _)))))), ?_⟩
 try dsimp only [cxOf]
 walk_at "go"
 refine ⟨i, n, rfl, ?_⟩
 rw [decide_eq_true h1]
 walk_at "go"
 rw [decide_eq_true h2]
 exact q
theorem sc_rule : FnScope ["thing"] ["thing"] (defScope (top 42)) := by walk_at "s"
def spRule : Sp := fun vs H Q _ => ∃ z : Str, vs = [.str z] ∧ z ∈ ruleW ∧ Q (.bl true) H
theorem ok_rule (D : Dat K mg "is_rule" "is_rule" (top 42) ["thing"]) (BT : Bt mg) (g_RULES : GlV mg "RULES" (.ref aR)) (hR : ∀ H, SqT K H aR (ruleW.map V.str)) : Cal P w K mg base CX "is_rule" 1 ["thing"] spRule := by
 have S := sc_rule
 walk_at "d"
 ·obtain ⟨z, rfl, _⟩ := h
  rfl
 obtain ⟨z, rfl, hz, q⟩ := h
 refine ⟨_, (pss_one (ps_ret (pe_and (pe_isi BT.isinstance BT.str_ L3.bt_str (pv 0)) (pe_one (pe_cmpR op_in_seq (pv 0) (pe_g g_RULES) (by with_unfolding_all rfl)))))), ?_⟩
 try dsimp only [cxOf]
 walk_at "go"
 refine g_isiI (.str z) rfl ?_
 walk_at "go"
 refine g_inT (hR _) ?_
 rw [decide_eq_true hz]
 exact q
theorem sc_rules : FnScope ["thing"] ["thing"] (defScope (top 43)) := by walk_at "s"
theorem ru_len {ws : List Str} (h : RuN ws) : ws.length ≤ 5 := by
 have : ∀ (xs ys : List Str), xs.Nodup → (∀ x ∈ xs, x ∈ ys) → xs.length ≤ ys.length := by
  intro xs
  induction xs with
  | nil => intro ys _ _; exact Nat.zero_le _
  | cons x xs ih =>
   intro ys hn hs
   rw [List.nodup_cons] at hn
   have hx := hs x List.mem_cons_self
   have := ih (ys.erase x) hn.2 fun y hy => (List.mem_erase_of_ne (fun e => hn.1 (by rw [← e]; exact hy))).mpr (hs y (List.mem_cons_of_mem _ hy))
   rw [List.length_erase_of_mem hx] at this
   have hp := List.length_pos_of_mem hx
   rw [List.length_cons]; omega
 exact this ws ruleW h.nd h.sub
def spAreRules : Sp := fun vs H Q _ => ∃ (a : Addr) (ws : List Str), vs = [.ref a] ∧ H a = some (.lst (ws.map V.str)) ∧ RuN ws ∧ ∀ H', Same H H' → Q (.bl true) H'
theorem ok_rules (D : Dat K mg "are_rules" "are_rules" (top 43) ["thing"]) (BT : Bt mg) (NE : NoErr CX) (c_is_rule : Cal P w K mg base CX "is_rule" 1 ["thing"] spRule) : Cal P w K mg base CX "are_rules" 3 ["thing"] spAreRules := by
 have S := sc_rules
 walk_at "d"
 ·obtain ⟨a, ws, rfl, _⟩ := h
  rfl
 obtain ⟨a, ws, rfl, ha, hw, q⟩ := h
 refine ⟨_, (pss_cons (ps_if (pt_cmp (pc_isN (pv 0))) (pss_one (ps_ret pe_bl)) pss_nil)
   (pss_cons (ps_if (pt_not (pt_val (pe_isiT BT.isinstance (pv 0) (pe_tup (pa_cons (pe_bltn (v := (V.ty "list")) rfl BT.list_ L3.bt_list rfl) (pa_cons (pe_bltn (v := (V.ty "tuple")) rfl BT.tuple_ L3.bt_tuple rfl) pa_nil)))))) (pss_one (ps_ret pe_bl)) pss_nil)
   (pss_cons (ps_if (pt_not (pt_val (pe_callB (call_all rfl) rfl BT.all L3.bt_all (pa_cons (pe_comp (g := (gName 0)) rfl (pi_list (pv 0)) (blk_of (own := ["word"]) (cap := []) (defScope (top 43)).names ["thing"] rfl rfl rfl (by decide +kernel)) (fun _ _ _ _ => (pg_name (i := 0) (show (blkN ["thing"] ["word"] []).Nodup by decide +kernel) rfl (by first | exact Or.inl rfl | exact Or.inr rfl))) (fun _ _ _ _ => pifs_nil) (fun _ _ _ _ => (pe_fn c_is_rule (hr.mono (by first | decide | omega)) NE.pass (pa_cons (pv 0) pa_nil)))) pa_nil)))) (pss_one (ps_ret pe_bl)) pss_nil)
   (pss_one (ps_ret (pe_cmpR op_eq (pe_lenSet rfl rfl rfl BT.len BT.set_ (pv 0)) (pe_callB c_len rfl BT.len L3.bt_len (pa_cons (pv 0) pa_nil)) (nomark _))))))), ?_⟩
 try dsimp only [cxOf]
 have hl5 := ru_len hw
 have L := Led.start H (fun _ => False)
 walk_at "go"
 refine g_ifD (fun z => nomatch z) fun _ => ?_
 walk_at "go"
 have s1 := L'.same
 refine g_isiN ["list", "tuple"] (.lst (s1 _ _ ha)) (L'.tup (by walk_at "mem")) rfl ?_
 clear L L'
 rename Hp => H1
 walk_at "go"
 refine g_wkLv (SqL.of (s1 _ _ ha)) ?_
 refine g_compL (ws.map V.str) (fun i ys Hx => ys = (List.replicate i true).map V.bl ∧ Hx = H1) ⟨rfl, rfl⟩ (fun i ys Hx hi ⟨e, e2⟩ => ⟨e2 ▸ SqL.of (s1 _ _ ha), by
  rw [e, List.length_map, List.length_replicate]
  rw [List.length_map] at hi
  exact Nat.le_of_lt (small1000 (by omega))⟩) ?_ ?_
 ·rintro i v ys H2 hv ⟨rfl, rfl⟩
  obtain ⟨z, hz, rfl⟩ : ∃ z, z ∈ ws ∧ v = .str z := by
   obtain ⟨z, hz, e⟩ := List.mem_map.mp (List.mem_of_getElem? hv)
   exact ⟨z, hz, e.symm⟩
  try dsimp only [gName]
  walk_at "go"
  refine ⟨z, rfl, hw.sub z hz, ?_⟩
  exact ⟨by rw [List.replicate_succ', List.map_append]; rfl, rfl⟩
 ·rintro ys H2 ⟨rfl, rfl⟩ lc nlc
  rw [List.length_map]
  have s2 : Same H2 (upd H2 lc (.lst ((List.replicate ws.length true).map V.bl))) := same_new nlc _
  walk_at "go"
  refine g_allB (bs := List.replicate ws.length true) (SqL.of upd_same) ?_
  rw [show (List.replicate ws.length true).all id = true by rw [List.all_eq_true]; intro b hb; exact (List.mem_replicate.mp hb).2]
  walk_at "go"
  refine g_lenSetv (SqL.of (s2 _ _ (s1 _ _ ha))) (by omega) ?_
  walk_at "go"
  refine g_lenSq (SqL.of (s2 _ _ (s1 _ _ ha))) ?_
  walk_at "go"
  have e : decide ((((apartS [] ws).length : Nat) : Int) = (((ws.map V.str).length : Nat) : Int)) = true := decide_eq_true (by rw [apartS_all ws [] hw.nd (fun _ _ h => by simp at h), List.length_nil, Nat.zero_add, List.length_map])
  rw [e]
  exact q _ (s1.trans s2)
theorem sc_settings : FnScope ["self", "shape", "far", "room", "term", "rules"] ["self", "shape", "far", "room", "term", "rules"] (defScope (inClass (top 44) 0)) := by walk_at "s"
def spSettings (C : Addr) : Sp := fun vs H Q _ => ∃ (p dx a : Addr) (sh : V) (far room term : Int) (ws : List Str), vs = [.ref p, sh, .int far, .int room, .int term, .ref a] ∧ StN far room term ∧ H a = some (.lst (ws.map V.str)) ∧ RuN ws ∧ H p = some (.ins C dx []) ∧
 ∀ (tr : Addr) (ms : List Str) (H' : Hp), ms.Perm ws → H' p = some (.ins C dx (stF sh far room term tr)) → H' tr = some (.tup (ms.map V.str)) → (∀ q o, H q = some o → q ≠ p → H' q = some o) → Q .non H'
theorem ok_settings (D : CDatD K mg "Settings" "Settings.__init__" C (inClass (top 44) 0) ["self", "shape", "far", "room", "term", "rules"]) (SC : StC K C) (BT : Bt mg) (NE : NoErr CX) (g_RULES : GlV mg "RULES" (.ref aR)) (c_is_span : Cal P w K mg base CX "is_span" 3 ["thing", "least"] spSpan) (c_are_rules : Cal P w K mg base CX "are_rules" 3 ["thing"] spAreRules) : Mak P w K mg base CX "Settings" C 4 ["self", "shape", "far", "room", "term", "rules"] (spSettings C) := by
 have S := sc_settings
 walk_at "d"
 ·obtain ⟨p, dx, a, sh, far, room, term, ws, rfl, _⟩ := h
  rfl
 obtain ⟨p, dx, a, sh, far, room, term, ws, rfl, n, ha, hw, hp, q⟩ := h
 refine ⟨_, (@pss_cons _ _ _ _ _ (@ps_if _ _ _ _ _ _ _ _ (@pt_not _ _ _ _ (@pt_val _ _ _ (@pe_fn _ _ _ _ _ _ _ _ _ _ _ _ c_is_span (hr.mono (by first | decide | omega)) NE.pass (@pa_cons _ _ _ _ _ (@pv _ 2 _ _ (by rfl) (by first | exact Or.inl rfl | exact Or.inr (Or.inl rfl) | exact Or.inr (Or.inr rfl)) (by decide) (by decide)) (@pa_cons _ _ _ _ _ (@pe_int _ _ _ _) (@pa_nil _) (by rfl)) (by rfl)) (by rfl) (by decide) (by rfl) (by rfl)) (by intro _; rfl))) (@pss_one _ _ _ (@ps_never _ _)) (@pss_nil _)) (@pss_cons _ _ _ _ _ (@ps_if _ _ _ _ _ _ _ _ (@pt_not _ _ _ _ (@pt_val _ _ _ (@pe_fn _ _ _ _ _ _ _ _ _ _ _ _ c_is_span (hr.mono (by first | decide | omega)) NE.pass (@pa_cons _ _ _ _ _ (@pv _ 3 _ _ (by rfl) (by first | exact Or.inl rfl | exact Or.inr (Or.inl rfl) | exact Or.inr (Or.inr rfl)) (by decide) (by decide)) (@pa_cons _ _ _ _ _ (@pe_int _ _ _ _) (@pa_nil _) (by rfl)) (by rfl)) (by rfl) (by decide) (by rfl) (by rfl)) (by intro _; rfl))) (@pss_one _ _ _ (@ps_never _ _)) (@pss_nil _)) (@pss_cons _ _ _ _ _ (@ps_if _ _ _ _ _ _ _ _ (@pt_not _ _ _ _ (@pt_val _ _ _ (@pe_fn _ _ _ _ _ _ _ _ _ _ _ _ c_is_span (hr.mono (by first | decide | omega)) NE.pass (@pa_cons _ _ _ _ _ (@pv _ 4 _ _ (by rfl) (by first | exact Or.inl rfl | exact Or.inr (Or.inl rfl) | exact Or.inr (Or.inr rfl)) (by decide) (by decide)) (@pa_cons _ _ _ _ _ (@pe_int _ _ _ _) (@pa_nil _) (by rfl)) (by rfl)) (by rfl) (by decide) (by rfl) (by rfl)) (by intro _; rfl))) (@pss_one _ _ _ (@ps_never _ _)) (@pss_nil _)) (@pss_cons _ _ _ _ _ (@ps_if _ _ _ _ _ _ _ _ (@pt_not _ _ _ _ (@pt_val _ _ _ (@pe_fn _ _ _ _ _ _ _ _ _ _ _ _ c_are_rules (hr.mono (by first | decide | omega)) NE.pass (@pa_cons _ _ _ _ _ (@pv _ 5 _ _ (by rfl) (by first | exact Or.inl rfl | exact Or.inr (Or.inl rfl) | exact Or.inr (Or.inr rfl)) (by decide) (by decide)) (@pa_nil _) (by rfl)) (by rfl) (by decide) (by rfl) (by rfl)) (by intro _; rfl))) (@pss_one _ _ _ (@ps_never _ _)) (@pss_nil _)) (@pss_cons _ _ _ _ _ (@ps_fld _ _ _ _ _ _ _ _ (@pv _ 0 _ _ (by rfl) (by first | exact Or.inl rfl | exact Or.inr (Or.inl rfl) | exact Or.inr (Or.inr rfl)) (by decide) (by decide)) (@pv _ 1 _ _ (by rfl) (by first | exact Or.inl rfl | exact Or.inr (Or.inl rfl) | exact Or.inr (Or.inr rfl)) (by decide) (by decide)) rfl) (@pss_cons _ _ _ _ _ (@ps_fld _ _ _ _ _ _ _ _ (@pv _ 0 _ _ (by rfl) (by first | exact Or.inl rfl | exact Or.inr (Or.inl rfl) | exact Or.inr (Or.inr rfl)) (by decide) (by decide)) (@pv _ 2 _ _ (by rfl) (by first | exact Or.inl rfl | exact Or.inr (Or.inl rfl) | exact Or.inr (Or.inr rfl)) (by decide) (by decide)) rfl) (@pss_cons _ _ _ _ _ (@ps_fld _ _ _ _ _ _ _ _ (@pv _ 0 _ _ (by rfl) (by first | exact Or.inl rfl | exact Or.inr (Or.inl rfl) | exact Or.inr (Or.inr rfl)) (by decide) (by decide)) (@pv _ 3 _ _ (by rfl) (by first | exact Or.inl rfl | exact Or.inr (Or.inl rfl) | exact Or.inr (Or.inr rfl)) (by decide) (by decide)) rfl) (@pss_cons _ _ _ _ _ (@ps_fld _ _ _ _ _ _ _ _ (@pv _ 0 _ _ (by rfl) (by first | exact Or.inl rfl | exact Or.inr (Or.inl rfl) | exact Or.inr (Or.inr rfl)) (by decide) (by decide)) (@pv _ 4 _ _ (by rfl) (by first | exact Or.inl rfl | exact Or.inr (Or.inl rfl) | exact Or.inr (Or.inr rfl)) (by decide) (by decide)) rfl) (@pss_one _ _ _ (@ps_fld _ _ _ _ _ _ _ _ (@pv _ 0 _ _ (by rfl) (by first | exact Or.inl rfl | exact Or.inr (Or.inl rfl) | exact Or.inr (Or.inr rfl)) (by decide) (by decide)) (@pe_ifExp _ _ _ _ _ _ _ _ (@pt_cmp _ _ _ _ _ _ (@pc_isN _ _ _ _ _ (@pv _ 5 _ _ (by rfl) (by first | exact Or.inl rfl | exact Or.inr (Or.inl rfl) | exact Or.inr (Or.inr rfl)) (by decide) (by decide))) (by first | exact nobehind _ (by decide) (by decide) | rfl)) (@pe_g _ _ _ _ g_RULES (by rfl) (by decide)) (@pe_callTy _ _ _ _ _ _ _ _ _ (@c_tupOf _) rfl BT.tuple_ L3.bt_tuple (@pa_cons _ _ _ _ _ (@pe_callB _ _ _ _ _ _ _ _ _ (@c_sortS _) rfl BT.sorted L3.bt_sorted (@pa_cons _ _ _ _ _ (@pv _ 5 _ _ (by rfl) (by first | exact Or.inl rfl | exact Or.inr (Or.inl rfl) | exact Or.inr (Or.inr rfl)) (by decide) (by decide)) (@pa_nil _) (by rfl)) (by decide) (by decide) (by rfl) (by rfl)) (@pa_nil _) (by rfl)) (by decide) (by decide) (by rfl) (by rfl))) rfl)))))))))), ?_⟩
 try dsimp only [cxOf]
 have hl5 := ru_len hw
 walk_at "go"
 refine ⟨far, 0, rfl, n.f0, n.f1, ?_⟩
 walk_at "go"
 refine ⟨room, 1, rfl, n.r0, n.r1, ?_⟩
 walk_at "go"
 refine ⟨term, 1, rfl, n.t0, n.t1, ?_⟩
 walk_at "go"
 refine ⟨a, ws, rfl, ha, hw, fun H1 s1 => ?_⟩
 have ha1 := s1 _ _ ha
 have hp1 := s1 _ _ hp
 have npa : a ≠ p := fun z => by rw [z, hp] at ha; cases ha
 have k1 := putF_len ("shape" : Str) sh []
 have k2 := putF_len ("far" : Str) (.int far) (putF "shape" sh [])
 have k3 := putF_len ("room" : Str) (.int room) (putF "far" (.int far) (putF "shape" sh []))
 have k4 := putF_len ("term" : Str) (.int term) (putF "room" (.int room) (putF "far" (.int far) (putF "shape" sh [])))
 rw [List.length_nil] at k1
 walk_at "go"
 refine ⟨p, C, dx, [], rfl, hp1, SC.cl, SC.n1, by decide, ?_⟩
 walk_at "go"
 refine ⟨p, C, dx, _, rfl, upd_same, SC.cl, SC.n2, by omega, ?_⟩
 rw [upd_upd]
 walk_at "go"
 refine ⟨p, C, dx, _, rfl, upd_same, SC.cl, SC.n3, by omega, ?_⟩
 rw [upd_upd]
 walk_at "go"
 refine ⟨p, C, dx, _, rfl, upd_same, SC.cl, SC.n4, by omega, ?_⟩
 rw [upd_upd]
 have key := fun tr => stF_put sh far room term tr
 generalize putF ("term" : Str) (.int term) (putF "room" (.int room) (putF "far" (.int far) (putF "shape" sh []))) = fs at *
 have hpc : (upd H1 p (.ins C dx fs)) p = some (.ins C dx fs) := upd_same
 have hac : (upd H1 p (.ins C dx fs)) a = some (.lst (ws.map V.str)) := by rw [upd_ne npa]; exact ha1
 have oc : ∀ q o, H q = some o → q ≠ p → (upd H1 p (.ins C dx fs)) q = some o := fun q o e z => by rw [upd_ne z]; exact s1 _ _ e
 generalize upd H1 p (.ins C dx fs) = Hc at *
 have L := Led.start Hc (fun _ => False)
 walk_at "go"
 refine g_ifD (fun z => nomatch z) fun _ => ?_
 walk_at "go"
 refine g_sortS L (SqL.of hac) (by omega) fun lb ms H2 nb pm _ L s2 => ?_
 walk_at "go"
 refine g_tupOfL L (SqL.of (L.eo (p := lb) .head)) fun tr H3 nt L s3 => ?_
 walk_at "go"
 have hp3 := s3 _ _ (s2 _ _ hpc)
 have htr := L.tup (r := tr) (xs := ms.map V.str) (by walk_at "mem")
 have nptr : tr ≠ p := fun z => by rw [z, hp3] at htr; cases htr
 refine ⟨p, C, dx, fs, rfl, hp3, SC.cl, SC.n5, by omega, ?_⟩
 refine q tr ms _ pm (by rw [upd_same, key]) (by rw [upd_ne nptr]; exact htr) fun x o e z => by rw [upd_ne z]; exact s3 _ _ (s2 _ _ (oc x o e z))
theorem use_settings {PP : Addr → Prop} {H0 H : Hp} {l : List (Addr × Ob)} {fs : List Pr} {Q : VK} {E : XK} {a : Addr} {sh : V} {far room term : Int} {ws : List Str} (n : StN far room term) (ha : H a = some (.lst (ws.map V.str))) (hw : RuN ws) (q : ∀ x H', H x = none → StAt C H' x sh far room term ws → Same H H' → Q (.ref x) H') : Made C (spSettings C) E [sh, .int far, .int room, .int term, .ref a] H Q := by
 intro x dx nx nd ne
 have sm0 : ∀ b o, H b = some o → (upd (upd H dx (.own x)) x (.ins C dx [])) b = some o := fun b o e => by rw [upd_ne (ne_of_none e nx), upd_ne (ne_of_none e nd)]; exact e
 refine ⟨x, dx, a, sh, far, room, term, ws, rfl, n, sm0 _ _ ha, hw, upd_same, fun tr ms H' pm h1 h2 h3 => ⟨rfl, ?_⟩⟩
 exact q x H' nx ⟨dx, tr, ms, h1, h2, pm⟩ fun b o e => h3 b o (sm0 _ _ e) (ne_of_none e nx)
theorem sc_hasrule : FnScope ["settings", "word"] ["settings", "word"] (defScope (top 45)) := by walk_at "s"
def spHasRule (C : Addr) : Sp := fun vs H Q _ => ∃ (p : Addr) (sh : V) (far room term : Int) (ws : List Str) (z : Str), vs = [.ref p, .str z] ∧ StAt C H p sh far room term ws ∧ Q (.bl (decide (z ∈ ws))) H
theorem ok_hasrule (D : Dat K mg "has_rule" "has_rule" (top 45) ["settings", "word"]) (SC : StC K C) : Cal P w K mg base CX "has_rule" 1 ["settings", "word"] (spHasRule C) := by
 have S := sc_hasrule
 walk_at "d"
 ·obtain ⟨p, sh, far, room, term, ws, z, rfl, _⟩ := h
  rfl
 obtain ⟨p, sh, far, room, term, ws, z, rfl, ⟨dx, tr, ms, hp, ht, pm⟩, q⟩ := h
 refine ⟨_, (pss_one (ps_ret (pe_cmpR op_in_seq (pv 1) (pe_fld (pv 0) rfl) (by with_unfolding_all rfl)))), ?_⟩
 try dsimp only [cxOf]
 walk_at "go"
 refine ⟨p, C, dx, _, _, rfl, hp, SC.cl, SC.n5, stF_rules sh far room term tr, ?_⟩
 refine g_inT (SqT.of ht) ?_
 rw [show decide (z ∈ ms) = decide (z ∈ ws) from decide_eq_decide.mpr pm.mem_iff]
 exact q
end
end Law

namespace Law
open PySem PySem.Spec PyProof.Rows L2 L3 L4
def tup3 (H : Hp) (t : Addr) (x y z : Int) : Prop := H t = some (.tup [.int x, .int y, .int z])
section
variable {P : Program} {w : World} {K : PySem.W.Frag} {mg : Str → Option Value} {base : Heap} {CX : CXT} {C : Addr}
theorem sc_slot_of : FnScope ["area"] ["area"] (defScope (top 21)) := by walk_at "s"
def spAt0 : Sp := fun vs H Q _ => ∃ (t : Addr) (x y z : Int), vs = [.ref t] ∧ tup3 H t x y z ∧ Q (.int x) H
def spAt1 : Sp := fun vs H Q _ => ∃ (t : Addr) (x y z : Int), vs = [.ref t] ∧ tup3 H t x y z ∧ Q (.int y) H
def spAt2 : Sp := fun vs H Q _ => ∃ (t : Addr) (x y z : Int), vs = [.ref t] ∧ tup3 H t x y z ∧ Q (.int z) H
theorem ok_slot_of (D : Dat K mg "slot_of" "slot_of" (top 21) ["area"]) : Cal P w K mg base CX "slot_of" 1 ["area"] spAt0 := by
 have S := sc_slot_of
 walk_at "d"
 ·obtain ⟨t, x, y, z, rfl, _⟩ := h
  rfl
 obtain ⟨t, x, y, z, rfl, ht, q⟩ := h
 refine ⟨_, (pss_one (ps_ret (pe_ix ix_tup (pv 0) pe_int (fun _ _ => rfl)))), ?_⟩
 dsimp only [cxOf]
 have L := (Led.start H (fun _ => False)).more (tupAt t [.int x, .int y, .int z]) ht
 walk_at "go"
 exact q
theorem sc_first_of : FnScope ["area"] ["area"] (defScope (top 22)) := by walk_at "s"
theorem ok_first_of (D : Dat K mg "first_of" "first_of" (top 22) ["area"]) : Cal P w K mg base CX "first_of" 1 ["area"] spAt1 := by
 have S := sc_first_of
 walk_at "d"
 ·obtain ⟨t, x, y, z, rfl, _⟩ := h
  rfl
 obtain ⟨t, x, y, z, rfl, ht, q⟩ := h
 refine ⟨_, (pss_one (ps_ret (pe_ix ix_tup (pv 0) pe_int (fun _ _ => rfl)))), ?_⟩
 dsimp only [cxOf]
 have L := (Led.start H (fun _ => False)).more (tupAt t [.int x, .int y, .int z]) ht
 walk_at "go"
 exact q
theorem sc_end_of : FnScope ["area"] ["area"] (defScope (top 23)) := by walk_at "s"
theorem ok_end_of (D : Dat K mg "end_of" "end_of" (top 23) ["area"]) : Cal P w K mg base CX "end_of" 1 ["area"] spAt2 := by
 have S := sc_end_of
 walk_at "d"
 ·obtain ⟨t, x, y, z, rfl, _⟩ := h
  rfl
 obtain ⟨t, x, y, z, rfl, ht, q⟩ := h
 refine ⟨_, (pss_one (ps_ret (pe_ix ix_tup (pv 0) pe_int (fun _ _ => rfl)))), ?_⟩
 dsimp only [cxOf]
 have L := (Led.start H (fun _ => False)).more (tupAt t [.int x, .int y, .int z]) ht
 walk_at "go"
 exact q
end
end Law

namespace Law
open PySem PySem.Spec PyProof.Rows L2 L3 L4
inductive Ln
 | took (g sl f e : Int)
 | held (m : Int)
 | heard (m : Int)
 | ends (g e : Int)
inductive LnAt (H : Hp) (t : Addr) : Ln → Prop
 | took {g sl f e : Int} {ar : Addr} (h : H t = some (.tup [.str "took", .int g, .ref ar])) (ha : H ar = some (.tup [.int sl, .int f, .int e])) : LnAt H t (.took g sl f e)
 | held {m : Int} (h : H t = some (.tup [.str "held", .int m])) : LnAt H t (.held m)
 | heard {m : Int} (h : H t = some (.tup [.str "heard", .int m])) : LnAt H t (.heard m)
 | ends {g e : Int} (h : H t = some (.tup [.str "ends", .int g, .int e])) : LnAt H t (.ends g e)
theorem LnAt.ts {H H' : Hp} {t : Addr} {l : Ln} (h : LnAt H t l) (s : TSame H H') : LnAt H' t l := by
 cases h with
 | took h ha => exact .took (s _ _ h) (s _ _ ha)
 | held h => exact .held (s _ _ h)
 | heard h => exact .heard (s _ _ h)
 | ends h => exact .ends (s _ _ h)
theorem LnAt.same {H H' : Hp} {t : Addr} {l : Ln} (h : LnAt H t l) (s : Same H H') : LnAt H' t l := h.ts (ts_of_same s)
def lnD : Ln → Dt
 | .took g sl f e => .tup [.str "took", .int g, .tup [.int sl, .int f, .int e]]
 | .held m => .tup [.str "held", .int m]
 | .heard m => .tup [.str "heard", .int m]
 | .ends g e => .tup [.str "ends", .int g, .int e]
theorem LnAt.at {K : PySem.W.Frag} {H : Hp} {t : Addr} {l : Ln} (h : LnAt H t l) : At K H (.ref t) (lnD l) := by
 cases h with
 | took h ha => exact .tup (SqT.of h) (.cons (.str _) (.cons (.int _) (.cons (.tup (SqT.of ha) (.cons (.int _) (.cons (.int _) (.cons (.int _) .nil)))) .nil)))
 | held h => exact .tup (SqT.of h) (.cons (.str _) (.cons (.int _) .nil))
 | heard h => exact .tup (SqT.of h) (.cons (.str _) (.cons (.int _) .nil))
 | ends h => exact .tup (SqT.of h) (.cons (.str _) (.cons (.int _) (.cons (.int _) .nil)))
theorem ln_dep (l : Ln) : dep (lnD l) ≤ 2 := by
 cases l <;> simp [lnD, dep, deps]
abbrev Lns := List (Addr × Ln)
def lnV (ls : Lns) : List V := ls.map fun x => .ref x.1
def LnsAt (H : Hp) (ls : Lns) : Prop := ∀ x ∈ ls, LnAt H x.1 x.2
theorem LnsAt.ts {H H' : Hp} {ls : Lns} (h : LnsAt H ls) (s : TSame H H') : LnsAt H' ls := fun x hx => (h x hx).ts s
theorem LnsAt.same {H H' : Hp} {ls : Lns} (h : LnsAt H ls) (s : Same H H') : LnsAt H' ls := fun x hx => (h x hx).same s
theorem lns_ats {K : PySem.W.Frag} {H : Hp} : ∀ {ls : Lns}, LnsAt H ls → Ats K H (lnV ls) (ls.map fun x => lnD x.2)
 | [], _ => .nil
 | x :: ls, h => .cons (h x List.mem_cons_self).at (lns_ats fun y hy => h y (List.mem_cons_of_mem _ hy))
theorem lns_dep : ∀ (ls : Lns), deps (ls.map fun x => lnD x.2) ≤ 2
 | [] => Nat.zero_le _
 | x :: ls => by
  rw [List.map_cons, deps]
  exact Nat.max_le.mpr ⟨ln_dep x.2, lns_dep ls⟩
theorem lns_at {K : PySem.W.Frag} {H : Hp} {ls : Lns} {a : Addr} (s : SqL K H a (lnV ls)) (h : LnsAt H ls) : At K H (.ref a) (.lst (ls.map fun x => lnD x.2)) := .lst s (lns_ats h)
theorem lns_dep' (ls : Lns) : dep (.lst (ls.map fun x => lnD x.2)) ≤ 100 := by
 rw [dep]; have := lns_dep ls; omega
theorem lnV_len (ls : Lns) : (lnV ls).length = ls.length := List.length_map ..
theorem lnV_get {ls : Lns} {i : Nat} {v : V} (h : (lnV ls)[i]? = some v) : ∃ x, ls[i]? = some x ∧ v = .ref x.1 := by
 unfold lnV at h
 rw [List.getElem?_map] at h
 cases e : ls[i]? with
 | none => rw [e] at h; cases h
 | some x => rw [e] at h; cases h; exact ⟨x, rfl, rfl⟩
theorem lnV_snoc {ls : Lns} {x : Addr × Ln} : lnV (ls ++ [x]) = lnV ls ++ [.ref x.1] := by
 unfold lnV; rw [List.map_append]; rfl
theorem take_snoc {α : Type} {gs : List α} {i : Nat} {x : α} (h : gs[i]? = some x) : gs.take (i + 1) = gs.take i ++ [x] := by
 rw [List.take_add_one, h]; rfl
structure Nt where
 g : Int
 ar : Option (Int × Int × Int)
 hd : Int
 hr : Int
def Nt.nil : Nt := ⟨0, none, 0, 0⟩
def Nt.step (n : Nt) : Ln → Nt
 | .took g sl f e => ⟨g, some (sl, f, e), n.hd, n.hr⟩
 | .held m => ⟨n.g, n.ar, max n.hd m, n.hr⟩
 | .heard m => ⟨n.g, n.ar, n.hd, max n.hr m⟩
 | .ends g e => if g = n.g then ⟨n.g, n.ar.map fun x => (x.1, x.2.1, min x.2.2 e), n.hd, n.hr⟩ else n
def foldN (n : Nt) (ls : Lns) : Nt := ls.foldl (fun n x => n.step x.2) n
theorem step_ends (n : Nt) (g e : Int) : n.step (.ends g e) = if g = n.g then ⟨n.g, n.ar.map fun x => (x.1, x.2.1, min x.2.2 e), n.hd, n.hr⟩ else n := rfl
theorem foldN_snoc {n : Nt} {ls : Lns} {i : Nat} {x : Addr × Ln} (h : ls[i]? = some x) : foldN n (ls.take (i + 1)) = (foldN n (ls.take i)).step x.2 := by
 unfold foldN
 rw [take_snoc h, List.foldl_append]; rfl
theorem flt_yes {α : Type} {p : α → Bool} {xs : List α} {i : Nat} {x : α} (h : xs[i]? = some x) (b : p x = true) : (xs.take (i + 1)).filter p = (xs.take i).filter p ++ [x] := by
 rw [take_snoc h, List.filter_append, List.filter_cons_of_pos (by exact b), List.filter_nil]
theorem flt_no {α : Type} {p : α → Bool} {xs : List α} {i : Nat} {x : α} (h : xs[i]? = some x) (b : p x = false) : (xs.take (i + 1)).filter p = (xs.take i).filter p := by
 rw [take_snoc h, List.filter_append, List.filter_cons_of_neg (by rw [b]; exact Bool.false_ne_true), List.filter_nil, List.append_nil]
def isT (x : Addr × Ln) : Bool := match x.2 with
 | .took .. => true
 | _ => false
def gOf (x : Addr × Ln) : Int := match x.2 with
 | .took g .. => g
 | _ => 0
def gts (ls : Lns) : List Int := (ls.filter isT).map gOf
theorem fmax_facts : ∀ (T : List Int) (z : Int), z ≤ T.foldl max z ∧ (∀ a ∈ T, a ≤ T.foldl max z) ∧ (T.foldl max z = z ∨ T.foldl max z ∈ T)
 | [], z => ⟨Int.le_refl _, (fun _ h => by simp at h), .inl rfl⟩
 | x :: T, z => by
  obtain ⟨h1, h2, h3⟩ := fmax_facts T (max z x)
  rw [List.foldl_cons]
  refine ⟨by omega, fun a ha => ?_, ?_⟩
  ·rcases List.mem_cons.mp ha with rfl | ha
   ·omega
   ·exact h2 a ha
  ·rcases h3 with h3 | h3
   ·by_cases c : z ≤ x
    ·exact .inr (by rw [h3, show max z x = x by omega]; exact List.mem_cons_self)
    ·exact .inl (by rw [h3]; omega)
   ·exact .inr (List.mem_cons_of_mem _ h3)
theorem fmax_eq {T : List Int} {z M : Int} (h1 : M = z ∨ M ∈ T) (h2 : ∀ a ∈ T, a ≤ M) (h3 : z ≤ M) : T.foldl max z = M := by
 obtain ⟨k1, k2, k3⟩ := fmax_facts T z
 refine Int.le_antisymm ?_ ?_
 ·rcases k3 with k | k
  ·omega
  ·exact h2 _ k
 ·rcases h1 with rfl | h
  ·exact k1
  ·exact k2 _ h
def GoodL : Ln → Prop
 | .took g _ _ _ => 1 ≤ g
 | .ends g _ => 1 ≤ g
 | _ => True
def GoodLs (ls : Lns) : Prop := ∀ x ∈ ls, GoodL x.2
structure NtOk (n : Nt) : Prop where
 no : n.ar = none → n.g = 0
 yes : n.ar.isSome = true → 1 ≤ n.g
theorem Nt.ok_step {n : Nt} {l : Ln} (h : NtOk n) (g : GoodL l) : NtOk (n.step l) := by
 cases l with
 | took g' sl f e => exact ⟨(fun z => by cases z), fun _ => g⟩
 | held m => exact ⟨h.no, h.yes⟩
 | heard m => exact ⟨h.no, h.yes⟩
 | ends g' e =>
  rw [step_ends]
  by_cases c : g' = n.g
  ·rw [if_pos c]
   exact ⟨fun z => h.no (Option.map_eq_none_iff.mp z), fun z => h.yes (by simpa using z)⟩
  ·rw [if_neg c]; exact h
theorem foldN_ok : ∀ {ls : Lns} {n : Nt}, NtOk n → GoodLs ls → NtOk (foldN n ls)
 | [], _, h, _ => h
 | x :: ls, n, h, g => foldN_ok (ls := ls) (Nt.ok_step h (g x List.mem_cons_self)) fun y hy => g y (List.mem_cons_of_mem _ hy)
theorem ok_nil : NtOk Nt.nil := ⟨fun _ => rfl, fun z => by cases z⟩
def NtAt (K : PySem.W.Frag) (H : Hp) (t : Addr) (n : Nt) : Prop := ∃ v, SqT K H t [.int n.g, v, .int n.hd, .int n.hr] ∧ ((n.ar = none ∧ v = .non) ∨ ∃ (a : Addr) (sl f e : Int), n.ar = some (sl, f, e) ∧ v = .ref a ∧ H a = some (.tup [.int sl, .int f, .int e]))
theorem same_sqT {K : PySem.W.Frag} {H H' : Hp} {a : Addr} {xs : List V} (e : Same H H') (h : SqT K H a xs) : SqT K H' a xs := by
 rcases h with (h | ⟨o, h⟩) | h
 ·exact .inl (.inl (e _ _ h))
 ·exact .inl (.inr ⟨o, e _ _ h⟩)
 ·exact .inr h
theorem NtAt.same {K : PySem.W.Frag} {H H' : Hp} {t : Addr} {n : Nt} (h : NtAt K H t n) (s : Same H H') : NtAt K H' t n := by
 obtain ⟨v, hs, hv⟩ := h
 refine ⟨v, same_sqT s hs, ?_⟩
 rcases hv with z | ⟨a, sl, f, e, ea, ev, ha⟩
 ·exact .inl z
 ·exact .inr ⟨a, sl, f, e, ea, ev, s _ _ ha⟩
section
variable {P : Program} {w : World} {K : PySem.W.Frag} {mg : Str → Option Value} {base : Heap} {CX : CXT}
theorem sc_ended : FnScope ["area", "end"] ["area", "end"] (defScope (top 24)) := by walk_at "s"
def spEnded : Sp := fun vs H Q _ => ∃ (t : Addr) (sl f e x : Int), vs = [.ref t, .int x] ∧ tup3 H t sl f e ∧ ∀ t' H', H' t' = some (.tup [.int sl, .int f, .int x]) → Same H H' → Q (.ref t') H'
theorem ok_ended (D : Dat K mg "ended_at" "ended_at" (top 24) ["area", "end"]) (NE : NoErr CX) (c_slot_of : Cal P w K mg base CX "slot_of" 1 ["area"] spAt0) (c_first_of : Cal P w K mg base CX "first_of" 1 ["area"] spAt1) : Cal P w K mg base CX "ended_at" 2 ["area", "end"] spEnded := by
 have S := sc_ended
 walk_at "d"
 ·obtain ⟨t, sl, f, e, x, rfl, _⟩ := h
  rfl
 obtain ⟨t, sl, f', e, x, rfl, ht, q⟩ := h
 refine ⟨_, (pss_one (ps_ret (pe_tup (pa_cons (pe_fn c_slot_of (hr.mono (by first | decide | omega)) NE.pass (pa_cons (pv 0) pa_nil)) (pa_cons (pe_fn c_first_of (hr.mono (by first | decide | omega)) NE.pass (pa_cons (pv 0) pa_nil)) (pa_cons (pv 1) pa_nil)))))), ?_⟩
 try dsimp only [cxOf]
 have L := Led.start H (fun _ => False)
 walk_at "go"
 refine ⟨t, _, _, _, rfl, ht, ?_⟩
 walk_at "go"
 refine ⟨t, _, _, _, rfl, ht, ?_⟩
 walk_at "go"
 exact q _ _ (L'.tup (by walk_at "mem")) L'.same
theorem sc_readon : FnScope ["told", "line"] ["told", "line"] (defScope (top 33)) := by walk_at "s"
def spReadOn (K : PySem.W.Frag) : Sp := fun vs H Q _ => ∃ (t l : Addr) (n : Nt) (ln : Ln), vs = [.ref t, .ref l] ∧ NtAt K H t n ∧ NtOk n ∧ LnAt H l ln ∧ GoodL ln ∧ ∀ t' H', NtAt K H' t' (n.step ln) → Same H H' → Q (.ref t') H'
theorem ok_readon (D : Dat K mg "read_on" "read_on" (top 33) ["told", "line"]) (BT : Bt mg) (NE : NoErr CX) (c_end_of : Cal P w K mg base CX "end_of" 1 ["area"] spAt2) (c_ended_at : Cal P w K mg base CX "ended_at" 2 ["area", "end"] spEnded) : Cal P w K mg base CX "read_on" 3 ["told", "line"] (spReadOn K) := by
 have S := sc_readon
 walk_at "d"
 ·obtain ⟨t, l, n, ln, rfl, _⟩ := h
  rfl
 obtain ⟨t, l, n, ln, rfl, hn, hok, hl, hg, q⟩ := h
 refine ⟨_, (@pss_cons _ _ _ _ _ (@ps_if _ _ _ _ _ _ _ _ (@pt_cmpR _ _ _ _ _ _ _ _ (@op_eq _) (@pe_ix _ _ _ _ _ _ _ (@ix_tup _) (@pv _ 1 _ _ (by rfl) (by first | exact Or.inl rfl | exact Or.inr (Or.inl rfl) | exact Or.inr (Or.inr rfl)) (by decide) (by decide)) (@pe_int _ _ _ _) (fun _ _ => rfl)) (@pe_str _ _ _ _) (@nomark _ _ (by decide) (by decide))) (@pss_one _ _ _ (@ps_ret _ _ _ _ (@pe_tup _ _ _ _ _ (@pa_cons _ _ _ _ _ (@pe_ix _ _ _ _ _ _ _ (@ix_tup _) (@pv _ 1 _ _ (by rfl) (by first | exact Or.inl rfl | exact Or.inr (Or.inl rfl) | exact Or.inr (Or.inr rfl)) (by decide) (by decide)) (@pe_int _ _ _ _) (fun _ _ => rfl)) (@pa_cons _ _ _ _ _ (@pe_ix _ _ _ _ _ _ _ (@ix_tup _) (@pv _ 1 _ _ (by rfl) (by first | exact Or.inl rfl | exact Or.inr (Or.inl rfl) | exact Or.inr (Or.inr rfl)) (by decide) (by decide)) (@pe_int _ _ _ _) (fun _ _ => rfl)) (@pa_cons _ _ _ _ _ (@pe_ix _ _ _ _ _ _ _ (@ix_tup _) (@pv _ 0 _ _ (by rfl) (by first | exact Or.inl rfl | exact Or.inr (Or.inl rfl) | exact Or.inr (Or.inr rfl)) (by decide) (by decide)) (@pe_int _ _ _ _) (fun _ _ => rfl)) (@pa_cons _ _ _ _ _ (@pe_ix _ _ _ _ _ _ _ (@ix_tup _) (@pv _ 0 _ _ (by rfl) (by first | exact Or.inl rfl | exact Or.inr (Or.inl rfl) | exact Or.inr (Or.inr rfl)) (by decide) (by decide)) (@pe_int _ _ _ _) (fun _ _ => rfl)) (@pa_nil _) (by rfl)) (by rfl)) (by rfl)) (by rfl))))) (@pss_nil _)) (@pss_cons _ _ _ _ _ (@ps_if _ _ _ _ _ _ _ _ (@pt_cmpR _ _ _ _ _ _ _ _ (@op_eq _) (@pe_ix _ _ _ _ _ _ _ (@ix_tup _) (@pv _ 1 _ _ (by rfl) (by first | exact Or.inl rfl | exact Or.inr (Or.inl rfl) | exact Or.inr (Or.inr rfl)) (by decide) (by decide)) (@pe_int _ _ _ _) (fun _ _ => rfl)) (@pe_str _ _ _ _) (@nomark _ _ (by decide) (by decide))) (@pss_one _ _ _ (@ps_ret _ _ _ _ (@pe_tup _ _ _ _ _ (@pa_cons _ _ _ _ _ (@pe_ix _ _ _ _ _ _ _ (@ix_tup _) (@pv _ 0 _ _ (by rfl) (by first | exact Or.inl rfl | exact Or.inr (Or.inl rfl) | exact Or.inr (Or.inr rfl)) (by decide) (by decide)) (@pe_int _ _ _ _) (fun _ _ => rfl)) (@pa_cons _ _ _ _ _ (@pe_ix _ _ _ _ _ _ _ (@ix_tup _) (@pv _ 0 _ _ (by rfl) (by first | exact Or.inl rfl | exact Or.inr (Or.inl rfl) | exact Or.inr (Or.inr rfl)) (by decide) (by decide)) (@pe_int _ _ _ _) (fun _ _ => rfl)) (@pa_cons _ _ _ _ _ (@pe_callB _ _ _ _ _ _ _ _ _ (@c_max _ rfl) rfl BT.max L3.bt_max (@pa_cons _ _ _ _ _ (@pe_ix _ _ _ _ _ _ _ (@ix_tup _) (@pv _ 0 _ _ (by rfl) (by first | exact Or.inl rfl | exact Or.inr (Or.inl rfl) | exact Or.inr (Or.inr rfl)) (by decide) (by decide)) (@pe_int _ _ _ _) (fun _ _ => rfl)) (@pa_cons _ _ _ _ _ (@pe_ix _ _ _ _ _ _ _ (@ix_tup _) (@pv _ 1 _ _ (by rfl) (by first | exact Or.inl rfl | exact Or.inr (Or.inl rfl) | exact Or.inr (Or.inr rfl)) (by decide) (by decide)) (@pe_int _ _ _ _) (fun _ _ => rfl)) (@pa_nil _) (by rfl)) (by rfl)) (by decide) (by decide) (by rfl) (by rfl)) (@pa_cons _ _ _ _ _ (@pe_ix _ _ _ _ _ _ _ (@ix_tup _) (@pv _ 0 _ _ (by rfl) (by first | exact Or.inl rfl | exact Or.inr (Or.inl rfl) | exact Or.inr (Or.inr rfl)) (by decide) (by decide)) (@pe_int _ _ _ _) (fun _ _ => rfl)) (@pa_nil _) (by rfl)) (by rfl)) (by rfl)) (by rfl))))) (@pss_nil _)) (@pss_cons _ _ _ _ _ (@ps_if _ _ _ _ _ _ _ _ (@pt_cmpR _ _ _ _ _ _ _ _ (@op_eq _) (@pe_ix _ _ _ _ _ _ _ (@ix_tup _) (@pv _ 1 _ _ (by rfl) (by first | exact Or.inl rfl | exact Or.inr (Or.inl rfl) | exact Or.inr (Or.inr rfl)) (by decide) (by decide)) (@pe_int _ _ _ _) (fun _ _ => rfl)) (@pe_str _ _ _ _) (@nomark _ _ (by decide) (by decide))) (@pss_one _ _ _ (@ps_ret _ _ _ _ (@pe_tup _ _ _ _ _ (@pa_cons _ _ _ _ _ (@pe_ix _ _ _ _ _ _ _ (@ix_tup _) (@pv _ 0 _ _ (by rfl) (by first | exact Or.inl rfl | exact Or.inr (Or.inl rfl) | exact Or.inr (Or.inr rfl)) (by decide) (by decide)) (@pe_int _ _ _ _) (fun _ _ => rfl)) (@pa_cons _ _ _ _ _ (@pe_ix _ _ _ _ _ _ _ (@ix_tup _) (@pv _ 0 _ _ (by rfl) (by first | exact Or.inl rfl | exact Or.inr (Or.inl rfl) | exact Or.inr (Or.inr rfl)) (by decide) (by decide)) (@pe_int _ _ _ _) (fun _ _ => rfl)) (@pa_cons _ _ _ _ _ (@pe_ix _ _ _ _ _ _ _ (@ix_tup _) (@pv _ 0 _ _ (by rfl) (by first | exact Or.inl rfl | exact Or.inr (Or.inl rfl) | exact Or.inr (Or.inr rfl)) (by decide) (by decide)) (@pe_int _ _ _ _) (fun _ _ => rfl)) (@pa_cons _ _ _ _ _ (@pe_callB _ _ _ _ _ _ _ _ _ (@c_max _ rfl) rfl BT.max L3.bt_max (@pa_cons _ _ _ _ _ (@pe_ix _ _ _ _ _ _ _ (@ix_tup _) (@pv _ 0 _ _ (by rfl) (by first | exact Or.inl rfl | exact Or.inr (Or.inl rfl) | exact Or.inr (Or.inr rfl)) (by decide) (by decide)) (@pe_int _ _ _ _) (fun _ _ => rfl)) (@pa_cons _ _ _ _ _ (@pe_ix _ _ _ _ _ _ _ (@ix_tup _) (@pv _ 1 _ _ (by rfl) (by first | exact Or.inl rfl | exact Or.inr (Or.inl rfl) | exact Or.inr (Or.inr rfl)) (by decide) (by decide)) (@pe_int _ _ _ _) (fun _ _ => rfl)) (@pa_nil _) (by rfl)) (by rfl)) (by decide) (by decide) (by rfl) (by rfl)) (@pa_nil _) (by rfl)) (by rfl)) (by rfl)) (by rfl))))) (@pss_nil _)) (@pss_cons _ _ _ _ _ (@ps_if _ _ _ _ _ _ _ _ (@pt_cmpR _ _ _ _ _ _ _ _ (@op_ne _) (@pe_ix _ _ _ _ _ _ _ (@ix_tup _) (@pv _ 1 _ _ (by rfl) (by first | exact Or.inl rfl | exact Or.inr (Or.inl rfl) | exact Or.inr (Or.inr rfl)) (by decide) (by decide)) (@pe_int _ _ _ _) (fun _ _ => rfl)) (@pe_ix _ _ _ _ _ _ _ (@ix_tup _) (@pv _ 0 _ _ (by rfl) (by first | exact Or.inl rfl | exact Or.inr (Or.inl rfl) | exact Or.inr (Or.inr rfl)) (by decide) (by decide)) (@pe_int _ _ _ _) (fun _ _ => rfl)) (@nomark _ _ (by decide) (by decide))) (@pss_one _ _ _ (@ps_ret _ _ _ _ (@pv _ 0 _ _ (by rfl) (by first | exact Or.inl rfl | exact Or.inr (Or.inl rfl) | exact Or.inr (Or.inr rfl)) (by decide) (by decide)))) (@pss_nil _)) (@pss_one _ _ _ (@ps_ret _ _ _ _ (@pe_tup _ _ _ _ _ (@pa_cons _ _ _ _ _ (@pe_ix _ _ _ _ _ _ _ (@ix_tup _) (@pv _ 0 _ _ (by rfl) (by first | exact Or.inl rfl | exact Or.inr (Or.inl rfl) | exact Or.inr (Or.inr rfl)) (by decide) (by decide)) (@pe_int _ _ _ _) (fun _ _ => rfl)) (@pa_cons _ _ _ _ _ (@pe_fn _ _ _ _ _ _ _ _ _ _ _ _ c_ended_at (hr.mono (by first | decide | omega)) NE.pass (@pa_cons _ _ _ _ _ (@pe_ix _ _ _ _ _ _ _ (@ix_tup _) (@pv _ 0 _ _ (by rfl) (by first | exact Or.inl rfl | exact Or.inr (Or.inl rfl) | exact Or.inr (Or.inr rfl)) (by decide) (by decide)) (@pe_int _ _ _ _) (fun _ _ => rfl)) (@pa_cons _ _ _ _ _ (@pe_callB _ _ _ _ _ _ _ _ _ (@c_min _ rfl) rfl BT.min L3.bt_min (@pa_cons _ _ _ _ _ (@pe_fn _ _ _ _ _ _ _ _ _ _ _ _ c_end_of (hr.mono (by first | decide | omega)) NE.pass (@pa_cons _ _ _ _ _ (@pe_ix _ _ _ _ _ _ _ (@ix_tup _) (@pv _ 0 _ _ (by rfl) (by first | exact Or.inl rfl | exact Or.inr (Or.inl rfl) | exact Or.inr (Or.inr rfl)) (by decide) (by decide)) (@pe_int _ _ _ _) (fun _ _ => rfl)) (@pa_nil _) (by rfl)) (by rfl) (by decide) (by rfl) (by rfl)) (@pa_cons _ _ _ _ _ (@pe_ix _ _ _ _ _ _ _ (@ix_tup _) (@pv _ 1 _ _ (by rfl) (by first | exact Or.inl rfl | exact Or.inr (Or.inl rfl) | exact Or.inr (Or.inr rfl)) (by decide) (by decide)) (@pe_int _ _ _ _) (fun _ _ => rfl)) (@pa_nil _) (by rfl)) (by rfl)) (by decide) (by decide) (by rfl) (by rfl)) (@pa_nil _) (by rfl)) (by rfl)) (by rfl) (by decide) (by rfl) (by rfl)) (@pa_cons _ _ _ _ _ (@pe_ix _ _ _ _ _ _ _ (@ix_tup _) (@pv _ 0 _ _ (by rfl) (by first | exact Or.inl rfl | exact Or.inr (Or.inl rfl) | exact Or.inr (Or.inr rfl)) (by decide) (by decide)) (@pe_int _ _ _ _) (fun _ _ => rfl)) (@pa_cons _ _ _ _ _ (@pe_ix _ _ _ _ _ _ _ (@ix_tup _) (@pv _ 0 _ _ (by rfl) (by first | exact Or.inl rfl | exact Or.inr (Or.inl rfl) | exact Or.inr (Or.inr rfl)) (by decide) (by decide)) (@pe_int _ _ _ _) (fun _ _ => rfl)) (@pa_nil _) (by rfl)) (by rfl)) (by rfl)) (by rfl))))))))), ?_⟩
 try dsimp only [cxOf]
 obtain ⟨v, hs, hv⟩ := id hn
 have x1 : ¬ (("held" : Str) = "took") := by decide +kernel
 have x2 : ¬ (("heard" : Str) = "took") := by decide +kernel
 have x3 : ¬ (("ends" : Str) = "took") := by decide +kernel
 have x4 : ¬ (("heard" : Str) = "held") := by decide +kernel
 have x5 : ¬ (("ends" : Str) = "held") := by decide +kernel
 have x6 : ¬ (("ends" : Str) = "heard") := by decide +kernel
 cases hl with
 | took h ha =>
  have L := (Led.start H (fun _ => False)).more (tupAt l [_, _, _]) h
  walk_at "go"
  exact q _ _ ⟨_, SqT.of (L'.tup (by walk_at "mem")), .inr ⟨_, _, _, _, rfl, rfl, L'.same _ _ ha⟩⟩ L'.same
 | held h =>
  have L := (Led.start H (fun _ => False)).more (tupAt l [_, _]) h
  walk_at "go"
  refine q _ _ ⟨v, SqT.of (L'.tup (by walk_at "mem")), ?_⟩ L'.same
  rcases hv with z | ⟨a, sl, f', e, ea, ev, ha⟩
  ·exact .inl z
  ·exact .inr ⟨a, sl, f', e, ea, ev, L'.same _ _ ha⟩
 | heard h =>
  have L := (Led.start H (fun _ => False)).more (tupAt l [_, _]) h
  walk_at "go"
  refine q _ _ ⟨v, SqT.of (L'.tup (by walk_at "mem")), ?_⟩ L'.same
  rcases hv with z | ⟨a, sl, f', e, ea, ev, ha⟩
  ·exact .inl z
  ·exact .inr ⟨a, sl, f', e, ea, ev, L'.same _ _ ha⟩
 | @ends g' e' h =>
  have L := (Led.start H (fun _ => False)).more (tupAt l [_, _, _]) h
  have g1 : 1 ≤ g' := hg
  rw [step_ends] at q
  walk_at "go"
  refine g_ifN (fun z => ?_) (fun z => ?_)
  ·rw [if_pos z] at q
   rcases hv with ⟨e, rfl⟩ | ⟨a, sl, f', e, ea, rfl, ha⟩
   ·exact absurd (hok.no e) (by omega)
   rw [ea] at q
   walk_at "go"
   refine ⟨a, _, _, _, rfl, ha, ?_⟩
   walk_at "go"
   refine ⟨a, _, _, _, _, rfl, ha, fun t2 H2 ht2 s2 => ?_⟩
   have hs2 := same_sqT s2 hs
   have M := (Led.start H2 (fun _ => False)).more (tupAt t2 [_, _, _]) ht2
   clear L
   walk_at "go"
   exact q _ _ ⟨_, SqT.of (L'.tup (by walk_at "mem")), .inr ⟨t2, sl, f', _, rfl, rfl, L'.tup (r := t2) (by walk_at "mem")⟩⟩ (s2.trans L'.same)
  ·rw [if_neg z] at q
   walk_at "go"
   exact q _ _ hn (Same.refl _)
theorem sc_rnote : FnScope ["lines", "told", "line"] ["lines"] (defScope (top 34)) := by walk_at "s"
def spRNote (K : PySem.W.Frag) : Sp := fun vs H Q _ => ∃ (a : Addr) (ls : Lns), vs = [.ref a] ∧ SqL K H a (lnV ls) ∧ LnsAt H ls ∧ GoodLs ls ∧ ∀ t H', NtAt K H' t (foldN Nt.nil ls) → Same H H' → Q (.ref t) H'
theorem ok_rnote {aN : Addr} (D : Dat K mg "read_note" "read_note" (top 34) ["lines"]) (NE : NoErr CX) (g_NOTHING : GlV mg "NOTHING" (.ref aN)) (hN : ∀ H, SqT K H aN [.int 0, .non, .int 0, .int 0]) (c_read_on : Cal P w K mg base CX "read_on" 3 ["told", "line"] (spReadOn K)) : Cal P w K mg base CX "read_note" 4 ["lines"] (spRNote K) := by
 have S := sc_rnote
 walk_at "d"
 ·obtain ⟨a, ls, rfl, _⟩ := h
  rfl
 obtain ⟨a, ls, rfl, hS, hL, hg, q⟩ := h
 refine ⟨_, (pss_cons (ps_set (i := 1) S.nd rfl (by first | exact Or.inl rfl | exact Or.inr rfl) (pe_g g_NOTHING))
   (pss_cons (ps_for PassesOwn.never rfl (pi_list (pv 0)) (pg_name (i := 2) S.nd rfl (by first | exact Or.inl rfl | exact Or.inr rfl)) (pss_one (ps_set (i := 1) S.nd rfl (by first | exact Or.inl rfl | exact Or.inr rfl) (pe_fn c_read_on (hr.mono (by first | decide | omega)) NE.pass (pa_cons (pv 1) (pa_cons (pv 2) pa_nil))))))
   (pss_one (ps_ret (pv 1))))), ?_⟩
 try dsimp only [cxOf]
 walk_at "go"
 refine g_wkLv hS ?_
 refine g_forL (lnV ls) (fun i σ H' => ∃ (t : Addr) (u2 : Option V), σ = [some (.ref a), some (.ref t), u2] ∧ NtAt K H' t (foldN Nt.nil (ls.take i)) ∧ Same H H') ⟨aN, _, rfl, ⟨.non, hN H, .inl ⟨rfl, rfl⟩⟩, Same.refl _⟩ (fun i σ H' _ ⟨_, _, _, _, sm⟩ => sm.seq hS) ?_ ?_
 ·rintro i v σ HG hv ⟨t, u2, rfl, hn, sm⟩
  obtain ⟨x, hx, rfl⟩ := lnV_get hv
  have xm := List.mem_of_getElem? hx
  try dsimp only [gName]
  walk_at "go"
  refine ⟨t, x.1, _, x.2, rfl, hn, foldN_ok ok_nil fun y hy => hg y (List.mem_of_mem_take hy), (hL x xm).same sm, hg x xm, fun t2 H2 hn2 s2 => ?_⟩
  walk_at "go"
  exact ⟨t2, _, rfl, by rw [foldN_snoc hx]; exact hn2, sm.trans s2⟩
 ·rintro σ HG ⟨t, u2, rfl, hn, sm⟩
  rw [lnV_len, List.take_length] at hn
  walk_at "go"
  exact q _ _ hn sm
theorem sc_tooks : FnScope ["lines"] ["lines"] (defScope (top 36)) := by walk_at "s"
def spTooks (K : PySem.W.Frag) : Sp := fun vs H Q _ => ∃ (a : Addr) (ls : Lns), vs = [.ref a] ∧ SqL K H a (lnV ls) ∧ LnsAt H ls ∧ ls.length ≤ 100 ∧ ∀ l H', H l = none → H' l = some (.lst (lnV (ls.filter isT))) → Same H H' → Q (.ref l) H'
theorem isT_cases {H : Hp} {x : Addr × Ln} (h : LnAt H x.1 x.2) : (isT x = true ∧ ∃ g ar, H x.1 = some (.tup [.str "took", .int g, .ref ar]) ∧ gOf x = g) ∨ (isT x = false ∧ ∃ w v, ¬ (w = ("took" : Str)) ∧ H x.1 = some (.tup (.str w :: v))) := by
 obtain ⟨t, l⟩ := x
 cases h with
 | took h ha => exact .inl ⟨rfl, _, _, h, rfl⟩
 | held h => exact .inr ⟨rfl, _, _, by decide +kernel, h⟩
 | heard h => exact .inr ⟨rfl, _, _, by decide +kernel, h⟩
 | ends h => exact .inr ⟨rfl, _, _, by decide +kernel, h⟩
theorem at_zero {v : V} {xs : List V} : atI (v :: xs) 0 = some v := atI_nat (j := 0) rfl
theorem ok_tooks (D : Dat K mg "tooks_of" "tooks_of" (top 36) ["lines"]) : Cal P w K mg base CX "tooks_of" 2 ["lines"] (spTooks K) := by
 have S := sc_tooks
 walk_at "d"
 ·obtain ⟨a, ls, rfl, _⟩ := h
  rfl
 obtain ⟨a, ls, rfl, hS, hL, h100, q⟩ := h
 refine ⟨_, (pss_one (ps_ret (pe_comp (g := (gName 0)) rfl (pi_list (pv 0)) (blk_of (own := ["line"]) (cap := []) (defScope (top 36)).names ["lines"] rfl rfl rfl (by decide +kernel)) (fun _ _ _ _ => (pg_name (i := 0) (show (blkN ["lines"] ["line"] []).Nodup by decide +kernel) rfl (by first | exact Or.inl rfl | exact Or.inr rfl))) (fun _ _ _ _ => pifs_one (pt_cmpR op_eq (pe_ix (ix_tupK (K := K) rfl) (pv 0) pe_int (fun _ _ => rfl)) pe_str (nomark _))) (fun _ _ _ _ => (pv 0))))), ?_⟩
 try dsimp only [cxOf]
 walk_at "go"
 refine g_wkLv hS ?_
 refine g_compL (lnV ls) (fun i ys H' => ys = lnV ((ls.take i).filter isT) ∧ H' = H) ⟨rfl, rfl⟩ (fun i ys H' hi ⟨e, e2⟩ => ⟨e2 ▸ hS, by
  rw [e, lnV_len]
  have h1 := List.length_filter_le isT (ls.take i)
  rw [List.length_take] at h1
  exact Nat.le_of_lt (small1000 (by omega))⟩) ?_ ?_
 ·rintro i v ys H1 hv ⟨rfl, rfl⟩
  obtain ⟨x, hx, rfl⟩ := lnV_get hv
  try dsimp only [gName]
  rcases isT_cases (hL x (List.mem_of_getElem? hx)) with ⟨b, g, ar, ht, _⟩ | ⟨b, wd, vs, nw, ht⟩
  ·have L := (Led.start H1 (fun _ => False)).more (tupAt x.1 [_, _, _]) ht
   walk_at "go"
   exact ⟨by rw [flt_yes hx b, lnV_snoc], rfl⟩
  ·walk_at "go"
   refine g_ixTq (SqT.of ht) at_zero ?_
   walk_at "go"
   exact ⟨by rw [flt_no hx b], rfl⟩
 ·rintro ys H1 ⟨rfl, rfl⟩ lc nlc
  rw [lnV_len, List.take_length]
  exact q _ _ nlc upd_same (same_new nlc _)
theorem sc_greatest : FnScope ["lines"] ["lines"] (defScope (top 37)) := by walk_at "s"
def spGreatest (K : PySem.W.Frag) : Sp := fun vs H Q _ => ∃ (a : Addr) (ls : Lns), vs = [.ref a] ∧ SqL K H a (lnV ls) ∧ LnsAt H ls ∧ GoodLs ls ∧ ls.length ≤ 100 ∧ ∀ H', Same H H' → Q (.int ((gts ls).foldl max 0)) H'
theorem gts_pos {ls : Lns} (h : GoodLs ls) : ∀ a ∈ gts ls, 1 ≤ a := fun a ha => by
 obtain ⟨x, hx, rfl⟩ := List.mem_map.mp ha
 obtain ⟨hm, hb⟩ := List.mem_filter.mp hx
 have := h x hm
 obtain ⟨t, l⟩ := x
 cases l with
 | took g sl f e => exact this
 | held m => cases hb
 | heard m => cases hb
 | ends g e => cases hb
theorem ok_greatest (D : Dat K mg "greatest_taken" "greatest_taken" (top 37) ["lines"]) (BT : Bt mg) (NE : NoErr CX) (c_tooks_of : Cal P w K mg base CX "tooks_of" 2 ["lines"] (spTooks K)) : Cal P w K mg base CX "greatest_taken" 3 ["lines"] (spGreatest K) := by
 have S := sc_greatest
 walk_at "d"
 ·obtain ⟨a, ls, rfl, _⟩ := h
  rfl
 obtain ⟨a, ls, rfl, hS, hL, hg, h100, q⟩ := h
 refine ⟨_, (pss_one (ps_ret (pe_maxd rfl rfl BT.max (pe_comp (g := (gName 0)) rfl (pi_list (pe_fn c_tooks_of (hr.mono (by first | decide | omega)) NE.pass (pa_cons (pv 0) pa_nil))) (blk_of (own := ["line"]) (cap := []) (defScope (top 37)).names ["lines"] rfl rfl rfl (by decide +kernel)) (fun _ _ _ _ => (pg_name (i := 0) (show (blkN ["lines"] ["line"] []).Nodup by decide +kernel) rfl (by first | exact Or.inl rfl | exact Or.inr rfl))) (fun _ _ _ _ => pifs_nil) (fun _ _ _ _ => (pe_ix (ix_tupK (K := K) rfl) (pv 0) pe_int (fun _ _ => rfl)))) pe_int))), ?_⟩
 try dsimp only [cxOf]
 walk_at "go"
 refine ⟨a, ls, rfl, hS, hL, h100, fun l1 H1 nl1 hl1 s1 => ?_⟩
 walk_at "go"
 refine g_wkLv (SqL.of hl1) ?_
 have hfl := List.length_filter_le isT ls
 refine g_compL (lnV (ls.filter isT)) (fun i ys H' => ys = (((ls.filter isT).take i).map gOf).map V.int ∧ H' = H1) ⟨rfl, rfl⟩ (fun i ys H' hi ⟨e, e2⟩ => ⟨e2 ▸ SqL.of hl1, by
  rw [e, List.length_map, List.length_map, List.length_take]
  exact Nat.le_of_lt (small1000 (by omega))⟩) ?_ ?_
 ·rintro i v ys H2 hv ⟨rfl, rfl⟩
  obtain ⟨x, hx, rfl⟩ := lnV_get hv
  obtain ⟨xm, xb⟩ := List.mem_filter.mp (List.mem_of_getElem? hx)
  try dsimp only [gName]
  rcases isT_cases ((hL x xm).same s1) with ⟨b, g, ar, ht, eg⟩ | ⟨b, _⟩
  ·have L := (Led.start H2 (fun _ => False)).more (tupAt x.1 [_, _, _]) ht
   walk_at "go"
   exact ⟨by rw [take_snoc hx, List.map_append, List.map_append, ← eg]; rfl, rfl⟩
  ·rw [xb] at b; cases b
 ·rintro ys H2 ⟨rfl, rfl⟩ lc nlc
  rw [lnV_len, List.take_length]
  walk_at "go"
  have sx := s1.trans (same_new nlc (.lst (((ls.filter isT).map gOf).map V.int)))
  have hp := gts_pos hg
  refine g_maxD (ns := gts ls) (SqL.of upd_same) (fun e => ?_) (fun M hM hx => ?_)
  ·have := q _ sx
   rw [e] at this
   exact this
  ·have := q _ sx
   rw [fmax_eq (.inr hM) hx (by have := hp M hM; omega)] at this
   exact this
end
end Law

namespace Law
open PySem PySem.Spec PyProof.Rows L2 L3 L4
def tup2 (H : Hp) (t : Addr) (x y : Int) : Prop := H t = some (.tup [.int x, .int y])
def bnd (m c : Int) : Int := if c = 0 then m else m + 1
theorem lex_place {m c b : Int} (c0 : 0 ≤ c) : HT.lexLt [m, c] [b, 0] = decide (m < b) := by
 rw [HT.lexLt_cons]
 by_cases h : m = b
 ·rw [if_pos h, HT.lexLt_cons, decide_eq_false (show ¬ m < b by omega)]
  by_cases h2 : c = 0
  ·rw [if_pos h2]; rfl
  ·rw [if_neg h2, decide_eq_false (show ¬ c < 0 by omega)]
 ·rw [if_neg h]
section
variable {P : Program} {w : World} {K : PySem.W.Frag} {mg : Str → Option Value} {base : Heap} {CX : CXT} {C : Addr}
theorem sc_bound_of : FnScope ["place"] ["place"] (defScope (top 26)) := by walk_at "s"
def spBound : Sp := fun vs H Q _ => ∃ (t : Addr) (m c : Int), vs = [.ref t] ∧ tup2 H t m c ∧ Q (.int (bnd m c)) H
theorem ok_bound_of (D : Dat K mg "bound_of" "bound_of" (top 26) ["place"]) : Cal P w K mg base CX "bound_of" 1 ["place"] spBound := by
 have S := sc_bound_of
 walk_at "d"
 ·obtain ⟨t, m, c, rfl, _⟩ := h
  rfl
 obtain ⟨t, m, c, rfl, ht, q⟩ := h
 refine ⟨_, (pss_one (ps_ret (pe_ifExp (pt_cmpR op_eq (pe_ix ix_tup (pv 0) pe_int (fun _ _ => rfl)) pe_int (nomark _)) (pe_ix ix_tup (pv 0) pe_int (fun _ _ => rfl)) (pe_op op_add (pe_ix ix_tup (pv 0) pe_int (fun _ _ => rfl)) pe_int)))), ?_⟩
 try dsimp only [cxOf]
 have L := (Led.start H (fun _ => False)).more (tupAt t [.int m, .int c]) ht
 walk_at "go"
 unfold bnd at q
 refine g_ifD (fun cc => ?_) (fun cc => ?_)
 ·rw [if_pos cc] at q
  walk_at "go"
  exact q
 ·rw [if_neg cc] at q
  walk_at "go"
  exact q
theorem sc_raised : FnScope ["place", "bound"] ["place", "bound"] (defScope (top 27)) := by walk_at "s"
def spRaised : Sp := fun vs H Q _ => ∃ (t : Addr) (m c b : Int), vs = [.ref t, .int b] ∧ tup2 H t m c ∧ 0 ≤ c ∧ ∀ r H', tup2 H' r (if m < b then b else m) (if m < b then 0 else c) → Same H H' → Q (.ref r) H'
theorem ok_raised (D : Dat K mg "raised" "raised" (top 27) ["place", "bound"]) (BT : Bt mg) : Cal P w K mg base CX "raised" 1 ["place", "bound"] spRaised := by
 have S := sc_raised
 walk_at "d"
 ·obtain ⟨t, m, c, b, rfl, _⟩ := h
  rfl
 obtain ⟨t, m, c, b, rfl, ht, c0, q⟩ := h
 refine ⟨_, (pss_one (ps_ret (pe_callB (c_maxT rfl (hu_of hr)) rfl BT.max L3.bt_max (pa_cons (pv 0) (pa_cons (pe_tup (pa_cons (pv 1) (pa_cons pe_int pa_nil))) pa_nil))))), ?_⟩
 try dsimp only [cxOf]
 have L := (Led.start H (fun _ => False)).more (tupAt t [.int m, .int c]) ht
 walk_at "go"
 refine g_maxT2 (L'.tup (by walk_at "mem")) (L'.tup (by walk_at "mem")) ?_
 rw [lex_place c0]
 refine q _ _ ?_ L'.same
 by_cases h : m < b
 ·rw [if_pos h, if_pos h, if_pos (decide_eq_true h)]
  exact L'.tup (by walk_at "mem")
 ·rw [if_neg h, if_neg h, if_neg (by rw [decide_eq_false h]; exact Bool.false_ne_true)]
  exact L'.tup (by walk_at "mem")
theorem sc_next_place : FnScope ["shape", "place"] ["shape", "place"] (defScope (top 28)) := by walk_at "s"
def spNext (C : Addr) : Sp := fun vs H Q _ => ∃ (p t : Addr) (c s m k : Int), vs = [.ref p, .ref t] ∧ ShAt C H p c s ∧ tup2 H t m k ∧ ∀ r H', tup2 H' r (if k + 1 = c then m + 1 else m) (if k + 1 = c then 0 else k + 1) → Same H H' → Q (.ref r) H'
theorem ok_next_place (D : Dat K mg "next_place" "next_place" (top 28) ["shape", "place"]) (SC : ShC K C) : Cal P w K mg base CX "next_place" 1 ["shape", "place"] (spNext C) := by
 have S := sc_next_place
 walk_at "d"
 ·obtain ⟨p, t, c, s, m, k, rfl, _⟩ := h
  rfl
 obtain ⟨p, t, c, s', m, k, rfl, ⟨dx, hp⟩, ht, q⟩ := h
 refine ⟨_, (pss_cons (ps_if (pt_cmpR op_eq (pe_op op_add (pe_ix ix_tup (pv 1) pe_int (fun _ _ => rfl)) pe_int) (pe_fld (pv 0) rfl) (nomark _)) (pss_one (ps_ret (pe_tup (pa_cons (pe_op op_add (pe_ix ix_tup (pv 1) pe_int (fun _ _ => rfl)) pe_int) (pa_cons pe_int pa_nil))))) pss_nil)
   (pss_one (ps_ret (pe_tup (pa_cons (pe_ix ix_tup (pv 1) pe_int (fun _ _ => rfl)) (pa_cons (pe_op op_add (pe_ix ix_tup (pv 1) pe_int (fun _ _ => rfl)) pe_int) pa_nil)))))), ?_⟩
 try dsimp only [cxOf]
 have L := (Led.start H (fun _ => False)).more (tupAt t [.int m, .int k]) ht
 walk_at "go"
 refine ⟨p, C, dx, _, _, rfl, hp, SC.cl, SC.nc, shF_c c s', ?_⟩
 walk_at "go"
 refine g_ifD (fun cc => ?_) (fun cc => ?_)
 ·walk_at "go"
  refine q _ _ ?_ L'.same
  rw [if_pos cc, if_pos cc]
  exact L'.tup (by walk_at "mem")
 ·walk_at "go"
  refine q _ _ ?_ L'.same
  rw [if_neg cc, if_neg cc]
  exact L'.tup (by walk_at "mem")
end
end Law

namespace Law
open PySem PySem.Spec PyProof.Rows L2 L3 L4
section
variable {P : Program} {w : World} {K : PySem.W.Frag} {mg : Str → Option Value} {base : Heap} {C CW CR CN : Addr}
theorem sc_Wait : FnScope ["self", "reading"] ["self", "reading"] (defScope (inClass (top 8) 0)) := by walk_at "s"
theorem ok_Wait (D : EDat K mg "Wait" "Wait.__init__" CW (inClass (top 8) 0) ["self", "reading"]) (B_RiseError : EBase K mg "RiseError" CR) (EP : EPut K CW "reading") : EOwn P w K mg base "Wait" CW 1 ["self", "reading"] (spInit1 CW "reading") := by
 have S := sc_Wait
 refine D.ok' S (fun vs H Q E h => ?_) (fun f cdv A outer s H vs Q E hr h => ?_)
 ·obtain ⟨x, v, rfl, _⟩ := h
  rfl
 obtain ⟨x, v, rfl, hx, q⟩ := h
 refine ⟨_, (pss_cons (ps_expr (pe_baseI B_RiseError (pa_cons (pv 0) (pa_cons pe_str pa_nil))))
   (pss_one (ps_fldN (pv 0) (pv 1) rfl))), ?_⟩
 try dsimp only [cxOf]
 walk_at "go"
 refine g_baseIv hx D.ok ?_
 walk_at "go"
 exact g_set0 hx EP fun d nd => q d nd
theorem sc_moment_at : FnScope ["area", "place", "reading"] ["area", "place", "reading"] (defScope (top 29)) := by walk_at "s"
def due (m f r : Int) : Int := max (max m r) f
def spMoment : Sp := fun vs H Q _ => ∃ (a t : Addr) (sl f e m k r : Int), vs = [.ref a, .ref t, .int r] ∧ tup3 H a sl f e ∧ tup2 H t m k ∧ Q (.int (due m f r)) H
theorem ok_moment_at {CX : CXT} (D : Dat K mg "moment_at" "moment_at" (top 29) ["area", "place", "reading"]) (BT : Bt mg) (NE : NoErr CX) (c_first_of : Cal P w K mg base CX "first_of" 1 ["area"] spAt1) : Cal P w K mg base CX "moment_at" 2 ["area", "place", "reading"] spMoment := by
 have S := sc_moment_at
 walk_at "d"
 ·obtain ⟨a, t, sl, f, e, m, k, r, rfl, _⟩ := h
  rfl
 obtain ⟨a, t, sl, f', e, m, k, r, rfl, ha, ht, q⟩ := h
 refine ⟨_, (pss_one (ps_ret (pe_callB (c_max3 rfl) rfl BT.max L3.bt_max (pa_cons (pe_ix ix_tup (pv 1) pe_int (fun _ _ => rfl)) (pa_cons (pv 2) (pa_cons (pe_fn c_first_of (hr.mono (by first | decide | omega)) NE.pass (pa_cons (pv 0) pa_nil)) pa_nil)))))), ?_⟩
 try dsimp only [cxOf]
 have L := ((Led.start H (fun _ => False)).more (tupAt t [.int m, .int k]) ht).more (tupAt a [.int sl, .int f', .int e]) ha
 walk_at "go"
 refine ⟨a, sl, f', e, rfl, ha, ?_⟩
 walk_at "go"
 exact q
theorem sc_made : FnScope ["shape", "far", "area", "place", "reading", "moment", "count", "mark"] ["shape", "far", "area", "place", "reading"] (defScope (top 30)) := by walk_at "s"
def cnt (m f r k : Int) : Int := if due m f r = m then k else 0
def spMade (C CN CW : Addr) : Sp := fun vs H Q E => ∃ (p a t : Addr) (c s sl f e m k r fa : Int), vs = [.ref p, .int fa, .ref a, .ref t, .int r] ∧ ShN c s ∧ ShAt C H p c s ∧ tup3 H a sl f e ∧ tup2 H t m k ∧
 (e ≤ due m f r → E (.ref CN) none H) ∧ (¬ e ≤ due m f r → r + fa < due m f r → ∀ d H', Same H H' → H' d = some (.xd [("reading", .int (due m f r - fa))]) → E (.ref CW) (some d) H') ∧
 (¬ e ≤ due m f r → ¬ r + fa < due m f r → ∀ x y H', H' x = some (.tup [.int (mk c s (due m f r) sl (cnt m f r k)), .ref y]) → tup2 H' y (if cnt m f r k + 1 = c then due m f r + 1 else due m f r) (if cnt m f r k + 1 = c then 0 else cnt m f r k + 1) → Same H H' → Q (.ref x) H')
theorem ok_made (D : Dat K mg "made" "made" (top 30) ["shape", "far", "area", "place", "reading"]) (BT : Bt mg) (NE : NoErr (CX1 P w)) (O_NoRoom : ECls K mg "NoRoom" CN) (O_Wait : EOwn P w K mg base "Wait" CW 1 ["self", "reading"] (spInit1 CW "reading"))
  (c_moment_at : Cal P w K mg base (CX1 P w) "moment_at" 2 ["area", "place", "reading"] spMoment) (c_end_of : Cal P w K mg base (CX1 P w) "end_of" 1 ["area"] spAt2) (c_slot_of : Cal P w K mg base (CX1 P w) "slot_of" 1 ["area"] spAt0)
  (c_mark_of : Cal P w K mg base (CX1 P w) "mark_of" 1 ["shape", "moment", "slot", "count"] (spMark C)) (c_next_place : Cal P w K mg base (CX1 P w) "next_place" 1 ["shape", "place"] (spNext C)) : Cal P w K mg base (CX1 P w) "made" 3 ["shape", "far", "area", "place", "reading"] (spMade C CN CW) := by
 have S := sc_made
 refine D.okR S (fun vs H Q E h => ?_) (fun f cdv A outer s H vs Q E hr h => ?_)
 ·obtain ⟨p, a, t, c, s, sl, f, e, m, k, r, fa, rfl, _⟩ := h
  rfl
 obtain ⟨p, a, t, c, s', sl, f', e, m, k, r, fa, rfl, N, hp, ha, ht, q1, q2, q3⟩ := h
 refine ⟨_, (@pss_cons _ _ _ _ _ (@ps_set _ _ 5 _ _ _ _ S.nd rfl (by first | exact Or.inl rfl | exact Or.inr rfl) (@pe_fn _ _ _ _ _ _ _ _ _ _ _ _ c_moment_at (hr.mono (by first | decide | omega)) NE.pass (@pa_cons _ _ _ _ _ (@pv _ 2 _ _ (by rfl) (by first | exact Or.inl rfl | exact Or.inr (Or.inl rfl) | exact Or.inr (Or.inr rfl)) (by decide) (by decide)) (@pa_cons _ _ _ _ _ (@pv _ 3 _ _ (by rfl) (by first | exact Or.inl rfl | exact Or.inr (Or.inl rfl) | exact Or.inr (Or.inr rfl)) (by decide) (by decide)) (@pa_cons _ _ _ _ _ (@pv _ 4 _ _ (by rfl) (by first | exact Or.inl rfl | exact Or.inr (Or.inl rfl) | exact Or.inr (Or.inr rfl)) (by decide) (by decide)) (@pa_nil _) (by rfl)) (by rfl)) (by rfl)) (by rfl) (by decide) (by rfl) (by rfl)) (by rfl) (by first | exact .inl rfl | exact .inr rfl | assumption)) (@pss_cons _ _ _ _ _ (@ps_if _ _ _ _ _ _ _ _ (@pt_cmpR _ _ _ _ _ _ _ _ (@op_ge _) (@pv _ 5 _ _ (by rfl) (by first | exact Or.inl rfl | exact Or.inr (Or.inl rfl) | exact Or.inr (Or.inr rfl)) (by decide) (by decide)) (@pe_fn _ _ _ _ _ _ _ _ _ _ _ _ c_end_of (hr.mono (by first | decide | omega)) NE.pass (@pa_cons _ _ _ _ _ (@pv _ 2 _ _ (by rfl) (by first | exact Or.inl rfl | exact Or.inr (Or.inl rfl) | exact Or.inr (Or.inr rfl)) (by decide) (by decide)) (@pa_nil _) (by rfl)) (by rfl) (by decide) (by rfl) (by rfl)) (@nomark _ _ (by decide) (by decide))) (@pss_one _ _ _ (@ps_raise _ _ _ _ _ _ _ _ _ _ O_NoRoom rfl (@paX_self _ _) (@pa_cons _ _ _ _ _ (@pe_str _ _ _ _) (@pa_nil _) (by rfl)) (by rfl) (by decide) (by rfl) (by rfl))) (@pss_nil _)) (@pss_cons _ _ _ _ _ (@ps_if _ _ _ _ _ _ _ _ (@pt_cmpR _ _ _ _ _ _ _ _ (@op_gt _) (@pv _ 5 _ _ (by rfl) (by first | exact Or.inl rfl | exact Or.inr (Or.inl rfl) | exact Or.inr (Or.inr rfl)) (by decide) (by decide)) (@pe_op _ _ _ _ _ _ _ _ (@op_add _) (@pv _ 4 _ _ (by rfl) (by first | exact Or.inl rfl | exact Or.inr (Or.inl rfl) | exact Or.inr (Or.inr rfl)) (by decide) (by decide)) (@pv _ 1 _ _ (by rfl) (by first | exact Or.inl rfl | exact Or.inr (Or.inl rfl) | exact Or.inr (Or.inr rfl)) (by decide) (by decide))) (@nomark _ _ (by decide) (by decide))) (@pss_one _ _ _ (@ps_raiseI _ _ _ _ _ _ _ _ _ _ _ _ _ O_Wait (hr.mono (by first | decide | omega)) rfl (@paX_self _ _) (@pa_cons _ _ _ _ _ (@pe_op _ _ _ _ _ _ _ _ (@op_sub _) (@pv _ 5 _ _ (by rfl) (by first | exact Or.inl rfl | exact Or.inr (Or.inl rfl) | exact Or.inr (Or.inr rfl)) (by decide) (by decide)) (@pv _ 1 _ _ (by rfl) (by first | exact Or.inl rfl | exact Or.inr (Or.inl rfl) | exact Or.inr (Or.inr rfl)) (by decide) (by decide))) (@pa_nil _) (by rfl)) (by rfl) (by decide) (by rfl) (by rfl))) (@pss_nil _)) (@pss_cons _ _ _ _ _ (@ps_set _ _ 6 _ _ _ _ S.nd rfl (by first | exact Or.inl rfl | exact Or.inr rfl) (@pe_ifExp _ _ _ _ _ _ _ _ (@pt_cmpR _ _ _ _ _ _ _ _ (@op_eq _) (@pv _ 5 _ _ (by rfl) (by first | exact Or.inl rfl | exact Or.inr (Or.inl rfl) | exact Or.inr (Or.inr rfl)) (by decide) (by decide)) (@pe_ix _ _ _ _ _ _ _ (@ix_tup _) (@pv _ 3 _ _ (by rfl) (by first | exact Or.inl rfl | exact Or.inr (Or.inl rfl) | exact Or.inr (Or.inr rfl)) (by decide) (by decide)) (@pe_int _ _ _ _) (fun _ _ => rfl)) (@nomark _ _ (by decide) (by decide))) (@pe_ix _ _ _ _ _ _ _ (@ix_tup _) (@pv _ 3 _ _ (by rfl) (by first | exact Or.inl rfl | exact Or.inr (Or.inl rfl) | exact Or.inr (Or.inr rfl)) (by decide) (by decide)) (@pe_int _ _ _ _) (fun _ _ => rfl)) (@pe_int _ _ _ _)) (by rfl) (by first | exact .inl rfl | exact .inr rfl | assumption)) (@pss_cons _ _ _ _ _ (@ps_set _ _ 7 _ _ _ _ S.nd rfl (by first | exact Or.inl rfl | exact Or.inr rfl) (@pe_fn _ _ _ _ _ _ _ _ _ _ _ _ c_mark_of (hr.mono (by first | decide | omega)) NE.pass (@pa_cons _ _ _ _ _ (@pv _ 0 _ _ (by rfl) (by first | exact Or.inl rfl | exact Or.inr (Or.inl rfl) | exact Or.inr (Or.inr rfl)) (by decide) (by decide)) (@pa_cons _ _ _ _ _ (@pv _ 5 _ _ (by rfl) (by first | exact Or.inl rfl | exact Or.inr (Or.inl rfl) | exact Or.inr (Or.inr rfl)) (by decide) (by decide)) (@pa_cons _ _ _ _ _ (@pe_fn _ _ _ _ _ _ _ _ _ _ _ _ c_slot_of (hr.mono (by first | decide | omega)) NE.pass (@pa_cons _ _ _ _ _ (@pv _ 2 _ _ (by rfl) (by first | exact Or.inl rfl | exact Or.inr (Or.inl rfl) | exact Or.inr (Or.inr rfl)) (by decide) (by decide)) (@pa_nil _) (by rfl)) (by rfl) (by decide) (by rfl) (by rfl)) (@pa_cons _ _ _ _ _ (@pv _ 6 _ _ (by rfl) (by first | exact Or.inl rfl | exact Or.inr (Or.inl rfl) | exact Or.inr (Or.inr rfl)) (by decide) (by decide)) (@pa_nil _) (by rfl)) (by rfl)) (by rfl)) (by rfl)) (by rfl) (by decide) (by rfl) (by rfl)) (by rfl) (by first | exact .inl rfl | exact .inr rfl | assumption)) (@pss_one _ _ _ (@ps_ret _ _ _ _ (@pe_tup _ _ _ _ _ (@pa_cons _ _ _ _ _ (@pv _ 7 _ _ (by rfl) (by first | exact Or.inl rfl | exact Or.inr (Or.inl rfl) | exact Or.inr (Or.inr rfl)) (by decide) (by decide)) (@pa_cons _ _ _ _ _ (@pe_fn _ _ _ _ _ _ _ _ _ _ _ _ c_next_place (hr.mono (by first | decide | omega)) NE.pass (@pa_cons _ _ _ _ _ (@pv _ 0 _ _ (by rfl) (by first | exact Or.inl rfl | exact Or.inr (Or.inl rfl) | exact Or.inr (Or.inr rfl)) (by decide) (by decide)) (@pa_cons _ _ _ _ _ (@pe_tup _ _ _ _ _ (@pa_cons _ _ _ _ _ (@pv _ 5 _ _ (by rfl) (by first | exact Or.inl rfl | exact Or.inr (Or.inl rfl) | exact Or.inr (Or.inr rfl)) (by decide) (by decide)) (@pa_cons _ _ _ _ _ (@pv _ 6 _ _ (by rfl) (by first | exact Or.inl rfl | exact Or.inr (Or.inl rfl) | exact Or.inr (Or.inr rfl)) (by decide) (by decide)) (@pa_nil _) (by rfl)) (by rfl))) (@pa_nil _) (by rfl)) (by rfl)) (by rfl) (by decide) (by rfl) (by rfl)) (@pa_nil _) (by rfl)) (by rfl)))))))))), ?_⟩
 try dsimp only [cxOf]
 have L := ((Led.start H (fun _ => False)).more (tupAt t [.int m, .int k]) ht).more (tupAt a [.int sl, .int f', .int e]) ha
 walk_at "go"
 refine ⟨a, t, sl, f', e, m, k, r, rfl, ha, ht, ?_⟩
 have sh := N
 have hcnt : cnt m f' r k = if due m f' r = m then k else 0 := rfl
 generalize due m f' r = du at *
 generalize cnt m f' r k = cn at *
 walk_at "go"
 refine ⟨a, sl, f', e, rfl, ha, ?_⟩
 walk_at "go"
 refine g_ifD (fun b1 => ?_) (fun b1 => ?_)
 ·walk_at "go"
  exact q1 b1
 walk_at "go"
 refine g_ifD (fun b2 => ?_) (fun b2 => ?_)
 ·walk_at "go"
  exact g_raiseI1 fun d H' sm hd => q2 (by omega) b2 d H' sm hd
 walk_at "go"
 refine g_ifD (fun b3 => ?_) (fun b3 => ?_)
 all_goals (walk_at "go")
 all_goals (first | rw [if_pos b3] at hcnt | rw [if_neg b3] at hcnt)
 all_goals subst hcnt
 all_goals (refine ⟨a, sl, f', e, rfl, ha, ?_⟩; walk_at "go")
 all_goals (refine ⟨p, c, s', _, sl, _, rfl, sh, hp, ?_⟩; walk_at "go")
 all_goals (refine ⟨p, _, c, s', _, _, rfl, hp.elim fun dx h => ⟨dx, L'.same _ _ h⟩, L'.tup (by walk_at "mem"), fun y HY hy sY => ?_⟩)
 all_goals (have L := L'.keep sY; walk_at "go")
 all_goals exact q3 (by omega) (by omega) _ y _ (L'.tup (by walk_at "mem")) (by have z := L'.same; first | exact L'.st _ (by walk_at "mem") | exact (show Same HY _ by assumption) _ _ hy) L'.same
end
end Law

namespace Law
open PySem PySem.Spec PyProof.Rows L2 L3 L4
def PlAt (H : Hp) (v : V) (pl : Option (Int × Int)) : Prop := (pl = none ∧ v = .non) ∨ ∃ (t : Addr) (m k : Int), pl = some (m, k) ∧ v = .ref t ∧ H t = some (.tup [.int m, .int k])
theorem PlAt.same {H H' : Hp} {v : V} {pl : Option (Int × Int)} (h : PlAt H v pl) (s : Same H H') : PlAt H' v pl := by
 rcases h with h | ⟨t, m, k, e, ev, ht⟩
 ·exact .inl h
 ·exact .inr ⟨t, m, k, e, ev, s _ _ ht⟩
def StdAt (K : PySem.W.Frag) (H : Hp) (s : Addr) (pl : Option (Int × Int)) (n : Nt) (g : Int) : Prop := ∃ (v : V) (t : Addr), H s = some (.tup [v, .ref t, .int g]) ∧ PlAt H v pl ∧ NtAt K H t n
theorem StdAt.same {K : PySem.W.Frag} {H H' : Hp} {s : Addr} {pl : Option (Int × Int)} {n : Nt} {g : Int} (h : StdAt K H s pl n g) (sm : Same H H') : StdAt K H' s pl n g := by
 obtain ⟨v, t, hs, hp, hn⟩ := h
 exact ⟨v, t, sm _ _ hs, hp.same sm, hn.same sm⟩
theorem StAt.same {C : Addr} {H H' : Hp} {p : Addr} {sh : V} {far room term : Int} {ws : List Str} (h : StAt C H p sh far room term ws) (sm : Same H H') : StAt C H' p sh far room term ws := by
 obtain ⟨dx, tr, ms, h1, h2, pm⟩ := h
 exact ⟨dx, tr, ms, sm _ _ h1, sm _ _ h2, pm⟩
def ArAt (H : Hp) (v : V) (ar : Option (Int × Int × Int)) : Prop := (ar = none ∧ v = .non) ∨ ∃ (a : Addr) (sl f e : Int), ar = some (sl, f, e) ∧ v = .ref a ∧ H a = some (.tup [.int sl, .int f, .int e])
section
variable {P : Program} {w : World} {K : PySem.W.Frag} {mg : Str → Option Value} {base : Heap} {CX : CXT} {CD CA CU CS : Addr}
theorem sc_grant_in : FnScope ["stand"] ["stand"] (defScope (top 47)) := by walk_at "s"
def spGrantIn (K : PySem.W.Frag) : Sp := fun vs H Q _ => ∃ (s : Addr) (pl : Option (Int × Int)) (n : Nt) (g : Int), vs = [.ref s] ∧ StdAt K H s pl n g ∧ Q (.int n.g) H
theorem ok_grant_in (D : Dat K mg "grant_in" "grant_in" (top 47) ["stand"]) : Cal P w K mg base CX "grant_in" 1 ["stand"] (spGrantIn K) := by
 have S := sc_grant_in
 walk_at "d"
 ·obtain ⟨s, pl, n, g, rfl, _⟩ := h
  rfl
 obtain ⟨s, pl, n, g, rfl, ⟨v, t, hs, hp, av, hn, hv⟩, q⟩ := h
 refine ⟨_, (pss_one (ps_ret (pe_ix ix_tup (pe_ix ix_tup (pv 0) pe_int (fun _ _ => rfl)) pe_int (fun _ _ => rfl)))), ?_⟩
 try dsimp only [cxOf]
 have L := (Led.start H (fun _ => False)).more (tupAt s [_, _, _]) hs
 walk_at "go"
 exact q
theorem sc_held_in : FnScope ["stand"] ["stand"] (defScope (top 49)) := by walk_at "s"
def spHeldIn (K : PySem.W.Frag) : Sp := fun vs H Q _ => ∃ (s : Addr) (pl : Option (Int × Int)) (n : Nt) (g : Int), vs = [.ref s] ∧ StdAt K H s pl n g ∧ Q (.int n.hd) H
theorem ok_held_in (D : Dat K mg "held_in" "held_in" (top 49) ["stand"]) : Cal P w K mg base CX "held_in" 1 ["stand"] (spHeldIn K) := by
 have S := sc_held_in
 walk_at "d"
 ·obtain ⟨s, pl, n, g, rfl, _⟩ := h
  rfl
 obtain ⟨s, pl, n, g, rfl, ⟨v, t, hs, hp, av, hn, hv⟩, q⟩ := h
 refine ⟨_, (pss_one (ps_ret (pe_ix ix_tup (pe_ix ix_tup (pv 0) pe_int (fun _ _ => rfl)) pe_int (fun _ _ => rfl)))), ?_⟩
 try dsimp only [cxOf]
 have L := (Led.start H (fun _ => False)).more (tupAt s [_, _, _]) hs
 walk_at "go"
 exact q
theorem sc_heard_in : FnScope ["stand"] ["stand"] (defScope (top 50)) := by walk_at "s"
def spHeardIn (K : PySem.W.Frag) : Sp := fun vs H Q _ => ∃ (s : Addr) (pl : Option (Int × Int)) (n : Nt) (g : Int), vs = [.ref s] ∧ StdAt K H s pl n g ∧ Q (.int n.hr) H
theorem ok_heard_in (D : Dat K mg "heard_in" "heard_in" (top 50) ["stand"]) : Cal P w K mg base CX "heard_in" 1 ["stand"] (spHeardIn K) := by
 have S := sc_heard_in
 walk_at "d"
 ·obtain ⟨s, pl, n, g, rfl, _⟩ := h
  rfl
 obtain ⟨s, pl, n, g, rfl, ⟨v, t, hs, hp, av, hn, hv⟩, q⟩ := h
 refine ⟨_, (pss_one (ps_ret (pe_ix ix_tup (pe_ix ix_tup (pv 0) pe_int (fun _ _ => rfl)) pe_int (fun _ _ => rfl)))), ?_⟩
 try dsimp only [cxOf]
 have L := (Led.start H (fun _ => False)).more (tupAt s [_, _, _]) hs
 walk_at "go"
 exact q
theorem sc_area_in : FnScope ["stand"] ["stand"] (defScope (top 48)) := by walk_at "s"
def spAreaIn (K : PySem.W.Frag) : Sp := fun vs H Q _ => ∃ (s : Addr) (pl : Option (Int × Int)) (n : Nt) (g : Int), vs = [.ref s] ∧ StdAt K H s pl n g ∧ ∀ v, ArAt H v n.ar → Q v H
theorem ok_area_in (D : Dat K mg "area_in" "area_in" (top 48) ["stand"]) : Cal P w K mg base CX "area_in" 1 ["stand"] (spAreaIn K) := by
 have S := sc_area_in
 walk_at "d"
 ·obtain ⟨s, pl, n, g, rfl, _⟩ := h
  rfl
 obtain ⟨s, pl, n, g, rfl, ⟨v, t, hs, hp, av, hn, hv⟩, q⟩ := h
 refine ⟨_, (pss_one (ps_ret (pe_ix ix_tup (pe_ix ix_tup (pv 0) pe_int (fun _ _ => rfl)) pe_int (fun _ _ => rfl)))), ?_⟩
 try dsimp only [cxOf]
 have L := (Led.start H (fun _ => False)).more (tupAt s [_, _, _]) hs
 walk_at "go"
 exact q av hv
theorem sc_start_by : FnScope ["note"] ["note"] (defScope (top 51)) := by walk_at "s"
def spStartBy (K : PySem.W.Frag) : Sp := fun vs H Q _ => ∃ (t : Addr) (n : Nt), vs = [.ref t] ∧ NtAt K H t n ∧ ∀ p H', H' p = some (.tup [.int (max n.hd n.hr), .int 0]) → Same H H' → Q (.ref p) H'
theorem ok_start_by (D : Dat K mg "start_by" "start_by" (top 51) ["note"]) (BT : Bt mg) : Cal P w K mg base CX "start_by" 1 ["note"] (spStartBy K) := by
 have S := sc_start_by
 walk_at "d"
 ·obtain ⟨t, n, rfl, _⟩ := h
  rfl
 obtain ⟨t, n, rfl, ⟨av, hn, hv⟩, q⟩ := h
 refine ⟨_, (pss_one (ps_ret (pe_tup (pa_cons (pe_callB (c_max rfl) rfl BT.max L3.bt_max (pa_cons (pe_ix ix_tup (pv 0) pe_int (fun _ _ => rfl)) (pa_cons (pe_ix ix_tup (pv 0) pe_int (fun _ _ => rfl)) pa_nil))) (pa_cons pe_int pa_nil))))), ?_⟩
 try dsimp only [cxOf]
 have L := Led.start H (fun _ => False)
 walk_at "go"
 exact q _ _ (L'.tup (by walk_at "mem")) L'.same
theorem sc_need_up : FnScope ["place"] ["place"] (defScope (top 52)) := by walk_at "s"
def spNeedUp (CD : Addr) : Sp := fun vs H Q E => ∃ (v : V) (pl : Option (Int × Int)), vs = [v] ∧ PlAt H v pl ∧ (pl = none → E (.ref CD) none H) ∧ (pl.isSome = true → Q .non H)
theorem ok_need_up (D : Dat K mg "need_up" "need_up" (top 52) ["place"]) (NE : NoErr (CX1 P w)) (O_Down : ECls K mg "Down" CD) : Cal P w K mg base (CX1 P w) "need_up" 1 ["place"] (spNeedUp CD) := by
 have S := sc_need_up
 refine D.okR S (fun vs H Q E h => ?_) (fun f cdv A outer s H vs Q E hr h => ?_)
 ·obtain ⟨v, pl, rfl, _⟩ := h
  rfl
 obtain ⟨v, pl, rfl, hp, qe, qq⟩ := h
 refine ⟨_, (pss_one (ps_if (pt_cmp (pc_isN (pv 0))) (pss_one (ps_raise O_Down rfl paX_self (pa_cons pe_str pa_nil))) pss_nil)), ?_⟩
 try dsimp only [cxOf]
 walk_at "go"
 rcases hp with ⟨e, rfl⟩ | ⟨t, m, k, e, rfl, ht⟩
 ·refine g_ifDT rfl ?_
  walk_at "go"
  exact qe e
 ·refine g_ifD (fun z => nomatch z) fun _ => ?_
  walk_at "go"
  exact qq (by rw [e]; rfl)
theorem sc_need_area : FnScope ["area"] ["area"] (defScope (top 53)) := by walk_at "s"
def spNeedArea (CA : Addr) : Sp := fun vs H Q E => ∃ (v : V) (ar : Option (Int × Int × Int)), vs = [v] ∧ ArAt H v ar ∧ (ar = none → E (.ref CA) none H) ∧ (ar.isSome = true → Q .non H)
theorem ok_need_area (D : Dat K mg "need_area" "need_area" (top 53) ["area"]) (NE : NoErr (CX1 P w)) (O_NoArea : ECls K mg "NoArea" CA) : Cal P w K mg base (CX1 P w) "need_area" 1 ["area"] (spNeedArea CA) := by
 have S := sc_need_area
 refine D.okR S (fun vs H Q E h => ?_) (fun f cdv A outer s H vs Q E hr h => ?_)
 ·obtain ⟨v, ar, rfl, _⟩ := h
  rfl
 obtain ⟨v, ar, rfl, hp, qe, qq⟩ := h
 refine ⟨_, (pss_one (ps_if (pt_cmp (pc_isN (pv 0))) (pss_one (ps_raise O_NoArea rfl paX_self (pa_cons pe_str pa_nil))) pss_nil)), ?_⟩
 try dsimp only [cxOf]
 walk_at "go"
 rcases hp with ⟨e, rfl⟩ | ⟨a, sl, f', e', e, rfl, ht⟩
 ·refine g_ifDT rfl ?_
  walk_at "go"
  exact qe e
 ·refine g_ifD (fun z => nomatch z) fun _ => ?_
  walk_at "go"
  exact qq (by rw [e]; rfl)
def TellAt (H0 H : Hp) (t : Addr) (v : V) (ls : Lns) (pv : V) : Prop := ∃ l, H t = some (.tup [v, .ref l, pv]) ∧ H0 l = none ∧ H l = some (.lst (lnV ls)) ∧ LnsAt H ls
theorem sc_falling : FnScope ["stand"] ["stand"] (defScope (top 54)) := by walk_at "s"
def spFalling (K : PySem.W.Frag) (CD : Addr) : Sp := fun vs H Q E => ∃ (s : Addr) (pl : Option (Int × Int)) (n : Nt) (g : Int), vs = [.ref s] ∧ StdAt K H s pl n g ∧ (pl = none → E (.ref CD) none H) ∧ (pl.isSome = true → ∀ t H', TellAt H H' t .non [] .non → Same H H' → Q (.ref t) H')
theorem ok_falling (D : Dat K mg "falling" "falling" (top 54) ["stand"]) (NE : NoErr (CX1 P w)) (c_need_up : Cal P w K mg base (CX1 P w) "need_up" 1 ["place"] (spNeedUp CD)) : Cal P w K mg base (CX1 P w) "falling" 2 ["stand"] (spFalling K CD) := by
 have S := sc_falling
 refine D.okR S (fun vs H Q E h => ?_) (fun f cdv A outer s H vs Q E hr h => ?_)
 ·obtain ⟨s, pl, n, g, rfl, _⟩ := h
  rfl
 obtain ⟨s, pl, n, g, rfl, ⟨v, t, hs, hp, hn⟩, qe, qq⟩ := h
 refine ⟨_, (pss_cons (ps_expr (pe_fnX c_need_up (hr.mono (by first | decide | omega)) paX_self (pa_cons (pe_ix ix_tup (pv 0) pe_int (fun _ _ => rfl)) pa_nil)))
   (pss_one (ps_ret (pe_tup (pa_cons pe_non (pa_cons (pe_lst pa_nil) (pa_cons pe_non pa_nil))))))), ?_⟩
 try dsimp only [cxOf]
 have L := (Led.start H (fun _ => False)).more (tupAt s [_, _, _]) hs
 walk_at "go"
 refine ⟨v, pl, rfl, hp, qe, fun hsome => ?_⟩
 walk_at "go"
 exact qq hsome _ _ ⟨_, L'.tup (by walk_at "mem"), by assumption, L'.eo .head, fun _ h => by simp at h⟩ L'.same
theorem sc_rising : FnScope ["stand"] ["stand"] (defScope (top 55)) := by walk_at "s"
def spRising (K : PySem.W.Frag) (CU : Addr) : Sp := fun vs H Q E => ∃ (s : Addr) (pl : Option (Int × Int)) (n : Nt) (g : Int), vs = [.ref s] ∧ StdAt K H s pl n g ∧ (pl.isSome = true → E (.ref CU) none H) ∧ (pl = none → ∀ t p H', TellAt H H' t .non [] (.ref p) → H' p = some (.tup [.int (max n.hd n.hr), .int 0]) → Same H H' → Q (.ref t) H')
theorem ok_rising (D : Dat K mg "rising" "rising" (top 55) ["stand"]) (NE : NoErr (CX1 P w)) (O_Up : ECls K mg "Up" CU) (c_start_by : Cal P w K mg base (CX1 P w) "start_by" 1 ["note"] (spStartBy K)) : Cal P w K mg base (CX1 P w) "rising" 2 ["stand"] (spRising K CU) := by
 have S := sc_rising
 refine D.okR S (fun vs H Q E h => ?_) (fun f cdv A outer s H vs Q E hr h => ?_)
 ·obtain ⟨s, pl, n, g, rfl, _⟩ := h
  rfl
 obtain ⟨s, pl, n, g, rfl, ⟨v, t, hs, hp, hn⟩, qe, qq⟩ := h
 refine ⟨_, (pss_cons (ps_if (pt_cmp (pc_notN (pe_ix ix_tup (pv 0) pe_int (fun _ _ => rfl)))) (pss_one (ps_raise O_Up rfl paX_self (pa_cons pe_str pa_nil))) pss_nil)
   (pss_one (ps_ret (pe_tup (pa_cons pe_non (pa_cons (pe_lst pa_nil) (pa_cons (pe_fn c_start_by (hr.mono (by first | decide | omega)) NE.pass (pa_cons (pe_ix ix_tup (pv 0) pe_int (fun _ _ => rfl)) pa_nil)) pa_nil))))))), ?_⟩
 try dsimp only [cxOf]
 have L := (Led.start H (fun _ => False)).more (tupAt s [_, _, _]) hs
 walk_at "go"
 rcases hp with ⟨e, rfl⟩ | ⟨t2, m, k, e, rfl, ht⟩
 ·refine g_ifNF rfl ?_
  walk_at "go"
  obtain ⟨lx, elx⟩ : ∃ z, z = l' := ⟨_, rfl⟩
  subst elx
  have nlx : H lx = none := n'
  have M := L'
  clear L L'
  refine ⟨t, n, rfl, hn.same M.same, fun p H2 hp2 s2 => ?_⟩
  have N := (M.keep s2).more (tupAt p [_, _]) hp2
  clear M
  walk_at "go"
  exact qq e _ p _ ⟨lx, L'.tup (by walk_at "mem"), nlx, L'.eo .head, fun _ h => by simp at h⟩ (L'.tup (r := p) (by walk_at "mem")) L'.same
 ·refine g_ifNT (fun z => nomatch z) ?_
  walk_at "go"
  exact qe (by rw [e]; rfl)
theorem sc_taking : FnScope ["settings", "stand", "grant", "area", "place"] ["settings", "stand", "grant", "area"] (defScope (top 56)) := by walk_at "s"
def raisP (m k b : Int) : Int × Int := (if m < b then b else m, if m < b then 0 else k)
def spTaking (K : PySem.W.Frag) (CD CS : Addr) : Sp := fun vs H Q E => ∃ (p s a : Addr) (sh : V) (far room term : Int) (ws : List Str) (pl : Option (Int × Int)) (n : Nt) (g gr sl f e : Int), vs = [.ref p, .ref s, .int gr, .ref a] ∧ StAt CS H p sh far room term ws ∧ StdAt K H s pl n g ∧ (∀ m k, pl = some (m, k) → 0 ≤ k) ∧ H a = some (.tup [.int sl, .int f, .int e]) ∧
 (pl = none → E (.ref CD) none H) ∧
 (∀ m k, pl = some (m, k) → ("once" : Str) ∈ ws → gr ≤ g → ∀ t v H', PlAt H' v pl → TellAt H H' t (.bl false) [] v → Same H H' → Q (.ref t) H') ∧
 (∀ m k, pl = some (m, k) → ¬ (("once" : Str) ∈ ws ∧ gr ≤ g) → ∀ t l v H', PlAt H' v (some (raisP m k (bnd m k))) → TellAt H H' t (.bl true) [(l, .took gr sl f e)] v → Same H H' → Q (.ref t) H')
theorem ok_taking (D : Dat K mg "taking" "taking" (top 56) ["settings", "stand", "grant", "area"]) (NE : NoErr (CX1 P w)) (c_need_up : Cal P w K mg base (CX1 P w) "need_up" 1 ["place"] (spNeedUp CD)) (c_has_rule : Cal P w K mg base (CX1 P w) "has_rule" 1 ["settings", "word"] (spHasRule CS)) (c_bound_of : Cal P w K mg base (CX1 P w) "bound_of" 1 ["place"] spBound) (c_raised : Cal P w K mg base (CX1 P w) "raised" 1 ["place", "bound"] spRaised) : Cal P w K mg base (CX1 P w) "taking" 2 ["settings", "stand", "grant", "area"] (spTaking K CD CS) := by
 have S := sc_taking
 refine D.okR S (fun vs H Q E h => ?_) (fun f cdv A outer s H vs Q E hr h => ?_)
 ·obtain ⟨p, s, a, sh, far, room, term, ws, pl, n, g, gr, sl, f, e, rfl, _⟩ := h
  rfl
 obtain ⟨p, s, a, sh, far, room, term, ws, pl, n, g, gr, sl, f', e, rfl, hst, ⟨v, t, hs, hp, hn⟩, hk, ha, qe, q0, q1⟩ := h
 refine ⟨_, (pss_cons (ps_set (i := 4) S.nd rfl (by first | exact Or.inl rfl | exact Or.inr rfl) (pe_ix ix_tup (pv 1) pe_int (fun _ _ => rfl)))
   (pss_cons (ps_expr (pe_fnX c_need_up (hr.mono (by first | decide | omega)) paX_self (pa_cons (pv 4) pa_nil)))
   (pss_cons (ps_if (PW.pt (pw_and (pt_val (pe_fn c_has_rule (hr.mono (by first | decide | omega)) NE.pass (pa_cons (pv 0) (pa_cons pe_str pa_nil)))) (pw_and1 (pt_cmpR op_le (pv 2) (pe_ix ix_tup (pv 1) pe_int (fun _ _ => rfl)) (nomark _))))) (pss_one (ps_ret (pe_tup (pa_cons pe_bl (pa_cons (pe_lst pa_nil) (pa_cons (pv 4) pa_nil)))))) pss_nil)
   (pss_one (ps_ret (pe_tup (pa_cons pe_bl (pa_cons (pe_lst (pa_cons (pe_tup (pa_cons pe_str (pa_cons (pv 2) (pa_cons (pv 3) pa_nil)))) pa_nil)) (pa_cons (pe_fn c_raised (hr.mono (by first | decide | omega)) NE.pass (pa_cons (pv 4) (pa_cons (pe_fn c_bound_of (hr.mono (by first | decide | omega)) NE.pass (pa_cons (pv 4) pa_nil)) pa_nil))) pa_nil))))))))), ?_⟩
 try dsimp only [cxOf]
 have L := ((Led.start H (fun _ => False)).more (tupAt s [_, _, _]) hs).more (tupAt a [_, _, _]) ha
 walk_at "go"
 refine ⟨v, pl, rfl, hp, qe, fun hsome => ?_⟩
 rcases id hp with ⟨e1, rfl⟩ | ⟨tp, m, k, epl, rfl, htp⟩
 ·rw [e1] at hsome; cases hsome
 have q0 := q0 m k epl
 have q1 := q1 m k epl
 have k0 := hk m k epl
 walk_at "one"
 try dsimp only [gName]
 refine seq_mid (fun σ H' => H' = H ∧ σ = [some (.ref p), some (.ref s), some (.int gr), some (.ref a), some (.ref tp)] ∧ ¬ (("once" : Str) ∈ ws ∧ gr ≤ g)) (fun nx kk => ?_) ?_
 ·walk_at "go"
  refine ⟨p, sh, far, room, term, ws, _, rfl, hst, ?_⟩
  walk_at "go"
  refine g_ifD (fun c1 => ?_) (fun c1 => ?_)
  ·walk_at "go"
   refine g_ifD (fun c2 => ?_) (fun c2 => ?_)
   ·walk_at "go"
    exact q0 c1 c2 _ _ _ (hp.same L'.same) ⟨_, L'.tup (by walk_at "mem"), by assumption, L'.eo .head, fun _ h => by simp at h⟩ L'.same
   ·walk_at "go"
    exact kk _ _ ⟨rfl, rfl, fun z => c2 z.2⟩
  ·walk_at "go"
   exact kk _ _ ⟨rfl, rfl, fun z => c1 z.1⟩
 rintro σ HA ⟨rfl, rfl, hno⟩
 walk_at "go"
 obtain ⟨lx, tk, elx, etk⟩ : ∃ z y, z = l' ∧ y = t' := ⟨_, _, rfl, rfl⟩
 subst elx etk
 have M := L'
 clear L L'
 have nlx : HA lx = none := (M.own (lx, _) List.mem_cons_self).elim (fun z => absurd z id) id
 refine ⟨tp, m, k, rfl, M.same _ _ htp, ?_⟩
 walk_at "go"
 refine ⟨tp, m, k, _, rfl, M.same _ _ htp, k0, fun r H2 hr2 s2 => ?_⟩
 have N := (M.keep s2).more (tupAt r [_, _]) hr2
 clear M
 walk_at "go"
 exact q1 hno _ tk (.ref r) _ (.inr ⟨r, _, _, rfl, rfl, L'.tup (r := r) (by walk_at "mem")⟩) ⟨lx, L'.tup (by walk_at "mem"), nlx, L'.eo .head, fun z hz => by
  rw [List.mem_singleton.mp hz]
  exact .took (L'.tup (r := tk) (by walk_at "mem")) (L'.tup (r := a) (by walk_at "mem"))⟩ L'.same
theorem sc_hearing : FnScope ["settings", "stand", "bound", "is_written"] ["settings", "stand", "bound"] (defScope (top 60)) := by walk_at "s"
def spHearing (K : PySem.W.Frag) (CD CS : Addr) : Sp := fun vs H Q E => ∃ (p s : Addr) (sh : V) (far room term : Int) (ws : List Str) (pl : Option (Int × Int)) (n : Nt) (g b : Int), vs = [.ref p, .ref s, .int b] ∧ StAt CS H p sh far room term ws ∧ StdAt K H s pl n g ∧ (∀ m k, pl = some (m, k) → 0 ≤ k) ∧
 (pl = none → E (.ref CD) none H) ∧
 (∀ m k, pl = some (m, k) → ∀ t v ls H', ((("spoken" : Str) ∈ ws ∧ n.hr < b ∧ ∃ l, ls = [(l, .heard b)]) ∨ (¬ (("spoken" : Str) ∈ ws ∧ n.hr < b) ∧ ls = [])) → PlAt H' v (some (raisP m k b)) → TellAt H H' t .non ls v → Same H H' → Q (.ref t) H')
theorem ok_hearing (D : Dat K mg "hearing" "hearing" (top 60) ["settings", "stand", "bound"]) (NE : NoErr (CX1 P w)) (c_need_up : Cal P w K mg base (CX1 P w) "need_up" 1 ["place"] (spNeedUp CD)) (c_has_rule : Cal P w K mg base (CX1 P w) "has_rule" 1 ["settings", "word"] (spHasRule CS)) (c_heard_in : Cal P w K mg base (CX1 P w) "heard_in" 1 ["stand"] (spHeardIn K)) (c_raised : Cal P w K mg base (CX1 P w) "raised" 1 ["place", "bound"] spRaised) : Cal P w K mg base (CX1 P w) "hearing" 2 ["settings", "stand", "bound"] (spHearing K CD CS) := by
 have S := sc_hearing
 refine D.okR S (fun vs H Q E h => ?_) (fun f cdv A outer s H vs Q E hr h => ?_)
 ·obtain ⟨p, s, sh, far, room, term, ws, pl, n, g, b, rfl, _⟩ := h
  rfl
 obtain ⟨p, s, sh, far, room, term, ws, pl, n, g, b, rfl, hst, hsd, hk, qe, q1⟩ := h
 obtain ⟨v, t, hs, hp, hn⟩ := id hsd
 refine ⟨_, (pss_cons (ps_expr (pe_fnX c_need_up (hr.mono (by first | decide | omega)) paX_self (pa_cons (pe_ix ix_tup (pv 1) pe_int (fun _ _ => rfl)) pa_nil)))
   (pss_cons (ps_set (i := 3) S.nd rfl (by first | exact Or.inl rfl | exact Or.inr rfl) (pe_and (pe_fn c_has_rule (hr.mono (by first | decide | omega)) NE.pass (pa_cons (pv 0) (pa_cons pe_str pa_nil))) (pe_one (pe_cmpR op_gt (pv 2) (pe_fn c_heard_in (hr.mono (by first | decide | omega)) NE.pass (pa_cons (pv 1) pa_nil)) (nomark _)))))
   (pss_one (ps_ret (pe_tup (pa_cons pe_non (pa_cons (pe_ifExp (pt_val (pv 3)) (pe_lst (pa_cons (pe_tup (pa_cons pe_str (pa_cons (pv 2) pa_nil))) pa_nil)) (pe_lst pa_nil)) (pa_cons (pe_fn c_raised (hr.mono (by first | decide | omega)) NE.pass (pa_cons (pe_ix ix_tup (pv 1) pe_int (fun _ _ => rfl)) (pa_cons (pv 2) pa_nil))) pa_nil)))))))), ?_⟩
 try dsimp only [cxOf]
 have L := (Led.start H (fun _ => False)).more (tupAt s [_, _, _]) hs
 walk_at "go"
 refine ⟨v, pl, rfl, hp, qe, fun hsome => ?_⟩
 rcases id hp with ⟨e1, rfl⟩ | ⟨tp, m, k, epl, rfl, htp⟩
 ·rw [e1] at hsome; cases hsome
 have q1 := q1 m k epl
 have k0 := hk m k epl
 walk_at "one"
 try dsimp only [gName]
 refine seq_mid (fun σ H' => H' = H ∧ σ = [some (.ref p), some (.ref s), some (.int b), some (.bl (decide (("spoken" : Str) ∈ ws ∧ n.hr < b)))]) (fun nx kk => ?_) ?_
 ·walk_at "go"
  refine ⟨p, sh, far, room, term, ws, _, rfl, hst, ?_⟩
  walk_at "go"
  refine g_ifD (fun c1 => ?_) (fun c1 => ?_)
  ·walk_at "go"
   refine ⟨s, pl, n, g, rfl, hsd, ?_⟩
   walk_at "go"
   exact kk _ _ ⟨rfl, by rw [show decide (("spoken" : Str) ∈ ws ∧ n.hr < b) = decide (n.hr < b) from decide_eq_decide.mpr ⟨fun z => z.2, fun z => ⟨c1, z⟩⟩]; rfl⟩
  ·exact kk _ _ ⟨rfl, by rw [decide_eq_false (fun z => c1 z.1)]; rfl⟩
 rintro σ HA ⟨rfl, rfl⟩
 walk_at "go"
 refine g_ifD (fun c => ?_) (fun c => ?_)
 ·walk_at "go"
  obtain ⟨lx, tk, elx, etk⟩ : ∃ z y, z = l' ∧ y = t' := ⟨_, _, rfl, rfl⟩
  subst elx etk
  have M := L'
  clear L L'
  have nlx : HA lx = none := (M.own (lx, _) List.mem_cons_self).elim (fun z => absurd z id) id
  refine ⟨tp, m, k, _, rfl, M.same _ _ htp, k0, fun r H2 hr2 s2 => ?_⟩
  have N := (M.keep s2).more (tupAt r [_, _]) hr2
  clear M
  walk_at "go"
  exact q1 _ (.ref r) [(tk, .heard b)] _ (.inl ⟨c.1, c.2, tk, rfl⟩) (.inr ⟨r, _, _, rfl, rfl, L'.tup (r := r) (by walk_at "mem")⟩) ⟨lx, L'.tup (by walk_at "mem"), nlx, L'.eo .head, fun z hz => by
   rw [List.mem_singleton.mp hz]
   exact .heard (L'.tup (r := tk) (by walk_at "mem"))⟩ L'.same
 ·walk_at "go"
  obtain ⟨lx, elx⟩ : ∃ z, z = l' := ⟨_, rfl⟩
  subst elx
  have M := L'
  clear L L'
  have nlx : HA lx = none := (M.own (lx, _) List.mem_cons_self).elim (fun z => absurd z id) id
  refine ⟨tp, m, k, _, rfl, M.same _ _ htp, k0, fun r H2 hr2 s2 => ?_⟩
  have N := (M.keep s2).more (tupAt r [_, _]) hr2
  clear M
  walk_at "go"
  exact q1 _ (.ref r) [] _ (.inr ⟨c, rfl⟩) (.inr ⟨r, _, _, rfl, rfl, L'.tup (r := r) (by walk_at "mem")⟩) ⟨lx, L'.tup (by walk_at "mem"), nlx, L'.eo .head, fun z hz => by simp at hz⟩ L'.same
theorem sc_giving : FnScope ["settings", "stand", "place", "end", "told"] ["settings", "stand"] (defScope (top 61)) := by walk_at "s"
def giveE (f m k hd : Int) : Int := max (max f (bnd m k)) hd
theorem ar_of {H : Hp} {v : V} {sl f e : Int} (h : ArAt H v (some (sl, f, e))) : ∃ a, v = .ref a ∧ H a = some (.tup [.int sl, .int f, .int e]) := by
 rcases h with ⟨z, _⟩ | ⟨a, _, _, _, z, ev, ha⟩
 ·cases z
 ·cases z; exact ⟨a, ev, ha⟩
def spGiving (K : PySem.W.Frag) (CD CA CN CS : Addr) : Sp := fun vs H Q E => ∃ (p s : Addr) (sh : V) (far room term : Int) (ws : List Str) (pl : Option (Int × Int)) (n : Nt) (g : Int), vs = [.ref p, .ref s] ∧ StAt CS H p sh far room term ws ∧ StdAt K H s pl n g ∧
 (pl = none → E (.ref CD) none H) ∧ (pl.isSome = true → n.ar = none → E (.ref CA) none H) ∧
 (∀ m k sl f e, pl = some (m, k) → n.ar = some (sl, f, e) → giveE f m k n.hd ≥ e → E (.ref CN) none H) ∧
 (∀ m k sl f e, pl = some (m, k) → n.ar = some (sl, f, e) → ¬ giveE f m k n.hd ≥ e → ∀ t tv v ls H', H' tv = some (.tup [.int n.g, .int (giveE f m k n.hd)]) → ((("ends" : Str) ∈ ws ∧ ∃ l, ls = [(l, .ends n.g (giveE f m k n.hd))]) ∨ (¬ ("ends" : Str) ∈ ws ∧ ls = [])) → PlAt H' v pl → TellAt H H' t (.ref tv) ls v → Same H H' → Q (.ref t) H')
theorem ok_giving {CN : Addr} (D : Dat K mg "giving" "giving" (top 61) ["settings", "stand"]) (BT : Bt mg) (NE : NoErr (CX1 P w)) (O_NoRoom : ECls K mg "NoRoom" CN) (c_need_up : Cal P w K mg base (CX1 P w) "need_up" 1 ["place"] (spNeedUp CD)) (c_need_area : Cal P w K mg base (CX1 P w) "need_area" 1 ["area"] (spNeedArea CA)) (c_area_in : Cal P w K mg base (CX1 P w) "area_in" 1 ["stand"] (spAreaIn K)) (c_first_of : Cal P w K mg base (CX1 P w) "first_of" 1 ["area"] spAt1) (c_end_of : Cal P w K mg base (CX1 P w) "end_of" 1 ["area"] spAt2) (c_bound_of : Cal P w K mg base (CX1 P w) "bound_of" 1 ["place"] spBound)
  (c_held_in : Cal P w K mg base (CX1 P w) "held_in" 1 ["stand"] (spHeldIn K)) (c_grant_in : Cal P w K mg base (CX1 P w) "grant_in" 1 ["stand"] (spGrantIn K)) (c_has_rule : Cal P w K mg base (CX1 P w) "has_rule" 1 ["settings", "word"] (spHasRule CS)) : Cal P w K mg base (CX1 P w) "giving" 2 ["settings", "stand"] (spGiving K CD CA CN CS) := by
 have S := sc_giving
 refine D.okR S (fun vs H Q E h => ?_) (fun f cdv A outer s H vs Q E hr h => ?_)
 ·obtain ⟨p, s, sh, far, room, term, ws, pl, n, g, rfl, _⟩ := h
  rfl
 obtain ⟨p, s, sh, far, room, term, ws, pl, n, g, rfl, hst, hsd, qd, qa, qn, q1⟩ := h
 obtain ⟨v, t, hs, hp, hn⟩ := id hsd
 refine ⟨_, (@pss_cons _ _ _ _ _ (@ps_set _ _ 2 _ _ _ _ S.nd rfl (by first | exact Or.inl rfl | exact Or.inr rfl) (@pe_ix _ _ _ _ _ _ _ (@ix_tup _) (@pv _ 1 _ _ (by rfl) (by first | exact Or.inl rfl | exact Or.inr (Or.inl rfl) | exact Or.inr (Or.inr rfl)) (by decide) (by decide)) (@pe_int _ _ _ _) (fun _ _ => rfl)) (by rfl) (by first | exact .inl rfl | exact .inr rfl | assumption)) (@pss_cons _ _ _ _ _ (@ps_expr _ _ _ _ (@pe_fnX _ _ _ _ _ _ _ _ _ _ _ c_need_up (hr.mono (by first | decide | omega)) (@paX_self _ _) (@pa_cons _ _ _ _ _ (@pv _ 2 _ _ (by rfl) (by first | exact Or.inl rfl | exact Or.inr (Or.inl rfl) | exact Or.inr (Or.inr rfl)) (by decide) (by decide)) (@pa_nil _) (by rfl)) (by rfl) (by decide) (by rfl) (by rfl)) (by rfl)) (@pss_cons _ _ _ _ _ (@ps_expr _ _ _ _ (@pe_fnX _ _ _ _ _ _ _ _ _ _ _ c_need_area (hr.mono (by first | decide | omega)) (@paX_self _ _) (@pa_cons _ _ _ _ _ (@pe_fn _ _ _ _ _ _ _ _ _ _ _ _ c_area_in (hr.mono (by first | decide | omega)) NE.pass (@pa_cons _ _ _ _ _ (@pv _ 1 _ _ (by rfl) (by first | exact Or.inl rfl | exact Or.inr (Or.inl rfl) | exact Or.inr (Or.inr rfl)) (by decide) (by decide)) (@pa_nil _) (by rfl)) (by rfl) (by decide) (by rfl) (by rfl)) (@pa_nil _) (by rfl)) (by rfl) (by decide) (by rfl) (by rfl)) (by rfl)) (@pss_cons _ _ _ _ _ (@ps_set _ _ 3 _ _ _ _ S.nd rfl (by first | exact Or.inl rfl | exact Or.inr rfl) (@pe_callB _ _ _ _ _ _ _ _ _ (@c_max3 _ rfl) rfl BT.max L3.bt_max (@pa_cons _ _ _ _ _ (@pe_fn _ _ _ _ _ _ _ _ _ _ _ _ c_first_of (hr.mono (by first | decide | omega)) NE.pass (@pa_cons _ _ _ _ _ (@pe_fn _ _ _ _ _ _ _ _ _ _ _ _ c_area_in (hr.mono (by first | decide | omega)) NE.pass (@pa_cons _ _ _ _ _ (@pv _ 1 _ _ (by rfl) (by first | exact Or.inl rfl | exact Or.inr (Or.inl rfl) | exact Or.inr (Or.inr rfl)) (by decide) (by decide)) (@pa_nil _) (by rfl)) (by rfl) (by decide) (by rfl) (by rfl)) (@pa_nil _) (by rfl)) (by rfl) (by decide) (by rfl) (by rfl)) (@pa_cons _ _ _ _ _ (@pe_fn _ _ _ _ _ _ _ _ _ _ _ _ c_bound_of (hr.mono (by first | decide | omega)) NE.pass (@pa_cons _ _ _ _ _ (@pv _ 2 _ _ (by rfl) (by first | exact Or.inl rfl | exact Or.inr (Or.inl rfl) | exact Or.inr (Or.inr rfl)) (by decide) (by decide)) (@pa_nil _) (by rfl)) (by rfl) (by decide) (by rfl) (by rfl)) (@pa_cons _ _ _ _ _ (@pe_fn _ _ _ _ _ _ _ _ _ _ _ _ c_held_in (hr.mono (by first | decide | omega)) NE.pass (@pa_cons _ _ _ _ _ (@pv _ 1 _ _ (by rfl) (by first | exact Or.inl rfl | exact Or.inr (Or.inl rfl) | exact Or.inr (Or.inr rfl)) (by decide) (by decide)) (@pa_nil _) (by rfl)) (by rfl) (by decide) (by rfl) (by rfl)) (@pa_nil _) (by rfl)) (by rfl)) (by rfl)) (by decide) (by decide) (by rfl) (by rfl)) (by rfl) (by first | exact .inl rfl | exact .inr rfl | assumption)) (@pss_cons _ _ _ _ _ (@ps_if _ _ _ _ _ _ _ _ (@pt_cmpR _ _ _ _ _ _ _ _ (@op_ge _) (@pv _ 3 _ _ (by rfl) (by first | exact Or.inl rfl | exact Or.inr (Or.inl rfl) | exact Or.inr (Or.inr rfl)) (by decide) (by decide)) (@pe_fn _ _ _ _ _ _ _ _ _ _ _ _ c_end_of (hr.mono (by first | decide | omega)) NE.pass (@pa_cons _ _ _ _ _ (@pe_fn _ _ _ _ _ _ _ _ _ _ _ _ c_area_in (hr.mono (by first | decide | omega)) NE.pass (@pa_cons _ _ _ _ _ (@pv _ 1 _ _ (by rfl) (by first | exact Or.inl rfl | exact Or.inr (Or.inl rfl) | exact Or.inr (Or.inr rfl)) (by decide) (by decide)) (@pa_nil _) (by rfl)) (by rfl) (by decide) (by rfl) (by rfl)) (@pa_nil _) (by rfl)) (by rfl) (by decide) (by rfl) (by rfl)) (@nomark _ _ (by decide) (by decide))) (@pss_one _ _ _ (@ps_raise _ _ _ _ _ _ _ _ _ _ O_NoRoom rfl (@paX_self _ _) (@pa_cons _ _ _ _ _ (@pe_str _ _ _ _) (@pa_nil _) (by rfl)) (by rfl) (by decide) (by rfl) (by rfl))) (@pss_nil _)) (@pss_cons _ _ _ _ _ (@ps_set _ _ 4 _ _ _ _ S.nd rfl (by first | exact Or.inl rfl | exact Or.inr rfl) (@pe_tup _ _ _ _ _ (@pa_cons _ _ _ _ _ (@pe_fn _ _ _ _ _ _ _ _ _ _ _ _ c_grant_in (hr.mono (by first | decide | omega)) NE.pass (@pa_cons _ _ _ _ _ (@pv _ 1 _ _ (by rfl) (by first | exact Or.inl rfl | exact Or.inr (Or.inl rfl) | exact Or.inr (Or.inr rfl)) (by decide) (by decide)) (@pa_nil _) (by rfl)) (by rfl) (by decide) (by rfl) (by rfl)) (@pa_cons _ _ _ _ _ (@pv _ 3 _ _ (by rfl) (by first | exact Or.inl rfl | exact Or.inr (Or.inl rfl) | exact Or.inr (Or.inr rfl)) (by decide) (by decide)) (@pa_nil _) (by rfl)) (by rfl))) (by rfl) (by first | exact .inl rfl | exact .inr rfl | assumption)) (@pss_one _ _ _ (@ps_ret _ _ _ _ (@pe_tup _ _ _ _ _ (@pa_cons _ _ _ _ _ (@pv _ 4 _ _ (by rfl) (by first | exact Or.inl rfl | exact Or.inr (Or.inl rfl) | exact Or.inr (Or.inr rfl)) (by decide) (by decide)) (@pa_cons _ _ _ _ _ (@pe_ifExp _ _ _ _ _ _ _ _ (@pt_val _ _ _ (@pe_fn _ _ _ _ _ _ _ _ _ _ _ _ c_has_rule (hr.mono (by first | decide | omega)) NE.pass (@pa_cons _ _ _ _ _ (@pv _ 0 _ _ (by rfl) (by first | exact Or.inl rfl | exact Or.inr (Or.inl rfl) | exact Or.inr (Or.inr rfl)) (by decide) (by decide)) (@pa_cons _ _ _ _ _ (@pe_str _ _ _ _) (@pa_nil _) (by rfl)) (by rfl)) (by rfl) (by decide) (by rfl) (by rfl)) (by intro _; rfl)) (@pe_lst _ _ _ _ (@pa_cons _ _ _ _ _ (@pe_tup _ _ _ _ _ (@pa_cons _ _ _ _ _ (@pe_str _ _ _ _) (@pa_cons _ _ _ _ _ (@pe_fn _ _ _ _ _ _ _ _ _ _ _ _ c_grant_in (hr.mono (by first | decide | omega)) NE.pass (@pa_cons _ _ _ _ _ (@pv _ 1 _ _ (by rfl) (by first | exact Or.inl rfl | exact Or.inr (Or.inl rfl) | exact Or.inr (Or.inr rfl)) (by decide) (by decide)) (@pa_nil _) (by rfl)) (by rfl) (by decide) (by rfl) (by rfl)) (@pa_cons _ _ _ _ _ (@pv _ 3 _ _ (by rfl) (by first | exact Or.inl rfl | exact Or.inr (Or.inl rfl) | exact Or.inr (Or.inr rfl)) (by decide) (by decide)) (@pa_nil _) (by rfl)) (by rfl)) (by rfl))) (@pa_nil _) (by rfl))) (@pe_lst _ _ _ _ (@pa_nil _))) (@pa_cons _ _ _ _ _ (@pv _ 2 _ _ (by rfl) (by first | exact Or.inl rfl | exact Or.inr (Or.inl rfl) | exact Or.inr (Or.inr rfl)) (by decide) (by decide)) (@pa_nil _) (by rfl)) (by rfl)) (by rfl))))))))))), ?_⟩
 try dsimp only [cxOf]
 have L := (Led.start H (fun _ => False)).more (tupAt s [_, _, _]) hs
 walk_at "go"
 refine ⟨v, pl, rfl, hp, qd, fun hsome => ?_⟩
 rcases id hp with ⟨e1, rfl⟩ | ⟨tp, m, k, epl, rfl, htp⟩
 ·rw [e1] at hsome; cases hsome
 walk_at "go"
 refine ⟨s, pl, n, g, rfl, hsd, fun av hav => ?_⟩
 walk_at "go"
 refine ⟨av, n.ar, rfl, hav, qa hsome, fun hars => ?_⟩
 obtain ⟨⟨sl, f', e⟩, ear⟩ := Option.isSome_iff_exists.mp hars
 have qn := qn m k sl f' e epl ear
 have q1 := q1 m k sl f' e epl ear
 rw [ear] at hav
 walk_at "go"
 refine ⟨s, pl, n, g, rfl, hsd, fun av2 hav2 => ?_⟩
 rw [ear] at hav2
 obtain ⟨a2, rfl, ha2⟩ := ar_of hav2
 walk_at "go"
 refine ⟨a2, _, _, _, rfl, ha2, ?_⟩
 walk_at "go"
 refine ⟨tp, m, k, rfl, htp, ?_⟩
 walk_at "go"
 refine ⟨s, pl, n, g, rfl, hsd, ?_⟩
 walk_at "go"
 refine ⟨s, pl, n, g, rfl, hsd, fun av3 hav3 => ?_⟩
 rw [ear] at hav3
 obtain ⟨a3, rfl, ha3⟩ := ar_of hav3
 walk_at "go"
 refine ⟨a3, _, _, _, rfl, ha3, ?_⟩
 walk_at "go"
 refine g_ifD (fun c => ?_) (fun c => ?_)
 ·walk_at "go"
  exact qn c
 walk_at "go"
 refine ⟨s, pl, n, g, rfl, hsd, ?_⟩
 walk_at "go"
 obtain ⟨tv, etv⟩ : ∃ z, z = t' := ⟨_, rfl⟩
 subst etv
 have M := L'
 clear L L'
 have sM := M.same
 refine ⟨p, sh, far, room, term, ws, _, rfl, hst.same sM, ?_⟩
 walk_at "go"
 refine g_ifD (fun c1 => ?_) (fun c1 => ?_)
 ·walk_at "go"
  refine ⟨s, pl, n, g, rfl, hsd.same sM, ?_⟩
  walk_at "go"
  refine q1 c _ tv (.ref tp) [(_, .ends n.g _)] _ (L'.tup (r := tv) (by walk_at "mem")) (.inl ⟨c1, _, rfl⟩) (hp.same L'.same) ⟨l', L'.tup (by walk_at "mem"), (L'.own (l', _) List.mem_cons_self).elim (fun z => absurd z id) id, L'.eo .head, fun z hz => ?_⟩ L'.same
  rw [List.mem_singleton.mp hz]
  exact .ends (L'.tup (by walk_at "mem"))
 ·walk_at "go"
  exact q1 c _ tv (.ref tp) [] _ (L'.tup (r := tv) (by walk_at "mem")) (.inr ⟨c1, rfl⟩) (hp.same L'.same) ⟨l', L'.tup (by walk_at "mem"), (L'.own (l', _) List.mem_cons_self).elim (fun z => absurd z id) id, L'.eo .head, fun z hz => by simp at hz⟩ L'.same
end
end Law

namespace Law
open PySem PySem.Spec PyProof.Rows L2 L3 L4
def MkE (CD CA CN CW : Addr) (H : Hp) (pl : Option (Int × Int)) (n : Nt) (far r : Int) (E : XK) : Prop := (pl = none → E (.ref CD) none H) ∧ (pl.isSome = true → n.ar = none → E (.ref CA) none H) ∧
 (∀ m k sl f e, pl = some (m, k) → n.ar = some (sl, f, e) → e ≤ due m f r → E (.ref CN) none H) ∧
 (∀ m k sl f e, pl = some (m, k) → n.ar = some (sl, f, e) → ¬ e ≤ due m f r → r + far < due m f r → ∀ d H', Same H H' → H' d = some (.xd [("reading", .int (due m f r - far))]) → E (.ref CW) (some d) H')
def nxP (c m f r k : Int) : Int × Int := (if cnt m f r k + 1 = c then due m f r + 1 else due m f r, if cnt m f r k + 1 = c then 0 else cnt m f r k + 1)
def SsAt (C CS : Addr) (H : Hp) (p sp : Addr) (c s far room term : Int) (ws : List Str) : Prop := StAt CS H p (.ref sp) far room term ws ∧ ShAt C H sp c s ∧ ShN c s
theorem SsAt.same {C CS : Addr} {H H' : Hp} {p sp : Addr} {c s far room term : Int} {ws : List Str} (h : SsAt C CS H p sp c s far room term ws) (sm : Same H H') : SsAt C CS H' p sp c s far room term ws :=
 ⟨h.1.same sm, h.2.1.elim fun dx e => ⟨dx, sm _ _ e⟩, h.2.2⟩
section
variable {P : Program} {w : World} {K : PySem.W.Frag} {mg : Str → Option Value} {base : Heap} {C CD CA CN CW CT CS CR : Addr}
theorem sc_NoNote : FnScope ["self", "moment"] ["self", "moment"] (defScope (inClass (top 9) 0)) := by walk_at "s"
theorem ok_NoNote (D : EDat K mg "NoNote" "NoNote.__init__" CT (inClass (top 9) 0) ["self", "moment"]) (B_RiseError : EBase K mg "RiseError" CR) (EP : EPut K CT "moment") : EOwn P w K mg base "NoNote" CT 1 ["self", "moment"] (spInit1 CT "moment") := by
 have S := sc_NoNote
 refine D.ok' S (fun vs H Q E h => ?_) (fun f cdv A outer s H vs Q E hr h => ?_)
 ·obtain ⟨x, v, rfl, _⟩ := h
  rfl
 obtain ⟨x, v, rfl, hx, q⟩ := h
 refine ⟨_, (pss_cons (ps_expr (pe_baseI B_RiseError (pa_cons (pv 0) (pa_cons pe_str pa_nil))))
   (pss_one (ps_fldN (pv 0) (pv 1) rfl))), ?_⟩
 try dsimp only [cxOf]
 walk_at "go"
 refine g_baseIv hx D.ok ?_
 walk_at "go"
 exact g_set0 hx EP fun d nd => q d nd
theorem sc_map : FnScope ["settings", "stand", "reading"] ["settings", "stand", "reading"] (defScope (top 57)) := by walk_at "s"
def spMAP (K : PySem.W.Frag) (C CD CA CN CW CS : Addr) : Sp := fun vs H Q E => ∃ (p s sp : Addr) (c s' far room term : Int) (ws : List Str) (pl : Option (Int × Int)) (n : Nt) (g r : Int), vs = [.ref p, .ref s, .int r] ∧ SsAt C CS H p sp c s' far room term ws ∧ StdAt K H s pl n g ∧ MkE CD CA CN CW H pl n far r E ∧
 (∀ m k sl f e, pl = some (m, k) → n.ar = some (sl, f, e) → ¬ e ≤ due m f r → ¬ r + far < due m f r → ∀ x y H', H' x = some (.tup [.int (mk c s' (due m f r) sl (cnt m f r k)), .ref y]) → PlAt H' (.ref y) (some (nxP c m f r k)) → Same H H' → Q (.ref x) H')
theorem ok_map (D : Dat K mg "mark_and_place" "mark_and_place" (top 57) ["settings", "stand", "reading"]) (SS : StC K CS) (NE : NoErr (CX1 P w)) (c_need_up : Cal P w K mg base (CX1 P w) "need_up" 1 ["place"] (spNeedUp CD)) (c_need_area : Cal P w K mg base (CX1 P w) "need_area" 1 ["area"] (spNeedArea CA)) (c_area_in : Cal P w K mg base (CX1 P w) "area_in" 1 ["stand"] (spAreaIn K))
  (c_made : Cal P w K mg base (CX1 P w) "made" 3 ["shape", "far", "area", "place", "reading"] (spMade C CN CW)) : Cal P w K mg base (CX1 P w) "mark_and_place" 4 ["settings", "stand", "reading"] (spMAP K C CD CA CN CW CS) := by
 have S := sc_map
 refine D.okR S (fun vs H Q E h => ?_) (fun f cdv A outer s H vs Q E hr h => ?_)
 ·obtain ⟨p, s, sp, c, s', far, room, term, ws, pl, n, g, r, rfl, _⟩ := h
  rfl
 obtain ⟨p, s, sp, c, s', far, room, term, ws, pl, n, g, r, rfl, ⟨⟨dx, tr, ms, hp0, htr, pm⟩, hsh, shn⟩, hsd, ⟨qd, qa, qn, qw⟩, q1⟩ := h
 obtain ⟨v, t, hs, hp, hn⟩ := id hsd
 refine ⟨_, (pss_cons (ps_expr (pe_fnX c_need_up (hr.mono (by first | decide | omega)) paX_self (pa_cons (pe_ix ix_tup (pv 1) pe_int (fun _ _ => rfl)) pa_nil)))
   (pss_cons (ps_expr (pe_fnX c_need_area (hr.mono (by first | decide | omega)) paX_self (pa_cons (pe_fn c_area_in (hr.mono (by first | decide | omega)) NE.pass (pa_cons (pv 1) pa_nil)) pa_nil)))
   (pss_one (ps_ret (pe_fnX c_made (hr.mono (by first | decide | omega)) paX_self (pa_cons (pe_fld (pv 0) rfl) (pa_cons (pe_fld (pv 0) rfl) (pa_cons (pe_fn c_area_in (hr.mono (by first | decide | omega)) NE.pass (pa_cons (pv 1) pa_nil)) (pa_cons (pe_ix ix_tup (pv 1) pe_int (fun _ _ => rfl)) (pa_cons (pv 2) pa_nil)))))))))), ?_⟩
 try dsimp only [cxOf]
 have L := (Led.start H (fun _ => False)).more (tupAt s [_, _, _]) hs
 walk_at "go"
 refine ⟨v, pl, rfl, hp, qd, fun hsome => ?_⟩
 rcases id hp with ⟨e1, rfl⟩ | ⟨tp, m, k, epl, rfl, htp⟩
 ·rw [e1] at hsome; cases hsome
 walk_at "go"
 refine ⟨s, pl, n, g, rfl, hsd, fun av hav => ?_⟩
 walk_at "go"
 refine ⟨av, n.ar, rfl, hav, qa hsome, fun hars => ?_⟩
 obtain ⟨⟨sl, f', e⟩, ear⟩ := Option.isSome_iff_exists.mp hars
 have qn := qn m k sl f' e epl ear
 have qw := qw m k sl f' e epl ear
 have q1 := q1 m k sl f' e epl ear
 walk_at "go"
 refine ⟨p, CS, dx, _, _, rfl, hp0, SS.cl, SS.n1, stF_shape _ far room term tr, ?_⟩
 walk_at "go"
 refine ⟨p, CS, dx, _, _, rfl, hp0, SS.cl, SS.n2, stF_far _ far room term tr, ?_⟩
 walk_at "go"
 refine ⟨s, pl, n, g, rfl, hsd, fun av2 hav2 => ?_⟩
 rw [ear] at hav2
 obtain ⟨a2, rfl, ha2⟩ := ar_of hav2
 walk_at "go"
 exact ⟨sp, a2, tp, c, s', sl, f', e, m, k, r, far, rfl, shn, hsh, ha2, htp, qn, qw, fun b1 b2 x y H' hx hy sm => q1 b1 b2 x y H' hx (.inr ⟨y, _, _, rfl, rfl, hy⟩) sm⟩
theorem sc_writing : FnScope ["settings", "stand", "reading", "ahead"] ["settings", "stand", "reading"] (defScope (top 58)) := by walk_at "s"
def spWriting (K : PySem.W.Frag) (C CD CA CN CW CS : Addr) : Sp := fun vs H Q E => ∃ (p s sp : Addr) (c s' far room term : Int) (ws : List Str) (pl : Option (Int × Int)) (n : Nt) (g r : Int), vs = [.ref p, .ref s, .int r] ∧ SsAt C CS H p sp c s' far room term ws ∧ StdAt K H s pl n g ∧ MkE CD CA CN CW H pl n far r E ∧
 (∀ m k sl f e, pl = some (m, k) → n.ar = some (sl, f, e) → ¬ e ≤ due m f r → ¬ r + far < due m f r → ∀ t v ls H', (n.hd < due m f r + room ∧ (∃ l, ls = [(l, .held (due m f r + room))]) ∨ ¬ n.hd < due m f r + room ∧ ls = []) → PlAt H' v pl → TellAt H H' t (.int (max n.hd (due m f r + room))) ls v → Same H H' → Q (.ref t) H')
theorem ok_writing (D : Dat K mg "writing" "writing" (top 58) ["settings", "stand", "reading"]) (SS : StC K CS) (NE : NoErr (CX1 P w)) (c_mark_and_place : Cal P w K mg base (CX1 P w) "mark_and_place" 4 ["settings", "stand", "reading"] (spMAP K C CD CA CN CW CS)) (c_area_in : Cal P w K mg base (CX1 P w) "area_in" 1 ["stand"] (spAreaIn K)) (c_held_in : Cal P w K mg base (CX1 P w) "held_in" 1 ["stand"] (spHeldIn K))
  (c_moment_at : Cal P w K mg base (CX1 P w) "moment_at" 2 ["area", "place", "reading"] spMoment) : Cal P w K mg base (CX1 P w) "writing" 5 ["settings", "stand", "reading"] (spWriting K C CD CA CN CW CS) := by
 have S := sc_writing
 refine D.okR S (fun vs H Q E h => ?_) (fun f cdv A outer s H vs Q E hr h => ?_)
 ·obtain ⟨p, s, sp, c, s', far, room, term, ws, pl, n, g, r, rfl, _⟩ := h
  rfl
 obtain ⟨p, s, sp, c, s', far, room, term, ws, pl, n, g, r, rfl, hss, hsd, he, q1⟩ := h
 refine ⟨_, (@pss_cons _ _ _ _ _ (@ps_expr _ _ _ _ (@pe_fnX _ _ _ _ _ _ _ _ _ _ _ c_mark_and_place (hr.mono (by first | decide | omega)) (@paX_self _ _) (@pa_cons _ _ _ _ _ (@pv _ 0 _ _ (by rfl) (by first | exact Or.inl rfl | exact Or.inr (Or.inl rfl) | exact Or.inr (Or.inr rfl)) (by decide) (by decide)) (@pa_cons _ _ _ _ _ (@pv _ 1 _ _ (by rfl) (by first | exact Or.inl rfl | exact Or.inr (Or.inl rfl) | exact Or.inr (Or.inr rfl)) (by decide) (by decide)) (@pa_cons _ _ _ _ _ (@pv _ 2 _ _ (by rfl) (by first | exact Or.inl rfl | exact Or.inr (Or.inl rfl) | exact Or.inr (Or.inr rfl)) (by decide) (by decide)) (@pa_nil _) (by rfl)) (by rfl)) (by rfl)) (by rfl) (by decide) (by rfl) (by rfl)) (by rfl)) (@pss_cons _ _ _ _ _ (@ps_set _ _ 3 _ _ _ _ S.nd rfl (by first | exact Or.inl rfl | exact Or.inr rfl) (@pe_op _ _ _ _ _ _ _ _ (@op_add _) (@pe_fn _ _ _ _ _ _ _ _ _ _ _ _ c_moment_at (hr.mono (by first | decide | omega)) NE.pass (@pa_cons _ _ _ _ _ (@pe_fn _ _ _ _ _ _ _ _ _ _ _ _ c_area_in (hr.mono (by first | decide | omega)) NE.pass (@pa_cons _ _ _ _ _ (@pv _ 1 _ _ (by rfl) (by first | exact Or.inl rfl | exact Or.inr (Or.inl rfl) | exact Or.inr (Or.inr rfl)) (by decide) (by decide)) (@pa_nil _) (by rfl)) (by rfl) (by decide) (by rfl) (by rfl)) (@pa_cons _ _ _ _ _ (@pe_ix _ _ _ _ _ _ _ (@ix_tup _) (@pv _ 1 _ _ (by rfl) (by first | exact Or.inl rfl | exact Or.inr (Or.inl rfl) | exact Or.inr (Or.inr rfl)) (by decide) (by decide)) (@pe_int _ _ _ _) (fun _ _ => rfl)) (@pa_cons _ _ _ _ _ (@pv _ 2 _ _ (by rfl) (by first | exact Or.inl rfl | exact Or.inr (Or.inl rfl) | exact Or.inr (Or.inr rfl)) (by decide) (by decide)) (@pa_nil _) (by rfl)) (by rfl)) (by rfl)) (by rfl) (by decide) (by rfl) (by rfl)) (@pe_fld _ _ _ _ _ (@pv _ 0 _ _ (by rfl) (by first | exact Or.inl rfl | exact Or.inr (Or.inl rfl) | exact Or.inr (Or.inr rfl)) (by decide) (by decide)) rfl)) (by rfl) (by first | exact .inl rfl | exact .inr rfl | assumption)) (@pss_cons _ _ _ _ _ (@ps_if _ _ _ _ _ _ _ _ (@pt_cmpR _ _ _ _ _ _ _ _ (@op_gt _) (@pv _ 3 _ _ (by rfl) (by first | exact Or.inl rfl | exact Or.inr (Or.inl rfl) | exact Or.inr (Or.inr rfl)) (by decide) (by decide)) (@pe_fn _ _ _ _ _ _ _ _ _ _ _ _ c_held_in (hr.mono (by first | decide | omega)) NE.pass (@pa_cons _ _ _ _ _ (@pv _ 1 _ _ (by rfl) (by first | exact Or.inl rfl | exact Or.inr (Or.inl rfl) | exact Or.inr (Or.inr rfl)) (by decide) (by decide)) (@pa_nil _) (by rfl)) (by rfl) (by decide) (by rfl) (by rfl)) (@nomark _ _ (by decide) (by decide))) (@pss_one _ _ _ (@ps_ret _ _ _ _ (@pe_tup _ _ _ _ _ (@pa_cons _ _ _ _ _ (@pv _ 3 _ _ (by rfl) (by first | exact Or.inl rfl | exact Or.inr (Or.inl rfl) | exact Or.inr (Or.inr rfl)) (by decide) (by decide)) (@pa_cons _ _ _ _ _ (@pe_lst _ _ _ _ (@pa_cons _ _ _ _ _ (@pe_tup _ _ _ _ _ (@pa_cons _ _ _ _ _ (@pe_str _ _ _ _) (@pa_cons _ _ _ _ _ (@pv _ 3 _ _ (by rfl) (by first | exact Or.inl rfl | exact Or.inr (Or.inl rfl) | exact Or.inr (Or.inr rfl)) (by decide) (by decide)) (@pa_nil _) (by rfl)) (by rfl))) (@pa_nil _) (by rfl))) (@pa_cons _ _ _ _ _ (@pe_ix _ _ _ _ _ _ _ (@ix_tup _) (@pv _ 1 _ _ (by rfl) (by first | exact Or.inl rfl | exact Or.inr (Or.inl rfl) | exact Or.inr (Or.inr rfl)) (by decide) (by decide)) (@pe_int _ _ _ _) (fun _ _ => rfl)) (@pa_nil _) (by rfl)) (by rfl)) (by rfl))))) (@pss_nil _)) (@pss_one _ _ _ (@ps_ret _ _ _ _ (@pe_tup _ _ _ _ _ (@pa_cons _ _ _ _ _ (@pe_fn _ _ _ _ _ _ _ _ _ _ _ _ c_held_in (hr.mono (by first | decide | omega)) NE.pass (@pa_cons _ _ _ _ _ (@pv _ 1 _ _ (by rfl) (by first | exact Or.inl rfl | exact Or.inr (Or.inl rfl) | exact Or.inr (Or.inr rfl)) (by decide) (by decide)) (@pa_nil _) (by rfl)) (by rfl) (by decide) (by rfl) (by rfl)) (@pa_cons _ _ _ _ _ (@pe_lst _ _ _ _ (@pa_nil _)) (@pa_cons _ _ _ _ _ (@pe_ix _ _ _ _ _ _ _ (@ix_tup _) (@pv _ 1 _ _ (by rfl) (by first | exact Or.inl rfl | exact Or.inr (Or.inl rfl) | exact Or.inr (Or.inr rfl)) (by decide) (by decide)) (@pe_int _ _ _ _) (fun _ _ => rfl)) (@pa_nil _) (by rfl)) (by rfl)) (by rfl)))))))), ?_⟩
 try dsimp only [cxOf]
 walk_at "go"
 refine ⟨p, s, sp, c, s', far, room, term, ws, pl, n, g, r, rfl, hss, hsd, he, fun m k sl f' e epl ear b1 b2 x y H1 hx hy s1 => ?_⟩
 have q1 := q1 m k sl f' e epl ear b1 b2
 have hsd1 := hsd.same s1
 obtain ⟨v, t, hs, hp, hn⟩ := id hsd1
 obtain ⟨⟨dx, tr, ms, hp0, htr, pm⟩, hsh, shn⟩ := hss.same s1
 rcases id hp with ⟨e1, rfl⟩ | ⟨tp, m2, k2, epl2, rfl, htp⟩
 ·rw [epl] at e1; cases e1
 rw [epl] at epl2
 cases epl2
 have L := (Led.start H1 (fun _ => False)).more (tupAt s [_, _, _]) hs
 walk_at "go"
 refine ⟨s, pl, n, g, rfl, hsd1, fun av2 hav2 => ?_⟩
 rw [ear] at hav2
 obtain ⟨a2, rfl, ha2⟩ := ar_of hav2
 walk_at "go"
 refine ⟨a2, tp, sl, f', e, m, k, r, rfl, ha2, htp, ?_⟩
 generalize due m f' r = du at *
 walk_at "go"
 refine ⟨p, CS, dx, _, _, rfl, hp0, SS.cl, SS.n3, stF_room _ far room term tr, ?_⟩
 walk_at "go"
 refine ⟨s, pl, n, g, rfl, hsd1, ?_⟩
 walk_at "go"
 refine g_ifD (fun c => ?_) (fun c => ?_)
 ·rw [show max n.hd (du + room) = du + room by omega] at q1
  walk_at "go"
  exact q1 _ (.ref tp) [(_, .held _)] _ (.inl ⟨c, _, rfl⟩) (hp.same L'.same) ⟨l', L'.tup (by walk_at "mem"), (by
   cases e0 : H l' with
   | none => rfl
   | some o => exact absurd (s1 _ _ e0) (by rw [(L'.own (l', _) List.mem_cons_self).elim (fun z => absurd z id) id]; exact fun z => nomatch z)), L'.eo .head, fun z hz => by
   rw [List.mem_singleton.mp hz]
   exact .held (L'.tup (by walk_at "mem"))⟩ (s1.trans L'.same)
 ·rw [show max n.hd (du + room) = n.hd by omega] at q1
  walk_at "go"
  refine ⟨s, pl, n, g, rfl, hsd1, ?_⟩
  walk_at "go"
  exact q1 _ (.ref tp) [] _ (.inr ⟨c, rfl⟩) (hp.same L'.same) ⟨l', L'.tup (by walk_at "mem"), (by
   cases e0 : H l' with
   | none => rfl
   | some o => exact absurd (s1 _ _ e0) (by rw [(L'.own (l', _) List.mem_cons_self).elim (fun z => absurd z id) id]; exact fun z => nomatch z)), L'.eo .head, fun z hz => by simp at hz⟩ (s1.trans L'.same)
theorem sc_making : FnScope ["settings", "stand", "reading", "told", "moment"] ["settings", "stand", "reading"] (defScope (top 59)) := by walk_at "s"
def spMaking (K : PySem.W.Frag) (C CD CA CN CW CT CS : Addr) : Sp := fun vs H Q E => ∃ (p s sp : Addr) (c s' far room term : Int) (ws : List Str) (pl : Option (Int × Int)) (n : Nt) (g r : Int), vs = [.ref p, .ref s, .int r] ∧ SsAt C CS H p sp c s' far room term ws ∧ StdAt K H s pl n g ∧ MkE CD CA CN CW H pl n far r E ∧
 (∀ m k sl f e, pl = some (m, k) → n.ar = some (sl, f, e) → ¬ e ≤ due m f r → ¬ r + far < due m f r → ("ahead" : Str) ∈ ws → n.hd ≤ due m f r → ∀ d H', Same H H' → H' d = some (.xd [("moment", .int (due m f r))]) → E (.ref CT) (some d) H') ∧
 (∀ m k sl f e, pl = some (m, k) → n.ar = some (sl, f, e) → ¬ e ≤ due m f r → ¬ r + far < due m f r → ¬ (("ahead" : Str) ∈ ws ∧ n.hd ≤ due m f r) → ∀ t v H', PlAt H' v (some (nxP c m f r k)) → TellAt H H' t (.int (mk c s' (due m f r) sl (cnt m f r k))) [] v → Same H H' → Q (.ref t) H')
theorem ok_making (D : Dat K mg "making" "making" (top 59) ["settings", "stand", "reading"]) (NE : NoErr (CX1 P w)) (O_NoNote : EOwn P w K mg base "NoNote" CT 1 ["self", "moment"] (spInit1 CT "moment")) (c_mark_and_place : Cal P w K mg base (CX1 P w) "mark_and_place" 4 ["settings", "stand", "reading"] (spMAP K C CD CA CN CW CS)) (c_area_in : Cal P w K mg base (CX1 P w) "area_in" 1 ["stand"] (spAreaIn K)) (c_held_in : Cal P w K mg base (CX1 P w) "held_in" 1 ["stand"] (spHeldIn K))
  (c_moment_at : Cal P w K mg base (CX1 P w) "moment_at" 2 ["area", "place", "reading"] spMoment) (c_has_rule : Cal P w K mg base (CX1 P w) "has_rule" 1 ["settings", "word"] (spHasRule CS)) : Cal P w K mg base (CX1 P w) "making" 5 ["settings", "stand", "reading"] (spMaking K C CD CA CN CW CT CS) := by
 have S := sc_making
 refine D.okR S (fun vs H Q E h => ?_) (fun f cdv A outer s H vs Q E hr h => ?_)
 ·obtain ⟨p, s, sp, c, s', far, room, term, ws, pl, n, g, r, rfl, _⟩ := h
  rfl
 obtain ⟨p, s, sp, c, s', far, room, term, ws, pl, n, g, r, rfl, hss, hsd, he, qt, q1⟩ := h
 refine ⟨_, (@pss_cons _ _ _ _ _ (@ps_set _ _ 3 _ _ _ _ S.nd rfl (by first | exact Or.inl rfl | exact Or.inr rfl) (@pe_fnX _ _ _ _ _ _ _ _ _ _ _ c_mark_and_place (hr.mono (by first | decide | omega)) (@paX_self _ _) (@pa_cons _ _ _ _ _ (@pv _ 0 _ _ (by rfl) (by first | exact Or.inl rfl | exact Or.inr (Or.inl rfl) | exact Or.inr (Or.inr rfl)) (by decide) (by decide)) (@pa_cons _ _ _ _ _ (@pv _ 1 _ _ (by rfl) (by first | exact Or.inl rfl | exact Or.inr (Or.inl rfl) | exact Or.inr (Or.inr rfl)) (by decide) (by decide)) (@pa_cons _ _ _ _ _ (@pv _ 2 _ _ (by rfl) (by first | exact Or.inl rfl | exact Or.inr (Or.inl rfl) | exact Or.inr (Or.inr rfl)) (by decide) (by decide)) (@pa_nil _) (by rfl)) (by rfl)) (by rfl)) (by rfl) (by decide) (by rfl) (by rfl)) (by rfl) (by first | exact .inl rfl | exact .inr rfl | assumption)) (@pss_cons _ _ _ _ _ (@ps_set _ _ 4 _ _ _ _ S.nd rfl (by first | exact Or.inl rfl | exact Or.inr rfl) (@pe_fn _ _ _ _ _ _ _ _ _ _ _ _ c_moment_at (hr.mono (by first | decide | omega)) NE.pass (@pa_cons _ _ _ _ _ (@pe_fn _ _ _ _ _ _ _ _ _ _ _ _ c_area_in (hr.mono (by first | decide | omega)) NE.pass (@pa_cons _ _ _ _ _ (@pv _ 1 _ _ (by rfl) (by first | exact Or.inl rfl | exact Or.inr (Or.inl rfl) | exact Or.inr (Or.inr rfl)) (by decide) (by decide)) (@pa_nil _) (by rfl)) (by rfl) (by decide) (by rfl) (by rfl)) (@pa_cons _ _ _ _ _ (@pe_ix _ _ _ _ _ _ _ (@ix_tup _) (@pv _ 1 _ _ (by rfl) (by first | exact Or.inl rfl | exact Or.inr (Or.inl rfl) | exact Or.inr (Or.inr rfl)) (by decide) (by decide)) (@pe_int _ _ _ _) (fun _ _ => rfl)) (@pa_cons _ _ _ _ _ (@pv _ 2 _ _ (by rfl) (by first | exact Or.inl rfl | exact Or.inr (Or.inl rfl) | exact Or.inr (Or.inr rfl)) (by decide) (by decide)) (@pa_nil _) (by rfl)) (by rfl)) (by rfl)) (by rfl) (by decide) (by rfl) (by rfl)) (by rfl) (by first | exact .inl rfl | exact .inr rfl | assumption)) (@pss_cons _ _ _ _ _ (@ps_if _ _ _ _ _ _ _ _ (@PW.pt _ _ _ (@pw_and _ _ _ _ _ _ _ (@pt_val _ _ _ (@pe_fn _ _ _ _ _ _ _ _ _ _ _ _ c_has_rule (hr.mono (by first | decide | omega)) NE.pass (@pa_cons _ _ _ _ _ (@pv _ 0 _ _ (by rfl) (by first | exact Or.inl rfl | exact Or.inr (Or.inl rfl) | exact Or.inr (Or.inr rfl)) (by decide) (by decide)) (@pa_cons _ _ _ _ _ (@pe_str _ _ _ _) (@pa_nil _) (by rfl)) (by rfl)) (by rfl) (by decide) (by rfl) (by rfl)) (by intro _; rfl)) (@pw_and1 _ _ _ _ (@pt_cmpR _ _ _ _ _ _ _ _ (@op_ge _) (@pv _ 4 _ _ (by rfl) (by first | exact Or.inl rfl | exact Or.inr (Or.inl rfl) | exact Or.inr (Or.inr rfl)) (by decide) (by decide)) (@pe_fn _ _ _ _ _ _ _ _ _ _ _ _ c_held_in (hr.mono (by first | decide | omega)) NE.pass (@pa_cons _ _ _ _ _ (@pv _ 1 _ _ (by rfl) (by first | exact Or.inl rfl | exact Or.inr (Or.inl rfl) | exact Or.inr (Or.inr rfl)) (by decide) (by decide)) (@pa_nil _) (by rfl)) (by rfl) (by decide) (by rfl) (by rfl)) (@nomark _ _ (by decide) (by decide)))))) (@pss_one _ _ _ (@ps_raiseI _ _ _ _ _ _ _ _ _ _ _ _ _ O_NoNote (hr.mono (by first | decide | omega)) rfl (@paX_self _ _) (@pa_cons _ _ _ _ _ (@pv _ 4 _ _ (by rfl) (by first | exact Or.inl rfl | exact Or.inr (Or.inl rfl) | exact Or.inr (Or.inr rfl)) (by decide) (by decide)) (@pa_nil _) (by rfl)) (by rfl) (by decide) (by rfl) (by rfl))) (@pss_nil _)) (@pss_one _ _ _ (@ps_ret _ _ _ _ (@pe_tup _ _ _ _ _ (@pa_cons _ _ _ _ _ (@pe_ix _ _ _ _ _ _ _ (@ix_tup _) (@pv _ 3 _ _ (by rfl) (by first | exact Or.inl rfl | exact Or.inr (Or.inl rfl) | exact Or.inr (Or.inr rfl)) (by decide) (by decide)) (@pe_int _ _ _ _) (fun _ _ => rfl)) (@pa_cons _ _ _ _ _ (@pe_lst _ _ _ _ (@pa_nil _)) (@pa_cons _ _ _ _ _ (@pe_ix _ _ _ _ _ _ _ (@ix_tup _) (@pv _ 3 _ _ (by rfl) (by first | exact Or.inl rfl | exact Or.inr (Or.inl rfl) | exact Or.inr (Or.inr rfl)) (by decide) (by decide)) (@pe_int _ _ _ _) (fun _ _ => rfl)) (@pa_nil _) (by rfl)) (by rfl)) (by rfl)))))))), ?_⟩
 try dsimp only [cxOf]
 walk_at "go"
 refine ⟨p, s, sp, c, s', far, room, term, ws, pl, n, g, r, rfl, hss, hsd, he, fun m k sl f' e epl ear b1 b2 x y H1 hx hy s1 => ?_⟩
 have qt := qt m k sl f' e epl ear b1 b2
 have q1 := q1 m k sl f' e epl ear b1 b2
 have hsd1 := hsd.same s1
 obtain ⟨v, t, hs, hp, hn⟩ := id hsd1
 have hss1 := hss.same s1
 rcases id hp with ⟨e1, rfl⟩ | ⟨tp, m2, k2, epl2, rfl, htp⟩
 ·rw [epl] at e1; cases e1
 rw [epl] at epl2
 cases epl2
 have L := ((Led.start H1 (fun _ => False)).more (tupAt s [_, _, _]) hs).more (tupAt x [_, _]) hx
 walk_at "go"
 refine ⟨s, pl, n, g, rfl, hsd1, fun av2 hav2 => ?_⟩
 rw [ear] at hav2
 obtain ⟨a2, rfl, ha2⟩ := ar_of hav2
 walk_at "go"
 refine ⟨a2, tp, sl, f', e, m, k, r, rfl, ha2, htp, ?_⟩
 generalize nxP c m f' r k = np at *
 generalize mk c s' (due m f' r) sl (cnt m f' r k) = mm at *
 generalize due m f' r = du at *
 walk_at "one"
 try dsimp only [gName]
 refine seq_mid (fun σ H' => H' = H1 ∧ σ = [some (.ref p), some (.ref s), some (.int r), some (.ref x), some (.int du)] ∧ ¬ (("ahead" : Str) ∈ ws ∧ n.hd ≤ du)) (fun nx kk => ?_) ?_
 ·walk_at "go"
  refine ⟨p, _, far, room, term, ws, _, rfl, hss1.1, ?_⟩
  walk_at "go"
  refine g_ifD (fun c1 => ?_) (fun c1 => ?_)
  ·walk_at "go"
   refine ⟨s, pl, n, g, rfl, hsd1, ?_⟩
   walk_at "go"
   refine g_ifD (fun c2 => ?_) (fun c2 => ?_)
   ·walk_at "go"
    exact g_raiseI1 fun d H' sm hd => qt c1 c2 d H' (s1.trans sm) hd
   ·walk_at "go"
    exact kk _ _ ⟨rfl, rfl, fun z => c2 z.2⟩
  ·walk_at "go"
   exact kk _ _ ⟨rfl, rfl, fun z => c1 z.1⟩
 rintro σ HA ⟨rfl, rfl, hno⟩
 walk_at "go"
 exact q1 hno _ (.ref y) _ (hy.same L'.same) ⟨l', L'.tup (by walk_at "mem"), (by
   cases e0 : H l' with
   | none => rfl
   | some o => exact absurd (s1 _ _ e0) (by rw [(L'.own (l', _) List.mem_cons_self).elim (fun z => absurd z id) id]; exact fun z => nomatch z)), L'.eo .head, fun z hz => by simp at hz⟩ (s1.trans L'.same)
end
end Law

namespace L4
open PySem PySem.Spec PyProof.Rows L2 L3
structure Mak1 (P : Program) (w : World) (K : PySem.W.Frag) (mg : Str → Option Value) (base : Heap) (CX : CXT) (x : Str) (C : Addr) (k : Nat) (ps : List Str) (sp : Sp) : Prop where
 ex : ∃ f fd, Mk K C f ∧ FnOk P w K mg base CX k f fd ps sp ∧ Binds K fd ps [.none] ∧ mg x = some (.ref C)
structure CDat1 (K : PySem.W.Frag) (mg : Str → Option Value) (x qual : Str) (C : Addr) (st : Stmt) (ps : List Str) : Prop where
 ex : ∃ (f : Addr) (oc dV kV doc pm cdv ct : Value) (od an : Option Addr) (osl : Array (Option Value)), K.lookup f = some ⟨oc, od, .func (PySem.W.fnOf "__init__" qual (defArgs st) (defBody st) (defScope st) dV kV doc pm an cdv ct), osl⟩ ∧ PySem.W.codeIn K cdv qual = true ∧
  Binds K (PySem.W.fnOf "__init__" qual (defArgs st) (defBody st) (defScope st) dV kV doc pm an cdv ct) ps [] ∧ Binds K (PySem.W.fnOf "__init__" qual (defArgs st) (defBody st) (defScope st) dV kV doc pm an cdv ct) ps [.none] ∧ mg x = some (.ref C) ∧ Mk K C f
 cl : Cls K C
section
variable {P : Program} {w : World} {K : PySem.W.Frag} {mg : Str → Option Value} {base : Heap} {CX : CXT} {x qual : Str} {C : Addr} {st : Stmt} {N ps : List Str} {k : Nat} {sp : Sp}
theorem CDat1.ok (D : CDat1 K mg x qual C st ps) (S : FnScope N ps (defScope st)) (len : ∀ vs H Q E, sp vs H Q E → vs.length = ps.length)
  (hbody : ∀ (f : Addr) (cdv : Value) (A : Around) (outer : List Env) (s : Shared) (H : Hp) (vs : List V) (Q : VK) (E : XK), Room k (A.deeper (envOfC qual (defScope st) s.heap.objs.size f cdv)) → sp vs H Q E →
   ∃ t, PSs (cxOf CX P w K mg base N qual (defScope st) f cdv A outer s H E).nox (defBody st) t ∧ t { nx := fun _ H' => Q .non H', rt := Q } (start N vs) H) : Mak P w K mg base CX x C (k + 1) ps sp ∧ Mak1 P w K mg base CX x C (k + 1) ps sp := by
 obtain ⟨f, oc, dV, kV, doc, pm, cdv, ct, od, an, osl, lk, hcd, b, b1, m, mk⟩ := D.ex
 have F : FnOk P w K mg base CX (k + 1) f _ ps sp := fn_of lk hcd S len fun A outer s H vs Q E hr hsp => by
  obtain ⟨t, h, q⟩ := hbody f cdv A outer s H vs Q E hr hsp
  exact ⟨t, h.nox, q⟩
 exact ⟨⟨f, _, mk, F, b, m⟩, ⟨f, _, mk, F, b1, m⟩⟩
theorem cdat1_mk {h : Heap} (X : K.In h) (G : h.Ns mainGlobals mg) {f T : Addr} {oc tc : Value} {od td an : Option Addr} {osl tsl : Array (Option Value)} {its : Array Value} {tn : Nat} {kV doc pm cdv ct : Value} (aC : PySem.W.nsIn K mainGlobals x = some (some (.ref C)))
  (a : PySem.W.findIn K (.ref C) "__init__" = some (some (.ref f))) (i : PySem.W.isFn K (.ref f) = true)
  (l : K.lookup f = some ⟨oc, od, .func (PySem.W.fnOf "__init__" qual (defArgs st) (defBody st) (defScope st) (.ref T) kV doc pm an cdv ct), osl⟩) (tl : K.lookup T = some ⟨tc, td, .seq its tn, tsl⟩) (c : PySem.W.codeIn K cdv qual = true)
  (pg : PySem.W.plainGet K C Str.empty = true) (hd : PySem.W.hasDictIn K C = true) (po : PySem.W.plainOver K C = true) (sa : PySem.W.findIn K (.ref C) "__setattr__" = some (some (.builtin "object.__setattr__"))) (mk : PySem.W.makesIn K C = true) (kc : PySem.W.keepIn K (.ref C) = true)
  (b : ∀ (T : Addr) (kV doc pm : Value) (an : Option Addr) (cdv ct : Value) (us : List Value), us.length = ps.length → ∃ k : Option (Array Value) → Sem (List (Str × Value)), bindArgs (PySem.W.fnOf "__init__" qual (defArgs st) (defBody st) (defScope st) (.ref T) kV doc pm an cdv ct) ⟨us, []⟩ = (seqItems? (.ref T) >>= k) ∧ k (some its) = pure (ps.zip us))
  (b1 : ∀ (T : Addr) (kV doc pm : Value) (an : Option Addr) (cdv ct : Value) (us : List Value), us.length + 1 = ps.length → ∃ k : Option (Array Value) → Sem (List (Str × Value)), bindArgs (PySem.W.fnOf "__init__" qual (defArgs st) (defBody st) (defScope st) (.ref T) kV doc pm an cdv ct) ⟨us, []⟩ = (seqItems? (.ref T) >>= k) ∧ k (some its) = pure (ps.zip (us ++ [.none]))) : CDat1 K mg x qual C st ps :=
 ⟨⟨f, oc, .ref T, kV, doc, pm, cdv, ct, od, an, osl, l, c, (fun s us hK hl => by
  rw [List.append_nil] at hl ⊢
  obtain ⟨k, h1, h2⟩ := b T kV doc pm an cdv ct us hl
  exact BindsTo.of_defaults (T := T) rfl (hK _ _ tl) rfl h1 h2), (fun s us hK hl => by
  rw [List.length_append, List.length_singleton] at hl
  obtain ⟨k, h1, h2⟩ := b1 T kV doc pm an cdv ct us hl
  exact BindsTo.of_defaults (T := T) rfl (hK _ _ tl) rfl h1 h2), PySem.W.mg_of X G aC, ⟨mk, a, i, kc⟩⟩, ⟨pg, hd, po, sa⟩⟩
end
section
variable {X : Cx} {CX : CXT} {k : Nat} {ps : List Str} {sp : Sp} {E : XK} {x : Str} {C : Addr} {p pos : Pos} {e : Expr} {es : List Expr} {t : TA}
theorem pe_mk1 (M : Mak1 X.prog X.w X.K X.mg X.base CX x C k ps sp) (hr : Room (k + 1) X.A) (hx : Passes CX X E) (ha : PA X (e :: es) t) (hg : Gl X x := by rfl)
  (hdb : (x == ("__debug__" : Str)) = false := by decide) (he : starEach (e :: es) X.env = (false, eval e X.env) :: starEach es X.env := by rfl) (hpl : (backTo pos (starEach es X.env)).any (·.1) = false := by rfl) :
  PE X (.Call (.Name x p) (e :: es) [] pos) (tMake C sp [.non] E t) := by
 obtain ⟨f, fd, m, F, b, g⟩ := M.ex
 exact pe_make m F hr hg g b (.cons rfl .nil) hx ha hdb he hpl
theorem g_make1 {H : Hp} {σ : St} {Q : VK} (h : t σ H fun vs H1 => Made C sp E (vs ++ [.non]) H1 Q) : tMake C sp [.non] E t σ H Q := h
end
end L4

namespace Law
open PySem PySem.Spec PyProof.Rows L2 L3 L4
structure Hd where
 p : Addr
 l : Addr
 ps : Addr
 sp : Addr
 nm : Str
 c : Int
 s : Int
 far : Int
 room : Int
 term : Int
 ws : List Str
def hdF (nm : Str) (ps l : Addr) (sv : V) : List (Str × V) := [("name", .str nm), ("settings", .ref ps), ("lines", .ref l), ("spot", sv)]
structure HdC (K : PySem.W.Frag) (CH : Addr) : Prop where
 cl : Cls K CH
 n1 : NoAttr K CH "name"
 n2 : NoAttr K CH "settings"
 n3 : NoAttr K CH "lines"
 n4 : NoAttr K CH "spot"
theorem hdF_put (nm : Str) (ps l : Addr) (sv sv' : V) : putF "spot" sv' (hdF nm ps l sv) = hdF nm ps l sv' := by
 have a1 : ¬ (("name" : Str) = "spot") := by decide +kernel
 have a2 : ¬ (("settings" : Str) = "spot") := by decide +kernel
 have a3 : ¬ (("lines" : Str) = "spot") := by decide +kernel
 unfold hdF
 simp only [putF, if_neg a1, if_neg a2, if_neg a3, if_pos]
theorem hdF_mk (nm : Str) (ps l : Addr) (sv : V) : putF "spot" sv (putF "lines" (.ref l) (putF "settings" (.ref ps) (putF "name" (.str nm) []))) = hdF nm ps l sv := by
 have a1 : ¬ (("name" : Str) = "spot") := by decide +kernel
 have a2 : ¬ (("settings" : Str) = "spot") := by decide +kernel
 have a3 : ¬ (("lines" : Str) = "spot") := by decide +kernel
 have b1 : ¬ (("name" : Str) = "lines") := by decide +kernel
 have b2 : ¬ (("settings" : Str) = "lines") := by decide +kernel
 have c1 : ¬ (("name" : Str) = "settings") := by decide +kernel
 simp only [putF, if_neg a1, if_neg a2, if_neg a3, if_neg b1, if_neg b2, if_neg c1]
 rfl
theorem hdF_l (nm : Str) (ps l : Addr) (sv : V) : (hdF nm ps l sv).lookup ("lines" : Str) = some (.ref l) := by unfold hdF; walk_at "lk"
theorem hdF_s (nm : Str) (ps l : Addr) (sv : V) : (hdF nm ps l sv).lookup ("spot" : Str) = some sv := by unfold hdF; walk_at "lk"
theorem hdF_st (nm : Str) (ps l : Addr) (sv : V) : (hdF nm ps l sv).lookup ("settings" : Str) = some (.ref ps) := by unfold hdF; walk_at "lk"
theorem lk_putF (f : Str) (v : V) : ∀ fs : List (Str × V), (putF f v fs).lookup f = some v
 | [] => lk_hit
 | (g, x) :: r => by
  show (if g = f then (g, v) :: r else (g, x) :: putF f v r).lookup f = some v
  by_cases c : g = f
  ·rw [if_pos c, c]; exact lk_hit
  ·rw [if_neg c, lk_miss (by rw [beq_eq_false_iff_ne]; exact fun z => c z.symm)]
   exact lk_putF f v r
def HdAt (C CS CH : Addr) (H : Hp) (d : Hd) (ls : Lns) (pl : Option (Int × Int)) : Prop := (∃ dx sv, H d.p = some (.ins CH dx (hdF d.nm d.ps d.l sv)) ∧ PlAt H sv pl) ∧ H d.l = some (.lst (lnV ls)) ∧ LnsAt H ls ∧ SsAt C CS H d.ps d.sp d.c d.s d.far d.room d.term d.ws
theorem HdAt.same {C CS CH : Addr} {H H' : Hp} {d : Hd} {ls : Lns} {pl : Option (Int × Int)} (h : HdAt C CS CH H d ls pl) (s : Same H H') : HdAt C CS CH H' d ls pl := by
 obtain ⟨⟨dx, sv, h1, h2⟩, h3, h4, h5⟩ := h
 exact ⟨⟨dx, sv, s _ _ h1, h2.same s⟩, s _ _ h3, h4.same s, h5.same s⟩
structure HdOk (ls : Lns) (pl : Option (Int × Int)) : Prop where
 good : GoodLs ls
 k0 : ∀ m k, pl = some (m, k) → 0 ≤ k
 len : ls.length ≤ 98
def Fr2 (p l : Addr) (H H' : Hp) : Prop := ∀ q o, H q = some o → q ≠ p → q ≠ l → H' q = some o
theorem Fr2.trans {p l : Addr} {H H1 H2 : Hp} (a : Fr2 p l H H1) (b : Fr2 p l H1 H2) : Fr2 p l H H2 := fun q o h n1 n2 => b q o (a q o h n1 n2) n1 n2
theorem Fr2.of {p l : Addr} {H H1 : Hp} (a : Same H H1) : Fr2 p l H H1 := fun q o h _ _ => a q o h
def nt (ls : Lns) : Nt := foldN Nt.nil ls
def gmx (ls : Lns) : Int := (gts ls).foldl max 0
section
variable {P : Program} {w : World} {K : PySem.W.Frag} {mg : Str → Option Value} {base : Heap} {CX : CXT} {C CS CH CD CU CA CN CW CT : Addr}
theorem sc_area_of : FnScope ["lines"] ["lines"] (defScope (top 35)) := by walk_at "s"
def spAreaOf (K : PySem.W.Frag) : Sp := fun vs H Q _ => ∃ (a : Addr) (ls : Lns), vs = [.ref a] ∧ SqL K H a (lnV ls) ∧ LnsAt H ls ∧ GoodLs ls ∧ ∀ v H', ArAt H' v (nt ls).ar → Same H H' → Q v H'
theorem ok_area_of (D : Dat K mg "area_of" "area_of" (top 35) ["lines"]) (NE : NoErr CX) (c_read_note : Cal P w K mg base CX "read_note" 4 ["lines"] (spRNote K)) : Cal P w K mg base CX "area_of" 5 ["lines"] (spAreaOf K) := by
 have S := sc_area_of
 walk_at "d"
 ·obtain ⟨a, ls, rfl, _⟩ := h
  rfl
 obtain ⟨a, ls, rfl, hS, hL, hg, q⟩ := h
 refine ⟨_, (pss_one (ps_ret (pe_ix ix_tup (pe_fn c_read_note (hr.mono (by first | decide | omega)) NE.pass (pa_cons (pv 0) pa_nil)) pe_int (fun _ _ => rfl)))), ?_⟩
 try dsimp only [cxOf]
 walk_at "go"
 refine ⟨a, ls, rfl, hS, hL, hg, fun t H' ⟨av, hn, hv⟩ sm => ?_⟩
 walk_at "go"
 exact q av H' hv sm
theorem sc_hinit : FnScope ["self", "name", "settings", "lines"] ["self", "name", "settings", "lines"] (defScope (inClass (top 63) 0)) := by walk_at "s"
def AL (H : Hp) (v : V) (ls : Lns) : Prop := (v = .non ∧ ls = []) ∨ ∃ a, v = .ref a ∧ H a = some (.lst (lnV ls))
def spHandI (CH : Addr) : Sp := fun vs H Q _ => ∃ (p dx ps : Addr) (nm : Str) (v : V) (ls : Lns), vs = [.ref p, .str nm, .ref ps, v] ∧ AL H v ls ∧ LnsAt H ls ∧ GoodLs ls ∧ ls.length ≤ 98 ∧ H p = some (.ins CH dx []) ∧
 ∀ (l : Addr) (sv : V) (H' : Hp), H l = none → H' p = some (.ins CH dx (hdF nm ps l sv)) → PlAt H' sv (some (max (nt ls).hd (nt ls).hr, 0)) → H' l = some (.lst (lnV ls)) → (∀ q o, H q = some o → q ≠ p → H' q = some o) → Q .non H'
theorem ok_hinit (D : CDat1 K mg "Hand" "Hand.__init__" CH (inClass (top 63) 0) ["self", "name", "settings", "lines"]) (SC : HdC K CH) (BT : Bt mg) (NE : NoErr CX) (c_read_note : Cal P w K mg base CX "read_note" 4 ["lines"] (spRNote K)) (c_start_by : Cal P w K mg base CX "start_by" 1 ["note"] (spStartBy K)) : Mak P w K mg base CX "Hand" CH 5 ["self", "name", "settings", "lines"] (spHandI CH) ∧ Mak1 P w K mg base CX "Hand" CH 5 ["self", "name", "settings", "lines"] (spHandI CH) := by
 have S := sc_hinit
 walk_at "d"
 ·obtain ⟨p, dx, ps, nm, v, ls, rfl, _⟩ := h
  rfl
 obtain ⟨p, dx, ps, nm, v, ls, rfl, hal, hL, hg, hlen, hp, q⟩ := h
 refine ⟨_, (pss_cons (ps_fld (pv 0) (pv 1) rfl)
   (pss_cons (ps_fld (pv 0) (pv 2) rfl)
   (pss_cons (ps_fld (pv 0) (pe_ifExp (pt_cmp (pc_isN (pv 3))) (pe_lst pa_nil) (pe_callTy c_listOf rfl BT.list_ L3.bt_list (pa_cons (pv 3) pa_nil))) rfl)
   (pss_one (ps_fld (pv 0) (pe_fn c_start_by (hr.mono (by first | decide | omega)) NE.pass (pa_cons (pe_fn c_read_note (hr.mono (by first | decide | omega)) NE.pass (pa_cons (pe_fld (pv 0) rfl) pa_nil)) pa_nil)) rfl))))), ?_⟩
 try dsimp only [cxOf]
 have k1 := putF_len ("name" : Str) (.str nm) []
 have k2 := putF_len ("settings" : Str) (.ref ps) (putF "name" (.str nm) [])
 rw [List.length_nil] at k1
 walk_at "go"
 refine ⟨p, CH, dx, [], rfl, hp, SC.cl, SC.n1, by decide, ?_⟩
 walk_at "go"
 refine ⟨p, CH, dx, _, rfl, upd_same, SC.cl, SC.n2, by omega, ?_⟩
 rw [upd_upd]
 have key := fun l sv => hdF_mk nm ps l sv
 generalize putF ("settings" : Str) (.ref ps) (putF "name" (.str nm) []) = fs at *
 have k3 : ∀ l, (putF ("lines" : Str) (.ref l) fs).length ≤ fs.length + 1 := fun l => putF_len _ _ _
 have hpc : (upd H p (.ins CH dx fs)) p = some (.ins CH dx fs) := upd_same
 have oc : ∀ q o, H q = some o → q ≠ p → (upd H p (.ins CH dx fs)) q = some o := fun q o e z => by rw [upd_ne z]; exact e
 have hLc : LnsAt (upd H p (.ins CH dx fs)) ls := hL.ts (ts_upd hp fun xs z => nomatch z)
 have ic : ∀ q, (upd H p (.ins CH dx fs)) q = none → H q = none := fun q e => by
  by_cases z : q = p
  ·rw [z, upd_same] at e; cases e
  ·rwa [upd_ne z] at e
 have hac : AL (upd H p (.ins CH dx fs)) v ls := by
  rcases hal with z | ⟨a, rfl, ha⟩
  ·exact .inl z
  ·exact .inr ⟨a, rfl, oc _ _ ha fun z => by rw [z, hp] at ha; cases ha⟩
 generalize upd H p (.ins CH dx fs) = Hc at *
 try dsimp only [gName]
 refine seq_mid (fun σ H' => ∃ l, Hc l = none ∧ H' p = some (.ins CH dx (putF "lines" (.ref l) fs)) ∧ H' l = some (.lst (lnV ls)) ∧ LnsAt H' ls ∧ (∀ q o, Hc q = some o → q ≠ p → H' q = some o) ∧ σ = [some (.ref p), some (.str nm), some (.ref ps), some v]) (fun nx kk => ?_) ?_
 ·have L := Led.start Hc (fun _ => False)
  walk_at "go"
  rcases hac with ⟨rfl, rfl⟩ | ⟨a, rfl, ha⟩
  ·refine g_ifDT rfl ?_
   walk_at "go"
   have np : p ≠ l' := fun z => by rw [z, n'] at hpc; cases hpc
   refine ⟨p, CH, dx, fs, rfl, L'.same _ _ hpc, SC.cl, SC.n3, by omega, ?_⟩
   exact kk _ _ ⟨l', n', upd_same, by rw [upd_ne (Ne.symm np)]; exact L'.eo .head, fun _ h => by simp at h, fun q o e z => by rw [upd_ne z]; exact L'.same _ _ e, rfl⟩
  ·refine g_ifD (fun z => nomatch z) fun _ => ?_
   walk_at "go"
   refine g_listOf L (.inl (SqL.of ha)) fun b HB nb L' sB => ?_
   have np : p ≠ b := fun z => by rw [z, nb] at hpc; cases hpc
   walk_at "go"
   refine ⟨p, CH, dx, fs, rfl, sB _ _ hpc, SC.cl, SC.n3, by omega, ?_⟩
   exact kk _ _ ⟨b, nb, upd_same, by rw [upd_ne (Ne.symm np)]; exact L'.eo .head, (hLc.same sB).ts (ts_upd (sB _ _ hpc) fun xs z => nomatch z), fun q o e z => by rw [upd_ne z]; exact sB _ _ e, rfl⟩
 rintro σ H1 ⟨l, nl, hp1, hl1, hL1, o1, rfl⟩
 walk_at "go"
 refine ⟨p, CH, dx, _, _, rfl, hp1, SC.cl, SC.n3, lk_putF _ _ _, ?_⟩
 walk_at "go"
 refine ⟨l, ls, rfl, SqL.of hl1, hL1, hg, fun t H2 hn s2 => ?_⟩
 walk_at "go"
 refine ⟨t, _, rfl, hn, fun pt H3 hpt s3 => ?_⟩
 walk_at "go"
 have hp3 := s3 _ _ (s2 _ _ hp1)
 have k4 := k3 l
 refine ⟨p, CH, dx, _, rfl, hp3, SC.cl, SC.n4, by omega, ?_⟩
 rw [key]
 have npl : l ≠ p := fun z => by rw [z, hpc] at nl; cases nl
 have nptp : pt ≠ p := fun z => by rw [z, hp3] at hpt; cases hpt
 exact q l (.ref pt) _ (ic _ nl) upd_same (.inr ⟨pt, _, _, rfl, rfl, by rw [upd_ne nptp]; exact hpt⟩) (by rw [upd_ne npl]; exact s3 _ _ (s2 _ _ hl1)) fun x o e z => by rw [upd_ne z]; exact s3 _ _ (s2 _ _ (o1 x o (oc x o e z) z))
theorem use_mkHand {C CS : Addr} {H : Hp} {Q : VK} {E : XK} {ps sp : Addr} {nm : Str} {v : V} {ls : Lns} {c s far room term : Int} {ws : List Str} (ha : AL H v ls) (hL : LnsAt H ls) (hg : GoodLs ls) (hl : ls.length ≤ 98) (hs : SsAt C CS H ps sp c s far room term ws)
  (q : ∀ x l H', H x = none → H l = none → HdAt C CS CH H' ⟨x, l, ps, sp, nm, c, s, far, room, term, ws⟩ ls (some (max (nt ls).hd (nt ls).hr, 0)) → Same H H' → Q (.ref x) H') : Made CH (spHandI CH) E [.str nm, .ref ps, v] H Q := by
 intro x dx nx nd ne
 have sm0 : Same H (upd (upd H dx (.own x)) x (.ins CH dx [])) := fun b o e => by rw [upd_ne (ne_of_none e nx), upd_ne (ne_of_none e nd)]; exact e
 have ha' : AL (upd (upd H dx (.own x)) x (.ins CH dx [])) v ls := by
  rcases ha with z | ⟨a, rfl, h⟩
  ·exact .inl z
  ·exact .inr ⟨a, rfl, sm0 _ _ h⟩
 refine ⟨x, dx, ps, nm, v, ls, rfl, ha', hL.same sm0, hg, hl, upd_same, fun l sv H' nl h1 h2 h3 h4 => ⟨rfl, ?_⟩⟩
 have sm : Same H H' := fun b o e => h4 b o (sm0 _ _ e) (ne_of_none e nx)
 have nl' : H l = none := by
  cases e : H l with
  | none => rfl
  | some o => rw [sm0 _ _ e] at nl; cases nl
 exact q x l H' nx nl' ⟨⟨dx, sv, h1, h2⟩, h3, hL.same sm, hs.same sm⟩ sm
end
end Law

namespace Law
open PySem PySem.Spec PyProof.Rows L2 L3 L4
theorem h_miss {m : Str} {nm : Str} {ps l : Addr} {sv : V} (a1 : (m == ("name" : Str)) = false) (a2 : (m == ("settings" : Str)) = false) (a3 : (m == ("lines" : Str)) = false) (a4 : (m == ("spot" : Str)) = false) : (hdF nm ps l sv).lookup m = none := by
 unfold hdF
 rw [lk_miss a1, lk_miss a2, lk_miss a3, lk_miss a4]; rfl
section
variable {P : Program} {w : World} {K : PySem.W.Frag} {mg : Str → Option Value} {base : Heap} {CX : CXT} {C CS CH CD CU CA CN CW CT : Addr}
theorem sc_is_up : FnScope ["self"] ["self"] (defScope (inClass (top 63) 1)) := by walk_at "s"
def spIsUp (C CS CH : Addr) : Sp := fun vs H Q _ => ∃ (d : Hd) (ls : Lns) (pl : Option (Int × Int)), vs = [.ref d.p] ∧ HdAt C CS CH H d ls pl ∧ Q (.bl pl.isSome) H
theorem ok_is_up (D : MDat K CH "is_up" "Hand.is_up" (inClass (top 63) 1) ["self"]) (SC : HdC K CH) : MCal P w K mg base CX CH "is_up" 1 ["self"] (spIsUp C CS CH) := by
 have S := sc_is_up
 refine mdat_ok D S (fun vs H Q E h => ?_) (fun f cdv A outer s H vs Q E hr h => ?_)
 ·obtain ⟨d, ls, pl, rfl, _⟩ := h
  rfl
 obtain ⟨d, ls, pl, rfl, ⟨⟨dx, sv, hp, hpl⟩, hl, hL, hss⟩, q⟩ := h
 refine ⟨_, (pss_one (ps_ret (pe_cmp (pc_notN (pe_fld (pv 0) rfl))))), ?_⟩
 try dsimp only [cxOf]
 walk_at "go"
 refine ⟨d.p, CH, dx, _, _, rfl, hp, SC.cl, SC.n4, hdF_s _ _ _ _, ?_⟩
 walk_at "go"
 rcases hpl with ⟨rfl, rfl⟩ | ⟨t, m, k, rfl, rfl, _⟩
 ·exact q
 ·exact q
theorem sc_place : FnScope ["self"] ["self"] (defScope (inClass (top 63) 2)) := by walk_at "s"
def spPlace (C CS CH : Addr) : Sp := fun vs H Q _ => ∃ (d : Hd) (ls : Lns) (pl : Option (Int × Int)), vs = [.ref d.p] ∧ HdAt C CS CH H d ls pl ∧ ∀ v, PlAt H v pl → Q v H
theorem ok_place (D : MDat K CH "place" "Hand.place" (inClass (top 63) 2) ["self"]) (SC : HdC K CH) : MCal P w K mg base CX CH "place" 1 ["self"] (spPlace C CS CH) := by
 have S := sc_place
 refine mdat_ok D S (fun vs H Q E h => ?_) (fun f cdv A outer s H vs Q E hr h => ?_)
 ·obtain ⟨d, ls, pl, rfl, _⟩ := h
  rfl
 obtain ⟨d, ls, pl, rfl, ⟨⟨dx, sv, hp, hpl⟩, hl, hL, hss⟩, q⟩ := h
 refine ⟨_, (pss_one (ps_ret (pe_fld (pv 0) rfl))), ?_⟩
 try dsimp only [cxOf]
 walk_at "go"
 refine ⟨d.p, CH, dx, _, _, rfl, hp, SC.cl, SC.n4, hdF_s _ _ _ _, ?_⟩
 exact q sv hpl
theorem sc_note : FnScope ["self"] ["self"] (defScope (inClass (top 63) 3)) := by walk_at "s"
def spNote (C CS CH : Addr) : Sp := fun vs H Q _ => ∃ (d : Hd) (ls : Lns) (pl : Option (Int × Int)), vs = [.ref d.p] ∧ HdAt C CS CH H d ls pl ∧ ∀ b H', H b = none → H' b = some (.lst (lnV ls)) → Same H H' → Q (.ref b) H'
theorem ok_note (D : MDat K CH "note" "Hand.note" (inClass (top 63) 3) ["self"]) (SC : HdC K CH) (BT : Bt mg) : MCal P w K mg base CX CH "note" 1 ["self"] (spNote C CS CH) := by
 have S := sc_note
 refine mdat_ok D S (fun vs H Q E h => ?_) (fun f cdv A outer s H vs Q E hr h => ?_)
 ·obtain ⟨d, ls, pl, rfl, _⟩ := h
  rfl
 obtain ⟨d, ls, pl, rfl, ⟨⟨dx, sv, hp, hpl⟩, hl, hL, hss⟩, q⟩ := h
 refine ⟨_, (pss_one (ps_ret (pe_callTy c_listOf rfl BT.list_ L3.bt_list (pa_cons (pe_fld (pv 0) rfl) pa_nil)))), ?_⟩
 try dsimp only [cxOf]
 walk_at "go"
 refine ⟨d.p, CH, dx, _, _, rfl, hp, SC.cl, SC.n3, hdF_l _ _ _ _, ?_⟩
 walk_at "go"
 refine g_listOf (Led.start H (fun _ => False)) (.inl (SqL.of hl)) fun b HB nb L sB => ?_
 walk_at "go"
 exact q b HB nb (L.eo .head) sB
theorem sc_area : FnScope ["self"] ["self"] (defScope (inClass (top 63) 4)) := by walk_at "s"
def spArea (C CS CH : Addr) : Sp := fun vs H Q _ => ∃ (d : Hd) (ls : Lns) (pl : Option (Int × Int)), vs = [.ref d.p] ∧ HdAt C CS CH H d ls pl ∧ GoodLs ls ∧ ∀ v H', ArAt H' v (nt ls).ar → Same H H' → Q v H'
theorem ok_area (D : MDat K CH "area" "Hand.area" (inClass (top 63) 4) ["self"]) (SC : HdC K CH) (NE : NoErr CX) (c_area_of : Cal P w K mg base CX "area_of" 5 ["lines"] (spAreaOf K)) : MCal P w K mg base CX CH "area" 6 ["self"] (spArea C CS CH) := by
 have S := sc_area
 refine mdat_ok D S (fun vs H Q E h => ?_) (fun f cdv A outer s H vs Q E hr h => ?_)
 ·obtain ⟨d, ls, pl, rfl, _⟩ := h
  rfl
 obtain ⟨d, ls, pl, rfl, ⟨⟨dx, sv, hp, hpl⟩, hl, hL, hss⟩, hg, q⟩ := h
 refine ⟨_, (pss_one (ps_ret (pe_fn c_area_of (hr.mono (by first | decide | omega)) NE.pass (pa_cons (pe_fld (pv 0) rfl) pa_nil)))), ?_⟩
 try dsimp only [cxOf]
 walk_at "go"
 refine ⟨d.p, CH, dx, _, _, rfl, hp, SC.cl, SC.n3, hdF_l _ _ _ _, ?_⟩
 walk_at "go"
 exact ⟨d.l, ls, rfl, SqL.of hl, hL, hg, q⟩
theorem sc_stand : FnScope ["self"] ["self"] (defScope (inClass (top 63) 5)) := by walk_at "s"
def spStand (K : PySem.W.Frag) (C CS CH : Addr) : Sp := fun vs H Q _ => ∃ (d : Hd) (ls : Lns) (pl : Option (Int × Int)), vs = [.ref d.p] ∧ HdAt C CS CH H d ls pl ∧ HdOk ls pl ∧ ∀ t H', StdAt K H' t pl (nt ls) (gmx ls) → Same H H' → Q (.ref t) H'
theorem ok_stand (D : MDat K CH "stand" "Hand.stand" (inClass (top 63) 5) ["self"]) (SC : HdC K CH) (NE : NoErr CX) (c_read_note : Cal P w K mg base CX "read_note" 4 ["lines"] (spRNote K)) (c_greatest_taken : Cal P w K mg base CX "greatest_taken" 3 ["lines"] (spGreatest K)) : MCal P w K mg base CX CH "stand" 5 ["self"] (spStand K C CS CH) := by
 have S := sc_stand
 refine mdat_ok D S (fun vs H Q E h => ?_) (fun f cdv A outer s H vs Q E hr h => ?_)
 ·obtain ⟨d, ls, pl, rfl, _⟩ := h
  rfl
 obtain ⟨d, ls, pl, rfl, ⟨⟨dx, sv, hp, hpl⟩, hl, hL, hss⟩, ⟨hg, k0, hlen⟩, q⟩ := h
 refine ⟨_, (pss_one (ps_ret (pe_tup (pa_cons (pe_fld (pv 0) rfl) (pa_cons (pe_fn c_read_note (hr.mono (by first | decide | omega)) NE.pass (pa_cons (pe_fld (pv 0) rfl) pa_nil)) (pa_cons (pe_fn c_greatest_taken (hr.mono (by first | decide | omega)) NE.pass (pa_cons (pe_fld (pv 0) rfl) pa_nil)) pa_nil)))))), ?_⟩
 try dsimp only [cxOf]
 walk_at "go"
 refine ⟨d.p, CH, dx, _, _, rfl, hp, SC.cl, SC.n4, hdF_s _ _ _ _, ?_⟩
 walk_at "go"
 refine ⟨d.p, CH, dx, _, _, rfl, hp, SC.cl, SC.n3, hdF_l _ _ _ _, ?_⟩
 walk_at "go"
 refine ⟨d.l, ls, rfl, SqL.of hl, hL, hg, fun t H1 hn s1 => ?_⟩
 walk_at "go"
 refine ⟨d.p, CH, dx, _, _, rfl, s1 _ _ hp, SC.cl, SC.n3, hdF_l _ _ _ _, ?_⟩
 walk_at "go"
 refine ⟨d.l, ls, rfl, SqL.of (s1 _ _ hl), hL.same s1, hg, by omega, fun H2 s2 => ?_⟩
 have L := Led.start H2 (fun _ => False)
 walk_at "go"
 exact q _ _ ⟨sv, t, L'.tup (by walk_at "mem"), hpl.same ((s1.trans s2).trans L'.same), hn.same (s2.trans L'.same)⟩ ((s1.trans s2).trans L'.same)
theorem sc_go : FnScope ["self", "step"] ["self", "step"] (defScope (inClass (top 63) 6)) := by walk_at "s"
def spGo (C CS CH : Addr) : Sp := fun vs H Q _ => ∃ (d : Hd) (ls ls2 : Lns) (pl pl2 : Option (Int × Int)) (H0 : Hp) (t : Addr) (v pv : V), vs = [.ref d.p, .ref t] ∧ HdAt C CS CH H d ls pl ∧ ls.length ≤ 98 ∧ ls2.length ≤ 1 ∧ H0 d.l ≠ none ∧ TellAt H0 H t v ls2 pv ∧ PlAt H pv pl2 ∧ ∀ H', HdAt C CS CH H' d (ls ++ ls2) pl2 → Fr2 d.p d.l H H' → Q v H'
theorem ss_fr {C CS CH : Addr} {H H' : Hp} {d : Hd} {ls : Lns} {pl : Option (Int × Int)} (h : HdAt C CS CH H d ls pl) (f : Fr2 d.p d.l H H') : SsAt C CS H' d.ps d.sp d.c d.s d.far d.room d.term d.ws := by
 obtain ⟨⟨dx, sv, hp, hpl⟩, hl, hL, ⟨dy, tr, ms, h1, h2, pm⟩, ⟨dz, h3⟩, hn⟩ := h
 have ne : ∀ {u : Addr} {fs : List (Str × V)} (sv : V), stF (.ref d.sp) d.far d.room d.term u ≠ hdF d.nm d.ps d.l sv := fun sv z => by
  have := congrArg (fun x => (x.headD ("", .non)).1) z
  exact absurd this (by show ¬ (("shape" : Str) = "name"); decide +kernel)
 have ne2 : shF d.c d.s ≠ hdF d.nm d.ps d.l sv := fun z => by
  have := congrArg (fun x => (x.headD ("", .non)).1) z
  exact absurd this (by show ¬ (("counts" : Str) = "name"); decide +kernel)
 refine ⟨⟨dy, tr, ms, f _ _ h1 ?_ ?_, f _ _ h2 ?_ ?_, pm⟩, ⟨dz, f _ _ h3 ?_ ?_⟩, hn⟩
 ·intro z
  rw [z, hp] at h1
  cases h1
 ·intro z
  rw [z, hl] at h1
  cases h1
 ·intro z
  rw [z, hp] at h2
  cases h2
 ·intro z
  rw [z, hl] at h2
  cases h2
 ·intro z
  rw [z, hp] at h3
  cases h3
 ·intro z
  rw [z, hl] at h3
  cases h3
theorem fr_ts {C CS CH : Addr} {H H' : Hp} {d : Hd} {ls : Lns} {pl : Option (Int × Int)} (h : HdAt C CS CH H d ls pl) (f : Fr2 d.p d.l H H') : TSame H H' := fun q xs e => f q _ e (fun z => by
  obtain ⟨⟨dx, sv, hp, hpl⟩, hl, _⟩ := h
  rw [z, hp] at e; cases e) (fun z => by
  obtain ⟨⟨dx, sv, hp, hpl⟩, hl, _⟩ := h
  rw [z, hl] at e; cases e)
theorem PlAt.ts {H H' : Hp} {v : V} {pl : Option (Int × Int)} (h : PlAt H v pl) (s : TSame H H') : PlAt H' v pl := by
 rcases h with h | ⟨t, m, k, e, ev, ht⟩
 ·exact .inl h
 ·exact .inr ⟨t, m, k, e, ev, s _ _ ht⟩
theorem ok_go (D : MDat K CH "go" "Hand.go" (inClass (top 63) 6) ["self", "step"]) (SC : HdC K CH) : MCal P w K mg base CX CH "go" 1 ["self", "step"] (spGo C CS CH) := by
 have S := sc_go
 refine mdat_ok D S (fun vs H Q E h => ?_) (fun f cdv A outer s H vs Q E hr h => ?_)
 ·obtain ⟨d, ls, ls2, pl, pl2, H0, t, v, sw, rfl, _⟩ := h
  rfl
 obtain ⟨d, ls, ls2, pl, pl2, H0, t, v, sw, rfl, hd, hlen, hl2, h0, ⟨lx, ht, nlx, hlx, hL2⟩, hpv, q⟩ := h
 obtain ⟨⟨dx, sv, hp, hpl⟩, hl, hL, hss⟩ := id hd
 have nxl : lx ≠ d.l := fun z => h0 (z ▸ nlx)
 have npl : d.p ≠ d.l := fun z => by rw [z, hl] at hp; cases hp
 refine ⟨_, (pss_cons (ps_expr (pe_bm PySem.F.plainAttrs_list PySem.F.slot_list_extend PySem.F.type_list_extend mt_extend (pe_fld (pv 0) rfl) (pa_cons (pe_ix ix_tup (pv 1) pe_int (fun _ _ => rfl)) pa_nil)))
   (pss_cons (ps_fld (pv 0) (pe_ix ix_tup (pv 1) pe_int (fun _ _ => rfl)) rfl)
   (pss_one (ps_ret (pe_ix ix_tup (pv 1) pe_int (fun _ _ => rfl)))))), ?_⟩
 try dsimp only [cxOf]
 have L := (Led.start H (fun _ => False)).more (tupAt t [_, _, _]) ht
 walk_at "go"
 refine ⟨d.p, CH, dx, _, _, rfl, hp, SC.cl, SC.n3, hdF_l _ _ _ _, ?_⟩
 walk_at "go"
 refine g_tyL (SqL.of hl) ?_
 walk_at "go"
 refine ⟨d.l, lx, lnV ls, lnV ls2, rfl, rfl, hl, hlx, Nat.le_of_lt (small1000 (by rw [lnV_len, lnV_len]; omega)), ?_⟩
 have e2 : lnV ls ++ lnV ls2 = lnV (ls ++ ls2) := by unfold lnV; rw [List.map_append]
 rw [e2]
 have c1 : Chg d.l H (upd H d.l (.lst (lnV (ls ++ ls2)))) := Chg.upd hl fun xs z => nomatch z
 have hp1 : (upd H d.l (.lst (lnV (ls ++ ls2)))) d.p = some (.ins CH dx (hdF d.nm d.ps d.l sv)) := by rw [upd_ne npl]; exact hp
 have hl1 : (upd H d.l (.lst (lnV (ls ++ ls2)))) d.l = some (.lst (lnV (ls ++ ls2))) := upd_same
 have ht1 := c1.ts _ _ ht
 have f1 : Fr2 d.p d.l H (upd H d.l (.lst (lnV (ls ++ ls2)))) := fun q o e _ z => by rw [upd_ne z]; exact e
 generalize upd H d.l (.lst (lnV (ls ++ ls2))) = H1 at *
 have M := (Led.start H1 (fun _ => False)).more (tupAt t [_, _, _]) ht1
 clear L
 walk_at "go"
 refine ⟨d.p, CH, dx, _, rfl, hp1, SC.cl, SC.n4, (by show 4 < 1000; decide), ?_⟩
 rw [hdF_put]
 have f2 : Fr2 d.p d.l H (upd H1 d.p (.ins CH dx (hdF d.nm d.ps d.l sw))) := fun q o e z1 z2 => by rw [upd_ne z1]; exact f1 q o e z1 z2
 have t2 := fr_ts hd f2
 have M2 := (Led.start (upd H1 d.p (.ins CH dx (hdF d.nm d.ps d.l sw))) (fun _ => False)).more (tupAt t [_, _, _]) (t2 _ _ ht)
 clear M
 walk_at "go"
 refine q _ ⟨⟨dx, sw, upd_same, hpv.ts t2⟩, by rw [upd_ne (Ne.symm npl)]; exact hl1, fun x hx => ?_, ss_fr hd f2⟩ f2
 rcases List.mem_append.mp hx with hx | hx
 ·exact (hL x hx).ts t2
 ·exact (hL2 x hx).ts t2
end
end Law

namespace Law
open PySem PySem.Spec PyProof.Rows L2 L3 L4
theorem h_go {nm : Str} {ps l : Addr} {sv : V} : (hdF nm ps l sv).lookup ("go" : Str) = none := h_miss (by decide +kernel) (by decide +kernel) (by decide +kernel) (by decide +kernel)
theorem h_stand {nm : Str} {ps l : Addr} {sv : V} : (hdF nm ps l sv).lookup ("stand" : Str) = none := h_miss (by decide +kernel) (by decide +kernel) (by decide +kernel) (by decide +kernel)
section
variable {P : Program} {w : World} {K : PySem.W.Frag} {mg : Str → Option Value} {base : Heap} {CX : CXT} {C CS CH CD CU CA CN CW CT : Addr}
theorem use_go {d : Hd} {ls ls2 : Lns} {pl pl2 : Option (Int × Int)} {H1 H : Hp} {t : Addr} {v pv : V} {Q : VK} {E : XK} (hd : HdAt C CS CH H d ls pl) (hd1 : HdAt C CS CH H1 d ls pl) (hlen : ls.length ≤ 98) (h2 : ls2.length ≤ 1) (ht : TellAt H1 H t v ls2 pv) (hp : PlAt H pv pl2)
  (q : ∀ H', HdAt C CS CH H' d (ls ++ ls2) pl2 → Fr2 d.p d.l H H' → Q v H') : spGo C CS CH [.ref d.p, .ref t] H Q E :=
 ⟨d, ls, ls2, pl, pl2, H1, t, v, pv, rfl, hd, hlen, h2, (by rw [hd1.2.1]; exact fun z => nomatch z), ht, hp, q⟩
theorem sc_fall : FnScope ["self"] ["self"] (defScope (inClass (top 63) 7)) := by walk_at "s"
def spFall (C CS CH CD : Addr) : Sp := fun vs H Q E => ∃ (d : Hd) (ls : Lns) (pl : Option (Int × Int)), vs = [.ref d.p] ∧ HdAt C CS CH H d ls pl ∧ HdOk ls pl ∧ (pl = none → ∀ H', Same H H' → E (.ref CD) none H') ∧ (pl.isSome = true → ∀ H', HdAt C CS CH H' d ls none → Fr2 d.p d.l H H' → Q .non H')
theorem ok_fall (D : MDat K CH "fall" "Hand.fall" (inClass (top 63) 7) ["self"]) (SC : HdC K CH) (NE : NoErr (CX1 P w)) (M_Hand_go : MCal P w K mg base (CX1 P w) CH "go" 1 ["self", "step"] (spGo C CS CH)) (M_Hand_stand : MCal P w K mg base (CX1 P w) CH "stand" 5 ["self"] (spStand K C CS CH)) (c_falling : Cal P w K mg base (CX1 P w) "falling" 2 ["stand"] (spFalling K CD)) : MCal P w K mg base (CX1 P w) CH "fall" 6 ["self"] (spFall C CS CH CD) := by
 have S := sc_fall
 refine mdat_okR D S (fun vs H Q E h => ?_) (fun f cdv A outer s H vs Q E hr h => ?_)
 ·obtain ⟨d, ls, pl, rfl, _⟩ := h
  rfl
 obtain ⟨d, ls, pl, rfl, hd, hok, qe, q⟩ := h
 obtain ⟨⟨dx, sv, hp, hpl⟩, hl, hL, hss⟩ := id hd
 refine ⟨_, (pss_one (ps_ret (pe_mt M_Hand_go (hr.mono (by first | decide | omega)) NE.pass (pv 0) (pa_cons (pe_fnX c_falling (hr.mono (by first | decide | omega)) paX_self (pa_cons (pe_mt0 M_Hand_stand (hr.mono (by first | decide | omega)) NE.pass (pv 0)) pa_nil)) pa_nil)))), ?_⟩
 try dsimp only [cxOf]
 walk_at "go"
 refine g_methv hp h_go ?_
 walk_at "go"
 refine g_methv hp h_stand ?_
 walk_at "go"
 refine ⟨d, ls, pl, rfl, hd, hok, fun t H1 hst s1 => ?_⟩
 walk_at "go"
 refine ⟨t, pl, _, _, rfl, hst, fun e => qe e H1 s1, fun hs t2 H2 ht2 s2 => ?_⟩
 walk_at "go"
 exact use_go (hd.same (s1.trans s2)) (hd.same s1) hok.len (by simp) ht2 (.inl ⟨rfl, rfl⟩) fun H3 hd3 f3 => q hs H3 (by rw [List.append_nil] at hd3; exact hd3) ((Fr2.of (s1.trans s2)).trans f3)
theorem sc_rise : FnScope ["self"] ["self"] (defScope (inClass (top 63) 8)) := by walk_at "s"
def spRise (C CS CH CU : Addr) : Sp := fun vs H Q E => ∃ (d : Hd) (ls : Lns) (pl : Option (Int × Int)), vs = [.ref d.p] ∧ HdAt C CS CH H d ls pl ∧ HdOk ls pl ∧ (pl.isSome = true → ∀ H', Same H H' → E (.ref CU) none H') ∧ (pl = none → ∀ H', HdAt C CS CH H' d ls (some (max (nt ls).hd (nt ls).hr, 0)) → Fr2 d.p d.l H H' → Q .non H')
theorem ok_rise (D : MDat K CH "rise" "Hand.rise" (inClass (top 63) 8) ["self"]) (SC : HdC K CH) (NE : NoErr (CX1 P w)) (M_Hand_go : MCal P w K mg base (CX1 P w) CH "go" 1 ["self", "step"] (spGo C CS CH)) (M_Hand_stand : MCal P w K mg base (CX1 P w) CH "stand" 5 ["self"] (spStand K C CS CH)) (c_rising : Cal P w K mg base (CX1 P w) "rising" 2 ["stand"] (spRising K CU)) : MCal P w K mg base (CX1 P w) CH "rise" 6 ["self"] (spRise C CS CH CU) := by
 have S := sc_rise
 refine mdat_okR D S (fun vs H Q E h => ?_) (fun f cdv A outer s H vs Q E hr h => ?_)
 ·obtain ⟨d, ls, pl, rfl, _⟩ := h
  rfl
 obtain ⟨d, ls, pl, rfl, hd, hok, qe, q⟩ := h
 obtain ⟨⟨dx, sv, hp, hpl⟩, hl, hL, hss⟩ := id hd
 refine ⟨_, (pss_one (ps_ret (pe_mt M_Hand_go (hr.mono (by first | decide | omega)) NE.pass (pv 0) (pa_cons (pe_fnX c_rising (hr.mono (by first | decide | omega)) paX_self (pa_cons (pe_mt0 M_Hand_stand (hr.mono (by first | decide | omega)) NE.pass (pv 0)) pa_nil)) pa_nil)))), ?_⟩
 try dsimp only [cxOf]
 walk_at "go"
 refine g_methv hp h_go ?_
 walk_at "go"
 refine g_methv hp h_stand ?_
 walk_at "go"
 refine ⟨d, ls, pl, rfl, hd, hok, fun t H1 hst s1 => ?_⟩
 walk_at "go"
 refine ⟨t, pl, _, _, rfl, hst, fun e => qe e H1 s1, fun hs t2 pt H2 ht2 hpt s2 => ?_⟩
 walk_at "go"
 exact use_go (hd.same (s1.trans s2)) (hd.same s1) hok.len (by simp) ht2 (.inr ⟨pt, _, _, rfl, rfl, hpt⟩) fun H3 hd3 f3 => q hs H3 (by rw [List.append_nil] at hd3; exact hd3) ((Fr2.of (s1.trans s2)).trans f3)
theorem sc_take : FnScope ["self", "grant", "area"] ["self", "grant", "area"] (defScope (inClass (top 63) 9)) := by walk_at "s"
def spTake (C CS CH CD : Addr) : Sp := fun vs H Q E => ∃ (d : Hd) (ls : Lns) (pl : Option (Int × Int)) (gr sl f e : Int) (a : Addr), vs = [.ref d.p, .int gr, .ref a] ∧ HdAt C CS CH H d ls pl ∧ HdOk ls pl ∧ H a = some (.tup [.int sl, .int f, .int e]) ∧ (pl = none → ∀ H', Same H H' → E (.ref CD) none H') ∧
 (∀ m k, pl = some (m, k) → ("once" : Str) ∈ d.ws → gr ≤ gmx ls → ∀ H', HdAt C CS CH H' d ls pl → Fr2 d.p d.l H H' → Q (.bl false) H') ∧
 (∀ m k, pl = some (m, k) → ¬ (("once" : Str) ∈ d.ws ∧ gr ≤ gmx ls) → ∀ l H', HdAt C CS CH H' d (ls ++ [(l, .took gr sl f e)]) (some (raisP m k (bnd m k))) → Fr2 d.p d.l H H' → Q (.bl true) H')
theorem ok_take (D : MDat K CH "take" "Hand.take" (inClass (top 63) 9) ["self", "grant", "area"]) (SC : HdC K CH) (NE : NoErr (CX1 P w)) (M_Hand_go : MCal P w K mg base (CX1 P w) CH "go" 1 ["self", "step"] (spGo C CS CH)) (M_Hand_stand : MCal P w K mg base (CX1 P w) CH "stand" 5 ["self"] (spStand K C CS CH)) (c_taking : Cal P w K mg base (CX1 P w) "taking" 2 ["settings", "stand", "grant", "area"] (spTaking K CD CS)) : MCal P w K mg base (CX1 P w) CH "take" 6 ["self", "grant", "area"] (spTake C CS CH CD) := by
 have S := sc_take
 refine mdat_okR D S (fun vs H Q E h => ?_) (fun f cdv A outer s H vs Q E hr h => ?_)
 ·obtain ⟨d, ls, pl, gr, sl, f, e, a, rfl, _⟩ := h
  rfl
 obtain ⟨d, ls, pl, gr, sl, f', e, a, rfl, hd, hok, ha, qe, q0, q1⟩ := h
 obtain ⟨⟨dx, sv, hp, hpl⟩, hl, hL, hss⟩ := id hd
 refine ⟨_, (pss_one (ps_ret (pe_mt M_Hand_go (hr.mono (by first | decide | omega)) NE.pass (pv 0) (pa_cons (pe_fnX c_taking (hr.mono (by first | decide | omega)) paX_self (pa_cons (pe_fld (pv 0) rfl) (pa_cons (pe_mt0 M_Hand_stand (hr.mono (by first | decide | omega)) NE.pass (pv 0)) (pa_cons (pv 1) (pa_cons (pv 2) pa_nil))))) pa_nil)))), ?_⟩
 try dsimp only [cxOf]
 walk_at "go"
 refine g_methv hp h_go ?_
 walk_at "go"
 refine ⟨d.p, CH, dx, _, _, rfl, hp, SC.cl, SC.n2, hdF_st _ _ _ _, ?_⟩
 walk_at "go"
 refine g_methv hp h_stand ?_
 walk_at "go"
 refine ⟨d, ls, pl, rfl, hd, hok, fun t H1 hst s1 => ?_⟩
 walk_at "go"
 refine ⟨d.ps, t, a, _, d.far, d.room, d.term, d.ws, pl, _, _, gr, sl, f', e, rfl, (hss.same s1).1, hst, hok.k0, s1 _ _ ha, fun e => qe e H1 s1, fun m k epl c1 c2 t2 v H2 hv ht2 s2 => ?_, fun m k epl c1 t2 l v H2 hv ht2 s2 => ?_⟩
 ·walk_at "go"
  exact use_go (hd.same (s1.trans s2)) (hd.same s1) hok.len (by simp) ht2 hv fun H3 hd3 f3 => q0 m k epl c1 c2 H3 (by rw [List.append_nil] at hd3; exact hd3) ((Fr2.of (s1.trans s2)).trans f3)
 ·walk_at "go"
  exact use_go (hd.same (s1.trans s2)) (hd.same s1) hok.len (by simp) ht2 hv fun H3 hd3 f3 => q1 m k epl c1 l H3 hd3 ((Fr2.of (s1.trans s2)).trans f3)
theorem sc_write : FnScope ["self", "reading"] ["self", "reading"] (defScope (inClass (top 63) 10)) := by walk_at "s"
def spWrite (C CS CH CD CA CN CW : Addr) : Sp := fun vs H Q E => ∃ (d : Hd) (ls : Lns) (pl : Option (Int × Int)) (r : Int), vs = [.ref d.p, .int r] ∧ HdAt C CS CH H d ls pl ∧ HdOk ls pl ∧ (∀ H', Same H H' → MkE CD CA CN CW H' pl (nt ls) d.far r E) ∧
 (∀ m k sl f e, pl = some (m, k) → (nt ls).ar = some (sl, f, e) → ¬ e ≤ due m f r → ¬ r + d.far < due m f r → ∀ ls2 H', ((nt ls).hd < due m f r + d.room ∧ (∃ l, ls2 = [(l, .held (due m f r + d.room))]) ∨ ¬ (nt ls).hd < due m f r + d.room ∧ ls2 = []) → HdAt C CS CH H' d (ls ++ ls2) pl → Fr2 d.p d.l H H' → Q (.int (max (nt ls).hd (due m f r + d.room))) H')
theorem ok_write (D : MDat K CH "write" "Hand.write" (inClass (top 63) 10) ["self", "reading"]) (SC : HdC K CH) (NE : NoErr (CX1 P w)) (M_Hand_go : MCal P w K mg base (CX1 P w) CH "go" 1 ["self", "step"] (spGo C CS CH)) (M_Hand_stand : MCal P w K mg base (CX1 P w) CH "stand" 5 ["self"] (spStand K C CS CH)) (c_writing : Cal P w K mg base (CX1 P w) "writing" 5 ["settings", "stand", "reading"] (spWriting K C CD CA CN CW CS)) : MCal P w K mg base (CX1 P w) CH "write" 6 ["self", "reading"] (spWrite C CS CH CD CA CN CW) := by
 have S := sc_write
 refine mdat_okR D S (fun vs H Q E h => ?_) (fun f cdv A outer s H vs Q E hr h => ?_)
 ·obtain ⟨d, ls, pl, r, rfl, _⟩ := h
  rfl
 obtain ⟨d, ls, pl, r, rfl, hd, hok, qe, q1⟩ := h
 obtain ⟨⟨dx, sv, hp, hpl⟩, hl, hL, hss⟩ := id hd
 refine ⟨_, (pss_one (ps_ret (pe_mt M_Hand_go (hr.mono (by first | decide | omega)) NE.pass (pv 0) (pa_cons (pe_fnX c_writing (hr.mono (by first | decide | omega)) paX_self (pa_cons (pe_fld (pv 0) rfl) (pa_cons (pe_mt0 M_Hand_stand (hr.mono (by first | decide | omega)) NE.pass (pv 0)) (pa_cons (pv 1) pa_nil)))) pa_nil)))), ?_⟩
 try dsimp only [cxOf]
 walk_at "go"
 refine g_methv hp h_go ?_
 walk_at "go"
 refine ⟨d.p, CH, dx, _, _, rfl, hp, SC.cl, SC.n2, hdF_st _ _ _ _, ?_⟩
 walk_at "go"
 refine g_methv hp h_stand ?_
 walk_at "go"
 refine ⟨d, ls, pl, rfl, hd, hok, fun t H1 hst s1 => ?_⟩
 walk_at "go"
 refine ⟨d.ps, t, d.sp, d.c, d.s, d.far, d.room, d.term, d.ws, pl, _, _, r, rfl, hss.same s1, hst, qe H1 s1, fun m k sl f' e epl ear b1 b2 t2 v ls2 H2 hls hv ht2 s2 => ?_⟩
 have hl2 : ls2.length ≤ 1 := by
  rcases hls with ⟨_, l, rfl⟩ | ⟨_, rfl⟩ <;> simp
 walk_at "go"
 exact use_go (hd.same (s1.trans s2)) (hd.same s1) hok.len hl2 ht2 hv fun H3 hd3 f3 => q1 m k sl f' e epl ear b1 b2 ls2 H3 hls hd3 ((Fr2.of (s1.trans s2)).trans f3)
theorem sc_make : FnScope ["self", "reading"] ["self", "reading"] (defScope (inClass (top 63) 11)) := by walk_at "s"
def spMakeM (C CS CH CD CA CN CW CT : Addr) : Sp := fun vs H Q E => ∃ (d : Hd) (ls : Lns) (pl : Option (Int × Int)) (r : Int), vs = [.ref d.p, .int r] ∧ HdAt C CS CH H d ls pl ∧ HdOk ls pl ∧ (∀ H', Same H H' → MkE CD CA CN CW H' pl (nt ls) d.far r E) ∧
 (∀ m k sl f e, pl = some (m, k) → (nt ls).ar = some (sl, f, e) → ¬ e ≤ due m f r → ¬ r + d.far < due m f r → ("ahead" : Str) ∈ d.ws → (nt ls).hd ≤ due m f r → ∀ dd H', Same H H' → H' dd = some (.xd [("moment", .int (due m f r))]) → E (.ref CT) (some dd) H') ∧
 (∀ m k sl f e, pl = some (m, k) → (nt ls).ar = some (sl, f, e) → ¬ e ≤ due m f r → ¬ r + d.far < due m f r → ¬ (("ahead" : Str) ∈ d.ws ∧ (nt ls).hd ≤ due m f r) → ∀ H', HdAt C CS CH H' d ls (some (nxP d.c m f r k)) → Fr2 d.p d.l H H' → Q (.int (mk d.c d.s (due m f r) sl (cnt m f r k))) H')
theorem ok_make (D : MDat K CH "make" "Hand.make" (inClass (top 63) 11) ["self", "reading"]) (SC : HdC K CH) (NE : NoErr (CX1 P w)) (M_Hand_go : MCal P w K mg base (CX1 P w) CH "go" 1 ["self", "step"] (spGo C CS CH)) (M_Hand_stand : MCal P w K mg base (CX1 P w) CH "stand" 5 ["self"] (spStand K C CS CH)) (c_making : Cal P w K mg base (CX1 P w) "making" 5 ["settings", "stand", "reading"] (spMaking K C CD CA CN CW CT CS)) : MCal P w K mg base (CX1 P w) CH "make" 6 ["self", "reading"] (spMakeM C CS CH CD CA CN CW CT) := by
 have S := sc_make
 refine mdat_okR D S (fun vs H Q E h => ?_) (fun f cdv A outer s H vs Q E hr h => ?_)
 ·obtain ⟨d, ls, pl, r, rfl, _⟩ := h
  rfl
 obtain ⟨d, ls, pl, r, rfl, hd, hok, qe, qt, q1⟩ := h
 obtain ⟨⟨dx, sv, hp, hpl⟩, hl, hL, hss⟩ := id hd
 refine ⟨_, (pss_one (ps_ret (pe_mt M_Hand_go (hr.mono (by first | decide | omega)) NE.pass (pv 0) (pa_cons (pe_fnX c_making (hr.mono (by first | decide | omega)) paX_self (pa_cons (pe_fld (pv 0) rfl) (pa_cons (pe_mt0 M_Hand_stand (hr.mono (by first | decide | omega)) NE.pass (pv 0)) (pa_cons (pv 1) pa_nil)))) pa_nil)))), ?_⟩
 try dsimp only [cxOf]
 walk_at "go"
 refine g_methv hp h_go ?_
 walk_at "go"
 refine ⟨d.p, CH, dx, _, _, rfl, hp, SC.cl, SC.n2, hdF_st _ _ _ _, ?_⟩
 walk_at "go"
 refine g_methv hp h_stand ?_
 walk_at "go"
 refine ⟨d, ls, pl, rfl, hd, hok, fun t H1 hst s1 => ?_⟩
 walk_at "go"
 refine ⟨d.ps, t, d.sp, d.c, d.s, d.far, d.room, d.term, d.ws, pl, _, _, r, rfl, hss.same s1, hst, qe H1 s1, fun m k sl f' e epl ear b1 b2 c1 c2 dd H2 s2 hdd => qt m k sl f' e epl ear b1 b2 c1 c2 dd H2 (s1.trans s2) hdd, fun m k sl f' e epl ear b1 b2 c1 t2 v H2 hv ht2 s2 => ?_⟩
 walk_at "go"
 exact use_go (hd.same (s1.trans s2)) (hd.same s1) hok.len (by simp) ht2 hv fun H3 hd3 f3 => q1 m k sl f' e epl ear b1 b2 c1 H3 (by rw [List.append_nil] at hd3; exact hd3) ((Fr2.of (s1.trans s2)).trans f3)
theorem sc_hear : FnScope ["self", "bound"] ["self", "bound"] (defScope (inClass (top 63) 12)) := by walk_at "s"
def spHear (C CS CH CD : Addr) : Sp := fun vs H Q E => ∃ (d : Hd) (ls : Lns) (pl : Option (Int × Int)) (b : Int), vs = [.ref d.p, .int b] ∧ HdAt C CS CH H d ls pl ∧ HdOk ls pl ∧ (pl = none → ∀ H', Same H H' → E (.ref CD) none H') ∧
 (∀ m k, pl = some (m, k) → ∀ ls2 H', ((("spoken" : Str) ∈ d.ws ∧ (nt ls).hr < b ∧ ∃ l, ls2 = [(l, .heard b)]) ∨ (¬ (("spoken" : Str) ∈ d.ws ∧ (nt ls).hr < b) ∧ ls2 = [])) → HdAt C CS CH H' d (ls ++ ls2) (some (raisP m k b)) → Fr2 d.p d.l H H' → Q .non H')
theorem ok_hear (D : MDat K CH "hear" "Hand.hear" (inClass (top 63) 12) ["self", "bound"]) (SC : HdC K CH) (NE : NoErr (CX1 P w)) (M_Hand_go : MCal P w K mg base (CX1 P w) CH "go" 1 ["self", "step"] (spGo C CS CH)) (M_Hand_stand : MCal P w K mg base (CX1 P w) CH "stand" 5 ["self"] (spStand K C CS CH)) (c_hearing : Cal P w K mg base (CX1 P w) "hearing" 2 ["settings", "stand", "bound"] (spHearing K CD CS)) : MCal P w K mg base (CX1 P w) CH "hear" 6 ["self", "bound"] (spHear C CS CH CD) := by
 have S := sc_hear
 refine mdat_okR D S (fun vs H Q E h => ?_) (fun f cdv A outer s H vs Q E hr h => ?_)
 ·obtain ⟨d, ls, pl, b, rfl, _⟩ := h
  rfl
 obtain ⟨d, ls, pl, b, rfl, hd, hok, qe, q1⟩ := h
 obtain ⟨⟨dx, sv, hp, hpl⟩, hl, hL, hss⟩ := id hd
 refine ⟨_, (pss_one (ps_ret (pe_mt M_Hand_go (hr.mono (by first | decide | omega)) NE.pass (pv 0) (pa_cons (pe_fnX c_hearing (hr.mono (by first | decide | omega)) paX_self (pa_cons (pe_fld (pv 0) rfl) (pa_cons (pe_mt0 M_Hand_stand (hr.mono (by first | decide | omega)) NE.pass (pv 0)) (pa_cons (pv 1) pa_nil)))) pa_nil)))), ?_⟩
 try dsimp only [cxOf]
 walk_at "go"
 refine g_methv hp h_go ?_
 walk_at "go"
 refine ⟨d.p, CH, dx, _, _, rfl, hp, SC.cl, SC.n2, hdF_st _ _ _ _, ?_⟩
 walk_at "go"
 refine g_methv hp h_stand ?_
 walk_at "go"
 refine ⟨d, ls, pl, rfl, hd, hok, fun t H1 hst s1 => ?_⟩
 walk_at "go"
 refine ⟨d.ps, t, _, d.far, d.room, d.term, d.ws, pl, _, _, b, rfl, (hss.same s1).1, hst, hok.k0, fun e => qe e H1 s1, fun m k epl t2 v ls2 H2 hls hv ht2 s2 => ?_⟩
 have hl2 : ls2.length ≤ 1 := by
  rcases hls with ⟨_, _, l, rfl⟩ | ⟨_, rfl⟩ <;> simp
 walk_at "go"
 exact use_go (hd.same (s1.trans s2)) (hd.same s1) hok.len hl2 ht2 hv fun H3 hd3 f3 => q1 m k epl ls2 H3 hls hd3 ((Fr2.of (s1.trans s2)).trans f3)
theorem sc_tell : FnScope ["self"] ["self"] (defScope (inClass (top 63) 13)) := by walk_at "s"
def spTell (C CS CH CD : Addr) : Sp := fun vs H Q E => ∃ (d : Hd) (ls : Lns) (pl : Option (Int × Int)), vs = [.ref d.p] ∧ HdAt C CS CH H d ls pl ∧ (pl = none → E (.ref CD) none H) ∧ (∀ m k, pl = some (m, k) → Q (.int (bnd m k)) H)
theorem ok_tell (D : MDat K CH "tell" "Hand.tell" (inClass (top 63) 13) ["self"]) (SC : HdC K CH) (NE : NoErr (CX1 P w)) (c_need_up : Cal P w K mg base (CX1 P w) "need_up" 1 ["place"] (spNeedUp CD)) (c_bound_of : Cal P w K mg base (CX1 P w) "bound_of" 1 ["place"] spBound) : MCal P w K mg base (CX1 P w) CH "tell" 2 ["self"] (spTell C CS CH CD) := by
 have S := sc_tell
 refine mdat_okR D S (fun vs H Q E h => ?_) (fun f cdv A outer s H vs Q E hr h => ?_)
 ·obtain ⟨d, ls, pl, rfl, _⟩ := h
  rfl
 obtain ⟨d, ls, pl, rfl, ⟨⟨dx, sv, hp, hpl⟩, hl, hL, hss⟩, qe, q⟩ := h
 refine ⟨_, (pss_cons (ps_expr (pe_fnX c_need_up (hr.mono (by first | decide | omega)) paX_self (pa_cons (pe_fld (pv 0) rfl) pa_nil)))
   (pss_one (ps_ret (pe_fn c_bound_of (hr.mono (by first | decide | omega)) NE.pass (pa_cons (pe_fld (pv 0) rfl) pa_nil))))), ?_⟩
 try dsimp only [cxOf]
 walk_at "go"
 refine ⟨d.p, CH, dx, _, _, rfl, hp, SC.cl, SC.n4, hdF_s _ _ _ _, ?_⟩
 walk_at "go"
 refine ⟨sv, pl, rfl, hpl, qe, fun hsome => ?_⟩
 walk_at "go"
 refine ⟨d.p, CH, dx, _, _, rfl, hp, SC.cl, SC.n4, hdF_s _ _ _ _, ?_⟩
 rcases hpl with ⟨rfl, rfl⟩ | ⟨t, m, k, rfl, rfl, ht⟩
 ·cases hsome
 walk_at "go"
 exact ⟨t, m, k, rfl, ht, q m k rfl⟩
theorem sc_giveb : FnScope ["self"] ["self"] (defScope (inClass (top 63) 14)) := by walk_at "s"
def spGiveB (C CS CH CD CA CN : Addr) : Sp := fun vs H Q E => ∃ (d : Hd) (ls : Lns) (pl : Option (Int × Int)), vs = [.ref d.p] ∧ HdAt C CS CH H d ls pl ∧ HdOk ls pl ∧ (pl = none → ∀ H', Same H H' → E (.ref CD) none H') ∧ (pl.isSome = true → (nt ls).ar = none → ∀ H', Same H H' → E (.ref CA) none H') ∧
 (∀ m k sl f e, pl = some (m, k) → (nt ls).ar = some (sl, f, e) → giveE f m k (nt ls).hd ≥ e → ∀ H', Same H H' → E (.ref CN) none H') ∧
 (∀ m k sl f e, pl = some (m, k) → (nt ls).ar = some (sl, f, e) → ¬ giveE f m k (nt ls).hd ≥ e → ∀ tv ls2 H', H' tv = some (.tup [.int (nt ls).g, .int (giveE f m k (nt ls).hd)]) → ((("ends" : Str) ∈ d.ws ∧ ∃ l, ls2 = [(l, .ends (nt ls).g (giveE f m k (nt ls).hd))]) ∨ (¬ ("ends" : Str) ∈ d.ws ∧ ls2 = [])) → HdAt C CS CH H' d (ls ++ ls2) pl → Fr2 d.p d.l H H' → Q (.ref tv) H')
theorem ok_giveb (D : MDat K CH "give_back" "Hand.give_back" (inClass (top 63) 14) ["self"]) (SC : HdC K CH) (NE : NoErr (CX1 P w)) (M_Hand_go : MCal P w K mg base (CX1 P w) CH "go" 1 ["self", "step"] (spGo C CS CH)) (M_Hand_stand : MCal P w K mg base (CX1 P w) CH "stand" 5 ["self"] (spStand K C CS CH)) (c_giving : Cal P w K mg base (CX1 P w) "giving" 2 ["settings", "stand"] (spGiving K CD CA CN CS)) : MCal P w K mg base (CX1 P w) CH "give_back" 6 ["self"] (spGiveB C CS CH CD CA CN) := by
 have S := sc_giveb
 refine mdat_okR D S (fun vs H Q E h => ?_) (fun f cdv A outer s H vs Q E hr h => ?_)
 ·obtain ⟨d, ls, pl, rfl, _⟩ := h
  rfl
 obtain ⟨d, ls, pl, rfl, hd, hok, qd, qa, qn, q1⟩ := h
 obtain ⟨⟨dx, sv, hp, hpl⟩, hl, hL, hss⟩ := id hd
 refine ⟨_, (pss_one (ps_ret (pe_mt M_Hand_go (hr.mono (by first | decide | omega)) NE.pass (pv 0) (pa_cons (pe_fnX c_giving (hr.mono (by first | decide | omega)) paX_self (pa_cons (pe_fld (pv 0) rfl) (pa_cons (pe_mt0 M_Hand_stand (hr.mono (by first | decide | omega)) NE.pass (pv 0)) pa_nil))) pa_nil)))), ?_⟩
 try dsimp only [cxOf]
 walk_at "go"
 refine g_methv hp h_go ?_
 walk_at "go"
 refine ⟨d.p, CH, dx, _, _, rfl, hp, SC.cl, SC.n2, hdF_st _ _ _ _, ?_⟩
 walk_at "go"
 refine g_methv hp h_stand ?_
 walk_at "go"
 refine ⟨d, ls, pl, rfl, hd, hok, fun t H1 hst s1 => ?_⟩
 walk_at "go"
 refine ⟨d.ps, t, _, d.far, d.room, d.term, d.ws, pl, _, _, rfl, (hss.same s1).1, hst, fun e => qd e H1 s1, fun e1 e2 => qa e1 e2 H1 s1, fun m k sl f' e epl ear c => qn m k sl f' e epl ear c H1 s1, fun m k sl f' e epl ear c t2 tv v ls2 H2 htv hls hv ht2 s2 => ?_⟩
 have hl2 : ls2.length ≤ 1 := by
  rcases hls with ⟨_, l, rfl⟩ | ⟨_, rfl⟩ <;> simp
 walk_at "go"
 exact use_go (hd.same (s1.trans s2)) (hd.same s1) hok.len hl2 ht2 hv fun H3 hd3 f3 => q1 m k sl f' e epl ear c tv ls2 H3 (fr_ts (hd.same (s1.trans s2)) f3 _ _ htv) hls hd3 ((Fr2.of (s1.trans s2)).trans f3)
end
end Law

namespace Law
open PySem PySem.Spec PyProof.Rows L2 L3 L4
open PySem.W in
structure ExW (K : Frag) (mg : Str → Option Value) (x qual : Str) (C : Addr) (st : Stmt) (ps : List Str) : Prop where
 dat : EDat K mg x qual C st ps
 get : EGet K C
 hd : hasDictIn K C = true
 ov : ∃ cd, clsIn K C = some cd ∧ OverErr cd.mro ∧ cd.hasDict = true
 sa : findIn K (.ref C) "__setattr__" = some (some (.builtin "object.__setattr__"))
open PySem.W in
theorem ExW.put {K : Frag} {mg : Str → Option Value} {x qual f : Str} {C : Addr} {st : Stmt} {ps : List Str} (W : ExW K mg x qual C st ps) (t : takerIn K C f = some none) : EPut K C f := ⟨W.get, W.sa, W.ov, t⟩
open PySem.W in
theorem exw_mk {K : Frag} {h : Heap} {mg : Str → Option Value} {x qual : Str} {CW CR f : Addr} {st : Stmt} {ps : List Str} {cbW : ClassData} {dd od an : Option Addr} {k0 k1 k2 k3 k5 : Option Value} {oc kV doc pm cdv ct : Value} {osl : Array (Option Value)} (X : K.In h) (G : h.Ns mainGlobals mg)
  (a1 : nsIn K mainGlobals x = some (some (.ref CW))) (g6 : specialIn K (.builtin "object.__class__") "__get__" = some (some (.builtin "getset_descriptor.__get__"))) (g7 : takesIn K (.builtin "object.__class__") = some true)
  (v1 : findIn K (.ref CW) "__getattribute__" = some (some (.builtin "BaseException.__getattribute__"))) (v2 : findIn K (.ref CW) "__getattr__" = some none) (v3 : mroIn K CW (.type "BaseException") = some true) (v4 : mroIn K CW (.type "object") = some true)
  (v5 : findIn K (.ref CW) "__class__" = some (some (.builtin "object.__class__"))) (v8 : clsIn K CW = some cbW) (r0 : excIn K CR vErr "ValueError.__new__" = true)
  (u1 : findIn K (.ref CW) "__setattr__" = some (some (.builtin "object.__setattr__"))) (u3 : K.lookup CW = some ⟨.type "type", dd, .cls cbW, #[k0, k1, k2, k3, some (.builtin "ValueError.__new__"), k5]⟩) (u4 : cbW.mro = .ref CW :: .ref CR :: vErr) (u5 : cbW.hasDel = false) (u6 : cbW.hasDict = true)
  (i1 : findIn K (.ref CW) "__init__" = some (some (.ref f))) (i2 : typeIn K (.ref f) = some (.type "function")) (i3 : K.lookup f = some ⟨oc, od, .func (fnOf "__init__" qual (defArgs st) (defBody st) (defScope st) .none kV doc pm an cdv ct), osl⟩) (i4 : codeIn K cdv qual = true) (i5 : keepIn K (.ref f) = true) (i6 : keepIn K (.ref CW) = true)
  (b : ∀ (kV doc pm : Value) (an : Option Addr) (cdv ct : Value) (us : List Value), us.length = ps.length → bindArgs (fnOf "__init__" qual (defArgs st) (defBody st) (defScope st) .none kV doc pm an cdv ct) ⟨us, []⟩ = pure (ps.zip us)) (x1 : hasDictIn K CW = true) : ExW K mg x qual CW st ps :=
 ⟨edat_mk X G a1 (exc1_own u3 u4 u5 r0) i1 i2 i3 i4 i5 i6 b, ⟨v1, v2, v3, v4, v5, g6, g7, some_is v8⟩, x1, ⟨cbW, v8, u4 ▸ OverErr.two, u6⟩, u1⟩
end Law

namespace Law
open PySem PySem.Spec PyProof.Rows L2 L3 L4
def ers (CD CU CA CN CW CT : Addr) : List Addr := [CD, CU, CA, CN, CW, CT]
structure HErr (K : PySem.W.Frag) (mg : Str → Option Value) (CD CU CA CN CW CT CR : Addr) : Prop where
 d : ECls K mg "Down" CD
 u : ECls K mg "Up" CU
 a : ECls K mg "NoArea" CA
 n : ECls K mg "NoRoom" CN
 w : EDat K mg "Wait" "Wait.__init__" CW (inClass (top 8) 0) ["self", "reading"]
 pw : EPut K CW "reading"
 t : EDat K mg "NoNote" "NoNote.__init__" CT (inClass (top 9) 0) ["self", "moment"]
 pt : EPut K CT "moment"
 b : EBase K mg "RiseError" CR
 hR : mg "RiseError" = some (.ref CR)
 hD : mg "Down" = some (.ref CD)
 hU : mg "Up" = some (.ref CU)
 hA : mg "NoArea" = some (.ref CA)
 hN : mg "NoRoom" = some (.ref CN)
 hW : mg "Wait" = some (.ref CW)
 hT : mg "NoNote" = some (.ref CT)
 et : ∀ c ∈ ers CD CU CA CN CW CT, PySem.W.exmOne K (.ref c) (.ref CR) = some true
open PySem.W in
theorem herr_mk {K : Frag} {h : Heap} {mg : Str → Option Value} {CD CU CA CN CW CT CR : Addr} {R : Addr → Addr → Addr → Addr → Addr → Addr → Addr → Prop} (X : K.In h) (G : h.Ns mainGlobals mg)
  (WW : ExW K mg "Wait" "Wait.__init__" CW (inClass (top 8) 0) ["self", "reading"]) (WT : ExW K mg "NoNote" "NoNote.__init__" CT (inClass (top 9) 0) ["self", "moment"]) (tw : takerIn K CW "reading" = some none) (tt : takerIn K CT "moment" = some none)
  (aD : nsIn K mainGlobals "Down" = some (some (.ref CD))) (aU : nsIn K mainGlobals "Up" = some (some (.ref CU))) (aA : nsIn K mainGlobals "NoArea" = some (some (.ref CA))) (aN : nsIn K mainGlobals "NoRoom" = some (some (.ref CN))) (aW : nsIn K mainGlobals "Wait" = some (some (.ref CW))) (aT : nsIn K mainGlobals "NoNote" = some (some (.ref CT))) (aR : nsIn K mainGlobals "RiseError" = some (some (.ref CR)))
  (d1 : excIn K CD vErr "ValueError.__new__" = true) (d2 : findIn K (.ref CD) "__init__" = some (some (.builtin "ValueError.__init__"))) (d3 : keepIn K (.ref CD) = true)
  (u1 : excIn K CU vErr "ValueError.__new__" = true) (u2 : findIn K (.ref CU) "__init__" = some (some (.builtin "ValueError.__init__"))) (u3 : keepIn K (.ref CU) = true)
  (c1 : excIn K CA vErr "ValueError.__new__" = true) (c2 : findIn K (.ref CA) "__init__" = some (some (.builtin "ValueError.__init__"))) (c3 : keepIn K (.ref CA) = true)
  (n1 : excIn K CN vErr "ValueError.__new__" = true) (n2 : findIn K (.ref CN) "__init__" = some (some (.builtin "ValueError.__init__"))) (n3 : keepIn K (.ref CN) = true)
  (r1 : specialIn K (.ref CR) "__getattribute__" = some (some (.builtin "type.__getattribute__"))) (r2 : readsIn K CR (.type "type") = true) (r3 : findCls K (.ref CR) (.type "type") "__init__" = some (.val (.builtin "ValueError.__init__")))
  (m1 : exmOne K (.ref CD) (.ref CR) = some true) (m2 : exmOne K (.ref CU) (.ref CR) = some true) (m3 : exmOne K (.ref CA) (.ref CR) = some true) (m4 : exmOne K (.ref CN) (.ref CR) = some true) (m5 : exmOne K (.ref CW) (.ref CR) = some true) (m6 : exmOne K (.ref CT) (.ref CR) = some true)
  (hR : R CD CU CA CN CW CT CR) : ∃ CD CU CA CN CW CT CR : Addr, HErr K mg CD CU CA CN CW CT CR ∧ R CD CU CA CN CW CT CR :=
 ⟨CD, CU, CA, CN, CW, CT, CR, ⟨⟨exc1_ofIn d1, d2, d3, mg_of X G aD⟩, ⟨exc1_ofIn u1, u2, u3, mg_of X G aU⟩, ⟨exc1_ofIn c1, c2, c3, mg_of X G aA⟩, ⟨exc1_ofIn n1, n2, n3, mg_of X G aN⟩, WW.dat, WW.put tw, WT.dat, WT.put tt, ⟨mg_of X G aR, r1, r2, r3⟩, mg_of X G aR, mg_of X G aD, mg_of X G aU, mg_of X G aA, mg_of X G aN, mg_of X G aW, mg_of X G aT, fun c hc => by
  simp only [ers, List.mem_cons, List.not_mem_nil, or_false] at hc
  rcases hc with rfl | rfl | rfl | rfl | rfl | rfl
  ·exact m1
  ·exact m2
  ·exact m3
  ·exact m4
  ·exact m5
  ·exact m6⟩, hR⟩
structure HMet (K : PySem.W.Frag) (mg : Str → Option Value) (CH : Addr) : Prop where
 is_up : MDat K CH "is_up" "Hand.is_up" (inClass (top 63) 1) ["self"]
 place : MDat K CH "place" "Hand.place" (inClass (top 63) 2) ["self"]
 note : MDat K CH "note" "Hand.note" (inClass (top 63) 3) ["self"]
 area : MDat K CH "area" "Hand.area" (inClass (top 63) 4) ["self"]
 stand : MDat K CH "stand" "Hand.stand" (inClass (top 63) 5) ["self"]
 go : MDat K CH "go" "Hand.go" (inClass (top 63) 6) ["self", "step"]
 fall : MDat K CH "fall" "Hand.fall" (inClass (top 63) 7) ["self"]
 rise : MDat K CH "rise" "Hand.rise" (inClass (top 63) 8) ["self"]
 take : MDat K CH "take" "Hand.take" (inClass (top 63) 9) ["self", "grant", "area"]
 write : MDat K CH "write" "Hand.write" (inClass (top 63) 10) ["self", "reading"]
 make : MDat K CH "make" "Hand.make" (inClass (top 63) 11) ["self", "reading"]
 hear : MDat K CH "hear" "Hand.hear" (inClass (top 63) 12) ["self", "bound"]
 tell : MDat K CH "tell" "Hand.tell" (inClass (top 63) 13) ["self"]
 give_back : MDat K CH "give_back" "Hand.give_back" (inClass (top 63) 14) ["self"]
structure HDat (K : PySem.W.Frag) (mg : Str → Option Value) : Prop where
 d_is_whole : Dat K mg "is_whole" "is_whole" (top 15) ["thing"]
 d_is_whole_from : Dat K mg "is_whole_from" "is_whole_from" (top 16) ["thing", "least"]
 d_is_side : Dat K mg "is_side" "is_side" (top 17) ["thing"]
 d_mark_of : Dat K mg "mark_of" "mark_of" (top 19) ["shape", "moment", "slot", "count"]
 d_is_span : Dat K mg "is_span" "is_span" (top 41) ["thing", "least"]
 d_is_rule : Dat K mg "is_rule" "is_rule" (top 42) ["thing"]
 d_are_rules : Dat K mg "are_rules" "are_rules" (top 43) ["thing"]
 d_has_rule : Dat K mg "has_rule" "has_rule" (top 45) ["settings", "word"]
 d_slot_of : Dat K mg "slot_of" "slot_of" (top 21) ["area"]
 d_first_of : Dat K mg "first_of" "first_of" (top 22) ["area"]
 d_end_of : Dat K mg "end_of" "end_of" (top 23) ["area"]
 d_ended_at : Dat K mg "ended_at" "ended_at" (top 24) ["area", "end"]
 d_read_on : Dat K mg "read_on" "read_on" (top 33) ["told", "line"]
 d_read_note : Dat K mg "read_note" "read_note" (top 34) ["lines"]
 d_tooks_of : Dat K mg "tooks_of" "tooks_of" (top 36) ["lines"]
 d_greatest_taken : Dat K mg "greatest_taken" "greatest_taken" (top 37) ["lines"]
 d_bound_of : Dat K mg "bound_of" "bound_of" (top 26) ["place"]
 d_raised : Dat K mg "raised" "raised" (top 27) ["place", "bound"]
 d_next_place : Dat K mg "next_place" "next_place" (top 28) ["shape", "place"]
 d_moment_at : Dat K mg "moment_at" "moment_at" (top 29) ["area", "place", "reading"]
 d_made : Dat K mg "made" "made" (top 30) ["shape", "far", "area", "place", "reading"]
 d_grant_in : Dat K mg "grant_in" "grant_in" (top 47) ["stand"]
 d_area_in : Dat K mg "area_in" "area_in" (top 48) ["stand"]
 d_held_in : Dat K mg "held_in" "held_in" (top 49) ["stand"]
 d_heard_in : Dat K mg "heard_in" "heard_in" (top 50) ["stand"]
 d_start_by : Dat K mg "start_by" "start_by" (top 51) ["note"]
 d_need_up : Dat K mg "need_up" "need_up" (top 52) ["place"]
 d_need_area : Dat K mg "need_area" "need_area" (top 53) ["area"]
 d_falling : Dat K mg "falling" "falling" (top 54) ["stand"]
 d_rising : Dat K mg "rising" "rising" (top 55) ["stand"]
 d_taking : Dat K mg "taking" "taking" (top 56) ["settings", "stand", "grant", "area"]
 d_hearing : Dat K mg "hearing" "hearing" (top 60) ["settings", "stand", "bound"]
 d_giving : Dat K mg "giving" "giving" (top 61) ["settings", "stand"]
 d_mark_and_place : Dat K mg "mark_and_place" "mark_and_place" (top 57) ["settings", "stand", "reading"]
 d_writing : Dat K mg "writing" "writing" (top 58) ["settings", "stand", "reading"]
 d_making : Dat K mg "making" "making" (top 59) ["settings", "stand", "reading"]
 d_area_of : Dat K mg "area_of" "area_of" (top 35) ["lines"]
 d__law_hand : Dat K mg "_law_hand" "_law_hand" (top 65) ["_law_script", "_law_k"]
 d__law_pick : Dat K mg "_law_pick" "_law_pick" (top 66) ["_law_hand_here", "_law_many"]
structure HCal (P : Program) (w : World) (K : PySem.W.Frag) (mg : Str → Option Value) (base : Heap) (C CS CH CD CU CA CN CW CT : Addr) : Prop where
 c__law_hand : Cal P w K mg base (CX1 P w) "_law_hand" 1 ["_law_script", "_law_k"] (spHand K)
 c__law_pick : Cal P w K mg base (CX1 P w) "_law_pick" 11 ["_law_hand_here", "_law_many"] spPick
 m_Shape : Mak P w K mg base (CX1 P w) "Shape" C 4 ["self", "counts", "slots"] (spShape C)
 m_Settings : Mak P w K mg base (CX1 P w) "Settings" CS 4 ["self", "shape", "far", "room", "term", "rules"] (spSettings CS)
 m_Hand : Mak P w K mg base (CX1 P w) "Hand" CH 5 ["self", "name", "settings", "lines"] (spHandI CH)
 m1_Hand : Mak1 P w K mg base (CX1 P w) "Hand" CH 5 ["self", "name", "settings", "lines"] (spHandI CH)
 M_Hand_is_up : MCal P w K mg base (CX1 P w) CH "is_up" 1 ["self"] (spIsUp C CS CH)
 M_Hand_place : MCal P w K mg base (CX1 P w) CH "place" 1 ["self"] (spPlace C CS CH)
 M_Hand_note : MCal P w K mg base (CX1 P w) CH "note" 1 ["self"] (spNote C CS CH)
 M_Hand_area : MCal P w K mg base (CX1 P w) CH "area" 6 ["self"] (spArea C CS CH)
 M_Hand_fall : MCal P w K mg base (CX1 P w) CH "fall" 6 ["self"] (spFall C CS CH CD)
 M_Hand_rise : MCal P w K mg base (CX1 P w) CH "rise" 6 ["self"] (spRise C CS CH CU)
 M_Hand_take : MCal P w K mg base (CX1 P w) CH "take" 6 ["self", "grant", "area"] (spTake C CS CH CD)
 M_Hand_write : MCal P w K mg base (CX1 P w) CH "write" 6 ["self", "reading"] (spWrite C CS CH CD CA CN CW)
 M_Hand_make : MCal P w K mg base (CX1 P w) CH "make" 6 ["self", "reading"] (spMakeM C CS CH CD CA CN CW CT)
 M_Hand_hear : MCal P w K mg base (CX1 P w) CH "hear" 6 ["self", "bound"] (spHear C CS CH CD)
 M_Hand_tell : MCal P w K mg base (CX1 P w) CH "tell" 2 ["self"] (spTell C CS CH CD)
 M_Hand_give_back : MCal P w K mg base (CX1 P w) CH "give_back" 6 ["self"] (spGiveB C CS CH CD CA CN)
section
variable {P : Program} {w : World} {K : PySem.W.Frag} {mg : Str → Option Value} {base : Heap} {C CS CH CD CU CA CN CW CT CR aR aN : Addr}
theorem hcal_mk (BT : Bt mg) (NE : NoErr (CX1 P w)) (D : HDat K mg) (M : HMet K mg CH) (ER : HErr K mg CD CU CA CN CW CT CR) (DSh : CDat K mg "Shape" "Shape.__init__" C (inClass (top 18) 0) ["self", "counts", "slots"]) (SC : ShC K C) (DSt : CDatD K mg "Settings" "Settings.__init__" CS (inClass (top 44) 0) ["self", "shape", "far", "room", "term", "rules"]) (SS : StC K CS)
  (DHd : CDat1 K mg "Hand" "Hand.__init__" CH (inClass (top 63) 0) ["self", "name", "settings", "lines"]) (HC : HdC K CH) (g_SIDE : GlV mg "GREATEST_SIDE" (.int 1000)) (g_SPAN : GlV mg "GREATEST_SPAN" (.int 1000000000000)) (g_RULES : GlV mg "RULES" (.ref aR)) (hR : ∀ H, SqT K H aR (ruleW.map V.str)) (g_NOTHING : GlV mg "NOTHING" (.ref aN)) (hN : ∀ H, SqT K H aN [.int 0, .non, .int 0, .int 0]) : HCal P w K mg base C CS CH CD CU CA CN CW CT := by
 have c_whole := ok_whole (P := P) (w := w) (base := base) (CX := CX1 P w) D.d_is_whole BT
 have c_from := ok_from D.d_is_whole_from NE c_whole
 have m_Shape := ok_shape DSh SC NE (ok_side D.d_is_side NE g_SIDE c_from)
 have c_mark := ok_mark (P := P) (w := w) (base := base) (CX := CX1 P w) D.d_mark_of SC
 have c_rules := ok_rules D.d_are_rules BT NE (ok_rule (P := P) (w := w) (base := base) (CX := CX1 P w) D.d_is_rule BT g_RULES hR)
 have m_Settings := ok_settings DSt SS BT NE g_RULES (ok_span D.d_is_span NE g_SPAN c_from) c_rules
 have c_hasrule := ok_hasrule (P := P) (w := w) (base := base) (CX := CX1 P w) D.d_has_rule SS
 have c_slot := ok_slot_of (P := P) (w := w) (base := base) (CX := CX1 P w) D.d_slot_of
 have c_first := ok_first_of (P := P) (w := w) (base := base) (CX := CX1 P w) D.d_first_of
 have c_end := ok_end_of (P := P) (w := w) (base := base) (CX := CX1 P w) D.d_end_of
 have c_rnote := ok_rnote D.d_read_note NE g_NOTHING hN (ok_readon D.d_read_on BT NE c_end (ok_ended D.d_ended_at NE c_slot c_first))
 have c_great := ok_greatest D.d_greatest_taken BT NE (ok_tooks (P := P) (w := w) (base := base) (CX := CX1 P w) D.d_tooks_of)
 have c_bound := ok_bound_of (P := P) (w := w) (base := base) (CX := CX1 P w) D.d_bound_of
 have c_raised := ok_raised (P := P) (w := w) (base := base) (CX := CX1 P w) D.d_raised BT
 have c_next := ok_next_place (P := P) (w := w) (base := base) (CX := CX1 P w) D.d_next_place SC
 have c_moment := ok_moment_at D.d_moment_at BT NE c_first
 have O_Wait := ok_Wait (P := P) (w := w) (base := base) ER.w ER.b ER.pw
 have O_NoNote := ok_NoNote (P := P) (w := w) (base := base) ER.t ER.b ER.pt
 have c_made := ok_made D.d_made BT NE ER.n O_Wait c_moment c_end c_slot c_mark c_next
 have c_grant_in := ok_grant_in (P := P) (w := w) (base := base) (CX := CX1 P w) D.d_grant_in
 have c_held_in := ok_held_in (P := P) (w := w) (base := base) (CX := CX1 P w) D.d_held_in
 have c_heard_in := ok_heard_in (P := P) (w := w) (base := base) (CX := CX1 P w) D.d_heard_in
 have c_area_in := ok_area_in (P := P) (w := w) (base := base) (CX := CX1 P w) D.d_area_in
 have c_start_by := ok_start_by (P := P) (w := w) (base := base) (CX := CX1 P w) D.d_start_by BT
 have c_need_up := ok_need_up (P := P) (w := w) (base := base) D.d_need_up NE ER.d
 have c_need_area := ok_need_area (P := P) (w := w) (base := base) D.d_need_area NE ER.a
 have c_falling := ok_falling D.d_falling NE c_need_up
 have c_rising := ok_rising D.d_rising NE ER.u c_start_by
 have c_taking := ok_taking D.d_taking NE c_need_up c_hasrule c_bound c_raised
 have c_hearing := ok_hearing D.d_hearing NE c_need_up c_hasrule c_heard_in c_raised
 have c_giving := ok_giving D.d_giving BT NE ER.n c_need_up c_need_area c_area_in c_first c_end c_bound c_held_in c_grant_in c_hasrule
 have c_map := ok_map D.d_mark_and_place SS NE c_need_up c_need_area c_area_in c_made
 have c_writing := ok_writing D.d_writing SS NE c_map c_area_in c_held_in c_moment
 have c_making := ok_making D.d_making NE O_NoNote c_map c_area_in c_held_in c_moment c_hasrule
 have c_area_of := ok_area_of D.d_area_of NE c_rnote
 obtain ⟨m_Hand, m1_Hand⟩ := ok_hinit DHd HC BT NE c_rnote c_start_by
 have M_is_up := ok_is_up (P := P) (w := w) (mg := mg) (base := base) (CX := CX1 P w) (C := C) (CS := CS) M.is_up HC
 have M_place := ok_place (P := P) (w := w) (mg := mg) (base := base) (CX := CX1 P w) (C := C) (CS := CS) M.place HC
 have M_note := ok_note (P := P) (w := w) (mg := mg) (base := base) (CX := CX1 P w) (C := C) (CS := CS) M.note HC BT
 have M_area := ok_area (C := C) (CS := CS) M.area HC NE c_area_of
 have M_stand := ok_stand (C := C) (CS := CS) M.stand HC NE c_rnote c_great
 have M_go := ok_go (P := P) (w := w) (mg := mg) (base := base) (CX := CX1 P w) (C := C) (CS := CS) M.go HC
 have M_fall := ok_fall M.fall HC NE M_go M_stand c_falling
 have M_rise := ok_rise M.rise HC NE M_go M_stand c_rising
 have M_take := ok_take M.take HC NE M_go M_stand c_taking
 have M_write := ok_write M.write HC NE M_go M_stand c_writing
 have M_make := ok_make M.make HC NE M_go M_stand c_making
 have M_hear := ok_hear M.hear HC NE M_go M_stand c_hearing
 have M_tell := ok_tell (C := C) (CS := CS) M.tell HC NE c_need_up c_bound
 have M_give := ok_giveb M.give_back HC NE M_go M_stand c_giving
 have c_hand := ok_hand (P := P) (w := w) (base := base) (CX := CX1 P w) D.d__law_hand BT
 have c_pick := ok_pick (P := P) (w := w) (base := base) (CX := CX1 P w) D.d__law_pick NE
 exact ⟨c_hand, c_pick, m_Shape, m_Settings, m_Hand, m1_Hand, M_is_up, M_place, M_note, M_area, M_fall, M_rise, M_take, M_write, M_make, M_hear, M_tell, M_give⟩
end
end Law

namespace Law
open PySem PySem.Spec PyProof.Rows L2 L3 L4
def poF (l : Addr) : List (Str × V) := [("posted", .ref l)]
structure PoC (K : PySem.W.Frag) (C : Addr) : Prop where
 cl : Cls K C
 np : NoAttr K C "posted"
def PoAt (C : Addr) (H : Hp) (p l : Addr) (xs : List V) : Prop := (∃ dx, H p = some (.ins C dx (poF l))) ∧ H l = some (.lst xs)
theorem led_one {H : Hp} {q : Addr} {o : HO} (h : H q = some o) : Led (· = q) H H [(q, Eo o)] [] :=
 ⟨fun x hx => by rw [List.mem_singleton.mp hx]; exact ⟨o, h, rfl⟩, by simp, fun x hx => .inl (by rw [List.mem_singleton.mp hx]), fun _ _ h _ => h, fun _ h => by simp at h⟩
section
variable {P : Program} {w : World} {K : PySem.W.Frag} {mg : Str → Option Value} {base : Heap} {C CL CR : Addr}
theorem sc_pinit : FnScope ["self"] ["self"] (defScope (inClass (top 12) 0)) := by walk_at "s"
def spPost (C : Addr) : Sp := fun vs H Q _ => ∃ p dx, vs = [.ref p] ∧ H p = some (.ins C dx []) ∧ ∀ l H', H l = none → H' p = some (.ins C dx (poF l)) → H' l = some (.lst []) → (∀ q o, H q = some o → q ≠ p → H' q = some o) → Q .non H'
theorem ok_pinit {CX : CXT} (D : CDat K mg "Post" "Post.__init__" C (inClass (top 12) 0) ["self"]) (SC : PoC K C) : Mak P w K mg base CX "Post" C 1 ["self"] (spPost C) := by
 have S := sc_pinit
 walk_at "d"
 ·obtain ⟨p, dx, rfl, _⟩ := h
  rfl
 obtain ⟨p, dx, rfl, hp, q⟩ := h
 refine ⟨_, (pss_one (ps_fld (pv 0) (pe_lst pa_nil) rfl)), ?_⟩
 try dsimp only [cxOf]
 have L := Led.start H (fun _ => False)
 walk_at "go"
 have hp' := L'.same _ _ hp
 have np : p ≠ l' := fun z => by rw [z, n'] at hp; cases hp
 refine ⟨p, C, dx, [], rfl, hp', SC.cl, SC.np, by decide, ?_⟩
 refine q l' _ n' upd_same (by rw [upd_ne (Ne.symm np)]; exact L'.eo .head) fun x o h z => by rw [upd_ne z]; exact L'.same _ _ h
theorem sc_psend : FnScope ["self", "letter"] ["self", "letter"] (defScope (inClass (top 12) 1)) := by walk_at "s"
def spSend (C : Addr) : Sp := fun vs H Q _ => ∃ (p l : Addr) (xs : List V) (v : V), vs = [.ref p, v] ∧ PoAt C H p l xs ∧ xs.length ≤ 100 ∧ ∀ H', H' l = some (.lst (xs ++ [v])) → (∀ q o, H q = some o → q ≠ l → H' q = some o) → Q (.int (xs.length + 1)) H'
theorem ok_psend {CX : CXT} (D : MDat K C "send" "Post.send" (inClass (top 12) 1) ["self", "letter"]) (SC : PoC K C) (BT : Bt mg) : MCal P w K mg base CX C "send" 1 ["self", "letter"] (spSend C) := by
 have S := sc_psend
 refine mdat_ok D S (fun vs H Q E h => ?_) (fun f cdv A outer s H vs Q E hr h => ?_)
 ·obtain ⟨p, l, xs, v, rfl, _⟩ := h
  rfl
 obtain ⟨p, l, xs, v, rfl, ⟨⟨dx, hp⟩, hl⟩, hz, q⟩ := h
 refine ⟨_, (pss_cons (ps_expr (pe_bm PySem.F.plainAttrs_list PySem.F.slot_list_append PySem.F.type_list_append mt_append (pe_fld (pv 0) rfl) (pa_cons (pv 1) pa_nil)))
   (pss_one (ps_ret (pe_callB c_len rfl BT.len L3.bt_len (pa_cons (pe_fld (pv 0) rfl) pa_nil))))), ?_⟩
 try dsimp only [cxOf]
 have np : p ≠ l := fun z => by rw [z, hl] at hp; cases hp
 have L := led_one hl
 walk_at "go"
 refine ⟨p, C, dx, _, _, rfl, hp, SC.cl, SC.np, lk_hit, ?_⟩
 walk_at "go"
 refine ⟨p, C, dx, _, _, rfl, L'.fr _ _ hp np, SC.cl, SC.np, lk_hit, ?_⟩
 walk_at "go"
 have e : ((xs ++ [v]).length : Int) = xs.length + 1 := by rw [List.length_append, List.length_singleton]; omega
 rw [e]
 exact q _ (L'.eo (by walk_at "put")) L'.fr
theorem sc_psent : FnScope ["self"] ["self"] (defScope (inClass (top 12) 3)) := by walk_at "s"
def spSent (C : Addr) : Sp := fun vs H Q _ => ∃ (p l : Addr) (xs : List V), vs = [.ref p] ∧ PoAt C H p l xs ∧ ∀ b H', H b = none → H' b = some (.lst xs) → Same H H' → Q (.ref b) H'
theorem ok_psent {CX : CXT} (D : MDat K C "sent" "Post.sent" (inClass (top 12) 3) ["self"]) (SC : PoC K C) (BT : Bt mg) : MCal P w K mg base CX C "sent" 1 ["self"] (spSent C) := by
 have S := sc_psent
 refine mdat_ok D S (fun vs H Q E h => ?_) (fun f cdv A outer s H vs Q E hr h => ?_)
 ·obtain ⟨p, l, xs, rfl, _⟩ := h
  rfl
 obtain ⟨p, l, xs, rfl, ⟨⟨dx, hp⟩, hl⟩, q⟩ := h
 refine ⟨_, (pss_one (ps_ret (pe_callTy c_listOf rfl BT.list_ L3.bt_list (pa_cons (pe_fld (pv 0) rfl) pa_nil)))), ?_⟩
 try dsimp only [cxOf]
 walk_at "go"
 refine ⟨p, C, dx, _, _, rfl, hp, SC.cl, SC.np, lk_hit, ?_⟩
 walk_at "go"
 refine g_listOf (Led.start H (fun _ => False)) (.inl (SqL.of hl)) fun b HB nb L sB => ?_
 walk_at "go"
 exact q b HB nb (L.eo .head) sB
theorem sc_noletter : FnScope ["self", "number"] ["self", "number"] (defScope (inClass (top 10) 0)) := by walk_at "s"
theorem ok_noletter (D : EDat K mg "NoLetter" "NoLetter.__init__" CL (inClass (top 10) 0) ["self", "number"]) (B_RiseError : EBase K mg "RiseError" CR) (EP : EPut K CL "number") : EOwn P w K mg base "NoLetter" CL 1 ["self", "number"] (spInit1 CL "number") := by
 have S := sc_noletter
 refine D.ok' S (fun vs H Q E h => ?_) (fun f cdv A outer s H vs Q E hr h => ?_)
 ·obtain ⟨x, v, rfl, _⟩ := h
  rfl
 obtain ⟨x, v, rfl, hx, q⟩ := h
 refine ⟨_, (pss_cons (ps_expr (pe_baseI B_RiseError (pa_cons (pv 0) (pa_cons pe_str pa_nil))))
   (pss_one (ps_fldN (pv 0) (pv 1) rfl))), ?_⟩
 try dsimp only [cxOf]
 walk_at "go"
 refine g_baseIv hx D.ok ?_
 walk_at "go"
 exact g_set0 hx EP fun d nd => q d nd
theorem sc_pletter : FnScope ["self", "number"] ["self", "number"] (defScope (inClass (top 12) 2)) := by walk_at "s"
def spLetter (C CL : Addr) : Sp := fun vs H Q E => ∃ (p l : Addr) (xs : List V) (n : Int), vs = [.ref p, .int n] ∧ PoAt C H p l xs ∧
 (∀ v, 1 ≤ n → n ≤ xs.length → xs[(n - 1).toNat]? = some v → Q v H) ∧ ((n < 1 ∨ xs.length < n) → ∀ d H', Same H H' → H' d = some (.xd [("number", .int n)]) → E (.ref CL) (some d) H')
theorem ok_pletter (D : MDat K C "letter" "Post.letter" (inClass (top 12) 2) ["self", "number"]) (SC : PoC K C) (BT : Bt mg) (NE : NoErr (CX1 P w)) (O_NoLetter : EOwn P w K mg base "NoLetter" CL 1 ["self", "number"] (spInit1 CL "number")) : MCal P w K mg base (CX1 P w) C "letter" 3 ["self", "number"] (spLetter C CL) := by
 have S := sc_pletter
 refine mdat_okR D S (fun vs H Q E h => ?_) (fun f cdv A outer s H vs Q E hr h => ?_)
 ·obtain ⟨p, l, xs, n, rfl, _⟩ := h
  rfl
 obtain ⟨p, l, xs, n, rfl, ⟨⟨dx, hp⟩, hl⟩, q1, q2⟩ := h
 refine ⟨_, (pss_cons (ps_if (PW.pt (pw_or (pt_cmpR op_lt (pv 1) pe_int (nomark _)) (pw_or1 (pt_cmpR op_gt (pv 1) (pe_callB c_len rfl BT.len L3.bt_len (pa_cons (pe_fld (pv 0) rfl) pa_nil)) (nomark _))))) (pss_one (ps_raiseI O_NoLetter (hr.mono (by first | decide | omega)) rfl paX_self (pa_cons (pv 1) pa_nil))) pss_nil)
   (pss_one (ps_ret (pe_ix ix_list (pe_fld (pv 0) rfl) (pe_op op_sub (pv 1) pe_int) (fun _ _ => rfl))))), ?_⟩
 try dsimp only [cxOf]
 have L := led_one hl
 walk_at "go"
 refine g_ifD (fun b1 => ?_) (fun b1 => ?_)
 ·walk_at "go"
  exact g_raiseI1 fun d H' sm hd => q2 (.inl b1) d H' sm hd
 walk_at "go"
 refine ⟨p, C, dx, _, _, rfl, hp, SC.cl, SC.np, lk_hit, ?_⟩
 walk_at "go"
 refine g_ifD (fun b2 => ?_) (fun b2 => ?_)
 ·walk_at "go"
  exact g_raiseI1 fun d H' sm hd => q2 (.inr b2) d H' sm hd
 walk_at "go"
 refine ⟨p, C, dx, _, _, rfl, hp, SC.cl, SC.np, lk_hit, ?_⟩
 walk_at "go"
 obtain ⟨v, hv⟩ : ∃ v, xs[(n - 1).toNat]? = some v := ⟨_, List.getElem?_eq_getElem (by omega)⟩
 refine g_ixSq (SqL.of hl) (i := n - 1) (by have := atI_nat hv; rwa [show ((n - 1).toNat : Int) = n - 1 by omega] at this) ?_
 walk_at "go"
 exact q1 v (by omega) (by omega) hv
end
end Law

namespace Law
open PySem PySem.Spec PyProof.Rows L2 L3 L4
theorem sum_one : ∀ {zs : List Str}, (∀ z ∈ zs, z.length = 1) → (zs.map (·.length)).sum = zs.length
 | [], _ => rfl
 | z :: zs, h => by
  rw [List.map_cons, List.sum_cons, h z List.mem_cons_self, sum_one fun y hy => h y (List.mem_cons_of_mem _ hy), List.length_cons]
  omega
theorem led_two {H : Hp} {p q : Addr} {b : Int} {o : HO} (hp : HandAt H p b) (hq : H q = some o) (ne : p ≠ q) : Led (fun x => x = p ∨ x = q) H H [(p, HandO b), (q, Eo o)] [] :=
 ⟨fun x hx => by
  rcases List.mem_cons.mp hx with rfl | hx
  ·exact hp.ob
  ·rw [List.mem_singleton.mp hx]; exact ⟨o, hq, rfl⟩, by simp [ne], fun x hx => .inl (by
  rcases List.mem_cons.mp hx with rfl | hx
  ·exact .inl rfl
  ·rw [List.mem_singleton.mp hx]; exact .inr rfl), fun _ _ h _ => h, fun _ h => by simp at h⟩
theorem str_at {z : Str} {r : Int} (h0 : 0 ≤ r) (h1 : r < z.cps.toList.length) : ∃ c, atI z.cps.toList r = some c := by
 obtain ⟨n, rfl⟩ := Int.eq_ofNat_of_zero_le h0
 exact ⟨_, atI_nat (List.getElem?_eq_getElem (by omega))⟩
section
variable {P : Program} {w : World} {K : PySem.W.Frag} {mg : Str → Option Value} {base : Heap} {CX : CXT}
theorem sc_names : FnScope ["_law_cell", "_law_many", "_law_letters", "_law_size", "_law_at", "_law_base", "_law_beginnings", "_law_names_here", "_law_k", "_law_name"] ["_law_cell", "_law_many"] (defScope (top 68)) := by walk_at "s"
def spNames : Sp := fun vs H Q _ => ∃ (p : Addr) (b many : Int), vs = [.ref p, .int many] ∧ HandAt H p b ∧ b ≤ 1000000 ∧ 1 ≤ many ∧ many ≤ 10 ∧ ∀ (nq : Addr) (ns : List Str) (H' : Hp), H nq = none → H' nq = some (.lst (ns.map V.str)) → 1 ≤ ns.length → ns.length ≤ 10 → (ns.length : Int) = many → HandAt H' p (b + 8192) → Oth p H H' → Q (.ref nq) H'
theorem ok_names (D : Dat K mg "_law_names" "_law_names" (top 68) ["_law_cell", "_law_many"]) (BT : Bt mg) (NE : NoErr CX) (c__law_pick : Cal P w K mg base CX "_law_pick" 11 ["_law_hand_here", "_law_many"] spPick) : Cal P w K mg base CX "_law_names" 12 ["_law_cell", "_law_many"] spNames := by
 have S := sc_names
 walk_at "d"
 ·obtain ⟨p, b, many, rfl, _⟩ := h
  rfl
 obtain ⟨p, b, many, rfl, hh, hb, m1, m2, q⟩ := h
 refine ⟨_, (@pss_cons _ _ _ _ _ (@ps_set _ _ 2 _ _ _ _ S.nd rfl (by first | exact Or.inl rfl | exact Or.inr rfl) (@pe_str _ _ _ _) (by rfl) (by first | exact .inl rfl | exact .inr rfl | assumption)) (@pss_cons _ _ _ _ _ (@ps_set _ _ 3 _ _ _ _ S.nd rfl (by first | exact Or.inl rfl | exact Or.inr rfl) (@pe_op _ _ _ _ _ _ _ _ (@op_add _) (@pe_int _ _ _ _) (@pe_fn _ _ _ _ _ _ _ _ _ _ _ _ c__law_pick (hr.mono (by first | decide | omega)) NE.pass (@pa_cons _ _ _ _ _ (@pv _ 0 _ _ (by rfl) (by first | exact Or.inl rfl | exact Or.inr (Or.inl rfl) | exact Or.inr (Or.inr rfl)) (by decide) (by decide)) (@pa_cons _ _ _ _ _ (@pe_int _ _ _ _) (@pa_nil _) (by rfl)) (by rfl)) (by rfl) (by decide) (by rfl) (by rfl))) (by rfl) (by first | exact .inl rfl | exact .inr rfl | assumption)) (@pss_cons _ _ _ _ _ (@ps_set _ _ 4 _ _ _ _ S.nd rfl (by first | exact Or.inl rfl | exact Or.inr rfl) (@pe_fn _ _ _ _ _ _ _ _ _ _ _ _ c__law_pick (hr.mono (by first | decide | omega)) NE.pass (@pa_cons _ _ _ _ _ (@pv _ 0 _ _ (by rfl) (by first | exact Or.inl rfl | exact Or.inr (Or.inl rfl) | exact Or.inr (Or.inr rfl)) (by decide) (by decide)) (@pa_cons _ _ _ _ _ (@pv _ 3 _ _ (by rfl) (by first | exact Or.inl rfl | exact Or.inr (Or.inl rfl) | exact Or.inr (Or.inr rfl)) (by decide) (by decide)) (@pa_nil _) (by rfl)) (by rfl)) (by rfl) (by decide) (by rfl) (by rfl)) (by rfl) (by first | exact .inl rfl | exact .inr rfl | assumption)) (@pss_cons _ _ _ _ _ (@ps_set _ _ 5 _ _ _ _ S.nd rfl (by first | exact Or.inl rfl | exact Or.inr rfl) (@pe_fn _ _ _ _ _ _ _ _ _ _ _ _ c__law_pick (hr.mono (by first | decide | omega)) NE.pass (@pa_cons _ _ _ _ _ (@pv _ 0 _ _ (by rfl) (by first | exact Or.inl rfl | exact Or.inr (Or.inl rfl) | exact Or.inr (Or.inr rfl)) (by decide) (by decide)) (@pa_cons _ _ _ _ _ (@pe_int _ _ _ _) (@pa_nil _) (by rfl)) (by rfl)) (by rfl) (by decide) (by rfl) (by rfl)) (by rfl) (by first | exact .inl rfl | exact .inr rfl | assumption)) (@pss_cons _ _ _ _ _ (@ps_set _ _ 6 _ _ _ _ S.nd rfl (by first | exact Or.inl rfl | exact Or.inr rfl) (@pe_cmpR _ _ _ _ _ _ _ _ (@op_eq _) (@pe_fn _ _ _ _ _ _ _ _ _ _ _ _ c__law_pick (hr.mono (by first | decide | omega)) NE.pass (@pa_cons _ _ _ _ _ (@pv _ 0 _ _ (by rfl) (by first | exact Or.inl rfl | exact Or.inr (Or.inl rfl) | exact Or.inr (Or.inr rfl)) (by decide) (by decide)) (@pa_cons _ _ _ _ _ (@pe_int _ _ _ _) (@pa_nil _) (by rfl)) (by rfl)) (by rfl) (by decide) (by rfl) (by rfl)) (@pe_int _ _ _ _) (@nomark _ _ (by decide) (by decide))) (by rfl) (by first | exact .inl rfl | exact .inr rfl | assumption)) (@pss_cons _ _ _ _ _ (@ps_set _ _ 7 _ _ _ _ S.nd rfl (by first | exact Or.inl rfl | exact Or.inr rfl) (@pe_lst _ _ _ _ (@pa_nil _)) (by rfl) (by first | exact .inl rfl | exact .inr rfl | assumption)) (@pss_cons _ _ _ _ _ (@ps_for _ _ _ _ _ _ _ _ PassesOwn.never rfl (@pi_range1 _ _ _ _ _ _ rfl BT.range (@pa_cons _ _ _ _ _ (@pv _ 1 _ _ (by rfl) (by first | exact Or.inl rfl | exact Or.inr (Or.inl rfl) | exact Or.inr (Or.inr rfl)) (by decide) (by decide)) (@pa_nil _) (by rfl)) (by rfl)) (@pg_name _ _ 8 _ S.nd rfl (by first | exact Or.inl rfl | exact Or.inr rfl) (by first | exact .inl rfl | exact .inr rfl | assumption)) (@pss_cons _ _ _ _ _ (@ps_set _ _ 9 _ _ _ _ S.nd rfl (by first | exact Or.inl rfl | exact Or.inr rfl) (@pe_bm _ _ _ _ _ _ _ _ _ _ _ _ PySem.F.plainAttrs_str PySem.F.slot_str_join PySem.F.type_str_join (@m_join _) (@pe_str _ _ _ _) (@pa_cons _ _ _ _ _ (@pe_comp _ _ _ _ _ _ _ _ _ _ (gName 0) _ _ rfl (@pi_range1 _ _ _ _ _ _ rfl BT.range (@pa_cons _ _ _ _ _ (@pv _ 3 _ _ (by rfl) (by first | exact Or.inl rfl | exact Or.inr (Or.inl rfl) | exact Or.inr (Or.inr rfl)) (by decide) (by decide)) (@pa_nil _) (by rfl)) (by rfl)) (@blk_of _ _ ["_law_j"] [2, 5, 8, 4] (defScope (top 68)).names ["_law_cell", "_law_many", "_law_letters", "_law_size", "_law_at", "_law_base", "_law_beginnings", "_law_names_here", "_law_k", "_law_name"] rfl rfl rfl (by decide +kernel)) (fun _ _ _ _ => (@pg_name _ _ 0 _ (show (blkN ["_law_cell", "_law_many", "_law_letters", "_law_size", "_law_at", "_law_base", "_law_beginnings", "_law_names_here", "_law_k", "_law_name"] ["_law_j"] [2, 5, 8, 4]).Nodup by decide +kernel) rfl (by first | exact Or.inl rfl | exact Or.inr rfl) (by first | exact .inl rfl | exact .inr rfl | assumption))) (fun _ _ _ _ => (@pifs_nil _)) (fun _ _ _ _ => (@pe_ix _ _ _ _ _ _ _ (@ix_str _) (@pv _ 1 _ _ (by rfl) (by first | exact Or.inl rfl | exact Or.inr (Or.inl rfl) | exact Or.inr (Or.inr rfl)) (by decide) (by decide)) (@pe_op _ _ _ _ _ _ _ _ (@op_mod _) (@pe_op _ _ _ _ _ _ _ _ (@op_add _) (@pe_op _ _ _ _ _ _ _ _ (@op_add _) (@pv _ 2 _ _ (by rfl) (by first | exact Or.inl rfl | exact Or.inr (Or.inl rfl) | exact Or.inr (Or.inr rfl)) (by decide) (by decide)) (@pe_op _ _ _ _ _ _ _ _ (@op_mulB _) (@pe_int _ _ _ _) (@pv _ 0 _ _ (by rfl) (by first | exact Or.inl rfl | exact Or.inr (Or.inl rfl) | exact Or.inr (Or.inr rfl)) (by decide) (by decide)))) (@pe_op _ _ _ _ _ _ _ _ (@op_mulB _) (@pv _ 3 _ _ (by rfl) (by first | exact Or.inl rfl | exact Or.inr (Or.inl rfl) | exact Or.inr (Or.inr rfl)) (by decide) (by decide)) (@pe_callTy _ _ _ _ _ _ _ _ _ (@c_intB _) rfl BT.int_ L3.bt_int (@pa_cons _ _ _ _ _ (@pe_cmpR _ _ _ _ _ _ _ _ (@op_eq _) (@pv _ 0 _ _ (by rfl) (by first | exact Or.inl rfl | exact Or.inr (Or.inl rfl) | exact Or.inr (Or.inr rfl)) (by decide) (by decide)) (@pv _ 4 _ _ (by rfl) (by first | exact Or.inl rfl | exact Or.inr (Or.inl rfl) | exact Or.inr (Or.inr rfl)) (by decide) (by decide)) (@nomark _ _ (by decide) (by decide))) (@pa_nil _) (by rfl)) (by decide) (by decide) (by rfl) (by rfl)))) (@pe_int _ _ _ _)) (fun _ _ => rfl))) (by intro _; rfl)) (@pa_nil _) (by rfl)) (by rfl) (by rfl) (by rfl) (by rfl) (by rfl)) (by rfl) (by first | exact .inl rfl | exact .inr rfl | assumption)) (@pss_cons _ _ _ _ _ (@ps_if _ _ _ _ _ _ _ _ (@pt_val _ _ _ (@pv _ 6 _ _ (by rfl) (by first | exact Or.inl rfl | exact Or.inr (Or.inl rfl) | exact Or.inr (Or.inr rfl)) (by decide) (by decide)) (by intro _; rfl)) (@pss_one _ _ _ (@ps_set _ _ 9 _ _ _ _ S.nd rfl (by first | exact Or.inl rfl | exact Or.inr rfl) (@pe_op _ _ _ _ _ _ _ _ (@o_mulS _) (@pe_ix _ _ _ _ _ _ _ (@ix_str _) (@pv _ 2 _ _ (by rfl) (by first | exact Or.inl rfl | exact Or.inr (Or.inl rfl) | exact Or.inr (Or.inr rfl)) (by decide) (by decide)) (@pv _ 5 _ _ (by rfl) (by first | exact Or.inl rfl | exact Or.inr (Or.inl rfl) | exact Or.inr (Or.inr rfl)) (by decide) (by decide)) (fun _ _ => rfl)) (@pe_op _ _ _ _ _ _ _ _ (@op_add _) (@pv _ 8 _ _ (by rfl) (by first | exact Or.inl rfl | exact Or.inr (Or.inl rfl) | exact Or.inr (Or.inr rfl)) (by decide) (by decide)) (@pe_int _ _ _ _))) (by rfl) (by first | exact .inl rfl | exact .inr rfl | assumption))) (@pss_nil _)) (@pss_one _ _ _ (@ps_expr _ _ _ _ (@pe_bm _ _ _ _ _ _ _ _ _ _ _ _ PySem.F.plainAttrs_list PySem.F.slot_list_append PySem.F.type_list_append (@mt_append _) (@pv _ 7 _ _ (by rfl) (by first | exact Or.inl rfl | exact Or.inr (Or.inl rfl) | exact Or.inr (Or.inr rfl)) (by decide) (by decide)) (@pa_cons _ _ _ _ _ (@pv _ 9 _ _ (by rfl) (by first | exact Or.inl rfl | exact Or.inr (Or.inl rfl) | exact Or.inr (Or.inr rfl)) (by decide) (by decide)) (@pa_nil _) (by rfl)) (by rfl) (by rfl) (by rfl) (by rfl) (by rfl)) (by rfl))))) (by intro _; rfl)) (@pss_cons _ _ _ _ _ (@ps_if _ _ _ _ _ _ _ _ (@pt_cmpR _ _ _ _ _ _ _ _ (@op_eq _) (@pe_fn _ _ _ _ _ _ _ _ _ _ _ _ c__law_pick (hr.mono (by first | decide | omega)) NE.pass (@pa_cons _ _ _ _ _ (@pv _ 0 _ _ (by rfl) (by first | exact Or.inl rfl | exact Or.inr (Or.inl rfl) | exact Or.inr (Or.inr rfl)) (by decide) (by decide)) (@pa_cons _ _ _ _ _ (@pe_int _ _ _ _) (@pa_nil _) (by rfl)) (by rfl)) (by rfl) (by decide) (by rfl) (by rfl)) (@pe_int _ _ _ _) (@nomark _ _ (by decide) (by decide))) (@pss_one _ _ _ (@ps_expr _ _ _ _ (@pe_bm0 _ _ _ _ _ _ _ _ _ PySem.F.plainAttrs_list PySem.F.slot_list_reverse PySem.F.type_list_reverse (@mt_reverse _) (@pv _ 7 _ _ (by rfl) (by first | exact Or.inl rfl | exact Or.inr (Or.inl rfl) | exact Or.inr (Or.inr rfl)) (by decide) (by decide)) (by rfl) (by rfl)) (by rfl))) (@pss_nil _)) (@pss_one _ _ _ (@ps_ret _ _ _ _ (@pv _ 7 _ _ (by rfl) (by first | exact Or.inl rfl | exact Or.inr (Or.inl rfl) | exact Or.inr (Or.inr rfl)) (by decide) (by decide)))))))))))), ?_⟩
 try dsimp only [cxOf]
 have L := led_hand hh
 walk_at "go"
 refine use_pick L .head (by decide) (by decide) (by omega) fun sz H1 a0 a1 L _ => ?_
 walk_at "go"
 refine use_pick L .head (by omega) (by omega) (by omega) fun at' H2 b0 b1 L _ => ?_
 walk_at "go"
 refine use_pick L .head (by decide) (by decide) (by omega) fun ba H3 c0 c1 L _ => ?_
 walk_at "go"
 refine use_pick L .head (by decide) (by decide) (by omega) fun be H4 d0 d1 L _ => ?_
 have o4 : Oth p H H4 := L.fr
 have hh4 := HandO.at (L.at_ (p, HandO _) (by walk_at "mem"))
 clear L
 have L := Led.start H4 (fun _ => False)
 walk_at "go"
 have nq4 : H4 l' = none := n'
 have hq0 := L'.eo (p := l') .head
 have s5 := L'.same
 clear L L'
 rename Hp => H5; rename Addr => nq
 refine g_forR (fun i σ H' => ∃ (u8 u9 : Option V) (ns : List Str), σ = [some (.ref p), some (.int many), some (.str "abcdefghijklmnopqrstuvwxyz"), some (.int (1 + sz)), some (.int at'), some (.int ba), some (.bl (decide (be = 1))), some (.ref nq), u8, u9] ∧ Same H4 H' ∧ H' nq = some (.lst (ns.map V.str)) ∧ ns.length = i) ⟨_, _, [], rfl, s5, hq0, rfl⟩ ?_ ?_
 ·rintro i σ HG hi ⟨u8, u9, ns, rfl, sm, hq, hlen⟩
  have hi10 : i < 10 := by omega
  have keepD : ∀ {H' : Hp}, (∀ b o, HG b = some o → ¬ b = nq → H' b = some o) → Same H4 H' := fun h b o e => h b o (sm _ _ e) (fun z => by rw [z, nq4] at e; cases e)
  have L := led_one hq
  try dsimp only [gName]
  walk_at "go"
  refine g_compR (fun j ys H' => ∃ zs : List Str, ys = zs.map V.str ∧ zs.length = j ∧ (∀ z ∈ zs, z.length = 1) ∧ H' = HG) ⟨[], rfl, rfl, (fun _ h => by simp at h), rfl⟩ (fun j ys H' hj ⟨zs, e, hz, _, _⟩ => by rw [e, List.length_map]; exact Nat.le_of_lt (small1000 (by omega))) ?_ ?_
  ·rintro j ys H' hj ⟨zs, rfl, hz, h1, rfl⟩
   try dsimp only [gName]
   walk_at "go"
   obtain ⟨cc, hc⟩ := str_at (z := "abcdefghijklmnopqrstuvwxyz") (Int.emod_nonneg (ba + 5 * (0 + (j : Int)) + (0 + (i : Int)) * (if decide (0 + (j : Int) = at') = true then 1 else 0)) (show (26 : Int) ≠ 0 by decide)) (show _ < ((26 : Nat) : Int) from Int.emod_lt_of_pos _ (by decide))
   refine g_ixS (by decide +kernel) hc ?_
   exact ⟨zs ++ [⟨#[cc]⟩], by rw [List.map_append]; rfl, by rw [List.length_append, List.length_singleton]; omega, fun z hz' => (List.mem_append.mp hz').elim (h1 z) (fun g => by rw [List.mem_singleton.mp g]; rfl), rfl⟩
  ·rintro ys H' ⟨zs, rfl, hz, h1, rfl⟩ lc nlc
   have M := L.keep (same_new nlc (.lst (zs.map V.str)))
   have hlc : (upd H' lc (.lst (zs.map V.str))) lc = some (.lst (zs.map V.str)) := upd_same
   generalize upd H' lc (.lst (zs.map V.str)) = H6 at *
   clear L
   have L := M
   clear M
   have hml : (ns.map V.str).length = ns.length := List.length_map ..
   walk_at "go"
   refine g_join (SqL.of hlc) (by rw [sum_one h1]; show zs.length + zs.length * 0 ≤ 16777216; omega) ?_
   walk_at "go"
   refine g_ifD (fun e1 => ?_) (fun e1 => ?_)
   ·walk_at "go"
    obtain ⟨cc, hc⟩ := str_at (z := "abcdefghijklmnopqrstuvwxyz") c0 (show ba < ((26 : Nat) : Int) from c1)
    refine g_ixS (by decide +kernel) hc ?_
    have l1 : (⟨#[cc]⟩ : Str).length ≤ 1000 := by show 1 ≤ 1000; decide
    walk_at "go"
    exact ⟨_, _, ns ++ [_], rfl, keepD L'.fr, (L'.eo (p := nq) (by walk_at "put")).trans (by rw [List.map_append]; rfl), by rw [List.length_append, List.length_singleton]; omega⟩
   ·walk_at "go"
    exact ⟨_, _, ns ++ [_], rfl, keepD L'.fr, (L'.eo (p := nq) (by walk_at "put")).trans (by rw [List.map_append]; rfl), by rw [List.length_append, List.length_singleton]; omega⟩
 ·rintro σ HG ⟨u8, u9, ns, rfl, sm, hq, hlen⟩
  have hml : (ns.map V.str).length = ns.length := List.length_map ..
  have npq : p ≠ nq := fun z => by
   obtain ⟨x, y, c, e, _⟩ := hh4
   rw [z, nq4] at e; cases e
  have nqH : H nq = none := by
   cases e : H nq with
   | none => rfl
   | some o => rw [o4 nq o e (Ne.symm npq)] at nq4; cases nq4
  have L := led_two (hh4.same sm) hq npq
  walk_at "go"
  refine use_pick L .head (by decide) (by decide) (by omega) fun r7 H7 f0 f1 L _ => ?_
  have oth7 : ∀ (x : Addr) (o : HO), H x = some o → x ≠ p → H7 x = some o := fun x o e z => L.fr x o (sm _ _ (o4 x o e z)) (fun zz => zz.elim z (fun z2 => by rw [z2, nqH] at e; cases e))
  walk_at "go"
  refine g_ifD (fun e1 => ?_) (fun e1 => ?_)
  ·walk_at "go"
   have hq7 := L.eo (p := nq) (by walk_at "put")
   have hp7 := HandO.at (L.at_ (p, HandO _) (by walk_at "mem"))
   refine ⟨nq, _, rfl, rfl, hq7, ?_⟩
   walk_at "go"
   refine q nq ns.reverse _ nqH (upd_same.trans (by rw [List.map_reverse])) (by rw [List.length_reverse]; omega) (by rw [List.length_reverse]; omega) (by rw [List.length_reverse]; omega) (HandAt.mono (n := b + 1024 + 1024 + 1024 + 1024 + 1024) ?_ (by omega)) fun x o e z => ?_
   ·obtain ⟨x, y, c, e, r⟩ := hp7
    exact ⟨x, y, c, by rw [upd_ne npq]; exact e, r⟩
   ·rw [upd_ne (fun z2 => by rw [z2, nqH] at e; cases e)]
    exact oth7 x o e z
  ·walk_at "go"
   exact q nq ns _ nqH (L.eo (p := nq) (by walk_at "put")) (by omega) (by omega) (by omega) ((HandO.at (L.at_ (p, HandO _) (by walk_at "mem"))).mono (by omega)) oth7
end
end Law

namespace Law
open PySem PySem.Spec PyProof.Rows L2 L3 L4
def w5 : List Str := ["spoken", "once", "ends", "apart", "ahead"]
theorem w5_nodup : w5.Nodup := by unfold w5; decide +kernel
theorem w5_mem : ∀ z ∈ w5, z ∈ ruleW := by
 intro z hz
 unfold w5 at hz
 unfold ruleW
 simp only [List.mem_cons, List.not_mem_nil, or_false] at hz ⊢
 rcases hz with h | h | h | h | h <;> simp [h]
theorem ru_sub5 {ws : List Str} (h : ws.Sublist w5) : RuN ws := ⟨fun z hz => w5_mem z (h.subset hz), h.nodup w5_nodup⟩
theorem atI_memS {xs : List V} {r : Int} (h0 : 0 ≤ r) (h1 : r < xs.length) : ∃ v, atI xs r = some v ∧ v ∈ xs := by
 obtain ⟨n, rfl⟩ := Int.eq_ofNat_of_zero_le h0
 have hn : n < xs.length := by omega
 exact ⟨xs[n], atI_nat (List.getElem?_eq_getElem hn), List.getElem_mem hn⟩
theorem g_ixMS {K : PySem.W.Frag} {PP : Addr → Prop} {H0 H : Hp} {l l' : List (Addr × Ob)} {fs : List Pr} {Q : VK} {p : Addr} {xs : List V} {r : Int} (L : Led PP H0 H l fs) (m : Put p (Eo (.lst xs)) (Eo (.lst xs)) l l') (h0 : 0 ≤ r) (h1 : r < xs.length) (h : ∀ v ∈ xs, Q v H) : rIxL K (.ref p) (.int r) H Q := by
 obtain ⟨v, e, hm⟩ := atI_memS h0 h1
 exact g_ixL L m e (h v hm)
section
variable {P : Program} {w : World} {K : PySem.W.Frag} {mg : Str → Option Value} {base : Heap} {CX : CXT} {C CS CL CN : Addr}
theorem sc_lsetH : FnScope ["_law_cell", "_law_sound", "_law_wide", "_law_far", "_law_room", "_law_term", "_law_rules"] ["_law_cell", "_law_sound"] (defScope (top 70)) := by walk_at "s"
def spSetH (C CS : Addr) : Sp := fun vs H Q _ => ∃ (p : Addr) (b : Int) (so : Bool), vs = [.ref p, .bl so] ∧ HandAt H p b ∧ b ≤ 1000000 ∧ ∀ (ps sp : Addr) (c s far room term : Int) (ws : List Str) (H' : Hp), SsAt C CS H' ps sp c s far room term ws → StN far room term → Oth p H H' → Q (.ref ps) H'
theorem ok_lsetH (D : Dat K mg "_law_settings" "_law_settings" (top 70) ["_law_cell", "_law_sound"]) (BT : Bt mg) (NE : NoErr CX) (c__law_pick : Cal P w K mg base CX "_law_pick" 11 ["_law_hand_here", "_law_many"] spPick)
  (m_Shape : Mak P w K mg base CX "Shape" C 4 ["self", "counts", "slots"] (spShape C)) (m_Settings : Mak P w K mg base CX "Settings" CS 4 ["self", "shape", "far", "room", "term", "rules"] (spSettings CS)) : Cal P w K mg base CX "_law_settings" 12 ["_law_cell", "_law_sound"] (spSetH C CS) := by
 have S := sc_lsetH
 walk_at "d"
 ·obtain ⟨p, b, so, rfl, _⟩ := h
  rfl
 obtain ⟨p, b, so, rfl, hh, hb, q⟩ := h
 refine ⟨_, (@pss_cons _ _ _ _ _ (@ps_set _ _ 2 _ _ _ _ S.nd rfl (by first | exact Or.inl rfl | exact Or.inr rfl) (@pe_lst _ _ _ _ (@pa_cons _ _ _ _ _ (@pe_op _ _ _ _ _ _ _ _ (@op_add _) (@pe_int _ _ _ _) (@pe_fn _ _ _ _ _ _ _ _ _ _ _ _ c__law_pick (hr.mono (by first | decide | omega)) NE.pass (@pa_cons _ _ _ _ _ (@pv _ 0 _ _ (by rfl) (by first | exact Or.inl rfl | exact Or.inr (Or.inl rfl) | exact Or.inr (Or.inr rfl)) (by decide) (by decide)) (@pa_cons _ _ _ _ _ (@pe_int _ _ _ _) (@pa_nil _) (by rfl)) (by rfl)) (by rfl) (by decide) (by rfl) (by rfl))) (@pa_cons _ _ _ _ _ (@pe_op _ _ _ _ _ _ _ _ (@op_add _) (@pe_int _ _ _ _) (@pe_fn _ _ _ _ _ _ _ _ _ _ _ _ c__law_pick (hr.mono (by first | decide | omega)) NE.pass (@pa_cons _ _ _ _ _ (@pv _ 0 _ _ (by rfl) (by first | exact Or.inl rfl | exact Or.inr (Or.inl rfl) | exact Or.inr (Or.inr rfl)) (by decide) (by decide)) (@pa_cons _ _ _ _ _ (@pe_int _ _ _ _) (@pa_nil _) (by rfl)) (by rfl)) (by rfl) (by decide) (by rfl) (by rfl))) (@pa_nil _) (by rfl)) (by rfl))) (by rfl) (by first | exact .inl rfl | exact .inr rfl | assumption)) (@pss_cons _ _ _ _ _ (@ps_if _ _ _ _ _ _ _ _ (@pt_cmpR _ _ _ _ _ _ _ _ (@op_eq _) (@pe_fn _ _ _ _ _ _ _ _ _ _ _ _ c__law_pick (hr.mono (by first | decide | omega)) NE.pass (@pa_cons _ _ _ _ _ (@pv _ 0 _ _ (by rfl) (by first | exact Or.inl rfl | exact Or.inr (Or.inl rfl) | exact Or.inr (Or.inr rfl)) (by decide) (by decide)) (@pa_cons _ _ _ _ _ (@pe_int _ _ _ _) (@pa_nil _) (by rfl)) (by rfl)) (by rfl) (by decide) (by rfl) (by rfl)) (@pe_int _ _ _ _) (@nomark _ _ (by decide) (by decide))) (@pss_one _ _ _ (@ps_set _ _ 2 _ _ _ _ S.nd rfl (by first | exact Or.inl rfl | exact Or.inr rfl) (@pe_lst _ _ _ _ (@pa_cons _ _ _ _ _ (@pe_op _ _ _ _ _ _ _ _ (@op_add _) (@pe_int _ _ _ _) (@pe_fn _ _ _ _ _ _ _ _ _ _ _ _ c__law_pick (hr.mono (by first | decide | omega)) NE.pass (@pa_cons _ _ _ _ _ (@pv _ 0 _ _ (by rfl) (by first | exact Or.inl rfl | exact Or.inr (Or.inl rfl) | exact Or.inr (Or.inr rfl)) (by decide) (by decide)) (@pa_cons _ _ _ _ _ (@pe_int _ _ _ _) (@pa_nil _) (by rfl)) (by rfl)) (by rfl) (by decide) (by rfl) (by rfl))) (@pa_cons _ _ _ _ _ (@pe_op _ _ _ _ _ _ _ _ (@op_add _) (@pe_int _ _ _ _) (@pe_fn _ _ _ _ _ _ _ _ _ _ _ _ c__law_pick (hr.mono (by first | decide | omega)) NE.pass (@pa_cons _ _ _ _ _ (@pv _ 0 _ _ (by rfl) (by first | exact Or.inl rfl | exact Or.inr (Or.inl rfl) | exact Or.inr (Or.inr rfl)) (by decide) (by decide)) (@pa_cons _ _ _ _ _ (@pe_int _ _ _ _) (@pa_nil _) (by rfl)) (by rfl)) (by rfl) (by decide) (by rfl) (by rfl))) (@pa_nil _) (by rfl)) (by rfl))) (by rfl) (by first | exact .inl rfl | exact .inr rfl | assumption))) (@pss_nil _)) (@pss_cons _ _ _ _ _ (@ps_set _ _ 3 _ _ _ _ S.nd rfl (by first | exact Or.inl rfl | exact Or.inr rfl) (@pe_ix _ _ _ _ _ _ _ (@ix_list _) (@pe_lst _ _ _ _ (@pa_cons _ _ _ _ _ (@pe_int _ _ _ _) (@pa_cons _ _ _ _ _ (@pe_int _ _ _ _) (@pa_cons _ _ _ _ _ (@pe_int _ _ _ _) (@pa_cons _ _ _ _ _ (@pe_int _ _ _ _) (@pa_cons _ _ _ _ _ (@pe_int _ _ _ _) (@pa_cons _ _ _ _ _ (@pe_int _ _ _ _) (@pa_cons _ _ _ _ _ (@pe_op _ _ _ _ _ _ _ _ (@op_pow _) (@pe_int _ _ _ _) (@pe_int _ _ _ _)) (@pa_nil _) (by rfl)) (by rfl)) (by rfl)) (by rfl)) (by rfl)) (by rfl)) (by rfl))) (@pe_fn _ _ _ _ _ _ _ _ _ _ _ _ c__law_pick (hr.mono (by first | decide | omega)) NE.pass (@pa_cons _ _ _ _ _ (@pv _ 0 _ _ (by rfl) (by first | exact Or.inl rfl | exact Or.inr (Or.inl rfl) | exact Or.inr (Or.inr rfl)) (by decide) (by decide)) (@pa_cons _ _ _ _ _ (@pe_int _ _ _ _) (@pa_nil _) (by rfl)) (by rfl)) (by rfl) (by decide) (by rfl) (by rfl)) (fun _ _ => rfl)) (by rfl) (by first | exact .inl rfl | exact .inr rfl | assumption)) (@pss_cons _ _ _ _ _ (@ps_set _ _ 4 _ _ _ _ S.nd rfl (by first | exact Or.inl rfl | exact Or.inr rfl) (@pe_ix _ _ _ _ _ _ _ (@ix_list _) (@pe_lst _ _ _ _ (@pa_cons _ _ _ _ _ (@pe_int _ _ _ _) (@pa_cons _ _ _ _ _ (@pe_int _ _ _ _) (@pa_cons _ _ _ _ _ (@pe_int _ _ _ _) (@pa_cons _ _ _ _ _ (@pe_int _ _ _ _) (@pa_cons _ _ _ _ _ (@pe_int _ _ _ _) (@pa_cons _ _ _ _ _ (@pe_op _ _ _ _ _ _ _ _ (@op_pow _) (@pe_int _ _ _ _) (@pe_int _ _ _ _)) (@pa_nil _) (by rfl)) (by rfl)) (by rfl)) (by rfl)) (by rfl)) (by rfl))) (@pe_fn _ _ _ _ _ _ _ _ _ _ _ _ c__law_pick (hr.mono (by first | decide | omega)) NE.pass (@pa_cons _ _ _ _ _ (@pv _ 0 _ _ (by rfl) (by first | exact Or.inl rfl | exact Or.inr (Or.inl rfl) | exact Or.inr (Or.inr rfl)) (by decide) (by decide)) (@pa_cons _ _ _ _ _ (@pe_int _ _ _ _) (@pa_nil _) (by rfl)) (by rfl)) (by rfl) (by decide) (by rfl) (by rfl)) (fun _ _ => rfl)) (by rfl) (by first | exact .inl rfl | exact .inr rfl | assumption)) (@pss_cons _ _ _ _ _ (@ps_set _ _ 5 _ _ _ _ S.nd rfl (by first | exact Or.inl rfl | exact Or.inr rfl) (@pe_ix _ _ _ _ _ _ _ (@ix_list _) (@pe_lst _ _ _ _ (@pa_cons _ _ _ _ _ (@pe_int _ _ _ _) (@pa_cons _ _ _ _ _ (@pe_int _ _ _ _) (@pa_cons _ _ _ _ _ (@pe_int _ _ _ _) (@pa_cons _ _ _ _ _ (@pe_int _ _ _ _) (@pa_cons _ _ _ _ _ (@pe_int _ _ _ _) (@pa_cons _ _ _ _ _ (@pe_int _ _ _ _) (@pa_cons _ _ _ _ _ (@pe_op _ _ _ _ _ _ _ _ (@op_pow _) (@pe_int _ _ _ _) (@pe_int _ _ _ _)) (@pa_nil _) (by rfl)) (by rfl)) (by rfl)) (by rfl)) (by rfl)) (by rfl)) (by rfl))) (@pe_fn _ _ _ _ _ _ _ _ _ _ _ _ c__law_pick (hr.mono (by first | decide | omega)) NE.pass (@pa_cons _ _ _ _ _ (@pv _ 0 _ _ (by rfl) (by first | exact Or.inl rfl | exact Or.inr (Or.inl rfl) | exact Or.inr (Or.inr rfl)) (by decide) (by decide)) (@pa_cons _ _ _ _ _ (@pe_int _ _ _ _) (@pa_nil _) (by rfl)) (by rfl)) (by rfl) (by decide) (by rfl) (by rfl)) (fun _ _ => rfl)) (by rfl) (by first | exact .inl rfl | exact .inr rfl | assumption)) (@pss_cons _ _ _ _ _ (@ps_set _ _ 6 _ _ _ _ S.nd rfl (by first | exact Or.inl rfl | exact Or.inr rfl) (@pe_lst _ _ _ _ (@pa_cons _ _ _ _ _ (@pe_str _ _ _ _) (@pa_cons _ _ _ _ _ (@pe_str _ _ _ _) (@pa_cons _ _ _ _ _ (@pe_str _ _ _ _) (@pa_cons _ _ _ _ _ (@pe_str _ _ _ _) (@pa_cons _ _ _ _ _ (@pe_str _ _ _ _) (@pa_nil _) (by rfl)) (by rfl)) (by rfl)) (by rfl)) (by rfl))) (by rfl) (by first | exact .inl rfl | exact .inr rfl | assumption)) (@pss_cons _ _ _ _ _ (@ps_if _ _ _ _ _ _ _ _ (@pt_not _ _ _ _ (@pt_val _ _ _ (@pv _ 1 _ _ (by rfl) (by first | exact Or.inl rfl | exact Or.inr (Or.inl rfl) | exact Or.inr (Or.inr rfl)) (by decide) (by decide)) (by intro _; rfl))) (@pss_one _ _ _ (@ps_compS _ _ _ _ _ _ _ _ _ _ (gName 0) _ _ 6 _ _ _ rfl S.nd rfl (by first | exact Or.inl rfl | exact Or.inr rfl) (@pi_list _ _ _ _ (@pv _ 6 _ _ (by rfl) (by first | exact Or.inl rfl | exact Or.inr (Or.inl rfl) | exact Or.inr (Or.inr rfl)) (by decide) (by decide))) (@blk_of _ _ ["_law_word"] [0] (defScope (top 70)).names ["_law_cell", "_law_sound", "_law_wide", "_law_far", "_law_room", "_law_term", "_law_rules"] rfl rfl rfl (by decide +kernel)) (fun _ _ _ _ => (@pg_name _ _ 0 _ (show (blkN ["_law_cell", "_law_sound", "_law_wide", "_law_far", "_law_room", "_law_term", "_law_rules"] ["_law_word"] [0]).Nodup by decide +kernel) rfl (by first | exact Or.inl rfl | exact Or.inr rfl) (by first | exact .inl rfl | exact .inr rfl | assumption))) (fun _ _ _ _ => (@pifs_one _ _ _ (@pt_cmpR _ _ _ _ _ _ _ _ (@op_gt _) (@pe_fn _ _ _ _ _ _ _ _ _ _ _ _ c__law_pick (hr.mono (by first | decide | omega)) NE.pass (@pa_cons _ _ _ _ _ (@pv _ 1 _ _ (by rfl) (by first | exact Or.inl rfl | exact Or.inr (Or.inl rfl) | exact Or.inr (Or.inr rfl)) (by decide) (by decide)) (@pa_cons _ _ _ _ _ (@pe_int _ _ _ _) (@pa_nil _) (by rfl)) (by rfl)) (by rfl) (by decide) (by rfl) (by rfl)) (@pe_int _ _ _ _) (@nomark _ _ (by decide) (by decide))))) (fun _ _ _ _ => (@pv _ 0 _ _ (by rfl) (by first | exact Or.inl rfl | exact Or.inr (Or.inl rfl) | exact Or.inr (Or.inr rfl)) (by decide) (by decide))) (by with_unfolding_all rfl) (by first | exact .inl rfl | exact .inr rfl | assumption) (by intro _; rfl))) (@pss_nil _)) (@pss_one _ _ _ (@ps_ret _ _ _ _ (@pe_mk _ _ _ _ _ _ _ _ _ _ _ _ _ m_Settings (hr.mono (by first | decide | omega)) NE.pass (@pa_cons _ _ _ _ _ (@pe_mk _ _ _ _ _ _ _ _ _ _ _ _ _ m_Shape (hr.mono (by first | decide | omega)) NE.pass (@pa_cons _ _ _ _ _ (@pe_ix _ _ _ _ _ _ _ (@ix_list _) (@pv _ 2 _ _ (by rfl) (by first | exact Or.inl rfl | exact Or.inr (Or.inl rfl) | exact Or.inr (Or.inr rfl)) (by decide) (by decide)) (@pe_int _ _ _ _) (fun _ _ => rfl)) (@pa_cons _ _ _ _ _ (@pe_ix _ _ _ _ _ _ _ (@ix_list _) (@pv _ 2 _ _ (by rfl) (by first | exact Or.inl rfl | exact Or.inr (Or.inl rfl) | exact Or.inr (Or.inr rfl)) (by decide) (by decide)) (@pe_int _ _ _ _) (fun _ _ => rfl)) (@pa_nil _) (by rfl)) (by rfl)) (by rfl) (by decide) (by rfl) (by rfl)) (@pa_cons _ _ _ _ _ (@pv _ 3 _ _ (by rfl) (by first | exact Or.inl rfl | exact Or.inr (Or.inl rfl) | exact Or.inr (Or.inr rfl)) (by decide) (by decide)) (@pa_cons _ _ _ _ _ (@pv _ 4 _ _ (by rfl) (by first | exact Or.inl rfl | exact Or.inr (Or.inl rfl) | exact Or.inr (Or.inr rfl)) (by decide) (by decide)) (@pa_cons _ _ _ _ _ (@pv _ 5 _ _ (by rfl) (by first | exact Or.inl rfl | exact Or.inr (Or.inl rfl) | exact Or.inr (Or.inr rfl)) (by decide) (by decide)) (@pa_cons _ _ _ _ _ (@pv _ 6 _ _ (by rfl) (by first | exact Or.inl rfl | exact Or.inr (Or.inl rfl) | exact Or.inr (Or.inr rfl)) (by decide) (by decide)) (@pa_nil _) (by rfl)) (by rfl)) (by rfl)) (by rfl)) (by rfl)) (by rfl) (by decide) (by rfl) (by rfl))))))))))), ?_⟩
 try dsimp only [cxOf]
 have L := led_hand hh
 walk_at "go"
 refine use_pick L .head (by decide) (by decide) (by omega) fun r1 H1 a0 a1 L _ => ?_
 walk_at "go"
 refine use_pick L .head (by decide) (by decide) (by omega) fun r2 H2 b0 b1 L _ => ?_
 walk_at "one"
 try dsimp only [gName]
 have o2 : Oth p H H' := L'.fr
 have h2 := HandO.at (L'.at_ (p, HandO _) (by walk_at "mem"))
 have hw2 := L'.eo (p := l') (by walk_at "put")
 clear L
 refine seq_mid (fun σ Hx => ∃ (lw : Addr) (x y : Int), σ = [some (.ref p), some (.bl so), some (.ref lw), none, none, none, none] ∧ HandAt Hx p (b + 6144) ∧ Hx lw = some (.lst [.int x, .int y]) ∧ lw ≠ p ∧ 1 ≤ x ∧ x ≤ 1000 ∧ 1 ≤ y ∧ y ≤ 1000 ∧ Oth p H Hx) (fun nx kk => ?_) ?_
 ·have nlp : l' ≠ p := fun z => by obtain ⟨u, v, y, e, _⟩ := h2; rw [← z, hw2] at e; have hl := L'.nd; rw [List.map_cons, List.map_cons, z] at hl; exact absurd hl (by simp)
  clear L'
  have L := led_hand h2
  walk_at "go"
  refine use_pick L .head (by decide) (by decide) (by omega) fun r3 H3 c0 c1 L _ => ?_
  walk_at "go"
  refine g_ifD (fun z => ?_) (fun z => ?_)
  ·walk_at "go"
   refine use_pick L .head (by decide) (by decide) (by omega) fun r4 H4 d0 d1 L _ => ?_
   walk_at "go"
   refine use_pick L .head (by decide) (by decide) (by omega) fun r5 H5 e0 e1 L _ => ?_
   walk_at "go"
   have h5 := HandO.at (L.at_ (p, HandO _) (by walk_at "mem"))
   exact kk _ _ ⟨_, _, _, rfl, (HandO.at (L'.at_ (p, HandO _) (by walk_at "mem"))).mono (by omega), L'.eo (by walk_at "put"), (fun z => by obtain ⟨u, v, y, e, _⟩ := h5; rw [← z, n'] at e; cases e), by omega, by omega, by omega, by omega, o2.trans L'.fr⟩
  ·walk_at "go"
   exact kk _ _ ⟨_, _, _, rfl, (HandO.at (L.at_ (p, HandO _) (by walk_at "mem"))).mono (by omega), L.fr _ _ hw2 nlp, nlp, by omega, by omega, by omega, by omega, o2.trans L.fr⟩
 clear L'
 rintro σ H3 ⟨lw, x, y, rfl, h3, hlw, nlw, x0, x1, y0, y1, o3⟩
 have L := led_hand h3
 walk_at "go"
 refine use_pick L' (by walk_at "put") (by decide) (by decide) (by omega) fun r6 H4 c0 c1 L _ => ?_
 walk_at "go"
 refine g_ixMS L .head c0 (by simp only [List.length_cons, List.length_nil]; omega) fun v hv => ?_
 obtain ⟨fa, rfl, f0, f1⟩ : ∃ n : Int, v = .int n ∧ 0 ≤ n ∧ n ≤ 1000000000000 := by
  simp only [List.mem_cons, List.not_mem_nil, or_false] at hv
  rcases hv with rfl | rfl | rfl | rfl | rfl | rfl | rfl <;> exact ⟨_, rfl, by decide, by decide⟩
 have o4 := o3.trans L.fr
 have hlw4 := L.fr _ _ hlw nlw
 have h4 := (HandO.at (L.at_ (p, HandO _) (by walk_at "mem"))).mono (show _ ≤ b + 8192 by omega)
 clear L L'
 have L := led_hand h4
 walk_at "go"
 refine use_pick L' (by walk_at "put") (by decide) (by decide) (by omega) fun r7 H5 d0 d1 L _ => ?_
 walk_at "go"
 refine g_ixMS L .head d0 (by simp only [List.length_cons, List.length_nil]; omega) fun v hv => ?_
 obtain ⟨ro, rfl, g0, g1⟩ : ∃ n : Int, v = .int n ∧ 1 ≤ n ∧ n ≤ 1000000000000 := by
  simp only [List.mem_cons, List.not_mem_nil, or_false] at hv
  rcases hv with rfl | rfl | rfl | rfl | rfl | rfl <;> exact ⟨_, rfl, by decide, by decide⟩
 have o5 := o4.trans L.fr
 have hlw5 := L.fr _ _ hlw4 nlw
 have h5 := (HandO.at (L.at_ (p, HandO _) (by walk_at "mem"))).mono (show _ ≤ b + 10240 by omega)
 clear L L'
 have L := led_hand h5
 walk_at "go"
 refine use_pick L' (by walk_at "put") (by decide) (by decide) (by omega) fun r8 H6 e0 e1 L _ => ?_
 walk_at "go"
 refine g_ixMS L .head e0 (by simp only [List.length_cons, List.length_nil]; omega) fun v hv => ?_
 obtain ⟨te, rfl, t0, t1⟩ : ∃ n : Int, v = .int n ∧ 1 ≤ n ∧ n ≤ 1000000000000 := by
  simp only [List.mem_cons, List.not_mem_nil, or_false] at hv
  rcases hv with rfl | rfl | rfl | rfl | rfl | rfl | rfl <;> exact ⟨_, rfl, by decide, by decide⟩
 have o6 := o5.trans L.fr
 have hlw6 := L.fr _ _ hlw5 nlw
 have h6 := (HandO.at (L.at_ (p, HandO _) (by walk_at "mem"))).mono (show _ ≤ b + 12288 by omega)
 clear L L'
 have shN : ShN x y := ⟨by omega, by omega, by omega, by omega⟩
 have stN : StN fa ro te := ⟨by omega, by omega, by omega, by omega, by omega, by omega⟩
 have L := Led.start H6 (fun _ => False)
 walk_at "one"
 try dsimp only [gName]
 refine g_seq ?_
 walk_at "one"
 obtain ⟨lr, elr⟩ : ∃ z, z = l' := ⟨_, rfl⟩
 subst elr
 have hlr := L'.eo (p := lr) (by walk_at "put")
 have s7 := L'.same
 obtain ⟨H7, eH7⟩ : ∃ z, z = H' := ⟨_, rfl⟩
 subst eH7
 have nlr : lr ≠ p := fun z => by obtain ⟨u, v, y, e, _⟩ := h6; rw [← z, n'] at e; cases e
 have h7 := h6.same s7
 clear L L'
 try dsimp only [gName]
 refine seq_mid (fun σ Hx => ∃ (lr2 : Addr) (ws : List Str), σ = [some (.ref p), some (.bl so), some (.ref lw), some (.int fa), some (.int ro), some (.int te), some (.ref lr2)] ∧ Hx lr2 = some (.lst (ws.map V.str)) ∧ ws.Sublist w5 ∧ Oth p H7 Hx) (fun nx kk => ?_) ?_
 ·cases so with
  | true =>
   walk_at "go"
   exact kk _ _ ⟨_, w5, rfl, hlr, List.Sublist.refl _, Oth.refl _ _⟩
  | false =>
   walk_at "go"
   refine g_wkLv (SqL.of hlr) ?_
   refine g_compL (w5.map V.str) (fun i ys Hx => ∃ ws : List Str, ys = ws.map V.str ∧ ws.Sublist (w5.take i) ∧ HandAt Hx p (b + 12288 + 1024 * (i : Int)) ∧ Oth p H7 Hx) ⟨[], rfl, List.Sublist.refl _, h7.mono (by omega), Oth.refl _ _⟩ (fun i ys Hx hi ⟨ws, e, hs, _, o⟩ => ⟨SqL.of (o _ _ hlr nlr), by
    rw [e, List.length_map]
    have := hs.length_le
    rw [List.length_take] at this
    exact Nat.le_of_lt (small1000 (by have : w5.length = 5 := rfl; omega))⟩) ?_ ?_
   ·rintro i v ys Hx hv ⟨ws, rfl, hs, hx, o⟩
    rw [List.getElem?_map] at hv
    cases hw : w5[i]? with
    | none => rw [hw] at hv; cases hv
    | some wo =>
     rw [hw] at hv
     cases Option.some.inj hv
     have hi5 : i < 5 := (List.getElem?_eq_some_iff.mp hw).1
     have hl1 : (ws ++ [wo]).Sublist (w5.take (i + 1)) := by rw [take_snoc hw]; exact hs.append (List.Sublist.refl _)
     have hl2 : ws.Sublist (w5.take (i + 1)) := by rw [take_snoc hw]; exact hs.trans (List.sublist_append_left _ _)
     have L := led_hand hx
     try dsimp only [gName]
     walk_at "go"
     refine use_pick L .head (by decide) (by decide) (by omega) fun r9 H8 b1 b2 L _ => ?_
     have h8 := (HandO.at (L.at_ (p, HandO _) (by walk_at "mem"))).mono (show _ ≤ b + 12288 + 1024 * ((i + 1 : Nat) : Int) by omega)
     have o8 := o.trans L.fr
     walk_at "go"
     refine g_ifD (fun z => ?_) (fun z => ?_)
     ·walk_at "go"
      exact ⟨ws ++ [wo], by rw [List.map_append]; rfl, hl1, h8, o8⟩
     ·exact ⟨ws, rfl, hl2, h8, o8⟩
   ·rintro ys Hx ⟨ws, rfl, hs, hx, o⟩ lc nlc
    rw [show (w5.map V.str).length = 5 from rfl] at hs
    exact kk _ _ ⟨lc, ws, rfl, upd_same, hs, fun q o' e z => by rw [upd_ne (ne_of_none (o q o' e z) nlc)]; exact o q o' e z⟩
 rintro σ H8 ⟨lr2, ws, rfl, hl2, hsu, o8⟩
 have hlw8 := o8 _ _ (s7 _ _ hlw6) nlw
 have o68 : Oth p H H8 := fun q o e z => o8 _ _ (s7 _ _ (o6 q o e z)) z
 have L := Led.start H8 (fun _ => False)
 walk_at "go"
 refine g_ixSq (SqL.of hlw8) rfl ?_
 walk_at "go"
 refine g_ixSq (SqL.of hlw8) rfl ?_
 walk_at "go"
 refine use_shape L shN fun sp H9 nsp L s9 => ?_
 walk_at "go"
 refine use_settings (PP := fun _ => False) (H0 := H9) (l := []) (fs := []) stN (s9 _ _ hl2) (ru_sub5 hsu) fun x' H10 nx10 hst s10 => ?_
 obtain ⟨o, eo, dx, rfl⟩ := L.at_ (sp, ShapeO C x y) (by walk_at "mem")
 walk_at "go"
 exact q x' sp x y fa ro te ws _ ⟨hst, ⟨dx, s10 _ _ eo⟩, shN⟩ stN fun q o e z => s10 _ _ (s9 _ _ (o68 q o e z))
end
end Law

namespace Law
open PySem PySem.Spec PyProof.Rows L2 L3 L4
section
variable {P : Program} {w : World} {K : PySem.W.Frag} {mg : Str → Option Value} {base : Heap} {CX : CXT}
theorem sc_lnumber : FnScope ["_law_cell", "_law_bound"] ["_law_cell"] (defScope (top 69)) := by walk_at "s"
def spLNumber : Sp := fun vs H Q _ => ∃ (p : Addr) (b : Int), vs = [.ref p] ∧ HandAt H p b ∧ b ≤ 10000000 ∧ ∀ (v : Int) (H' : Hp), 0 ≤ v → HandAt H' p (b + 2048) → Oth p H H' → Q (.int v) H'
theorem ok_lnumber (D : Dat K mg "_law_number" "_law_number" (top 69) ["_law_cell"]) (NE : NoErr CX) (c__law_pick : Cal P w K mg base CX "_law_pick" 11 ["_law_hand_here", "_law_many"] spPick) : Cal P w K mg base CX "_law_number" 12 ["_law_cell"] spLNumber := by
 have S := sc_lnumber
 walk_at "d"
 ·obtain ⟨p, b, rfl, _⟩ := h
  rfl
 obtain ⟨p, b, rfl, hh, hb, q⟩ := h
 refine ⟨_, (pss_cons (ps_set (i := 1) S.nd rfl (by first | exact Or.inl rfl | exact Or.inr rfl) (pe_ix ix_list (pe_lst (pa_cons pe_int (pa_cons pe_int (pa_cons pe_int (pa_cons (pe_op op_pow pe_int pe_int) pa_nil))))) (pe_fn c__law_pick (hr.mono (by first | decide | omega)) NE.pass (pa_cons (pv 0) (pa_cons pe_int pa_nil))) (fun _ _ => rfl)))
   (pss_one (ps_ret (pe_fn c__law_pick (hr.mono (by first | decide | omega)) NE.pass (pa_cons (pv 0) (pa_cons (pv 1) pa_nil)))))), ?_⟩
 try dsimp only [cxOf]
 have tp29 := tp29
 have L := led_hand hh
 walk_at "go"
 refine use_pick L' (by walk_at "put") (by decide) (by decide) (by omega) fun r1 H1 w0 w1 L _ => ?_
 walk_at "go"
 refine g_ixMS L .head w0 (by simp only [List.length_cons, List.length_nil]; omega) fun v hv => ?_
 obtain ⟨n, rfl, n0, n1⟩ : ∃ n : Int, v = .int n ∧ 0 < n ∧ n ≤ 10 ^ 50 := by
  simp only [List.mem_cons, List.not_mem_nil, or_false] at hv
  rcases hv with rfl | rfl | rfl | rfl <;> exact ⟨_, rfl, by decide, by decide⟩
 walk_at "go"
 refine use_pick L (by walk_at "put") n0 n1 (by omega) fun r2 H2 y0 y1 L _ => ?_
 walk_at "go"
 exact q _ _ y0 ((HandO.at (L.at_ (p, HandO _) (by walk_at "mem"))).mono (by omega)) L.fr
end
end Law

namespace Law
open PySem PySem.Spec PyProof.Rows L2 L3 L4
theorem h_is_up {nm : Str} {ps l : Addr} {sv : V} : (hdF nm ps l sv).lookup ("is_up" : Str) = none := h_miss (by decide +kernel) (by decide +kernel) (by decide +kernel) (by decide +kernel)
theorem h_place {nm : Str} {ps l : Addr} {sv : V} : (hdF nm ps l sv).lookup ("place" : Str) = none := h_miss (by decide +kernel) (by decide +kernel) (by decide +kernel) (by decide +kernel)
theorem h_note {nm : Str} {ps l : Addr} {sv : V} : (hdF nm ps l sv).lookup ("note" : Str) = none := h_miss (by decide +kernel) (by decide +kernel) (by decide +kernel) (by decide +kernel)
theorem h_fall {nm : Str} {ps l : Addr} {sv : V} : (hdF nm ps l sv).lookup ("fall" : Str) = none := h_miss (by decide +kernel) (by decide +kernel) (by decide +kernel) (by decide +kernel)
theorem h_rise {nm : Str} {ps l : Addr} {sv : V} : (hdF nm ps l sv).lookup ("rise" : Str) = none := h_miss (by decide +kernel) (by decide +kernel) (by decide +kernel) (by decide +kernel)
theorem h_take {nm : Str} {ps l : Addr} {sv : V} : (hdF nm ps l sv).lookup ("take" : Str) = none := h_miss (by decide +kernel) (by decide +kernel) (by decide +kernel) (by decide +kernel)
theorem h_write {nm : Str} {ps l : Addr} {sv : V} : (hdF nm ps l sv).lookup ("write" : Str) = none := h_miss (by decide +kernel) (by decide +kernel) (by decide +kernel) (by decide +kernel)
theorem h_make {nm : Str} {ps l : Addr} {sv : V} : (hdF nm ps l sv).lookup ("make" : Str) = none := h_miss (by decide +kernel) (by decide +kernel) (by decide +kernel) (by decide +kernel)
theorem h_hear {nm : Str} {ps l : Addr} {sv : V} : (hdF nm ps l sv).lookup ("hear" : Str) = none := h_miss (by decide +kernel) (by decide +kernel) (by decide +kernel) (by decide +kernel)
theorem h_giveb {nm : Str} {ps l : Addr} {sv : V} : (hdF nm ps l sv).lookup ("give_back" : Str) = none := h_miss (by decide +kernel) (by decide +kernel) (by decide +kernel) (by decide +kernel)
section
variable {C CS CH : Addr} {H H' : Hp} {d : Hd} {ls : Lns} {pl : Option (Int × Int)} {p : Addr} {b : Int}
theorem HdAt.np (h : HdAt C CS CH H d ls pl) (hh : HandAt H p b) : d.p ≠ p := fun z => by
 obtain ⟨⟨dx, sv, hp, _⟩, _⟩ := h
 obtain ⟨x, y, u, e, _⟩ := hh
 rw [z, e] at hp
 cases hp
theorem good_snoc {x : Addr × Ln} (h : GoodLs ls) (g : GoodL x.2) : GoodLs (ls ++ [x]) := fun y hy => (List.mem_append.mp hy).elim (h y) fun z => by rw [List.mem_singleton.mp z]; exact g
theorem HdOk.any (h : HdOk ls pl) {pl' : Option (Int × Int)} (k0 : ∀ m k, pl' = some (m, k) → 0 ≤ k) : HdOk ls pl' := ⟨h.good, k0, h.len⟩
theorem HdOk.snoc {x : Addr × Ln} (h : HdOk ls pl) (hl : ls.length ≤ 97) (g : GoodL x.2) {pl' : Option (Int × Int)} (k0 : ∀ m k, pl' = some (m, k) → 0 ≤ k) : HdOk (ls ++ [x]) pl' := ⟨good_snoc h.good g, k0, by rw [List.length_append, List.length_singleton]; omega⟩
theorem k0_some {m k : Int} (h : 0 ≤ k) : ∀ m' k', some (m, k) = some (m', k') → 0 ≤ k' := fun _ _ e => by cases e; exact h
theorem raisP_k {m k b : Int} (h : 0 ≤ k) : ∀ m' k', some (raisP m k b) = some (m', k') → 0 ≤ k' := fun _ _ e => by
 unfold raisP at e
 cases e
 split <;> omega
theorem nxP_k {c m f r k : Int} (h : 0 ≤ k) : ∀ m' k', some (nxP c m f r k) = some (m', k') → 0 ≤ k' := fun _ _ e => by
 unfold nxP cnt at e
 cases e
 split <;> split <;> omega
theorem nt_g (h : GoodLs ls) {x : Int × Int × Int} (e : (nt ls).ar = some x) : 1 ≤ (nt ls).g := (foldN_ok ok_nil h).yes (by show (nt ls).ar.isSome = true; rw [e]; rfl)
theorem fr2_ts {e : Hd} {ls' : Lns} {pl' : Option (Int × Int)} (k : HdAt C CS CH H e ls' pl') (f : Fr2 e.p e.l H H') : TSame H H' := fun q xs h => by
 obtain ⟨⟨dx, sv, hp, _⟩, hl, _⟩ := k
 exact f q _ h (fun z => by rw [z, hp] at h; cases h) (fun z => by rw [z, hl] at h; cases h)
theorem HdAt.fr2 {e : Hd} {ls' : Lns} {pl' : Option (Int × Int)} (h : HdAt C CS CH H d ls pl) (k : HdAt C CS CH H e ls' pl') (n1 : d.p ≠ e.p) (n2 : d.l ≠ e.l) (f : Fr2 e.p e.l H H') : HdAt C CS CH H' d ls pl := by
 have ts := fr2_ts k f
 obtain ⟨⟨dx, sv, hp, hpl⟩, hl, hL, ⟨dy, tr, ms, h1, h2, pm⟩, ⟨dz, h3⟩, hn⟩ := h
 obtain ⟨⟨dx', sv', hp', _⟩, hl', _⟩ := k
 have s1 : ¬ (("shape" : Str) = "name") := by decide +kernel
 have s2 : ¬ (("counts" : Str) = "name") := by decide +kernel
 refine ⟨⟨dx, sv, f _ _ hp n1 (fun z => by rw [z, hl'] at hp; cases hp), hpl.ts ts⟩, f _ _ hl (fun z => by rw [z, hp'] at hl; cases hl) n2, hL.ts ts, ⟨dy, tr, ms, f _ _ h1 (fun z => ?_) (fun z => by rw [z, hl'] at h1; cases h1), ts _ _ h2, pm⟩, ⟨dz, f _ _ h3 (fun z => ?_) (fun z => by rw [z, hl'] at h3; cases h3)⟩, hn⟩
 ·rw [z, hp'] at h1
  injection h1 with h1
  injection h1 with _ _ h1
  unfold hdF stF at h1
  injection h1 with h1 _
  injection h1 with h1 _
  exact s1 h1.symm
 ·rw [z, hp'] at h3
  injection h3 with h3
  injection h3 with _ _ h3
  unfold hdF shF at h3
  injection h3 with h3 _
  injection h3 with h3 _
  exact s2 h3.symm
end
end Law

namespace Law
open PySem PySem.Spec PyProof.Rows L2 L3 L4
inductive Op where
 | take (gr sl f e : Int)
 | hear (b : Int)
 | write (r : Int)
 | make (r : Int)
 | fall
 | rise
 | give
inductive Ou where
 | err (j : Nat)
 | non
 | bl (b : Bool)
 | int (n : Int)
 | pr (a b : Int)
abbrev Rs := Ou × List Ln × Option (Int × Int)
def opF (d : Hd) (n : Nt) (g : Int) (pl : Option (Int × Int)) : Op → Rs
 | .fall => match pl with
  | none => (.err 0, [], none)
  | some _ => (.non, [], none)
 | .rise => match pl with
  | none => (.non, [], some (max n.hd n.hr, 0))
  | some p => (.err 1, [], some p)
 | .take gr sl f e => match pl with
  | none => (.err 0, [], none)
  | some (m, k) => if ("once" : Str) ∈ d.ws ∧ gr ≤ g then (.bl false, [], some (m, k)) else (.bl true, [.took gr sl f e], some (raisP m k (bnd m k)))
 | .hear b => match pl with
  | none => (.err 0, [], none)
  | some (m, k) => (.non, if ("spoken" : Str) ∈ d.ws ∧ n.hr < b then [.heard b] else [], some (raisP m k b))
 | .write r => match pl with
  | none => (.err 0, [], none)
  | some (m, k) => match n.ar with
   | none => (.err 2, [], some (m, k))
   | some (_, f, e) => if e ≤ due m f r then (.err 3, [], some (m, k)) else if r + d.far < due m f r then (.err 4, [], some (m, k)) else (.int (max n.hd (due m f r + d.room)), if n.hd < due m f r + d.room then [.held (due m f r + d.room)] else [], some (m, k))
 | .make r => match pl with
  | none => (.err 0, [], none)
  | some (m, k) => match n.ar with
   | none => (.err 2, [], some (m, k))
   | some (sl, f, e) => if e ≤ due m f r then (.err 3, [], some (m, k)) else if r + d.far < due m f r then (.err 4, [], some (m, k)) else if ("ahead" : Str) ∈ d.ws ∧ n.hd ≤ due m f r then (.err 5, [], some (m, k)) else (.int (mk d.c d.s (due m f r) sl (cnt m f r k)), [], some (nxP d.c m f r k))
 | .give => match pl with
  | none => (.err 0, [], none)
  | some (m, k) => match n.ar with
   | none => (.err 2, [], some (m, k))
   | some (_, f, e) => if giveE f m k n.hd ≥ e then (.err 3, [], some (m, k)) else (.pr n.g (giveE f m k n.hd), if ("ends" : Str) ∈ d.ws then [.ends n.g (giveE f m k n.hd)] else [], some (m, k))
def OuAt (H : Hp) (v : V) : Ou → Prop
 | .err _ => False
 | .non => v = .non
 | .bl b => v = .bl b
 | .int n => v = .int n
 | .pr a b => ∃ t, v = .ref t ∧ H t = some (.tup [.int a, .int b])
theorem OuAt.ts {H H' : Hp} {v : V} {o : Ou} (h : OuAt H v o) (s : TSame H H') : OuAt H' v o := by
 cases o with
 | err j => exact h
 | non => exact h
 | bl b => exact h
 | int n => exact h
 | pr a b => obtain ⟨t, e, h⟩ := h; exact ⟨t, e, s _ _ h⟩
def ouD : Ou → Dt
 | .err _ => .non
 | .non => .non
 | .bl b => .bl b
 | .int n => .int n
 | .pr a b => .tup [.int a, .int b]
theorem OuAt.at {K : PySem.W.Frag} {H : Hp} {v : V} {o : Ou} (h : OuAt H v o) : At K H v (ouD o) := by
 cases o with
 | err j => exact h.elim
 | non => rw [show v = .non from h]; exact .non
 | bl b => rw [show v = .bl b from h]; exact .bl _
 | int n => rw [show v = .int n from h]; exact .int _
 | pr a b => obtain ⟨t, rfl, h⟩ := h; exact .tup (SqT.of h) (.cons (.int _) (.cons (.int _) .nil))
def XdOk (H : Hp) : Option Addr → Prop
 | none => True
 | some d => ∃ fs, H d = some (.xd fs)
section
variable {P : Program} {w : World} {K : PySem.W.Frag} {mg : Str → Option Value} {base : Heap} {C CS CH CD CU CA CN CW CT CR : Addr} {d : Hd} {ls : Lns} {pl : Option (Int × Int)} {H : Hp} {Q : VK} {E : XK}
def AfH (C CS CH : Addr) (d : Hd) (ls : Lns) (pl : Option (Int × Int)) (op : Op) (H : Hp) (Q : VK) : Prop := ∀ v o ls2 pl2 H', opF d (nt ls) (gmx ls) pl op = (o, ls2.map (·.2), pl2) → OuAt H' v o → HdAt C CS CH H' d (ls ++ ls2) pl2 → HdOk (ls ++ ls2) pl2 → ls2.length ≤ 1 → Fr2 d.p d.l H H' → Q v H'
def AfE (cs : List Addr) (d : Hd) (ls : Lns) (pl : Option (Int × Int)) (op : Op) (H : Hp) (E : XK) : Prop := ∀ (j : Nat) (c : Addr) (dx : Option Addr) (H' : Hp), cs[j]? = some c → opF d (nt ls) (gmx ls) pl op = (.err j, [], pl) → Same H H' → XdOk H' dx → E (.ref c) dx H'
theorem app0 {C CS CH : Addr} {H : Hp} {d : Hd} {ls : Lns} {pl : Option (Int × Int)} (h : HdAt C CS CH H d ls pl) : HdAt C CS CH H d (ls ++ []) pl := by rw [List.append_nil]; exact h
theorem ok0 {ls : Lns} {pl pl' : Option (Int × Int)} (h : HdOk ls pl) (k0 : ∀ m k, pl' = some (m, k) → 0 ≤ k) : HdOk (ls ++ []) pl' := by rw [List.append_nil]; exact h.any k0
theorem use_fallH (hd : HdAt C CS CH H d ls pl) (hok : HdOk ls pl) (qe : AfE (ers CD CU CA CN CW CT) d ls pl .fall H E) (q : AfH C CS CH d ls pl .fall H Q) : spFall C CS CH CD [.ref d.p] H Q E :=
 ⟨d, ls, pl, rfl, hd, hok, fun z H' s => qe 0 CD none H' rfl (by subst z; rfl) s trivial, fun z H' h f => q .non .non [] none H' (by cases pl with | none => cases z | some p => rfl) rfl (app0 h) (ok0 hok (fun _ _ z => nomatch z)) (Nat.zero_le _) f⟩
theorem use_riseH (hd : HdAt C CS CH H d ls pl) (hok : HdOk ls pl) (qe : AfE (ers CD CU CA CN CW CT) d ls pl .rise H E) (q : AfH C CS CH d ls pl .rise H Q) : spRise C CS CH CU [.ref d.p] H Q E :=
 ⟨d, ls, pl, rfl, hd, hok, fun z H' s => qe 1 CU none H' rfl (by cases pl with | none => cases z | some p => rfl) s trivial, fun z H' h f => q .non .non [] _ H' (by subst z; rfl) rfl (app0 h) (ok0 hok (k0_some (Int.le_refl 0))) (Nat.zero_le _) f⟩
theorem use_takeH {gr sl f e : Int} {a : Addr} (hd : HdAt C CS CH H d ls pl) (hok : HdOk ls pl) (hl : ls.length ≤ 97) (hg : 1 ≤ gr) (ha : H a = some (.tup [.int sl, .int f, .int e])) (qe : AfE (ers CD CU CA CN CW CT) d ls pl (.take gr sl f e) H E) (q : AfH C CS CH d ls pl (.take gr sl f e) H Q) : spTake C CS CH CD [.ref d.p, .int gr, .ref a] H Q E :=
 ⟨d, ls, pl, gr, sl, f, e, a, rfl, hd, hok, ha, fun z H' s => qe 0 CD none H' rfl (by subst z; rfl) s trivial,
  fun m k z c1 c2 H' h f' => q (.bl false) (.bl false) [] pl H' (by subst z; simp only [opF]; rw [if_pos ⟨c1, c2⟩]; rfl) rfl (app0 h) (ok0 hok hok.k0) (Nat.zero_le _) f',
  fun m k z c l H' h f' => q (.bl true) (.bl true) [(l, .took gr sl f e)] _ H' (by subst z; simp only [opF]; rw [if_neg c]; rfl) rfl h (hok.snoc (x := (l, Ln.took gr sl f e)) hl hg (raisP_k (hok.k0 m k z))) (Nat.le_refl 1) f'⟩
theorem use_hearH {b : Int} (hd : HdAt C CS CH H d ls pl) (hok : HdOk ls pl) (hl : ls.length ≤ 97) (qe : AfE (ers CD CU CA CN CW CT) d ls pl (.hear b) H E) (q : AfH C CS CH d ls pl (.hear b) H Q) : spHear C CS CH CD [.ref d.p, .int b] H Q E :=
 ⟨d, ls, pl, b, rfl, hd, hok, fun z H' s => qe 0 CD none H' rfl (by subst z; rfl) s trivial, fun m k z ls2 H' hs h f' => by
  rcases hs with ⟨c1, c2, l, rfl⟩ | ⟨c, rfl⟩
  ·exact q .non .non _ _ H' (by subst z; simp only [opF]; rw [if_pos ⟨c1, c2⟩]; rfl) rfl h (hok.snoc (x := (l, Ln.heard b)) hl trivial (raisP_k (hok.k0 m k z))) (Nat.le_refl 1) f'
  ·exact q .non .non _ _ H' (by subst z; simp only [opF]; rw [if_neg c]; rfl) rfl h (ok0 hok (raisP_k (hok.k0 m k z))) (Nat.zero_le _) f'⟩
theorem use_mke {r : Int} {op : Op} (hop : op = .write r ∨ op = .make r) (qe : AfE (ers CD CU CA CN CW CT) d ls pl op H E) : ∀ H', Same H H' → MkE CD CA CN CW H' pl (nt ls) d.far r E := fun H' s =>
 ⟨fun z => qe 0 CD none H' rfl (by subst z; rcases hop with rfl | rfl <;> rfl) s trivial,
  fun z y => qe 2 CA none H' rfl (by cases pl with | none => cases z | some p => rcases hop with rfl | rfl <;> (simp only [opF]; rw [y])) s trivial,
  fun m k sl f e z y c => qe 3 CN none H' rfl (by subst z; rcases hop with rfl | rfl <;> (simp only [opF]; rw [y]; dsimp only; rw [if_pos c])) s trivial,
  fun m k sl f e z y c1 c2 dd H2 s2 hd => qe 4 CW (some dd) H2 rfl (by subst z; rcases hop with rfl | rfl <;> (simp only [opF]; rw [y]; dsimp only; rw [if_neg c1, if_pos c2])) (s.trans s2) ⟨_, hd⟩⟩
theorem use_writeH {r : Int} (hd : HdAt C CS CH H d ls pl) (hok : HdOk ls pl) (hl : ls.length ≤ 97) (qe : AfE (ers CD CU CA CN CW CT) d ls pl (.write r) H E) (q : AfH C CS CH d ls pl (.write r) H Q) : spWrite C CS CH CD CA CN CW [.ref d.p, .int r] H Q E :=
 ⟨d, ls, pl, r, rfl, hd, hok, use_mke (.inl rfl) qe, fun m k sl f e z y c1 c2 ls2 H' hs h f' => by
  rcases hs with ⟨c, l, rfl⟩ | ⟨c, rfl⟩
  ·exact q _ (.int (max (nt ls).hd (due m f r + d.room))) _ _ H' (by subst z; simp only [opF]; rw [y]; dsimp only; rw [if_neg c1, if_neg c2, if_pos c]; rfl) rfl h (hok.snoc (x := (l, Ln.held (due m f r + d.room))) hl trivial hok.k0) (Nat.le_refl 1) f'
  ·exact q _ (.int (max (nt ls).hd (due m f r + d.room))) _ _ H' (by subst z; simp only [opF]; rw [y]; dsimp only; rw [if_neg c1, if_neg c2, if_neg c]; rfl) rfl h (ok0 hok hok.k0) (Nat.zero_le _) f'⟩
theorem use_makeH {r : Int} (hd : HdAt C CS CH H d ls pl) (hok : HdOk ls pl) (qe : AfE (ers CD CU CA CN CW CT) d ls pl (.make r) H E) (q : AfH C CS CH d ls pl (.make r) H Q) : spMakeM C CS CH CD CA CN CW CT [.ref d.p, .int r] H Q E :=
 ⟨d, ls, pl, r, rfl, hd, hok, use_mke (.inr rfl) qe,
  fun m k sl f e z y c1 c2 a1 a2 dd H' s hx => qe 5 CT (some dd) H' rfl (by subst z; simp only [opF]; rw [y]; dsimp only; rw [if_neg c1, if_neg c2, if_pos ⟨a1, a2⟩]) s ⟨_, hx⟩,
  fun m k sl f e z y c1 c2 a H' h f' => q _ (.int (mk d.c d.s (due m f r) sl (cnt m f r k))) [] _ H' (by subst z; simp only [opF]; rw [y]; dsimp only; rw [if_neg c1, if_neg c2, if_neg a]; rfl) rfl (app0 h) (ok0 hok (nxP_k (hok.k0 m k z))) (Nat.zero_le _) f'⟩
theorem use_giveH (hd : HdAt C CS CH H d ls pl) (hok : HdOk ls pl) (hl : ls.length ≤ 97) (qe : AfE (ers CD CU CA CN CW CT) d ls pl .give H E) (q : AfH C CS CH d ls pl .give H Q) : spGiveB C CS CH CD CA CN [.ref d.p] H Q E :=
 ⟨d, ls, pl, rfl, hd, hok, fun z H' s => qe 0 CD none H' rfl (by subst z; rfl) s trivial,
  fun z y H' s => qe 2 CA none H' rfl (by cases pl with | none => cases z | some p => (simp only [opF]; rw [y])) s trivial,
  fun m k sl f e z y c H' s => qe 3 CN none H' rfl (by subst z; simp only [opF]; rw [y]; dsimp only; rw [if_pos c]) s trivial,
  fun m k sl f e z y c tv ls2 H' ht hs h f' => by
  rcases hs with ⟨c1, l, rfl⟩ | ⟨c1, rfl⟩
  ·exact q _ (.pr (nt ls).g (giveE f m k (nt ls).hd)) _ _ H' (by subst z; simp only [opF]; rw [y]; dsimp only; rw [if_neg c, if_pos c1]; rfl) ⟨tv, rfl, ht⟩ h (hok.snoc (x := (l, Ln.ends (nt ls).g (giveE f m k (nt ls).hd))) hl (nt_g hok.good y) hok.k0) (Nat.le_refl 1) f'
  ·exact q _ (.pr (nt ls).g (giveE f m k (nt ls).hd)) _ _ H' (by subst z; simp only [opF]; rw [y]; dsimp only; rw [if_neg c, if_neg c1]; rfl) ⟨tv, rfl, ht⟩ h (ok0 hok hok.k0) (Nat.zero_le _) f'⟩
def ntX (xs : List Ln) : Nt := xs.foldl Nt.step Nt.nil
theorem nt_eq (ls : Lns) : nt ls = ntX (ls.map (·.2)) := by unfold nt foldN ntX; rw [List.foldl_map]
theorem gts_eq (ls ls' : Lns) (h : ls.map (·.2) = ls'.map (·.2)) : gts ls = gts ls' := by
 induction ls generalizing ls' with
 | nil => cases ls' with
  | nil => rfl
  | cons y ys => cases h
 | cons x xs ih => cases ls' with
  | nil => cases h
  | cons y ys =>
   rw [List.map_cons, List.map_cons] at h
   injection h with h1 h2
   have := ih ys h2
   unfold gts at this ⊢
   have e1 : isT x = isT y := by unfold isT; rw [h1]
   have e2 : gOf x = gOf y := by unfold gOf; rw [h1]
   rw [List.filter_cons, List.filter_cons, e1]
   by_cases c : isT y = true
   ·rw [if_pos c, if_pos c, List.map_cons, List.map_cons, e2, this]
   ·rw [if_neg c, if_neg c, this]
theorem opF_eq {d e : Hd} {ls ls' : Lns} {pl : Option (Int × Int)} {op : Op} (hd : d.ws = e.ws ∧ d.far = e.far ∧ d.room = e.room ∧ d.c = e.c ∧ d.s = e.s) (h : ls.map (·.2) = ls'.map (·.2)) : opF d (nt ls) (gmx ls) pl op = opF e (nt ls') (gmx ls') pl op := by
 obtain ⟨h1, h2, h3, h4, h5⟩ := hd
 have e1 : nt ls = nt ls' := by rw [nt_eq, nt_eq, h]
 have e2 : gmx ls = gmx ls' := by unfold gmx; rw [gts_eq ls ls' h]
 rw [e1, e2]
 cases op <;> simp only [opF, h1, h2, h3, h4, h5]
end
end Law

namespace Law
open PySem PySem.Spec PyProof.Rows L2 L3 L4
def ErA (K : PySem.W.Frag) (CR : Addr) (cs : List Addr) : Prop := ∀ (j : Nat) (c : Addr), cs[j]? = some c → EGet K c ∧ PySem.W.exmOne K (.ref c) (.ref CR) = some true ∧ ∀ (i : Nat) (c' : Addr), cs[i]? = some c' → PySem.W.kitOne K (.ref c) (.ref c') = some (decide (i = j))
theorem XdOk.exd {H : Hp} {dx : Option Addr} (h : XdOk H dx) : ExD H dx := by
 cases dx with
 | none => exact trivial
 | some d => exact h
theorem XdOk.new {H : Hp} {dx : Option Addr} {x : Addr} {o : HO} (h : XdOk H dx) (n : H x = none) : XdOk (upd H x o) dx := by
 cases dx with
 | none => exact trivial
 | some d =>
  obtain ⟨fs, e⟩ := h
  exact ⟨fs, by rw [upd_ne (ne_of_none e n)]; exact e⟩
theorem XdOk.same {H H' : Hp} {dx : Option Addr} (h : XdOk H dx) (s : Same H H') : XdOk H' dx := by
 cases dx with
 | none => exact trivial
 | some d =>
  obtain ⟨fs, e⟩ := h
  exact ⟨fs, s _ _ e⟩
theorem none_of' {H H1 : Hp} {a : Addr} (s : Same H H1) (n : H1 a = none) : H a = none := by
 cases e : H a with
 | none => rfl
 | some o => rw [s _ _ e] at n; cases n
theorem old_ne {H : Hp} {p q : Addr} {o : HO} (h : H q = some o) (n : H p = none) : q ≠ p := fun z => by rw [z, n] at h; cases h
theorem hand_lst {H : Hp} {p : Addr} {b : Int} (h : HandAt H p b) : ∃ zs, H p = some (.lst zs) := by
 obtain ⟨x, y, z, e, r⟩ := h
 exact ⟨_, e⟩
def wOp (wy r : Int) : Op := if wy = 0 then .write r else if wy = 1 then .make r else if wy = 2 then .fall else if wy = 3 then .rise else .give
def flV (j : Nat) : List V := [.bl (decide (0 = j)), .bl (decide (1 = j)), .bl (decide (2 = j)), .bl (decide (3 = j)), .bl (decide (4 = j)), .bl (decide (5 = j))]
def flD (j : Nat) : List Dt := [.bl (decide (0 = j)), .bl (decide (1 = j)), .bl (decide (2 = j)), .bl (decide (3 = j)), .bl (decide (4 = j)), .bl (decide (5 = j))]
def DeAt (H0 H : Hp) (v : V) (o : Ou) : Prop := (∃ j t l, o = .err j ∧ v = .ref t ∧ H t = some (.tup [.str "refused", .ref l]) ∧ H l = some (.lst (flV j)) ∧ H0 l = none) ∨ ((∀ j, o ≠ .err j) ∧ ∃ t u, v = .ref t ∧ H t = some (.tup [.str "told", u]) ∧ OuAt H u o)
def deD : Ou → Dt
 | .err j => .tup [.str "refused", .lst (flD j)]
 | o => .tup [.str "told", ouD o]
theorem DeAt.at {K : PySem.W.Frag} {H0 H : Hp} {v : V} {o : Ou} (h : DeAt H0 H v o) : At K H v (deD o) := by
 rcases h with ⟨j, t, l, rfl, rfl, h1, h2, _⟩ | ⟨n, t, u, rfl, h1, h2⟩
 ·exact .tup (SqT.of h1) (.cons (.str _) (.cons (.lst (SqL.of h2) (.cons (.bl _) (.cons (.bl _) (.cons (.bl _) (.cons (.bl _) (.cons (.bl _) (.cons (.bl _) .nil))))))) .nil))
 ·have e : deD o = .tup [.str "told", ouD o] := by
   cases o with
   | err j => exact absurd rfl (n j)
   | non => rfl
   | bl b => rfl
   | int n => rfl
   | pr a b => rfl
  rw [e]
  exact .tup (SqT.of h1) (.cons (.str _) (.cons h2.at .nil))
theorem de_dep (o : Ou) : dep (deD o) ≤ 100 := by cases o <;> simp [deD, ouD, flD, dep, deps]
theorem DeAt.fr {C CS CH : Addr} {H0 H H' : Hp} {v : V} {o : Ou} {e : Hd} {ls : Lns} {pl : Option (Int × Int)} {xs : List V} (h : DeAt H0 H v o) (k : HdAt C CS CH H e ls pl) (k0 : H0 e.l = some (.lst xs)) (f : Fr2 e.p e.l H H') : DeAt H0 H' v o := by
 have ts := fr2_ts k f
 rcases h with ⟨j, t, l, rfl, rfl, h1, h2, h3⟩ | ⟨n, t, u, rfl, h1, h2⟩
 ·obtain ⟨⟨dx, sv, hp, _⟩, _⟩ := k
  exact .inl ⟨j, t, l, rfl, rfl, ts _ _ h1, f _ _ h2 (fun z => by rw [z, hp] at h2; cases h2) (fun z => by rw [z, k0] at h3; cases h3), h3⟩
 ·exact .inr ⟨n, t, u, rfl, ts _ _ h1, h2.ts ts⟩
section
variable {P : Program} {w : World} {K : PySem.W.Frag} {mg : Str → Option Value} {base : Heap} {C CS CH CD CU CA CN CW CT CR : Addr}
theorem sc_lwork : FnScope ["_law_hand_here", "_law_way", "_law_reading_here"] ["_law_hand_here", "_law_way", "_law_reading_here"] (defScope (top 71)) := by walk_at "s"
def spLWork (C CS CH CD CU CA CN CW CT : Addr) : Sp := fun vs H Q E => ∃ (d : Hd) (ls : Lns) (pl : Option (Int × Int)) (wy r : Int), vs = [.ref d.p, .int wy, .int r] ∧ HdAt C CS CH H d ls pl ∧ HdOk ls pl ∧ ls.length ≤ 97 ∧ AfE (ers CD CU CA CN CW CT) d ls pl (wOp wy r) H E ∧ AfH C CS CH d ls pl (wOp wy r) H Q
theorem ok_lwork (D : Dat K mg "_law_work" "_law_work" (top 71) ["_law_hand_here", "_law_way", "_law_reading_here"]) (NE : NoErr (CX1 P w)) (M_Hand_rise : MCal P w K mg base (CX1 P w) CH "rise" 6 ["self"] (spRise C CS CH CU)) (M_Hand_write : MCal P w K mg base (CX1 P w) CH "write" 6 ["self", "reading"] (spWrite C CS CH CD CA CN CW)) (M_Hand_make : MCal P w K mg base (CX1 P w) CH "make" 6 ["self", "reading"] (spMakeM C CS CH CD CA CN CW CT))
  (M_Hand_give_back : MCal P w K mg base (CX1 P w) CH "give_back" 6 ["self"] (spGiveB C CS CH CD CA CN)) (M_Hand_fall : MCal P w K mg base (CX1 P w) CH "fall" 6 ["self"] (spFall C CS CH CD)) : Cal P w K mg base (CX1 P w) "_law_work" 7 ["_law_hand_here", "_law_way", "_law_reading_here"] (spLWork C CS CH CD CU CA CN CW CT) := by
 have S := sc_lwork
 refine D.okR S (fun vs H Q E h => ?_) (fun f cdv A outer s H vs Q E hr h => ?_)
 ·obtain ⟨d, ls, pl, wy, r, rfl, _⟩ := h
  rfl
 obtain ⟨d, ls, pl, wy, r, rfl, hd, hok, hl, qe, q⟩ := h
 refine ⟨_, (pss_cons (ps_if (pt_cmpR op_eq (pv 1) pe_int (nomark _)) (pss_one (ps_ret (pe_mtX M_Hand_write (hr.mono (by first | decide | omega)) paX_self (pv 0) (pa_cons (pv 2) pa_nil)))) pss_nil)
   (pss_cons (ps_if (pt_cmpR op_eq (pv 1) pe_int (nomark _)) (pss_one (ps_ret (pe_mtX M_Hand_make (hr.mono (by first | decide | omega)) paX_self (pv 0) (pa_cons (pv 2) pa_nil)))) pss_nil)
   (pss_cons (ps_if (pt_cmpR op_eq (pv 1) pe_int (nomark _)) (pss_one (ps_ret (pe_mtX0 M_Hand_fall (hr.mono (by first | decide | omega)) paX_self (pv 0)))) pss_nil)
   (pss_cons (ps_if (pt_cmpR op_eq (pv 1) pe_int (nomark _)) (pss_one (ps_ret (pe_mtX0 M_Hand_rise (hr.mono (by first | decide | omega)) paX_self (pv 0)))) pss_nil)
   (pss_one (ps_ret (pe_mtX0 M_Hand_give_back (hr.mono (by first | decide | omega)) paX_self (pv 0)))))))), ?_⟩
 try dsimp only [cxOf]
 obtain ⟨⟨dx, sv, hp, _⟩, _⟩ := id hd
 walk_at "go"
 refine g_ifD (fun c => ?_) (fun c0 => ?_)
 ·rw [show wOp wy r = .write r by unfold wOp; rw [if_pos c]] at qe q
  walk_at "go"
  refine g_methv hp h_write ?_
  walk_at "go"
  exact use_writeH hd hok hl qe q
 walk_at "go"
 refine g_ifD (fun c => ?_) (fun c1 => ?_)
 ·rw [show wOp wy r = .make r by unfold wOp; rw [if_neg c0, if_pos c]] at qe q
  walk_at "go"
  refine g_methv hp h_make ?_
  walk_at "go"
  exact use_makeH hd hok qe q
 walk_at "go"
 refine g_ifD (fun c => ?_) (fun c2 => ?_)
 ·rw [show wOp wy r = .fall by unfold wOp; rw [if_neg c0, if_neg c1, if_pos c]] at qe q
  walk_at "go"
  refine g_methv hp h_fall ?_
  walk_at "go"
  exact use_fallH hd hok qe q
 walk_at "go"
 refine g_ifD (fun c => ?_) (fun c3 => ?_)
 ·rw [show wOp wy r = .rise by unfold wOp; rw [if_neg c0, if_neg c1, if_neg c2, if_pos c]] at qe q
  walk_at "go"
  refine g_methv hp h_rise ?_
  walk_at "go"
  exact use_riseH hd hok qe q
 rw [show wOp wy r = .give by unfold wOp; rw [if_neg c0, if_neg c1, if_neg c2, if_neg c3]] at qe q
 walk_at "go"
 refine g_methv hp h_giveb ?_
 walk_at "go"
 exact use_giveH hd hok hl qe q
theorem sc_ldeedH : FnScope ["_law_hand_here", "_law_way", "_law_reading_here", "e", "_law_flags"] ["_law_hand_here", "_law_way", "_law_reading_here"] (defScope (top 72)) := by walk_at "s"
def spLDeedH (C CS CH : Addr) : Sp := fun vs H Q _ => ∃ (d : Hd) (ls : Lns) (pl : Option (Int × Int)) (wy r : Int), vs = [.ref d.p, .int wy, .int r] ∧ HdAt C CS CH H d ls pl ∧ HdOk ls pl ∧ ls.length ≤ 97 ∧ ∀ v o ls2 pl2 H', opF d (nt ls) (gmx ls) pl (wOp wy r) = (o, ls2.map (·.2), pl2) → DeAt H H' v o → HdAt C CS CH H' d (ls ++ ls2) pl2 → HdOk (ls ++ ls2) pl2 → ls2.length ≤ 1 → Fr2 d.p d.l H H' → Q v H'
theorem ok_ldeedH (D : Dat K mg "_law_deed" "_law_deed" (top 72) ["_law_hand_here", "_law_way", "_law_reading_here"]) (BT : Bt mg) (NE : NoErr (CX1 P w)) (EA : ErA K CR (ers CD CU CA CN CW CT)) (hm_RiseError : mg "RiseError" = some (.ref CR)) (hm_Down : mg "Down" = some (.ref CD)) (hm_Up : mg "Up" = some (.ref CU)) (hm_NoArea : mg "NoArea" = some (.ref CA)) (hm_NoRoom : mg "NoRoom" = some (.ref CN)) (hm_Wait : mg "Wait" = some (.ref CW)) (hm_NoNote : mg "NoNote" = some (.ref CT))
  (c__law_work : Cal P w K mg base (CX1 P w) "_law_work" 7 ["_law_hand_here", "_law_way", "_law_reading_here"] (spLWork C CS CH CD CU CA CN CW CT)) : Cal P w K mg base (CX1 P w) "_law_deed" 9 ["_law_hand_here", "_law_way", "_law_reading_here"] (spLDeedH C CS CH) := by
 have S := sc_ldeedH
 walk_at "d"
 ·obtain ⟨d, ls, pl, wy, r, rfl, _⟩ := h
  rfl
 obtain ⟨d, ls, pl, wy, r, rfl, hd, hok, hl, q⟩ := h
 refine ⟨_, (pss_one (ps_tryAsK (i := 3) rfl rfl rfl hm_RiseError S.nd rfl rfl paX_no (fun _ _ => (pss_one (ps_ret (pe_tup (pa_cons pe_str (pa_cons (pe_fnX c__law_work (hr.mono (by first | decide | omega)) paX_self (pa_cons (pv 0) (pa_cons (pv 1) (pa_cons (pv 2) pa_nil)))) pa_nil)))))) (fun _ => (pss_cons (ps_set (i := 4) S.nd rfl (by first | exact Or.inl rfl | exact Or.inr rfl) (pe_lst (pa_cons (pe_isiXc rfl BT.isinstance hm_Down (pv 3)) (pa_cons (pe_isiXc rfl BT.isinstance hm_Up (pv 3)) (pa_cons (pe_isiXc rfl BT.isinstance hm_NoArea (pv 3)) pa_nil)))))
    (pss_one (ps_ret (pe_tup (pa_cons pe_str (pa_cons (pe_op op_cat (pv 4) (pe_lst (pa_cons (pe_isiXc rfl BT.isinstance hm_NoRoom (pv 3)) (pa_cons (pe_isiXc rfl BT.isinstance hm_Wait (pv 3)) (pa_cons (pe_isiXc rfl BT.isinstance hm_NoNote (pv 3)) pa_nil))))) pa_nil))))))))), ?_⟩
 try dsimp only [cxOf]
 walk_at "go"
 refine ⟨d, ls, pl, wy, r, rfl, hd, hok, hl, fun j c dx H1 hj ho s1 hx => ?_, fun v o ls2 pl2 H1 ho hv hd1 hok1 hl2 f1 => ?_⟩
 ·obtain ⟨eg, em, ek⟩ := EA j c hj
  refine g_handAs em fun x nx => ?_
  have ex : ExA K (upd H1 x (ExcO x (.ref c) dx)) x c dx := ⟨upd_same, eg, (hx.new nx).exd⟩
  have sx := s1.trans (same_new nx (ExcO x (.ref c) dx))
  have hx' := hx.new (o := ExcO x (.ref c) dx) nx
  have hex : (upd H1 x (ExcO x (.ref c) dx)) x = some (ExcO x (.ref c) dx) := upd_same
  generalize upd H1 x (ExcO x (.ref c) dx) = H2 at *
  have L := Led.start H2 (fun _ => False)
  walk_at "go"
  refine g_isiXc ex (ek 0 CD rfl) ?_
  walk_at "go"
  refine g_isiXc ex (ek 1 CU rfl) ?_
  walk_at "go"
  refine g_isiXc ex (ek 2 CA rfl) ?_
  walk_at "go"
  have ex2 : ExA K H' x c dx := ⟨L'.same _ _ hex, eg, (hx'.same L'.same).exd⟩
  refine g_isiXc ex2 (ek 3 CN rfl) ?_
  walk_at "go"
  refine g_isiXc ex2 (ek 4 CW rfl) ?_
  walk_at "go"
  refine g_isiXc ex2 (ek 5 CT rfl) ?_
  walk_at "go"
  rename_i lA HA nA LA sA lB HB nB LB sB HC nC LC sC sD
  exact q _ (.err j) [] pl _ ho (.inl ⟨j, _, l', rfl, rfl, L'.tup (by walk_at "mem"), L'.eo (p := l') .head, none_of' ((sx.trans sA).trans sB) nC⟩) (app0 ((hd.same sx).same L'.same)) (ok0 hok hok.k0) (Nat.zero_le _) (Fr2.of (sx.trans L'.same))
 ·have L := Led.start H1 (fun _ => False)
  walk_at "go"
  exact q _ o ls2 pl2 _ ho (.inr ⟨fun j z => by rw [z] at hv; exact hv.elim, _, v, rfl, L'.tup (by walk_at "mem"), hv.ts (ts_of_same L'.same)⟩) (hd1.same L'.same) hok1 hl2 (f1.trans (Fr2.of L'.same))
end
end Law

namespace L4
open PySem PySem.Spec PyProof.Rows L2 L3
def tNever : TE := fun _ _ _ => False
theorem pe_never {X : Cx} {e : Expr} : PE X e tNever := fun _ _ _ _ _ _ h => h.elim
end L4
namespace Law
open PySem PySem.Spec PyProof.Rows L2 L3 L4
inductive Lt where
 | news (ot nm : Str) (b : Int)
 | grant (nm : Str) (n sl f e : Int)
def LtAt (H : Hp) (t : Addr) : Lt → Prop
 | .news ot nm b => H t = some (.tup [.str "news", .str ot, .str nm, .int b])
 | .grant nm n sl f e => 1 ≤ n ∧ ∃ a, H t = some (.tup [.str "grant", .str nm, .int n, .ref a]) ∧ H a = some (.tup [.int sl, .int f, .int e])
theorem LtAt.ts {H H' : Hp} {t : Addr} {x : Lt} (h : LtAt H t x) (s : TSame H H') : LtAt H' t x := by
 cases x with
 | news ot nm b => exact s _ _ h
 | grant nm n sl f e => obtain ⟨h1, a, h2, h3⟩ := h; exact ⟨h1, a, s _ _ h2, s _ _ h3⟩
theorem LtAt.same {H H' : Hp} {t : Addr} {x : Lt} (h : LtAt H t x) (s : Same H H') : LtAt H' t x := h.ts (ts_of_same s)
def ltD : Lt → Dt
 | .news ot nm b => .tup [.str "news", .str ot, .str nm, .int b]
 | .grant nm n sl f e => .tup [.str "grant", .str nm, .int n, .tup [.int sl, .int f, .int e]]
theorem LtAt.at {K : PySem.W.Frag} {H : Hp} {t : Addr} {x : Lt} (h : LtAt H t x) : At K H (.ref t) (ltD x) := by
 cases x with
 | news ot nm b => exact .tup (SqT.of (show H t = _ from h)) (.cons (.str _) (.cons (.str _) (.cons (.str _) (.cons (.int _) .nil))))
 | grant nm n sl f e => obtain ⟨_, a, h2, h3⟩ := h; exact .tup (SqT.of h2) (.cons (.str _) (.cons (.str _) (.cons (.int _) (.cons (.tup (SqT.of h3) (.cons (.int _) (.cons (.int _) (.cons (.int _) .nil)))) .nil))))
abbrev Lts := List (Addr × Lt)
def ltV (ts : Lts) : List V := ts.map fun x => V.ref x.1
def LtsAt (H : Hp) (ts : Lts) : Prop := ∀ x ∈ ts, LtAt H x.1 x.2
theorem LtsAt.ts {H H' : Hp} {ts : Lts} (h : LtsAt H ts) (s : TSame H H') : LtsAt H' ts := fun x hx => (h x hx).ts s
theorem LtsAt.same {H H' : Hp} {ts : Lts} (h : LtsAt H ts) (s : Same H H') : LtsAt H' ts := fun x hx => (h x hx).same s
theorem ltV_len (ts : Lts) : (ltV ts).length = ts.length := List.length_map ..
theorem ltV_snoc (ts : Lts) (x : Addr × Lt) : ltV (ts ++ [x]) = ltV ts ++ [.ref x.1] := by unfold ltV; rw [List.map_append]; rfl
theorem lts_ats {K : PySem.W.Frag} {H : Hp} : ∀ {ts : Lts}, LtsAt H ts → Ats K H (ltV ts) (ts.map fun x => ltD x.2)
 | [], _ => .nil
 | x :: ts, h => .cons (h x List.mem_cons_self).at (lts_ats fun y hy => h y (List.mem_cons_of_mem _ hy))
theorem lts_dep : ∀ (ts : Lts), deps (ts.map fun x => ltD x.2) ≤ 2
 | [] => by simp [deps]
 | (a, x) :: ts => by
  have := lts_dep ts
  have hd : dep (ltD x) ≤ 2 := by cases x <;> simp [ltD, dep, deps]
  simp only [List.map_cons, deps]; omega
theorem lts_dep' (ts : Lts) : dep (.lst (ts.map fun x => ltD x.2)) ≤ 100 := by
 have := lts_dep ts
 simp only [dep]; omega
theorem lts_at {K : PySem.W.Frag} {H : Hp} {ts : Lts} {a : Addr} (s : SqL K H a (ltV ts)) (h : LtsAt H ts) : At K H (.ref a) (.lst (ts.map fun x => ltD x.2)) := .lst s (lts_ats h)
theorem lts_eqnil (ts : Lts) : eqD (.lst (ts.map fun x => ltD x.2)) (.lst []) = decide (ts.length = 0) := by
 cases ts with
 | nil => rfl
 | cons x ts => rfl
def ltOp : Lt → Op
 | .news _ _ b => .hear b
 | .grant _ n sl f e => .take n sl f e
def DuAt (H : Hp) (v : V) (o : Ou) : Prop := (∃ j t, o = .err j ∧ v = .ref t ∧ H t = some (.tup [.str "refused", .bl (decide (0 = j))])) ∨ ((∀ j, o ≠ .err j) ∧ ∃ t u, v = .ref t ∧ H t = some (.tup [.str "told", u]) ∧ OuAt H u o)
def duD : Ou → Dt
 | .err j => .tup [.str "refused", .bl (decide (0 = j))]
 | o => .tup [.str "told", ouD o]
theorem du_told {o : Ou} (n : ∀ j, o ≠ .err j) : duD o = .tup [.str "told", ouD o] := by
 cases o with
 | err j => exact absurd rfl (n j)
 | non => rfl
 | bl b => rfl
 | int n => rfl
 | pr a b => rfl
theorem DuAt.at {K : PySem.W.Frag} {H : Hp} {v : V} {o : Ou} (h : DuAt H v o) : At K H v (duD o) := by
 rcases h with ⟨j, t, rfl, rfl, h1⟩ | ⟨n, t, u, rfl, h1, h2⟩
 ·exact .tup (SqT.of h1) (.cons (.str _) (.cons (.bl _) .nil))
 ·rw [du_told n]
  exact .tup (SqT.of h1) (.cons (.str _) (.cons h2.at .nil))
theorem du_dep (o : Ou) : dep (duD o) ≤ 100 := by cases o <;> simp [duD, ouD, dep, deps]
theorem DuAt.ts {H H' : Hp} {v : V} {o : Ou} (h : DuAt H v o) (s : TSame H H') : DuAt H' v o := by
 rcases h with ⟨j, t, rfl, rfl, h1⟩ | ⟨n, t, u, rfl, h1, h2⟩
 ·exact .inl ⟨j, t, rfl, rfl, s _ _ h1⟩
 ·exact .inr ⟨n, t, u, rfl, s _ _ h1, h2.ts s⟩
section
variable {P : Program} {w : World} {K : PySem.W.Frag} {mg : Str → Option Value} {base : Heap} {C CS CH CD CU CA CN CW CT CR CP CL : Addr}
theorem sc_carryH : FnScope ["self", "number", "hand", "lender", "letter", "lent"] ["self", "number", "hand", "lender"] (defScope (inClass (top 12) 4)) := by walk_at "s"
def spCarryH (C CS CH CD CU CA CN CW CT CP : Addr) : Sp := fun vs H Q E => ∃ (d : Hd) (ls : Lns) (pl : Option (Int × Int)) (pp lp t : Addr) (ts : Lts) (j : Nat) (x : Lt), vs = [.ref pp, .int ((j : Int) + 1), .ref d.p, .non] ∧ PoAt CP H pp lp (ltV ts) ∧ ts[j]? = some (t, x) ∧ LtAt H t x ∧ HdAt C CS CH H d ls pl ∧ HdOk ls pl ∧ ls.length ≤ 97 ∧ AfE (ers CD CU CA CN CW CT) d ls pl (ltOp x) H E ∧ AfH C CS CH d ls pl (ltOp x) H Q
theorem ok_carryH (D : MDat K CP "carry" "Post.carry" (inClass (top 12) 4) ["self", "number", "hand", "lender"]) (BT : Bt mg) (NE : NoErr (CX1 P w)) (M_Post_letter : MCal P w K mg base (CX1 P w) CP "letter" 3 ["self", "number"] (spLetter CP CL)) (M_Hand_take : MCal P w K mg base (CX1 P w) CH "take" 6 ["self", "grant", "area"] (spTake C CS CH CD)) (M_Hand_hear : MCal P w K mg base (CX1 P w) CH "hear" 6 ["self", "bound"] (spHear C CS CH CD)) : MCal P w K mg base (CX1 P w) CP "carry" 7 ["self", "number", "hand", "lender"] (spCarryH C CS CH CD CU CA CN CW CT CP) := by
 have S := sc_carryH
 refine mdat_okR D S (fun vs H Q E h => ?_) (fun f cdv A outer s H vs Q E hr h => ?_)
 ·obtain ⟨d, ls, pl, pp, lp, t, ts, j, x, rfl, _⟩ := h
  rfl
 obtain ⟨d, ls, pl, pp, lp, t, ts, j, x, rfl, hpo, hj, hx, hd, hok, hl, qe, q⟩ := h
 refine ⟨_, (@pss_cons _ _ _ _ _ (@ps_set _ _ 4 _ _ _ _ S.nd rfl (by first | exact Or.inl rfl | exact Or.inr rfl) (@pe_mtX _ _ _ _ _ _ _ _ _ _ _ _ _ _ _ M_Post_letter (hr.mono (by first | decide | omega)) (@paX_self _ _) (@pv _ 0 _ _ (by rfl) (by first | exact Or.inl rfl | exact Or.inr (Or.inl rfl) | exact Or.inr (Or.inr rfl)) (by decide) (by decide)) (@pa_cons _ _ _ _ _ (@pv _ 1 _ _ (by rfl) (by first | exact Or.inl rfl | exact Or.inr (Or.inl rfl) | exact Or.inr (Or.inr rfl)) (by decide) (by decide)) (@pa_nil _) (by rfl)) (by rfl) (by rfl) (by rfl)) (by rfl) (by first | exact .inl rfl | exact .inr rfl | assumption)) (@pss_cons _ _ _ _ _ (@ps_if _ _ _ _ _ _ _ _ (@pt_cmpR _ _ _ _ _ _ _ _ (@op_eq _) (@pe_ix _ _ _ _ _ _ _ (@ix_tup _) (@pv _ 4 _ _ (by rfl) (by first | exact Or.inl rfl | exact Or.inr (Or.inl rfl) | exact Or.inr (Or.inr rfl)) (by decide) (by decide)) (@pe_int _ _ _ _) (fun _ _ => rfl)) (@pe_str _ _ _ _) (@nomark _ _ (by decide) (by decide))) (@pss_cons _ _ _ _ _ (@ps_set _ _ 5 _ _ _ _ S.nd rfl (by first | exact Or.inl rfl | exact Or.inr rfl) pe_never (by rfl) (by first | exact .inl rfl | exact .inr rfl | assumption)) (@pss_one _ _ _ (@ps_ret _ _ _ _ (@pe_tup _ _ _ _ _ (@pa_cons _ _ _ _ _ (@pe_str _ _ _ _) (@pa_cons _ _ _ _ _ (@pe_ix _ _ _ _ _ _ _ (@ix_tup _) (@pv _ 4 _ _ (by rfl) (by first | exact Or.inl rfl | exact Or.inr (Or.inl rfl) | exact Or.inr (Or.inr rfl)) (by decide) (by decide)) (@pe_int _ _ _ _) (fun _ _ => rfl)) (@pa_cons _ _ _ _ _ (@pe_ix _ _ _ _ _ _ _ (@ix_tup _) (@pv _ 5 _ _ (by rfl) (by first | exact Or.inl rfl | exact Or.inr (Or.inl rfl) | exact Or.inr (Or.inr rfl)) (by decide) (by decide)) (@pe_int _ _ _ _) (fun _ _ => rfl)) (@pa_cons _ _ _ _ _ (@pe_ix _ _ _ _ _ _ _ (@ix_tup _) (@pv _ 5 _ _ (by rfl) (by first | exact Or.inl rfl | exact Or.inr (Or.inl rfl) | exact Or.inr (Or.inr rfl)) (by decide) (by decide)) (@pe_int _ _ _ _) (fun _ _ => rfl)) (@pa_nil _) (by rfl)) (by rfl)) (by rfl)) (by rfl)))))) (@pss_nil _)) (@pss_cons _ _ _ _ _ (@ps_if _ _ _ _ _ _ _ _ (@pt_cmpR _ _ _ _ _ _ _ _ (@op_eq _) (@pe_ix _ _ _ _ _ _ _ (@ix_tup _) (@pv _ 4 _ _ (by rfl) (by first | exact Or.inl rfl | exact Or.inr (Or.inl rfl) | exact Or.inr (Or.inr rfl)) (by decide) (by decide)) (@pe_int _ _ _ _) (fun _ _ => rfl)) (@pe_str _ _ _ _) (@nomark _ _ (by decide) (by decide))) (@pss_one _ _ _ (@ps_ret _ _ _ _ (@pe_mtX _ _ _ _ _ _ _ _ _ _ _ _ _ _ _ M_Hand_take (hr.mono (by first | decide | omega)) (@paX_self _ _) (@pv _ 2 _ _ (by rfl) (by first | exact Or.inl rfl | exact Or.inr (Or.inl rfl) | exact Or.inr (Or.inr rfl)) (by decide) (by decide)) (@pa_cons _ _ _ _ _ (@pe_ix _ _ _ _ _ _ _ (@ix_tup _) (@pv _ 4 _ _ (by rfl) (by first | exact Or.inl rfl | exact Or.inr (Or.inl rfl) | exact Or.inr (Or.inr rfl)) (by decide) (by decide)) (@pe_int _ _ _ _) (fun _ _ => rfl)) (@pa_cons _ _ _ _ _ (@pe_ix _ _ _ _ _ _ _ (@ix_tup _) (@pv _ 4 _ _ (by rfl) (by first | exact Or.inl rfl | exact Or.inr (Or.inl rfl) | exact Or.inr (Or.inr rfl)) (by decide) (by decide)) (@pe_int _ _ _ _) (fun _ _ => rfl)) (@pa_nil _) (by rfl)) (by rfl)) (by rfl) (by rfl) (by rfl)))) (@pss_nil _)) (@pss_cons _ _ _ _ _ (@ps_if _ _ _ _ _ _ _ _ (@pt_cmpR _ _ _ _ _ _ _ _ (@op_eq _) (@pe_ix _ _ _ _ _ _ _ (@ix_tup _) (@pv _ 4 _ _ (by rfl) (by first | exact Or.inl rfl | exact Or.inr (Or.inl rfl) | exact Or.inr (Or.inr rfl)) (by decide) (by decide)) (@pe_int _ _ _ _) (fun _ _ => rfl)) (@pe_str _ _ _ _) (@nomark _ _ (by decide) (by decide))) (@pss_one _ _ _ (@ps_ret _ _ _ _ pe_never)) (@pss_nil _)) (@pss_one _ _ _ (@ps_ret _ _ _ _ (@pe_mtX _ _ _ _ _ _ _ _ _ _ _ _ _ _ _ M_Hand_hear (hr.mono (by first | decide | omega)) (@paX_self _ _) (@pv _ 2 _ _ (by rfl) (by first | exact Or.inl rfl | exact Or.inr (Or.inl rfl) | exact Or.inr (Or.inr rfl)) (by decide) (by decide)) (@pa_cons _ _ _ _ _ (@pe_ix _ _ _ _ _ _ _ (@ix_tup _) (@pv _ 4 _ _ (by rfl) (by first | exact Or.inl rfl | exact Or.inr (Or.inl rfl) | exact Or.inr (Or.inr rfl)) (by decide) (by decide)) (@pe_int _ _ _ _) (fun _ _ => rfl)) (@pa_nil _) (by rfl)) (by rfl) (by rfl) (by rfl)))))))), ?_⟩
 try dsimp only [cxOf]
 obtain ⟨⟨dx, hp1⟩, hp2⟩ := id hpo
 obtain ⟨⟨dy, sv, hp, _⟩, _⟩ := id hd
 have hjl := (List.getElem?_eq_some_iff.mp hj).1
 walk_at "go"
 refine g_methv hp1 (lk_miss (by decide +kernel)) ?_
 walk_at "go"
 refine ⟨pp, lp, _, _, rfl, hpo, fun v h1 h2 hv => ?_, fun z => absurd z (by rw [ltV_len]; omega)⟩
 obtain rfl : v = .ref t := by
  rw [show (((j : Int) + 1 - 1).toNat) = j by omega] at hv
  unfold ltV at hv
  rw [List.getElem?_map, hj] at hv
  exact (Option.some.inj hv).symm
 cases x with
 | news ot nm b =>
  have ht : H t = some (.tup [.str "news", .str ot, .str nm, .int b]) := hx
  have L := (Led.start H (fun _ => False)).more (tupAt t [_, _, _, _]) ht
  walk_at "go"
  refine g_ifDF (by decide +kernel) ?_
  walk_at "go"
  refine g_ifDF (by decide +kernel) ?_
  walk_at "go"
  refine g_ifDF (by decide +kernel) ?_
  walk_at "go"
  refine g_methv hp h_hear ?_
  walk_at "go"
  exact use_hearH hd hok hl qe q
 | grant nm n sl f e =>
  obtain ⟨hn, a, ht, ha⟩ := hx
  have L := (Led.start H (fun _ => False)).more (tupAt t [_, _, _, _]) ht
  walk_at "go"
  refine g_ifDF (by decide +kernel) ?_
  walk_at "go"
  refine g_methv hp h_take ?_
  walk_at "go"
  exact use_takeH hd hok hl hn ha qe q
theorem sc_ldueH : FnScope ["_law_letter_here", "_law_beside", "e"] ["_law_letter_here", "_law_beside"] (defScope (top 74)) := by walk_at "s"
def AfD (C CS CH : Addr) (d : Hd) (ls : Lns) (pl : Option (Int × Int)) (op : Op) (H : Hp) (Q : VK) : Prop := ∀ v o ls2 pl2 H', opF d (nt ls) (gmx ls) pl op = (o, ls2.map (·.2), pl2) → DuAt H' v o → HdAt C CS CH H' d (ls ++ ls2) pl2 → HdOk (ls ++ ls2) pl2 → ls2.length ≤ 1 → Fr2 d.p d.l H H' → Q v H'
def spLDueH (C CS CH : Addr) : Sp := fun vs H Q _ => ∃ (d : Hd) (ls : Lns) (pl : Option (Int × Int)) (t : Addr) (x : Lt), vs = [.ref t, .ref d.p] ∧ LtAt H t x ∧ HdAt C CS CH H d ls pl ∧ HdOk ls pl ∧ ls.length ≤ 97 ∧ AfD C CS CH d ls pl (ltOp x) H Q
theorem ok_ldueH (D : Dat K mg "_law_due" "_law_due" (top 74) ["_law_letter_here", "_law_beside"]) (BT : Bt mg) (NE : NoErr (CX1 P w)) (EA : ErA K CR (ers CD CU CA CN CW CT)) (hm_RiseError : mg "RiseError" = some (.ref CR)) (hm_Down : mg "Down" = some (.ref CD)) (M_Hand_take : MCal P w K mg base (CX1 P w) CH "take" 6 ["self", "grant", "area"] (spTake C CS CH CD)) (M_Hand_hear : MCal P w K mg base (CX1 P w) CH "hear" 6 ["self", "bound"] (spHear C CS CH CD)) : Cal P w K mg base (CX1 P w) "_law_due" 9 ["_law_letter_here", "_law_beside"] (spLDueH C CS CH) := by
 have S := sc_ldueH
 walk_at "d"
 ·obtain ⟨d, ls, pl, t, x, rfl, _⟩ := h
  rfl
 obtain ⟨d, ls, pl, t, x, rfl, hx, hd, hok, hl, q⟩ := h
 refine ⟨_, (pss_one (ps_tryAsK (i := 2) rfl rfl rfl hm_RiseError S.nd rfl rfl paX_no (fun _ _ => (pss_cons (ps_if (pt_cmpR op_eq (pe_ix (ix_tupK (K := K) rfl) (pv 0) pe_int (fun _ _ => rfl)) pe_str (nomark _)) (pss_one (ps_ret (pe_tup (pa_cons pe_str (pa_cons (pe_mtX M_Hand_take (hr.mono (by first | decide | omega)) paX_self (pv 1) (pa_cons (pe_ix (ix_tupK (K := K) rfl) (pv 0) pe_int (fun _ _ => rfl)) (pa_cons (pe_ix (ix_tupK (K := K) rfl) (pv 0) pe_int (fun _ _ => rfl)) pa_nil))) pa_nil))))) pss_nil)
    (pss_one (ps_ret (pe_tup (pa_cons pe_str (pa_cons (pe_mtX M_Hand_hear (hr.mono (by first | decide | omega)) paX_self (pv 1) (pa_cons (pe_ix (ix_tupK (K := K) rfl) (pv 0) pe_int (fun _ _ => rfl)) pa_nil)) pa_nil))))))) (fun _ => (pss_one (ps_ret (pe_tup (pa_cons pe_str (pa_cons (pe_isiXc rfl BT.isinstance hm_Down (pv 2)) pa_nil)))))))), ?_⟩
 try dsimp only [cxOf]
 obtain ⟨⟨dy, sv, hp, _⟩, _⟩ := id hd
 cases x with
 | news ot nm b =>
  have ht : H t = some (.tup [.str "news", .str ot, .str nm, .int b]) := hx
  have L := (Led.start H (fun _ => False)).more (tupAt t [_, _, _, _]) ht
  walk_at "go"
  refine g_ifDF (by decide +kernel) ?_
  walk_at "go"
  refine g_methv hp h_hear ?_
  walk_at "go"
  refine use_hearH (CU := CU) (CA := CA) (CN := CN) (CW := CW) (CT := CT) hd hok hl (fun j c dx H1 hj ho s1 hx => ?_) (fun v o ls2 pl2 H1 ho hv hd1 hok1 hl2 f1 => ?_)
  ·clear L
   obtain ⟨eg, em, ek⟩ := EA j c hj
   refine g_handAs em fun x nx => ?_
   have ex : ExA K (upd H1 x (ExcO x (.ref c) dx)) x c dx := ⟨upd_same, eg, (hx.new nx).exd⟩
   have sx := s1.trans (same_new nx (ExcO x (.ref c) dx))
   generalize upd H1 x (ExcO x (.ref c) dx) = H2 at *
   have L := Led.start H2 (fun _ => False)
   walk_at "go"
   refine g_isiXc ex (ek 0 CD rfl) ?_
   walk_at "go"
   exact q _ (.err j) [] pl _ ho (.inl ⟨j, _, rfl, rfl, L'.tup (by walk_at "mem")⟩) (app0 ((hd.same sx).same L'.same)) (ok0 hok hok.k0) (Nat.zero_le _) (Fr2.of (sx.trans L'.same))
  ·clear L
   have L := Led.start H1 (fun _ => False)
   walk_at "go"
   exact q _ o ls2 pl2 _ ho (.inr ⟨fun j z => by rw [z] at hv; exact hv.elim, _, v, rfl, L'.tup (by walk_at "mem"), hv.ts (ts_of_same L'.same)⟩) (hd1.same L'.same) hok1 hl2 (f1.trans (Fr2.of L'.same))
 | grant nm n sl f e =>
  obtain ⟨hn, a, ht, ha⟩ := hx
  have L := (Led.start H (fun _ => False)).more (tupAt t [_, _, _, _]) ht
  walk_at "go"
  refine g_methv hp h_take ?_
  walk_at "go"
  refine use_takeH (CU := CU) (CA := CA) (CN := CN) (CW := CW) (CT := CT) hd hok hl hn ha (fun j c dx H1 hj ho s1 hx => ?_) (fun v o ls2 pl2 H1 ho hv hd1 hok1 hl2 f1 => ?_)
  ·clear L
   obtain ⟨eg, em, ek⟩ := EA j c hj
   refine g_handAs em fun x nx => ?_
   have ex : ExA K (upd H1 x (ExcO x (.ref c) dx)) x c dx := ⟨upd_same, eg, (hx.new nx).exd⟩
   have sx := s1.trans (same_new nx (ExcO x (.ref c) dx))
   generalize upd H1 x (ExcO x (.ref c) dx) = H2 at *
   have L := Led.start H2 (fun _ => False)
   walk_at "go"
   refine g_isiXc ex (ek 0 CD rfl) ?_
   walk_at "go"
   exact q _ (.err j) [] pl _ ho (.inl ⟨j, _, rfl, rfl, L'.tup (by walk_at "mem")⟩) (app0 ((hd.same sx).same L'.same)) (ok0 hok hok.k0) (Nat.zero_le _) (Fr2.of (sx.trans L'.same))
  ·clear L
   have L := Led.start H1 (fun _ => False)
   walk_at "go"
   exact q _ o ls2 pl2 _ ho (.inr ⟨fun j z => by rw [z] at hv; exact hv.elim, _, v, rfl, L'.tup (by walk_at "mem"), hv.ts (ts_of_same L'.same)⟩) (hd1.same L'.same) hok1 hl2 (f1.trans (Fr2.of L'.same))
theorem sc_lreadH : FnScope ["_law_post", "_law_number_here", "_law_hand_here", "e"] ["_law_post", "_law_number_here", "_law_hand_here"] (defScope (top 75)) := by walk_at "s"
def spLReadH (C CS CH CP : Addr) : Sp := fun vs H Q _ => ∃ (d : Hd) (ls : Lns) (pl : Option (Int × Int)) (pp lp t : Addr) (ts : Lts) (j : Nat) (x : Lt), vs = [.ref pp, .int ((j : Int) + 1), .ref d.p] ∧ PoAt CP H pp lp (ltV ts) ∧ ts[j]? = some (t, x) ∧ LtAt H t x ∧ HdAt C CS CH H d ls pl ∧ HdOk ls pl ∧ ls.length ≤ 97 ∧ AfD C CS CH d ls pl (ltOp x) H Q
theorem ok_lreadH (D : Dat K mg "_law_read" "_law_read" (top 75) ["_law_post", "_law_number_here", "_law_hand_here"]) (BT : Bt mg) (NE : NoErr (CX1 P w)) (EA : ErA K CR (ers CD CU CA CN CW CT)) (hm_RiseError : mg "RiseError" = some (.ref CR)) (hm_Down : mg "Down" = some (.ref CD)) (M_Post_carry : MCal P w K mg base (CX1 P w) CP "carry" 7 ["self", "number", "hand", "lender"] (spCarryH C CS CH CD CU CA CN CW CT CP)) : Cal P w K mg base (CX1 P w) "_law_read" 9 ["_law_post", "_law_number_here", "_law_hand_here"] (spLReadH C CS CH CP) := by
 have S := sc_lreadH
 walk_at "d"
 ·obtain ⟨d, ls, pl, pp, lp, t, ts, j, x, rfl, _⟩ := h
  rfl
 obtain ⟨d, ls, pl, pp, lp, t, ts, j, x, rfl, hpo, hj, hx, hd, hok, hl, q⟩ := h
 refine ⟨_, (pss_one (ps_tryAsK (i := 3) rfl rfl rfl hm_RiseError S.nd rfl rfl paX_no (fun _ _ => (pss_one (ps_ret (pe_tup (pa_cons pe_str (pa_cons (pe_mtX M_Post_carry (hr.mono (by first | decide | omega)) paX_self (pv 0) (pa_cons (pv 1) (pa_cons (pv 2) (pa_cons pe_non pa_nil)))) pa_nil)))))) (fun _ => (pss_one (ps_ret (pe_tup (pa_cons pe_str (pa_cons (pe_isiXc rfl BT.isinstance hm_Down (pv 3)) pa_nil)))))))), ?_⟩
 try dsimp only [cxOf]
 obtain ⟨⟨dx, hp1⟩, hp2⟩ := id hpo
 walk_at "go"
 refine g_methv hp1 (lk_miss (by decide +kernel)) ?_
 walk_at "go"
 refine ⟨d, ls, pl, pp, lp, t, ts, j, x, rfl, hpo, hj, hx, hd, hok, hl, fun j c dx H1 hj ho s1 hx => ?_, fun v o ls2 pl2 H1 ho hv hd1 hok1 hl2 f1 => ?_⟩
 ·skip
  obtain ⟨eg, em, ek⟩ := EA j c hj
  refine g_handAs em fun x nx => ?_
  have ex : ExA K (upd H1 x (ExcO x (.ref c) dx)) x c dx := ⟨upd_same, eg, (hx.new nx).exd⟩
  have sx := s1.trans (same_new nx (ExcO x (.ref c) dx))
  generalize upd H1 x (ExcO x (.ref c) dx) = H2 at *
  have L := Led.start H2 (fun _ => False)
  walk_at "go"
  refine g_isiXc ex (ek 0 CD rfl) ?_
  walk_at "go"
  exact q _ (.err j) [] pl _ ho (.inl ⟨j, _, rfl, rfl, L'.tup (by walk_at "mem")⟩) (app0 ((hd.same sx).same L'.same)) (ok0 hok hok.k0) (Nat.zero_le _) (Fr2.of (sx.trans L'.same))
 ·skip
  have L := Led.start H1 (fun _ => False)
  walk_at "go"
  exact q _ o ls2 pl2 _ ho (.inr ⟨fun j z => by rw [z] at hv; exact hv.elim, _, v, rfl, L'.tup (by walk_at "mem"), hv.ts (ts_of_same L'.same)⟩) (hd1.same L'.same) hok1 hl2 (f1.trans (Fr2.of L'.same))
theorem sc_lalike : FnScope ["_law_found", "_law_due_here"] ["_law_found", "_law_due_here"] (defScope (top 76)) := by walk_at "s"
def spLAlike : Sp := fun vs H Q _ => ∃ (v u : V) (o : Ou), vs = [v, u] ∧ DuAt H v o ∧ DuAt H u o ∧ Q (.bl true) H
theorem ok_lalike {CX : CXT} (D : Dat K mg "_law_alike" "_law_alike" (top 76) ["_law_found", "_law_due_here"]) (BT : Bt mg) : Cal P w K mg base CX "_law_alike" 1 ["_law_found", "_law_due_here"] spLAlike := by
 have S := sc_lalike
 walk_at "d"
 ·obtain ⟨v, u, o, rfl, _⟩ := h
  rfl
 obtain ⟨v, u, o, rfl, hv, hu, q⟩ := h
 refine ⟨_, (pss_one (ps_ret (pe_and (pe_cmpR (op_eqD (hr.mono (Nat.zero_le _))) (pv 0) (pv 1) (nomark _)) (pe_one (pe_cmpR op_eq (pe_isi BT.isinstance BT.bool_ L3.bt_bool (pe_ix ix_tup (pv 0) pe_int (fun _ _ => rfl))) (pe_isi BT.isinstance BT.bool_ L3.bt_bool (pe_ix ix_tup (pv 1) pe_int (fun _ _ => rfl))) (nomark _)))))), ?_⟩
 try dsimp only [cxOf]
 walk_at "go"
 refine g_eqDT (d := duD o) hv.at hu.at (du_dep o) ?_
 have fin : ∀ (t t' : Addr) (z z' : Str) (a a' : V), v = .ref t → u = .ref t' → H t = some (.tup [.str z, a]) → H t' = some (.tup [.str z', a']) → True := fun _ _ _ _ _ _ _ _ _ _ => trivial
 rcases hv with ⟨j, t, rfl, rfl, h1⟩ | ⟨n, t, x, rfl, h1, h2⟩
 ·rcases hu with ⟨j', t', e, rfl, h1'⟩ | ⟨n', _⟩
  ·cases e
   have L := ((Led.start H (fun _ => False)).more (tupAt t [_, _]) h1).more (tupAt t' [_, _]) h1'
   walk_at "go"
   refine g_isiI (.bl _) rfl ?_
   walk_at "go"
   refine g_isiI (.bl _) rfl ?_
   walk_at "go"
   exact q
  ·exact absurd rfl (n' j)
 ·rcases hu with ⟨j', t', e, rfl, h1'⟩ | ⟨n', t', x', rfl, h1', h2'⟩
  ·exact absurd e (n j')
  have L := ((Led.start H (fun _ => False)).more (tupAt t [_, _]) h1).more (tupAt t' [_, _]) h1'
  cases o with
  | err j => exact absurd rfl (n j)
  | non =>
   obtain rfl : x = .non := h2
   obtain rfl : x' = .non := h2'
   walk_at "go"
   refine g_isiI .non rfl ?_
   walk_at "go"
   refine g_isiI .non rfl ?_
   walk_at "go"
   exact q
  | bl b =>
   obtain rfl : x = .bl b := h2
   obtain rfl : x' = .bl b := h2'
   walk_at "go"
   refine g_isiI (.bl b) rfl ?_
   walk_at "go"
   refine g_isiI (.bl b) rfl ?_
   walk_at "go"
   exact q
  | int n0 =>
   obtain rfl : x = .int n0 := h2
   obtain rfl : x' = .int n0 := h2'
   walk_at "go"
   refine g_isiI (.int n0) rfl ?_
   walk_at "go"
   refine g_isiI (.int n0) rfl ?_
   walk_at "go"
   exact q
  | pr a b =>
   obtain ⟨s1, rfl, e1⟩ := h2
   obtain ⟨s2, rfl, e2⟩ := h2'
   walk_at "go"
   refine g_isiI (.tup e1) rfl ?_
   walk_at "go"
   refine g_isiI (.tup e2) rfl ?_
   walk_at "go"
   exact q
end
end Law

namespace Law
open PySem PySem.Spec PyProof.Rows L2 L3 L4
section
variable {P : Program} {w : World} {K : PySem.W.Frag} {mg : Str → Option Value} {base : Heap} {CX : CXT} {C CS CH CD CU CA CN CW CT CR CP CL : Addr}
theorem hdF_name (nm : Str) (ps l : Addr) (sv : V) : (hdF nm ps l sv).lookup ("name" : Str) = some (.str nm) := by unfold hdF; walk_at "lk"
theorem sc_lreading : FnScope ["_law_cell", "_law_hand_here"] ["_law_cell", "_law_hand_here"] (defScope (top 77)) := by walk_at "s"
def spLReadingH (C CS CH : Addr) : Sp := fun vs H Q _ => ∃ (p : Addr) (b : Int) (d : Hd) (ls : Lns) (pl : Option (Int × Int)), vs = [.ref p, .ref d.p] ∧ HandAt H p b ∧ b ≤ 1000000 ∧ HdAt C CS CH H d ls pl ∧ ∀ (r : Int) (H' : Hp), Oth p H H' → Q (.int r) H'
theorem ok_lreadingH (D : Dat K mg "_law_reading" "_law_reading" (top 77) ["_law_cell", "_law_hand_here"]) (BT : Bt mg) (NE : NoErr CX) (c__law_pick : Cal P w K mg base CX "_law_pick" 11 ["_law_hand_here", "_law_many"] spPick) (M_Hand_is_up : MCal P w K mg base CX CH "is_up" 1 ["self"] (spIsUp C CS CH)) (M_Hand_place : MCal P w K mg base CX CH "place" 1 ["self"] (spPlace C CS CH)) : Cal P w K mg base CX "_law_reading" 12 ["_law_cell", "_law_hand_here"] (spLReadingH C CS CH) := by
 have S := sc_lreading
 walk_at "d"
 ·obtain ⟨p, b, d, ls, pl, rfl, _⟩ := h
  rfl
 obtain ⟨p, b, d, ls, pl, rfl, hh, hb, hd, q⟩ := h
 refine ⟨_, (pss_cons (ps_if (pt_not (pt_val (pe_mt0 M_Hand_is_up (hr.mono (by first | decide | omega)) NE.pass (pv 1)))) (pss_one (ps_ret pe_int)) pss_nil)
   (pss_one (ps_ret (pe_callB (c_max rfl) rfl BT.max L3.bt_max (pa_cons pe_int (pa_cons (pe_op op_sub (pe_op op_add (pe_ix ix_tup (pe_mt0 M_Hand_place (hr.mono (by first | decide | omega)) NE.pass (pv 1)) pe_int (fun _ _ => rfl)) (pe_fn c__law_pick (hr.mono (by first | decide | omega)) NE.pass (pa_cons (pv 0) (pa_cons pe_int pa_nil)))) pe_int) pa_nil)))))), ?_⟩
 try dsimp only [cxOf]
 obtain ⟨⟨dx, sv, hp, _⟩, _⟩ := id hd
 walk_at "go"
 refine g_methv hp h_is_up ?_
 walk_at "go"
 refine ⟨d, ls, pl, rfl, hd, ?_⟩
 cases pl with
 | none =>
  dsimp only [Option.isSome]
  walk_at "go"
  exact q _ _ (Oth.refl _ _)
 | some mk2 =>
  obtain ⟨m, k⟩ := mk2
  dsimp only [Option.isSome]
  walk_at "go"
  refine g_methv hp h_place ?_
  walk_at "go"
  refine ⟨d, ls, _, rfl, hd, fun v hv => ?_⟩
  rcases hv with ⟨z, _⟩ | ⟨t, m', k', e, rfl, ht⟩
  ·cases z
  cases e
  have L := (led_hand hh).more (tupAt t [_, _]) ht
  walk_at "go"
  refine use_pick L .head (by decide) (by decide) (by omega) fun r1 H1 a0 a1 L _ => ?_
  walk_at "go"
  exact q _ _ L.fr
theorem sc_lletterH : FnScope ["_law_cell", "_law_hand_here", "_law_other", "_law_slots", "_law_most", "_law_least", "_law_bound", "_law_number_here", "_law_first"] ["_law_cell", "_law_hand_here", "_law_other", "_law_slots", "_law_most"] (defScope (top 73)) := by walk_at "s"
def spLLetterH (C CS CH : Addr) : Sp := fun vs H Q _ => ∃ (p : Addr) (b : Int) (d : Hd) (ls : Lns) (pl : Option (Int × Int)) (ot : Str) (sl mo : Int), vs = [.ref p, .ref d.p, .str ot, .int sl, .int mo] ∧ HandAt H p b ∧ b ≤ 1000000 ∧ HdAt C CS CH H d ls pl ∧ 1 ≤ sl ∧ sl ≤ 1000 ∧ 0 ≤ mo ∧ ∀ (t : Addr) (x : Lt) (H' : Hp), LtAt H' t x → Oth p H H' → Q (.ref t) H'
theorem ok_lletterH (D : Dat K mg "_law_letter" "_law_letter" (top 73) ["_law_cell", "_law_hand_here", "_law_other", "_law_slots", "_law_most"]) (HC : HdC K CH) (BT : Bt mg) (NE : NoErr CX) (c__law_pick : Cal P w K mg base CX "_law_pick" 11 ["_law_hand_here", "_law_many"] spPick) (c__law_number : Cal P w K mg base CX "_law_number" 12 ["_law_cell"] spLNumber) (M_Hand_is_up : MCal P w K mg base CX CH "is_up" 1 ["self"] (spIsUp C CS CH)) (M_Hand_place : MCal P w K mg base CX CH "place" 1 ["self"] (spPlace C CS CH)) : Cal P w K mg base CX "_law_letter" 13 ["_law_cell", "_law_hand_here", "_law_other", "_law_slots", "_law_most"] (spLLetterH C CS CH) := by
 have S := sc_lletterH
 walk_at "d"
 ·obtain ⟨p, b, d, ls, pl, ot, sl, mo, rfl, _⟩ := h
  rfl
 obtain ⟨p, b, d, ls, pl, ot, sl, mo, rfl, hh, hb, hd, s1, s2, m0, q⟩ := h
 refine ⟨_, (@pss_cons _ _ _ _ _ (@ps_set _ _ 5 _ _ _ _ S.nd rfl (by first | exact Or.inl rfl | exact Or.inr rfl) (@pe_int _ _ _ _) (by rfl) (by first | exact .inl rfl | exact .inr rfl | assumption)) (@pss_cons _ _ _ _ _ (@ps_if _ _ _ _ _ _ _ _ (@pt_val _ _ _ (@pe_mt0 _ _ _ _ _ _ _ _ _ _ _ _ _ M_Hand_is_up (hr.mono (by first | decide | omega)) NE.pass (@pv _ 1 _ _ (by rfl) (by first | exact Or.inl rfl | exact Or.inr (Or.inl rfl) | exact Or.inr (Or.inr rfl)) (by decide) (by decide)) (by rfl)) (by intro _; rfl)) (@pss_one _ _ _ (@ps_set _ _ 5 _ _ _ _ S.nd rfl (by first | exact Or.inl rfl | exact Or.inr rfl) (@pe_ix _ _ _ _ _ _ _ (@ix_tup _) (@pe_mt0 _ _ _ _ _ _ _ _ _ _ _ _ _ M_Hand_place (hr.mono (by first | decide | omega)) NE.pass (@pv _ 1 _ _ (by rfl) (by first | exact Or.inl rfl | exact Or.inr (Or.inl rfl) | exact Or.inr (Or.inr rfl)) (by decide) (by decide)) (by rfl)) (@pe_int _ _ _ _) (fun _ _ => rfl)) (by rfl) (by first | exact .inl rfl | exact .inr rfl | assumption))) (@pss_nil _)) (@pss_cons _ _ _ _ _ (@ps_if _ _ _ _ _ _ _ _ (@pt_cmpR _ _ _ _ _ _ _ _ (@op_eq _) (@pe_fn _ _ _ _ _ _ _ _ _ _ _ _ c__law_pick (hr.mono (by first | decide | omega)) NE.pass (@pa_cons _ _ _ _ _ (@pv _ 0 _ _ (by rfl) (by first | exact Or.inl rfl | exact Or.inr (Or.inl rfl) | exact Or.inr (Or.inr rfl)) (by decide) (by decide)) (@pa_cons _ _ _ _ _ (@pe_int _ _ _ _) (@pa_nil _) (by rfl)) (by rfl)) (by rfl) (by decide) (by rfl) (by rfl)) (@pe_int _ _ _ _) (@nomark _ _ (by decide) (by decide))) (@pss_cons _ _ _ _ _ (@ps_set _ _ 6 _ _ _ _ S.nd rfl (by first | exact Or.inl rfl | exact Or.inr rfl) (@pe_callB _ _ _ _ _ _ _ _ _ (@c_max _ rfl) rfl BT.max L3.bt_max (@pa_cons _ _ _ _ _ (@pe_int _ _ _ _) (@pa_cons _ _ _ _ _ (@pe_op _ _ _ _ _ _ _ _ (@op_sub _) (@pe_op _ _ _ _ _ _ _ _ (@op_add _) (@pv _ 5 _ _ (by rfl) (by first | exact Or.inl rfl | exact Or.inr (Or.inl rfl) | exact Or.inr (Or.inr rfl)) (by decide) (by decide)) (@pe_fn _ _ _ _ _ _ _ _ _ _ _ _ c__law_pick (hr.mono (by first | decide | omega)) NE.pass (@pa_cons _ _ _ _ _ (@pv _ 0 _ _ (by rfl) (by first | exact Or.inl rfl | exact Or.inr (Or.inl rfl) | exact Or.inr (Or.inr rfl)) (by decide) (by decide)) (@pa_cons _ _ _ _ _ (@pe_int _ _ _ _) (@pa_nil _) (by rfl)) (by rfl)) (by rfl) (by decide) (by rfl) (by rfl))) (@pe_int _ _ _ _)) (@pa_nil _) (by rfl)) (by rfl)) (by decide) (by decide) (by rfl) (by rfl)) (by rfl) (by first | exact .inl rfl | exact .inr rfl | assumption)) (@pss_cons _ _ _ _ _ (@ps_if _ _ _ _ _ _ _ _ (@pt_cmpR _ _ _ _ _ _ _ _ (@op_eq _) (@pe_fn _ _ _ _ _ _ _ _ _ _ _ _ c__law_pick (hr.mono (by first | decide | omega)) NE.pass (@pa_cons _ _ _ _ _ (@pv _ 0 _ _ (by rfl) (by first | exact Or.inl rfl | exact Or.inr (Or.inl rfl) | exact Or.inr (Or.inr rfl)) (by decide) (by decide)) (@pa_cons _ _ _ _ _ (@pe_int _ _ _ _) (@pa_nil _) (by rfl)) (by rfl)) (by rfl) (by decide) (by rfl) (by rfl)) (@pe_int _ _ _ _) (@nomark _ _ (by decide) (by decide))) (@pss_one _ _ _ (@ps_set _ _ 6 _ _ _ _ S.nd rfl (by first | exact Or.inl rfl | exact Or.inr rfl) (@pe_fn _ _ _ _ _ _ _ _ _ _ _ _ c__law_number (hr.mono (by first | decide | omega)) NE.pass (@pa_cons _ _ _ _ _ (@pv _ 0 _ _ (by rfl) (by first | exact Or.inl rfl | exact Or.inr (Or.inl rfl) | exact Or.inr (Or.inr rfl)) (by decide) (by decide)) (@pa_nil _) (by rfl)) (by rfl) (by decide) (by rfl) (by rfl)) (by rfl) (by first | exact .inl rfl | exact .inr rfl | assumption))) (@pss_nil _)) (@pss_one _ _ _ (@ps_ret _ _ _ _ (@pe_tup _ _ _ _ _ (@pa_cons _ _ _ _ _ (@pe_str _ _ _ _) (@pa_cons _ _ _ _ _ (@pv _ 2 _ _ (by rfl) (by first | exact Or.inl rfl | exact Or.inr (Or.inl rfl) | exact Or.inr (Or.inr rfl)) (by decide) (by decide)) (@pa_cons _ _ _ _ _ (@pe_fld _ _ _ _ _ (@pv _ 1 _ _ (by rfl) (by first | exact Or.inl rfl | exact Or.inr (Or.inl rfl) | exact Or.inr (Or.inr rfl)) (by decide) (by decide)) rfl) (@pa_cons _ _ _ _ _ (@pv _ 6 _ _ (by rfl) (by first | exact Or.inl rfl | exact Or.inr (Or.inl rfl) | exact Or.inr (Or.inr rfl)) (by decide) (by decide)) (@pa_nil _) (by rfl)) (by rfl)) (by rfl)) (by rfl))))))) (@pss_nil _)) (@pss_cons _ _ _ _ _ (@ps_set _ _ 7 _ _ _ _ S.nd rfl (by first | exact Or.inl rfl | exact Or.inr rfl) (@pe_op _ _ _ _ _ _ _ _ (@op_add _) (@pv _ 4 _ _ (by rfl) (by first | exact Or.inl rfl | exact Or.inr (Or.inl rfl) | exact Or.inr (Or.inr rfl)) (by decide) (by decide)) (@pe_int _ _ _ _)) (by rfl) (by first | exact .inl rfl | exact .inr rfl | assumption)) (@pss_cons _ _ _ _ _ (@ps_if _ _ _ _ _ _ _ _ (@pt_cmpR _ _ _ _ _ _ _ _ (@op_eq _) (@pe_fn _ _ _ _ _ _ _ _ _ _ _ _ c__law_pick (hr.mono (by first | decide | omega)) NE.pass (@pa_cons _ _ _ _ _ (@pv _ 0 _ _ (by rfl) (by first | exact Or.inl rfl | exact Or.inr (Or.inl rfl) | exact Or.inr (Or.inr rfl)) (by decide) (by decide)) (@pa_cons _ _ _ _ _ (@pe_int _ _ _ _) (@pa_nil _) (by rfl)) (by rfl)) (by rfl) (by decide) (by rfl) (by rfl)) (@pe_int _ _ _ _) (@nomark _ _ (by decide) (by decide))) (@pss_one _ _ _ (@ps_set _ _ 7 _ _ _ _ S.nd rfl (by first | exact Or.inl rfl | exact Or.inr rfl) (@pe_callB _ _ _ _ _ _ _ _ _ (@c_max _ rfl) rfl BT.max L3.bt_max (@pa_cons _ _ _ _ _ (@pe_int _ _ _ _) (@pa_cons _ _ _ _ _ (@pe_op _ _ _ _ _ _ _ _ (@op_sub _) (@pv _ 4 _ _ (by rfl) (by first | exact Or.inl rfl | exact Or.inr (Or.inl rfl) | exact Or.inr (Or.inr rfl)) (by decide) (by decide)) (@pe_fn _ _ _ _ _ _ _ _ _ _ _ _ c__law_pick (hr.mono (by first | decide | omega)) NE.pass (@pa_cons _ _ _ _ _ (@pv _ 0 _ _ (by rfl) (by first | exact Or.inl rfl | exact Or.inr (Or.inl rfl) | exact Or.inr (Or.inr rfl)) (by decide) (by decide)) (@pa_cons _ _ _ _ _ (@pe_int _ _ _ _) (@pa_nil _) (by rfl)) (by rfl)) (by rfl) (by decide) (by rfl) (by rfl))) (@pa_nil _) (by rfl)) (by rfl)) (by decide) (by decide) (by rfl) (by rfl)) (by rfl) (by first | exact .inl rfl | exact .inr rfl | assumption))) (@pss_nil _)) (@pss_cons _ _ _ _ _ (@ps_set _ _ 8 _ _ _ _ S.nd rfl (by first | exact Or.inl rfl | exact Or.inr rfl) (@pe_callB _ _ _ _ _ _ _ _ _ (@c_max _ rfl) rfl BT.max L3.bt_max (@pa_cons _ _ _ _ _ (@pe_int _ _ _ _) (@pa_cons _ _ _ _ _ (@pe_op _ _ _ _ _ _ _ _ (@op_sub _) (@pe_op _ _ _ _ _ _ _ _ (@op_add _) (@pv _ 5 _ _ (by rfl) (by first | exact Or.inl rfl | exact Or.inr (Or.inl rfl) | exact Or.inr (Or.inr rfl)) (by decide) (by decide)) (@pe_fn _ _ _ _ _ _ _ _ _ _ _ _ c__law_pick (hr.mono (by first | decide | omega)) NE.pass (@pa_cons _ _ _ _ _ (@pv _ 0 _ _ (by rfl) (by first | exact Or.inl rfl | exact Or.inr (Or.inl rfl) | exact Or.inr (Or.inr rfl)) (by decide) (by decide)) (@pa_cons _ _ _ _ _ (@pe_int _ _ _ _) (@pa_nil _) (by rfl)) (by rfl)) (by rfl) (by decide) (by rfl) (by rfl))) (@pe_int _ _ _ _)) (@pa_nil _) (by rfl)) (by rfl)) (by decide) (by decide) (by rfl) (by rfl)) (by rfl) (by first | exact .inl rfl | exact .inr rfl | assumption)) (@pss_one _ _ _ (@ps_ret _ _ _ _ (@pe_tup _ _ _ _ _ (@pa_cons _ _ _ _ _ (@pe_str _ _ _ _) (@pa_cons _ _ _ _ _ (@pe_fld _ _ _ _ _ (@pv _ 1 _ _ (by rfl) (by first | exact Or.inl rfl | exact Or.inr (Or.inl rfl) | exact Or.inr (Or.inr rfl)) (by decide) (by decide)) rfl) (@pa_cons _ _ _ _ _ (@pv _ 7 _ _ (by rfl) (by first | exact Or.inl rfl | exact Or.inr (Or.inl rfl) | exact Or.inr (Or.inr rfl)) (by decide) (by decide)) (@pa_cons _ _ _ _ _ (@pe_tup _ _ _ _ _ (@pa_cons _ _ _ _ _ (@pe_fn _ _ _ _ _ _ _ _ _ _ _ _ c__law_pick (hr.mono (by first | decide | omega)) NE.pass (@pa_cons _ _ _ _ _ (@pv _ 0 _ _ (by rfl) (by first | exact Or.inl rfl | exact Or.inr (Or.inl rfl) | exact Or.inr (Or.inr rfl)) (by decide) (by decide)) (@pa_cons _ _ _ _ _ (@pv _ 3 _ _ (by rfl) (by first | exact Or.inl rfl | exact Or.inr (Or.inl rfl) | exact Or.inr (Or.inr rfl)) (by decide) (by decide)) (@pa_nil _) (by rfl)) (by rfl)) (by rfl) (by decide) (by rfl) (by rfl)) (@pa_cons _ _ _ _ _ (@pv _ 8 _ _ (by rfl) (by first | exact Or.inl rfl | exact Or.inr (Or.inl rfl) | exact Or.inr (Or.inr rfl)) (by decide) (by decide)) (@pa_cons _ _ _ _ _ (@pe_op _ _ _ _ _ _ _ _ (@op_add _) (@pe_op _ _ _ _ _ _ _ _ (@op_add _) (@pv _ 8 _ _ (by rfl) (by first | exact Or.inl rfl | exact Or.inr (Or.inl rfl) | exact Or.inr (Or.inr rfl)) (by decide) (by decide)) (@pe_int _ _ _ _)) (@pe_fn _ _ _ _ _ _ _ _ _ _ _ _ c__law_pick (hr.mono (by first | decide | omega)) NE.pass (@pa_cons _ _ _ _ _ (@pv _ 0 _ _ (by rfl) (by first | exact Or.inl rfl | exact Or.inr (Or.inl rfl) | exact Or.inr (Or.inr rfl)) (by decide) (by decide)) (@pa_cons _ _ _ _ _ (@pe_int _ _ _ _) (@pa_nil _) (by rfl)) (by rfl)) (by rfl) (by decide) (by rfl) (by rfl))) (@pa_nil _) (by rfl)) (by rfl)) (by rfl))) (@pa_nil _) (by rfl)) (by rfl)) (by rfl)) (by rfl))))))))))), ?_⟩
 try dsimp only [cxOf]
 obtain ⟨⟨dx, sv, hp, _⟩, _⟩ := id hd
 have ndp : d.p ≠ p := hd.np hh
 walk_at "one"
 try dsimp only [gName]
 refine g_seq ?_
 walk_at "one"
 try dsimp only [gName]
 refine seq_mid (fun σ Hx => ∃ le : Int, σ = [some (.ref p), some (.ref d.p), some (.str ot), some (.int sl), some (.int mo), some (.int le), none, none, none] ∧ Hx = H) (fun nx kk => ?_) ?_
 ·walk_at "go"
  refine g_methv hp h_is_up ?_
  walk_at "go"
  refine ⟨d, ls, pl, rfl, hd, ?_⟩
  cases pl with
  | none =>
   dsimp only [Option.isSome]
   walk_at "go"
   exact kk _ _ ⟨_, rfl, rfl⟩
  | some mk2 =>
   obtain ⟨m, k⟩ := mk2
   dsimp only [Option.isSome]
   walk_at "go"
   refine g_methv hp h_place ?_
   walk_at "go"
   refine ⟨d, ls, _, rfl, hd, fun v hv => ?_⟩
   rcases hv with ⟨z, _⟩ | ⟨t, m', k', e, rfl, ht⟩
   ·cases z
   have L := (led_hand hh).more (tupAt t [_, _]) ht
   walk_at "go"
   exact kk _ _ ⟨_, rfl, rfl⟩
 rintro σ Hx ⟨le, rfl, rfl⟩
 have L := led_hand hh
 walk_at "go"
 refine use_pick L .head (by decide) (by decide) (by omega) fun r1 H1 a0 a1 L _ => ?_
 walk_at "go"
 refine g_ifD (fun c1 => ?_) (fun c1 => ?_)
 ·walk_at "go"
  refine use_pick L .head (by decide) (by decide) (by omega) fun r2 H2 b0 b1 L _ => ?_
  walk_at "one"
  try dsimp only [gName]
  refine seq_mid (fun σ Hy => ∃ bo : Int, σ = [some (.ref p), some (.ref d.p), some (.str ot), some (.int sl), some (.int mo), some (.int le), some (.int bo), none, none] ∧ Oth p Hx Hy) (fun nx kk => ?_) ?_
  ·walk_at "go"
   refine use_pick L .head (by decide) (by decide) (by omega) fun r3 H3 d0 d1 L _ => ?_
   walk_at "go"
   refine g_ifD (fun c2 => ?_) (fun c2 => ?_)
   ·have h3 := HandO.at (L.at_ (p, HandO _) (by walk_at "mem"))
    have o3 : Oth p Hx H3 := L.fr
    walk_at "go"
    refine ⟨p, _, rfl, h3, by omega, fun v H4 v0 h4 o4 => ?_⟩
    walk_at "go"
    exact kk _ _ ⟨_, rfl, o3.trans o4⟩
   ·walk_at "go"
    exact kk _ _ ⟨_, rfl, L.fr⟩
  rintro σ Hy ⟨bo, rfl, oy⟩
  clear L
  have L := Led.start Hy (fun _ => False)
  walk_at "go"
  refine ⟨d.p, CH, dx, _, _, rfl, oy _ _ hp ndp, HC.cl, HC.n1, hdF_name _ _ _ _, ?_⟩
  walk_at "go"
  exact q _ (.news ot d.nm bo) _ (L'.tup (by walk_at "mem")) fun z o e n => L'.same _ _ (oy z o e n)
 walk_at "one"
 try dsimp only [gName]
 refine g_seq ?_
 walk_at "one"
 try dsimp only [gName]
 have h1 := HandO.at (L.at_ (p, HandO _) (by walk_at "mem"))
 have o1 : Oth p Hx H1 := L.fr
 clear L
 have L := led_hand h1
 refine seq_mid (fun σ Hy => ∃ nu : Int, 1 ≤ nu ∧ σ = [some (.ref p), some (.ref d.p), some (.str ot), some (.int sl), some (.int mo), some (.int le), none, some (.int nu), none] ∧ HandAt Hy p (b + 4096) ∧ Oth p Hx Hy) (fun nx kk => ?_) ?_
 ·walk_at "go"
  refine use_pick L .head (by decide) (by decide) (by omega) fun r3 H3 d0 d1 L _ => ?_
  walk_at "go"
  refine g_ifD (fun c2 => ?_) (fun c2 => ?_)
  ·walk_at "go"
   refine use_pick L .head (by decide) (by decide) (by omega) fun r4 H4 e0 e1 L _ => ?_
   walk_at "go"
   exact kk _ _ ⟨_, by omega, rfl, (HandO.at (L.at_ (p, HandO _) (by walk_at "mem"))).mono (by omega), o1.trans L.fr⟩
  ·walk_at "go"
   exact kk _ _ ⟨_, by omega, rfl, (HandO.at (L.at_ (p, HandO _) (by walk_at "mem"))).mono (by omega), o1.trans L.fr⟩
 clear L
 rintro σ Hy ⟨nu, n1, rfl, hy, oy⟩
 have L := led_hand hy
 walk_at "go"
 refine use_pick L .head (by decide) (by decide) (by omega) fun r5 H5 f0 f1 L _ => ?_
 walk_at "go"
 refine ⟨d.p, CH, dx, _, _, rfl, L.fr _ _ (oy _ _ hp ndp) ndp, HC.cl, HC.n1, hdF_name _ _ _ _, ?_⟩
 walk_at "go"
 refine use_pick L .head (by omega) (by omega) (by omega) fun r6 H6 g0 g1 L _ => ?_
 walk_at "go"
 refine use_pick L .head (by decide) (by decide) (by omega) fun r7 H7 i0 i1 L _ => ?_
 walk_at "go"
 exact q _ (.grant d.nm nu _ _ _) _ ⟨n1, _, L'.tup (by walk_at "mem"), L'.tup (by walk_at "mem")⟩ (oy.trans L'.fr)
end
end Law

namespace Law
open PySem PySem.Spec PyProof.Rows L2 L3 L4
abbrev dh (d0 : Hd) (p l : Addr) : Hd := ⟨p, l, d0.ps, d0.sp, d0.nm, d0.c, d0.s, d0.far, d0.room, d0.term, d0.ws⟩
structure Wh where
 p : Addr
 l : Addr
 q : Addr
 m : Addr
 pp : Addr
 lp : Addr
 ls : Addr
 nq : Addr
structure WhOk (H : Hp) (x : Wh) : Prop where
 pq : x.p ≠ x.q
 ppp : x.pp ≠ x.p
 ppq : x.pp ≠ x.q
 lm : x.l ≠ x.m
 llp : x.l ≠ x.lp
 lls : x.l ≠ x.ls
 lnq : x.l ≠ x.nq
 mlp : x.m ≠ x.lp
 mls : x.m ≠ x.ls
 mnq : x.m ≠ x.nq
 pls : x.lp ≠ x.ls
 pnq : x.lp ≠ x.nq
 snq : x.ls ≠ x.nq
 np1 : H x.p = none
 np2 : H x.q = none
 nl : H x.l = none
 nm : H x.m = none
 np : H x.lp = none
 ns : H x.ls = none
structure Pv (C CS CH CP : Addr) (H Hx : Hp) (d0 : Hd) (x : Wh) (ts : Lts) (ls ls' : Lns) (pl : Option (Int × Int)) (ns : List Str) (i : Nat) : Prop where
 sm : Same H Hx
 ld : HdAt C CS CH Hx (dh d0 x.p x.l) ls pl
 le : HdAt C CS CH Hx (dh d0 x.q x.m) ls' pl
 eq : ls.map (·.2) = ls'.map (·.2)
 ok : HdOk ls pl
 ok' : HdOk ls' pl
 po : PoAt CP Hx x.pp x.lp (ltV ts)
 sn : Hx x.ls = some (.lst (ltV ts))
 lt : LtsAt Hx ts
 nq_ : Hx x.nq = some (.lst (ns.map V.str))
 gn : ls.length ≤ i
 tn : ts.length ≤ i
theorem chg_oth {H H' : Hp} {q : Addr} {xs : List V} (hq : H q = some (.lst xs)) (o : Oth q H H') : Chg q H H' := ⟨o, fun t ys e => o _ _ e (fun z => by rw [z, hq] at e; cases e)⟩
theorem PoAt.chg {CP : Addr} {Hx Hy : Hp} {p l q : Addr} {xs ys : List V} (h : PoAt CP Hx p l xs) (hq : Hx q = some (.lst ys)) (n : l ≠ q) (c : Oth q Hx Hy) : PoAt CP Hy p l xs := ⟨h.1.elim fun dx e => ⟨dx, c _ _ e fun z => by rw [z, hq] at e; cases e⟩, c _ _ h.2 n⟩
theorem PoAt.same {CP : Addr} {Hx Hy : Hp} {p l : Addr} {xs : List V} (h : PoAt CP Hx p l xs) (s : Same Hx Hy) : PoAt CP Hy p l xs := ⟨h.1.elim fun dx e => ⟨dx, s _ _ e⟩, s _ _ h.2⟩
theorem HdAt.chgL {C CS CH q : Addr} {H H' : Hp} {d : Hd} {ls : Lns} {pl : Option (Int × Int)} {xs : List V} (h : HdAt C CS CH H d ls pl) (hq : H q = some (.lst xs)) (n : d.l ≠ q) (o : Oth q H H') : HdAt C CS CH H' d ls pl := by
 obtain ⟨⟨dx, sv, hp, hpl⟩, hl, hL, ⟨dy, tr, ms, h1, h2, pm⟩, ⟨dz, h3⟩, hn⟩ := h
 have ne : ∀ q' u, H q' = some u → (∀ xs, u ≠ .lst xs) → q' ≠ q := fun q' u h1 h2 z => by rw [z, hq] at h1; cases h1; exact h2 _ rfl
 have ts : TSame H H' := fun q xs h => o q _ h (ne _ _ h fun _ z => nomatch z)
 exact ⟨⟨dx, sv, o _ _ hp (ne _ _ hp fun _ z => nomatch z), hpl.ts ts⟩, o _ _ hl n, hL.ts ts, ⟨dy, tr, ms, o _ _ h1 (ne _ _ h1 fun _ z => nomatch z), ts _ _ h2, pm⟩, ⟨dz, o _ _ h3 (ne _ _ h3 fun _ z => nomatch z)⟩, hn⟩
section
variable {C CS CH CP : Addr} {H Hx Hy : Hp} {d0 : Hd} {x : Wh} {ts : Lts} {ls ls' : Lns} {pl : Option (Int × Int)} {ns : List Str} {i : Nat}
theorem Pv.same (I : Pv C CS CH CP H Hx d0 x ts ls ls' pl ns i) (s : Same Hx Hy) : Pv C CS CH CP H Hy d0 x ts ls ls' pl ns i := ⟨I.sm.trans s, I.ld.same s, I.le.same s, I.eq, I.ok, I.ok', I.po.same s, s _ _ I.sn, I.lt.same s, s _ _ I.nq_, I.gn, I.tn⟩
theorem Pv.mono {j : Nat} (I : Pv C CS CH CP H Hx d0 x ts ls ls' pl ns i) (h : i ≤ j) : Pv C CS CH CP H Hx d0 x ts ls ls' pl ns j := ⟨I.sm, I.ld, I.le, I.eq, I.ok, I.ok', I.po, I.sn, I.lt, I.nq_, Nat.le_trans I.gn h, Nat.le_trans I.tn h⟩
structure Nq (H : Hp) (q : Addr) (x : Wh) : Prop where
 n : H q = none
 l : x.l ≠ q
 m : x.m ≠ q
 lp : x.lp ≠ q
 ls : x.ls ≠ q
 nq : x.nq ≠ q
theorem Pv.new {q : Addr} (I : Pv C CS CH CP H Hx d0 x ts ls ls' pl ns i) (h : Hx q = none) : Nq H q x :=
 ⟨none_of' I.sm h, old_ne I.ld.2.1 h, old_ne I.le.2.1 h, old_ne I.po.2 h, old_ne I.sn h, old_ne I.nq_ h⟩
theorem Pv.chg {q : Addr} {xs : List V} (I : Pv C CS CH CP H Hx d0 x ts ls ls' pl ns i) (N : Nq H q x) (hq : Hx q = some (.lst xs)) (c : Oth q Hx Hy) : Pv C CS CH CP H Hy d0 x ts ls ls' pl ns i :=
 have ch := chg_oth hq c
 ⟨fun y o e => c y o (I.sm _ _ e) (ne_of_none e N.n), I.ld.chgL hq N.l c, I.le.chgL hq N.m c, I.eq, I.ok, I.ok', I.po.chg hq N.lp c, c _ _ I.sn N.ls, I.lt.ts ch.ts, c _ _ I.nq_ N.nq, I.gn, I.tn⟩
theorem hd_ne {d : Hd} {a : Addr} {xs : List V} (h : HdAt C CS CH Hx d ls pl) (k : Hx a = some (.lst xs)) : a ≠ d.p := fun z => by
 obtain ⟨⟨dx, sv, hp, _⟩, _⟩ := h
 rw [z, hp] at k; cases k
theorem Pv.step {H1 H2 : Hp} {l2 m2 : Lns} {pl2 : Option (Int × Int)} (W : WhOk H x) (I : Pv C CS CH CP H Hx d0 x ts ls ls' pl ns i) (f1 : Fr2 x.p x.l Hx H1) (h1 : HdAt C CS CH H1 (dh d0 x.p x.l) (ls ++ l2) pl2) (k1 : HdOk (ls ++ l2) pl2) (f2 : Fr2 x.q x.m H1 H2) (h2 : HdAt C CS CH H2 (dh d0 x.q x.m) (ls' ++ m2) pl2) (k2 : HdOk (ls' ++ m2) pl2) (e : l2.map (·.2) = m2.map (·.2)) (hl : l2.length ≤ 1) : Pv C CS CH CP H H2 d0 x ts (ls ++ l2) (ls' ++ m2) pl2 ns (i + 1) := by
 have le1 : HdAt C CS CH H1 (dh d0 x.q x.m) ls' pl := I.le.fr2 I.ld (Ne.symm W.pq) (Ne.symm W.lm) f1
 have t1 := fr2_ts I.ld f1
 have t2 := fr2_ts le1 f2
 have ls1 : ∀ a xs, Hx a = some (.lst xs) → a ≠ x.l → a ≠ x.m → H2 a = some (.lst xs) := fun a xs h n1 n2 => by
  have h1' := f1 _ _ h (hd_ne I.ld h) n1
  exact f2 _ _ h1' (hd_ne le1 h1') n2
 refine ⟨fun y o z => f2 _ _ (f1 _ _ (I.sm _ _ z) (ne_of_none z W.np1) (ne_of_none z W.nl)) (ne_of_none z W.np2) (ne_of_none z W.nm), h1.fr2 le1 W.pq W.lm f2, h2, by rw [List.map_append, List.map_append, I.eq, e], k1, k2, ⟨?_, ls1 _ _ I.po.2 (Ne.symm W.llp) (Ne.symm W.mlp)⟩, ls1 _ _ I.sn (Ne.symm W.lls) (Ne.symm W.mls), (I.lt.ts t1).ts t2, ls1 _ _ I.nq_ (Ne.symm W.lnq) (Ne.symm W.mnq), by rw [List.length_append]; have := I.gn; omega, by have := I.tn; omega⟩
 obtain ⟨dx, hp⟩ := I.po.1
 have hl0 := I.ld.2.1
 have hp1 := f1 _ _ hp W.ppp (fun z => by rw [z, hl0] at hp; cases hp)
 have hl1 := le1.2.1
 exact ⟨dx, f2 _ _ hp1 W.ppq (fun z => by rw [z, hl1] at hp1; cases hp1)⟩
theorem Pv.send {H1 H2 : Hp} {t : Addr} {y : Lt} (W : WhOk H x) (I : Pv C CS CH CP H Hx d0 x ts ls ls' pl ns i) (ht : LtAt Hx t y) (c1 : Chg x.ls Hx H1) (e1 : H1 x.ls = some (.lst (ltV ts ++ [.ref t]))) (c2 : Oth x.lp H1 H2) (e2 : H2 x.lp = some (.lst (ltV ts ++ [.ref t]))) : Pv C CS CH CP H H2 d0 x (ts ++ [(t, y)]) ls ls' pl ns (i + 1) := by
 have hs1 := I.sn
 have hp1 := c1.oth _ _ I.po.2 W.pls
 have ch2 := chg_oth hp1 c2
 refine ⟨fun y o z => c2 _ _ (c1.oth _ _ (I.sm _ _ z) (ne_of_none z W.ns)) (ne_of_none z W.np), (I.ld.chgL hs1 W.lls c1.oth).chgL hp1 W.llp c2, (I.le.chgL hs1 W.mls c1.oth).chgL hp1 W.mlp c2, I.eq, I.ok, I.ok', ?_, ?_, fun z hz => ?_, c2 _ _ (c1.oth _ _ I.nq_ (Ne.symm W.snq)) (Ne.symm W.pnq), by have := I.gn; omega, by rw [List.length_append, List.length_singleton]; have := I.tn; omega⟩
 ·obtain ⟨dx, e⟩ := I.po.1
  have h1 := c1.oth _ _ e fun z => by rw [z, hs1] at e; cases e
  exact ⟨⟨dx, c2 _ _ h1 fun z => by rw [z, hp1] at h1; cases h1⟩, by rw [ltV_snoc]; exact e2⟩
 ·rw [ltV_snoc]; exact c2 _ _ e1 (Ne.symm W.pls)
 ·rcases List.mem_append.mp hz with hz | hz
  ·exact ((I.lt z hz).ts c1.ts).ts ch2.ts
  ·rw [List.mem_singleton.mp hz]; exact (ht.ts c1.ts).ts ch2.ts
end
end Law

namespace Law
open PySem PySem.Spec PyProof.Rows L2 L3 L4
section
variable {P : Program} {w : World} {K : PySem.W.Frag} {mg : Str → Option Value} {base : Heap} {CX : CXT} {C CS CH CD CU CA CN CW CT CR CP CL : Addr}
theorem use_post {H : Hp} {Q : VK} {E : XK} (q : ∀ x l H', H x = none → H l = none → PoAt CP H' x l [] → Same H H' → Q (.ref x) H') : Made CP (spPost CP) E [] H Q := by
 intro x dx nx nd ne
 refine ⟨x, dx, rfl, upd_same, fun l H' nl h1 h2 h3 => ⟨rfl, ?_⟩⟩
 have sm0 : Same H (upd (upd H dx (.own x)) x (.ins CP dx [])) := fun b o e => by rw [upd_ne (ne_of_none e nx), upd_ne (ne_of_none e nd)]; exact e
 exact q x l H' nx (none_of' sm0 nl) ⟨⟨dx, h1⟩, h2⟩ fun b o e => h3 b o (sm0 _ _ e) (ne_of_none e nx)
def plD : Option (Int × Int) → Dt
 | none => .non
 | some (m, k) => .tup [.int m, .int k]
theorem pl_at {H : Hp} {v : V} {pl : Option (Int × Int)} (h : PlAt H v pl) : At K H v (plD pl) := by
 rcases h with ⟨rfl, rfl⟩ | ⟨t, m, k, rfl, rfl, h⟩
 ·exact .non
 ·exact .tup (SqT.of h) (.cons (.int _) (.cons (.int _) .nil))
theorem pl_dep (pl : Option (Int × Int)) : dep (plD pl) ≤ 100 := by
 cases pl with
 | none => simp [plD, dep]
 | some x => obtain ⟨m, k⟩ := x; simp [plD, dep, deps]
theorem sc_law : FnScope ["_law_script", "_law_cell", "_law_settings_here", "_law_names_here", "_law_hand_here", "_law_beside", "_law_post", "_law_sent", "_law_most", "_law_k", "_law_way", "_law_at", "_law_turn", "_law_reading_here"] ["_law_script"] (defScope (top 78)) := by walk_at "s"
def spLaw (K : PySem.W.Frag) : Sp := fun vs H Q _ => ∃ (a : Addr) (ns : List Int), vs = [.ref a] ∧ SqL K H a (ns.map V.int) ∧ ns.length ≤ 63 ∧ ∀ H', Q (.bl true) H'
theorem ok_law {f : Addr} {fd : FuncData} (F : Fun K "law" "law" (top 78) f fd) (BT : Bt mg) (NE : NoErr (CX1 P w)) (SH : ShC K C) (SS : StC K CS) (c__law_hand : Cal P w K mg base (CX1 P w) "_law_hand" 1 ["_law_script", "_law_k"] (spHand K)) (c__law_pick : Cal P w K mg base (CX1 P w) "_law_pick" 11 ["_law_hand_here", "_law_many"] spPick) (c__law_settings : Cal P w K mg base (CX1 P w) "_law_settings" 12 ["_law_cell", "_law_sound"] (spSetH C CS)) (c__law_names : Cal P w K mg base (CX1 P w) "_law_names" 12 ["_law_cell", "_law_many"] spNames)
  (m1_Hand : Mak1 P w K mg base (CX1 P w) "Hand" CH 5 ["self", "name", "settings", "lines"] (spHandI CH)) (m_Post : Mak P w K mg base (CX1 P w) "Post" CP 1 ["self"] (spPost CP)) (c__law_letter : Cal P w K mg base (CX1 P w) "_law_letter" 13 ["_law_cell", "_law_hand_here", "_law_other", "_law_slots", "_law_most"] (spLLetterH C CS CH)) (c__law_due : Cal P w K mg base (CX1 P w) "_law_due" 9 ["_law_letter_here", "_law_beside"] (spLDueH C CS CH)) (c__law_read : Cal P w K mg base (CX1 P w) "_law_read" 9 ["_law_post", "_law_number_here", "_law_hand_here"] (spLReadH C CS CH CP))
  (c__law_alike : Cal P w K mg base (CX1 P w) "_law_alike" 1 ["_law_found", "_law_due_here"] spLAlike) (c__law_reading : Cal P w K mg base (CX1 P w) "_law_reading" 12 ["_law_cell", "_law_hand_here"] (spLReadingH C CS CH)) (c__law_deed : Cal P w K mg base (CX1 P w) "_law_deed" 9 ["_law_hand_here", "_law_way", "_law_reading_here"] (spLDeedH C CS CH))
  (M_Post_send : MCal P w K mg base (CX1 P w) CP "send" 1 ["self", "letter"] (spSend CP)) (M_Post_sent : MCal P w K mg base (CX1 P w) CP "sent" 1 ["self"] (spSent CP)) (M_Hand_note : MCal P w K mg base (CX1 P w) CH "note" 1 ["self"] (spNote C CS CH)) (M_Hand_place : MCal P w K mg base (CX1 P w) CH "place" 1 ["self"] (spPlace C CS CH)) : FnOk P w K mg base (CX1 P w) 15 f fd ["_law_script"] (spLaw K) := by
 have S := sc_law
 refine fun_ok F S (fun vs H Q E h => ?_) (fun f cdv A outer s H vs Q E hr h => ?_)
 ·obtain ⟨a, ns, rfl, _⟩ := h
  rfl
 obtain ⟨a, nn, rfl, hS, h63, q⟩ := h
 refine ⟨_, (@pss_cons _ _ _ _ _ (@ps_set _ _ 1 _ _ _ _ S.nd rfl (by first | exact Or.inl rfl | exact Or.inr rfl) (@pe_fn _ _ _ _ _ _ _ _ _ _ _ _ c__law_hand (hr.mono (by first | decide | omega)) NE.pass (@pa_cons _ _ _ _ _ (@pv _ 0 _ _ (by rfl) (by first | exact Or.inl rfl | exact Or.inr (Or.inl rfl) | exact Or.inr (Or.inr rfl)) (by decide) (by decide)) (@pa_cons _ _ _ _ _ (@pe_int _ _ _ _) (@pa_nil _) (by rfl)) (by rfl)) (by rfl) (by decide) (by rfl) (by rfl)) (by rfl) (by first | exact .inl rfl | exact .inr rfl | assumption)) (@pss_cons _ _ _ _ _ (@ps_set _ _ 2 _ _ _ _ S.nd rfl (by first | exact Or.inl rfl | exact Or.inr rfl) (@pe_fn _ _ _ _ _ _ _ _ _ _ _ _ c__law_settings (hr.mono (by first | decide | omega)) NE.pass (@pa_cons _ _ _ _ _ (@pv _ 1 _ _ (by rfl) (by first | exact Or.inl rfl | exact Or.inr (Or.inl rfl) | exact Or.inr (Or.inr rfl)) (by decide) (by decide)) (@pa_cons _ _ _ _ _ (@pe_cmpR _ _ _ _ _ _ _ _ (@op_eq _) (@pe_fn _ _ _ _ _ _ _ _ _ _ _ _ c__law_pick (hr.mono (by first | decide | omega)) NE.pass (@pa_cons _ _ _ _ _ (@pv _ 1 _ _ (by rfl) (by first | exact Or.inl rfl | exact Or.inr (Or.inl rfl) | exact Or.inr (Or.inr rfl)) (by decide) (by decide)) (@pa_cons _ _ _ _ _ (@pe_int _ _ _ _) (@pa_nil _) (by rfl)) (by rfl)) (by rfl) (by decide) (by rfl) (by rfl)) (@pe_int _ _ _ _) (@nomark _ _ (by decide) (by decide))) (@pa_nil _) (by rfl)) (by rfl)) (by rfl) (by decide) (by rfl) (by rfl)) (by rfl) (by first | exact .inl rfl | exact .inr rfl | assumption)) (@pss_cons _ _ _ _ _ (@ps_set _ _ 3 _ _ _ _ S.nd rfl (by first | exact Or.inl rfl | exact Or.inr rfl) (@pe_fn _ _ _ _ _ _ _ _ _ _ _ _ c__law_names (hr.mono (by first | decide | omega)) NE.pass (@pa_cons _ _ _ _ _ (@pe_fn _ _ _ _ _ _ _ _ _ _ _ _ c__law_hand (hr.mono (by first | decide | omega)) NE.pass (@pa_cons _ _ _ _ _ (@pv _ 0 _ _ (by rfl) (by first | exact Or.inl rfl | exact Or.inr (Or.inl rfl) | exact Or.inr (Or.inr rfl)) (by decide) (by decide)) (@pa_cons _ _ _ _ _ (@pe_int _ _ _ _) (@pa_nil _) (by rfl)) (by rfl)) (by rfl) (by decide) (by rfl) (by rfl)) (@pa_cons _ _ _ _ _ (@pe_int _ _ _ _) (@pa_nil _) (by rfl)) (by rfl)) (by rfl) (by decide) (by rfl) (by rfl)) (by rfl) (by first | exact .inl rfl | exact .inr rfl | assumption)) (@pss_cons _ _ _ _ _ (@ps_set _ _ 4 _ _ _ _ S.nd rfl (by first | exact Or.inl rfl | exact Or.inr rfl) (pe_mk1 m1_Hand (hr.mono (by first | decide | omega)) NE.pass (@pa_cons _ _ _ _ _ (@pe_ix _ _ _ _ _ _ _ (@ix_list _) (@pv _ 3 _ _ (by rfl) (by first | exact Or.inl rfl | exact Or.inr (Or.inl rfl) | exact Or.inr (Or.inr rfl)) (by decide) (by decide)) (@pe_int _ _ _ _) (fun _ _ => rfl)) (@pa_cons _ _ _ _ _ (@pv _ 2 _ _ (by rfl) (by first | exact Or.inl rfl | exact Or.inr (Or.inl rfl) | exact Or.inr (Or.inr rfl)) (by decide) (by decide)) (@pa_nil _) (by rfl)) (by rfl))) (by rfl) (by first | exact .inl rfl | exact .inr rfl | assumption)) (@pss_cons _ _ _ _ _ (@ps_set _ _ 5 _ _ _ _ S.nd rfl (by first | exact Or.inl rfl | exact Or.inr rfl) (pe_mk1 m1_Hand (hr.mono (by first | decide | omega)) NE.pass (@pa_cons _ _ _ _ _ (@pe_ix _ _ _ _ _ _ _ (@ix_list _) (@pv _ 3 _ _ (by rfl) (by first | exact Or.inl rfl | exact Or.inr (Or.inl rfl) | exact Or.inr (Or.inr rfl)) (by decide) (by decide)) (@pe_int _ _ _ _) (fun _ _ => rfl)) (@pa_cons _ _ _ _ _ (@pv _ 2 _ _ (by rfl) (by first | exact Or.inl rfl | exact Or.inr (Or.inl rfl) | exact Or.inr (Or.inr rfl)) (by decide) (by decide)) (@pa_nil _) (by rfl)) (by rfl))) (by rfl) (by first | exact .inl rfl | exact .inr rfl | assumption)) (@pss_cons _ _ _ _ _ (@ps_set _ _ 6 _ _ _ _ S.nd rfl (by first | exact Or.inl rfl | exact Or.inr rfl) (@pe_mk0 _ _ _ _ _ _ _ _ _ _ m_Post (hr.mono (by first | decide | omega)) NE.pass (by rfl) (by decide)) (by rfl) (by first | exact .inl rfl | exact .inr rfl | assumption)) (@pss_cons _ _ _ _ _ (@ps_set _ _ 7 _ _ _ _ S.nd rfl (by first | exact Or.inl rfl | exact Or.inr rfl) (@pe_lst _ _ _ _ (@pa_nil _)) (by rfl) (by first | exact .inl rfl | exact .inr rfl | assumption)) (@pss_cons _ _ _ _ _ (@ps_set _ _ 8 _ _ _ _ S.nd rfl (by first | exact Or.inl rfl | exact Or.inr rfl) (@pe_int _ _ _ _) (by rfl) (by first | exact .inl rfl | exact .inr rfl | assumption)) (@pss_cons _ _ _ _ _ (@ps_for _ _ _ _ _ _ _ _ PassesOwn.never rfl (@pi_range2 _ _ _ _ _ _ _ rfl BT.range (@pa_cons _ _ _ _ _ (@pe_int _ _ _ _) (@pa_cons _ _ _ _ _ (@pe_callB _ _ _ _ _ _ _ _ _ (@c_min _ rfl) rfl BT.min L3.bt_min (@pa_cons _ _ _ _ _ (@pe_int _ _ _ _) (@pa_cons _ _ _ _ _ (@pe_callB _ _ _ _ _ _ _ _ _ (@c_len _) rfl BT.len L3.bt_len (@pa_cons _ _ _ _ _ (@pv _ 0 _ _ (by rfl) (by first | exact Or.inl rfl | exact Or.inr (Or.inl rfl) | exact Or.inr (Or.inr rfl)) (by decide) (by decide)) (@pa_nil _) (by rfl)) (by decide) (by decide) (by rfl) (by rfl)) (@pa_nil _) (by rfl)) (by rfl)) (by decide) (by decide) (by rfl) (by rfl)) (@pa_nil _) (by rfl)) (by rfl)) (by rfl) (by rfl)) (@pg_name _ _ 9 _ S.nd rfl (by first | exact Or.inl rfl | exact Or.inr rfl) (by first | exact .inl rfl | exact .inr rfl | assumption)) (@pss_cons _ _ _ _ _ (@ps_set _ _ 1 _ _ _ _ S.nd rfl (by first | exact Or.inl rfl | exact Or.inr rfl) (@pe_fn _ _ _ _ _ _ _ _ _ _ _ _ c__law_hand (hr.mono (by first | decide | omega)) NE.pass (@pa_cons _ _ _ _ _ (@pv _ 0 _ _ (by rfl) (by first | exact Or.inl rfl | exact Or.inr (Or.inl rfl) | exact Or.inr (Or.inr rfl)) (by decide) (by decide)) (@pa_cons _ _ _ _ _ (@pv _ 9 _ _ (by rfl) (by first | exact Or.inl rfl | exact Or.inr (Or.inl rfl) | exact Or.inr (Or.inr rfl)) (by decide) (by decide)) (@pa_nil _) (by rfl)) (by rfl)) (by rfl) (by decide) (by rfl) (by rfl)) (by rfl) (by first | exact .inl rfl | exact .inr rfl | assumption)) (@pss_cons _ _ _ _ _ (@ps_set _ _ 10 _ _ _ _ S.nd rfl (by first | exact Or.inl rfl | exact Or.inr rfl) (@pe_fn _ _ _ _ _ _ _ _ _ _ _ _ c__law_pick (hr.mono (by first | decide | omega)) NE.pass (@pa_cons _ _ _ _ _ (@pv _ 1 _ _ (by rfl) (by first | exact Or.inl rfl | exact Or.inr (Or.inl rfl) | exact Or.inr (Or.inr rfl)) (by decide) (by decide)) (@pa_cons _ _ _ _ _ (@pe_int _ _ _ _) (@pa_nil _) (by rfl)) (by rfl)) (by rfl) (by decide) (by rfl) (by rfl)) (by rfl) (by first | exact .inl rfl | exact .inr rfl | assumption)) (@pss_cons _ _ _ _ _ (@ps_if _ _ _ _ _ _ _ _ (@PW.pt _ _ _ (@pw_or _ _ _ _ _ _ _ (@pt_cmpR _ _ _ _ _ _ _ _ (@op_eqD _ (hr.mono (Nat.zero_le _))) (@pv _ 7 _ _ (by rfl) (by first | exact Or.inl rfl | exact Or.inr (Or.inl rfl) | exact Or.inr (Or.inr rfl)) (by decide) (by decide)) (@pe_lst _ _ _ _ (@pa_nil _)) (@nomark _ _ (by decide) (by decide))) (@pw_or1 _ _ _ _ (@pt_cmpR _ _ _ _ _ _ _ _ (@op_lt _) (@pv _ 10 _ _ (by rfl) (by first | exact Or.inl rfl | exact Or.inr (Or.inl rfl) | exact Or.inr (Or.inr rfl)) (by decide) (by decide)) (@pe_int _ _ _ _) (@nomark _ _ (by decide) (by decide)))))) (@pss_cons _ _ _ _ _ (@ps_expr _ _ _ _ (@pe_bm _ _ _ _ _ _ _ _ _ _ _ _ PySem.F.plainAttrs_list PySem.F.slot_list_append PySem.F.type_list_append (@mt_append _) (@pv _ 7 _ _ (by rfl) (by first | exact Or.inl rfl | exact Or.inr (Or.inl rfl) | exact Or.inr (Or.inr rfl)) (by decide) (by decide)) (@pa_cons _ _ _ _ _ (@pe_fn _ _ _ _ _ _ _ _ _ _ _ _ c__law_letter (hr.mono (by first | decide | omega)) NE.pass (@pa_cons _ _ _ _ _ (@pv _ 1 _ _ (by rfl) (by first | exact Or.inl rfl | exact Or.inr (Or.inl rfl) | exact Or.inr (Or.inr rfl)) (by decide) (by decide)) (@pa_cons _ _ _ _ _ (@pv _ 4 _ _ (by rfl) (by first | exact Or.inl rfl | exact Or.inr (Or.inl rfl) | exact Or.inr (Or.inr rfl)) (by decide) (by decide)) (@pa_cons _ _ _ _ _ (@pe_ix _ _ _ _ _ _ _ (@ix_list _) (@pv _ 3 _ _ (by rfl) (by first | exact Or.inl rfl | exact Or.inr (Or.inl rfl) | exact Or.inr (Or.inr rfl)) (by decide) (by decide)) (@pe_fn _ _ _ _ _ _ _ _ _ _ _ _ c__law_pick (hr.mono (by first | decide | omega)) NE.pass (@pa_cons _ _ _ _ _ (@pv _ 1 _ _ (by rfl) (by first | exact Or.inl rfl | exact Or.inr (Or.inl rfl) | exact Or.inr (Or.inr rfl)) (by decide) (by decide)) (@pa_cons _ _ _ _ _ (@pe_int _ _ _ _) (@pa_nil _) (by rfl)) (by rfl)) (by rfl) (by decide) (by rfl) (by rfl)) (fun _ _ => rfl)) (@pa_cons _ _ _ _ _ (@pe_fld _ _ _ _ _ (@pe_fld _ _ _ _ _ (@pv _ 2 _ _ (by rfl) (by first | exact Or.inl rfl | exact Or.inr (Or.inl rfl) | exact Or.inr (Or.inr rfl)) (by decide) (by decide)) rfl) rfl) (@pa_cons _ _ _ _ _ (@pv _ 8 _ _ (by rfl) (by first | exact Or.inl rfl | exact Or.inr (Or.inl rfl) | exact Or.inr (Or.inr rfl)) (by decide) (by decide)) (@pa_nil _) (by rfl)) (by rfl)) (by rfl)) (by rfl)) (by rfl)) (by rfl) (by decide) (by rfl) (by rfl)) (@pa_nil _) (by rfl)) (by rfl) (by rfl) (by rfl) (by rfl) (by rfl)) (by rfl)) (@pss_cons _ _ _ _ _ (@ps_if _ _ _ _ _ _ _ _ (@pt_cmpR _ _ _ _ _ _ _ _ (@op_eq _) (@pe_ix _ _ _ _ _ _ _ (@ix_tup _) (@pe_ix _ _ _ _ _ _ _ (@ix_list _) (@pv _ 7 _ _ (by rfl) (by first | exact Or.inl rfl | exact Or.inr (Or.inl rfl) | exact Or.inr (Or.inr rfl)) (by decide) (by decide)) (@pe_un _ _ _ _ _ _ (@un_neg _) (@pe_int _ _ _ _)) (fun _ _ => rfl)) (@pe_int _ _ _ _) (fun _ _ => rfl)) (@pe_str _ _ _ _) (@nomark _ _ (by decide) (by decide))) (@pss_one _ _ _ (@ps_set _ _ 8 _ _ _ _ S.nd rfl (by first | exact Or.inl rfl | exact Or.inr rfl) (@pe_callB _ _ _ _ _ _ _ _ _ (@c_max _ rfl) rfl BT.max L3.bt_max (@pa_cons _ _ _ _ _ (@pv _ 8 _ _ (by rfl) (by first | exact Or.inl rfl | exact Or.inr (Or.inl rfl) | exact Or.inr (Or.inr rfl)) (by decide) (by decide)) (@pa_cons _ _ _ _ _ (@pe_ix _ _ _ _ _ _ _ (@ix_tup _) (@pe_ix _ _ _ _ _ _ _ (@ix_list _) (@pv _ 7 _ _ (by rfl) (by first | exact Or.inl rfl | exact Or.inr (Or.inl rfl) | exact Or.inr (Or.inr rfl)) (by decide) (by decide)) (@pe_un _ _ _ _ _ _ (@un_neg _) (@pe_int _ _ _ _)) (fun _ _ => rfl)) (@pe_int _ _ _ _) (fun _ _ => rfl)) (@pa_nil _) (by rfl)) (by rfl)) (by decide) (by decide) (by rfl) (by rfl)) (by rfl) (by first | exact .inl rfl | exact .inr rfl | assumption))) (@pss_nil _)) (@pss_one _ _ _ (@ps_expr _ _ _ _ (@pe_mt _ _ _ _ _ _ _ _ _ _ _ _ _ _ _ _ M_Post_send (hr.mono (by first | decide | omega)) NE.pass (@pv _ 6 _ _ (by rfl) (by first | exact Or.inl rfl | exact Or.inr (Or.inl rfl) | exact Or.inr (Or.inr rfl)) (by decide) (by decide)) (@pa_cons _ _ _ _ _ (@pe_ix _ _ _ _ _ _ _ (@ix_list _) (@pv _ 7 _ _ (by rfl) (by first | exact Or.inl rfl | exact Or.inr (Or.inl rfl) | exact Or.inr (Or.inr rfl)) (by decide) (by decide)) (@pe_un _ _ _ _ _ _ (@un_neg _) (@pe_int _ _ _ _)) (fun _ _ => rfl)) (@pa_nil _) (by rfl)) (by rfl) (by rfl) (by rfl)) (by rfl))))) (@pss_one _ _ _ (@ps_if _ _ _ _ _ _ _ _ (@pt_cmpR _ _ _ _ _ _ _ _ (@op_lt _) (@pv _ 10 _ _ (by rfl) (by first | exact Or.inl rfl | exact Or.inr (Or.inl rfl) | exact Or.inr (Or.inr rfl)) (by decide) (by decide)) (@pe_int _ _ _ _) (@nomark _ _ (by decide) (by decide))) (@pss_cons _ _ _ _ _ (@ps_set _ _ 11 _ _ _ _ S.nd rfl (by first | exact Or.inl rfl | exact Or.inr rfl) (@pe_op _ _ _ _ _ _ _ _ (@op_sub _) (@pe_callB _ _ _ _ _ _ _ _ _ (@c_len _) rfl BT.len L3.bt_len (@pa_cons _ _ _ _ _ (@pv _ 7 _ _ (by rfl) (by first | exact Or.inl rfl | exact Or.inr (Or.inl rfl) | exact Or.inr (Or.inr rfl)) (by decide) (by decide)) (@pa_nil _) (by rfl)) (by decide) (by decide) (by rfl) (by rfl)) (@pe_int _ _ _ _)) (by rfl) (by first | exact .inl rfl | exact .inr rfl | assumption)) (@pss_cons _ _ _ _ _ (@ps_if _ _ _ _ _ _ _ _ (@pt_cmpR _ _ _ _ _ _ _ _ (@op_eq _) (@pe_fn _ _ _ _ _ _ _ _ _ _ _ _ c__law_pick (hr.mono (by first | decide | omega)) NE.pass (@pa_cons _ _ _ _ _ (@pv _ 1 _ _ (by rfl) (by first | exact Or.inl rfl | exact Or.inr (Or.inl rfl) | exact Or.inr (Or.inr rfl)) (by decide) (by decide)) (@pa_cons _ _ _ _ _ (@pe_int _ _ _ _) (@pa_nil _) (by rfl)) (by rfl)) (by rfl) (by decide) (by rfl) (by rfl)) (@pe_int _ _ _ _) (@nomark _ _ (by decide) (by decide))) (@pss_one _ _ _ (@ps_set _ _ 11 _ _ _ _ S.nd rfl (by first | exact Or.inl rfl | exact Or.inr rfl) (@pe_fn _ _ _ _ _ _ _ _ _ _ _ _ c__law_pick (hr.mono (by first | decide | omega)) NE.pass (@pa_cons _ _ _ _ _ (@pv _ 1 _ _ (by rfl) (by first | exact Or.inl rfl | exact Or.inr (Or.inl rfl) | exact Or.inr (Or.inr rfl)) (by decide) (by decide)) (@pa_cons _ _ _ _ _ (@pe_callB _ _ _ _ _ _ _ _ _ (@c_len _) rfl BT.len L3.bt_len (@pa_cons _ _ _ _ _ (@pv _ 7 _ _ (by rfl) (by first | exact Or.inl rfl | exact Or.inr (Or.inl rfl) | exact Or.inr (Or.inr rfl)) (by decide) (by decide)) (@pa_nil _) (by rfl)) (by decide) (by decide) (by rfl) (by rfl)) (@pa_nil _) (by rfl)) (by rfl)) (by rfl) (by decide) (by rfl) (by rfl)) (by rfl) (by first | exact .inl rfl | exact .inr rfl | assumption))) (@pss_nil _)) (@pss_one _ _ _ (@ps_if _ _ _ _ _ _ _ _ (@pt_not _ _ _ _ (@pt_val _ _ _ (@pe_fn _ _ _ _ _ _ _ _ _ _ _ _ c__law_alike (hr.mono (by first | decide | omega)) NE.pass (@pa_cons _ _ _ _ _ (@pe_fn _ _ _ _ _ _ _ _ _ _ _ _ c__law_read (hr.mono (by first | decide | omega)) NE.pass (@pa_cons _ _ _ _ _ (@pv _ 6 _ _ (by rfl) (by first | exact Or.inl rfl | exact Or.inr (Or.inl rfl) | exact Or.inr (Or.inr rfl)) (by decide) (by decide)) (@pa_cons _ _ _ _ _ (@pe_op _ _ _ _ _ _ _ _ (@op_add _) (@pv _ 11 _ _ (by rfl) (by first | exact Or.inl rfl | exact Or.inr (Or.inl rfl) | exact Or.inr (Or.inr rfl)) (by decide) (by decide)) (@pe_int _ _ _ _)) (@pa_cons _ _ _ _ _ (@pv _ 4 _ _ (by rfl) (by first | exact Or.inl rfl | exact Or.inr (Or.inl rfl) | exact Or.inr (Or.inr rfl)) (by decide) (by decide)) (@pa_nil _) (by rfl)) (by rfl)) (by rfl)) (by rfl) (by decide) (by rfl) (by rfl)) (@pa_cons _ _ _ _ _ (@pe_fn _ _ _ _ _ _ _ _ _ _ _ _ c__law_due (hr.mono (by first | decide | omega)) NE.pass (@pa_cons _ _ _ _ _ (@pe_ix _ _ _ _ _ _ _ (@ix_list _) (@pv _ 7 _ _ (by rfl) (by first | exact Or.inl rfl | exact Or.inr (Or.inl rfl) | exact Or.inr (Or.inr rfl)) (by decide) (by decide)) (@pv _ 11 _ _ (by rfl) (by first | exact Or.inl rfl | exact Or.inr (Or.inl rfl) | exact Or.inr (Or.inr rfl)) (by decide) (by decide)) (fun _ _ => rfl)) (@pa_cons _ _ _ _ _ (@pv _ 5 _ _ (by rfl) (by first | exact Or.inl rfl | exact Or.inr (Or.inl rfl) | exact Or.inr (Or.inr rfl)) (by decide) (by decide)) (@pa_nil _) (by rfl)) (by rfl)) (by rfl) (by decide) (by rfl) (by rfl)) (@pa_nil _) (by rfl)) (by rfl)) (by rfl) (by decide) (by rfl) (by rfl)) (by intro _; rfl))) (@pss_one _ _ _ (@ps_ret _ _ _ _ (@pe_bl _ _ _ _))) (@pss_nil _))))) (@pss_cons _ _ _ _ _ (@ps_set _ _ 12 _ _ _ _ S.nd rfl (by first | exact Or.inl rfl | exact Or.inr rfl) (@pe_ix _ _ _ _ _ _ _ (@ix_list _) (@pe_lst _ _ _ _ (@pa_cons _ _ _ _ _ (@pe_int _ _ _ _) (@pa_cons _ _ _ _ _ (@pe_int _ _ _ _) (@pa_cons _ _ _ _ _ (@pe_int _ _ _ _) (@pa_cons _ _ _ _ _ (@pe_int _ _ _ _) (@pa_cons _ _ _ _ _ (@pe_int _ _ _ _) (@pa_cons _ _ _ _ _ (@pe_int _ _ _ _) (@pa_cons _ _ _ _ _ (@pe_int _ _ _ _) (@pa_cons _ _ _ _ _ (@pe_int _ _ _ _) (@pa_cons _ _ _ _ _ (@pe_int _ _ _ _) (@pa_nil _) (by rfl)) (by rfl)) (by rfl)) (by rfl)) (by rfl)) (by rfl)) (by rfl)) (by rfl)) (by rfl))) (@pe_fn _ _ _ _ _ _ _ _ _ _ _ _ c__law_pick (hr.mono (by first | decide | omega)) NE.pass (@pa_cons _ _ _ _ _ (@pv _ 1 _ _ (by rfl) (by first | exact Or.inl rfl | exact Or.inr (Or.inl rfl) | exact Or.inr (Or.inr rfl)) (by decide) (by decide)) (@pa_cons _ _ _ _ _ (@pe_int _ _ _ _) (@pa_nil _) (by rfl)) (by rfl)) (by rfl) (by decide) (by rfl) (by rfl)) (fun _ _ => rfl)) (by rfl) (by first | exact .inl rfl | exact .inr rfl | assumption)) (@pss_cons _ _ _ _ _ (@ps_set _ _ 13 _ _ _ _ S.nd rfl (by first | exact Or.inl rfl | exact Or.inr rfl) (@pe_fn _ _ _ _ _ _ _ _ _ _ _ _ c__law_reading (hr.mono (by first | decide | omega)) NE.pass (@pa_cons _ _ _ _ _ (@pv _ 1 _ _ (by rfl) (by first | exact Or.inl rfl | exact Or.inr (Or.inl rfl) | exact Or.inr (Or.inr rfl)) (by decide) (by decide)) (@pa_cons _ _ _ _ _ (@pv _ 4 _ _ (by rfl) (by first | exact Or.inl rfl | exact Or.inr (Or.inl rfl) | exact Or.inr (Or.inr rfl)) (by decide) (by decide)) (@pa_nil _) (by rfl)) (by rfl)) (by rfl) (by decide) (by rfl) (by rfl)) (by rfl) (by first | exact .inl rfl | exact .inr rfl | assumption)) (@pss_one _ _ _ (@ps_if _ _ _ _ _ _ _ _ (@pt_cmpR _ _ _ _ _ _ _ _ (@op_neD _ (hr.mono (Nat.zero_le _))) (@pe_fn _ _ _ _ _ _ _ _ _ _ _ _ c__law_deed (hr.mono (by first | decide | omega)) NE.pass (@pa_cons _ _ _ _ _ (@pv _ 4 _ _ (by rfl) (by first | exact Or.inl rfl | exact Or.inr (Or.inl rfl) | exact Or.inr (Or.inr rfl)) (by decide) (by decide)) (@pa_cons _ _ _ _ _ (@pv _ 12 _ _ (by rfl) (by first | exact Or.inl rfl | exact Or.inr (Or.inl rfl) | exact Or.inr (Or.inr rfl)) (by decide) (by decide)) (@pa_cons _ _ _ _ _ (@pv _ 13 _ _ (by rfl) (by first | exact Or.inl rfl | exact Or.inr (Or.inl rfl) | exact Or.inr (Or.inr rfl)) (by decide) (by decide)) (@pa_nil _) (by rfl)) (by rfl)) (by rfl)) (by rfl) (by decide) (by rfl) (by rfl)) (@pe_fn _ _ _ _ _ _ _ _ _ _ _ _ c__law_deed (hr.mono (by first | decide | omega)) NE.pass (@pa_cons _ _ _ _ _ (@pv _ 5 _ _ (by rfl) (by first | exact Or.inl rfl | exact Or.inr (Or.inl rfl) | exact Or.inr (Or.inr rfl)) (by decide) (by decide)) (@pa_cons _ _ _ _ _ (@pv _ 12 _ _ (by rfl) (by first | exact Or.inl rfl | exact Or.inr (Or.inl rfl) | exact Or.inr (Or.inr rfl)) (by decide) (by decide)) (@pa_cons _ _ _ _ _ (@pv _ 13 _ _ (by rfl) (by first | exact Or.inl rfl | exact Or.inr (Or.inl rfl) | exact Or.inr (Or.inr rfl)) (by decide) (by decide)) (@pa_nil _) (by rfl)) (by rfl)) (by rfl)) (by rfl) (by decide) (by rfl) (by rfl)) (@nomark _ _ (by decide) (by decide))) (@pss_one _ _ _ (@ps_ret _ _ _ _ (@pe_bl _ _ _ _))) (@pss_nil _)))))))) (@pss_one _ _ _ (@ps_if _ _ _ _ _ _ _ _ (@PW.pt _ _ _ (@pw_or _ _ _ _ _ _ _ (@pt_cmpR _ _ _ _ _ _ _ _ (@op_neD _ (hr.mono (Nat.zero_le _))) (@pe_mt0 _ _ _ _ _ _ _ _ _ _ _ _ _ M_Hand_note (hr.mono (by first | decide | omega)) NE.pass (@pv _ 4 _ _ (by rfl) (by first | exact Or.inl rfl | exact Or.inr (Or.inl rfl) | exact Or.inr (Or.inr rfl)) (by decide) (by decide)) (by rfl)) (@pe_mt0 _ _ _ _ _ _ _ _ _ _ _ _ _ M_Hand_note (hr.mono (by first | decide | omega)) NE.pass (@pv _ 5 _ _ (by rfl) (by first | exact Or.inl rfl | exact Or.inr (Or.inl rfl) | exact Or.inr (Or.inr rfl)) (by decide) (by decide)) (by rfl)) (@nomark _ _ (by decide) (by decide))) (@pw_or _ _ _ _ _ _ _ (@pt_cmpR _ _ _ _ _ _ _ _ (@op_neD _ (hr.mono (Nat.zero_le _))) (@pe_mt0 _ _ _ _ _ _ _ _ _ _ _ _ _ M_Hand_place (hr.mono (by first | decide | omega)) NE.pass (@pv _ 4 _ _ (by rfl) (by first | exact Or.inl rfl | exact Or.inr (Or.inl rfl) | exact Or.inr (Or.inr rfl)) (by decide) (by decide)) (by rfl)) (@pe_mt0 _ _ _ _ _ _ _ _ _ _ _ _ _ M_Hand_place (hr.mono (by first | decide | omega)) NE.pass (@pv _ 5 _ _ (by rfl) (by first | exact Or.inl rfl | exact Or.inr (Or.inl rfl) | exact Or.inr (Or.inr rfl)) (by decide) (by decide)) (by rfl)) (@nomark _ _ (by decide) (by decide))) (@pw_or1 _ _ _ _ (@pt_cmpR _ _ _ _ _ _ _ _ (@op_neD _ (hr.mono (Nat.zero_le _))) (@pe_mt0 _ _ _ _ _ _ _ _ _ _ _ _ _ M_Post_sent (hr.mono (by first | decide | omega)) NE.pass (@pv _ 6 _ _ (by rfl) (by first | exact Or.inl rfl | exact Or.inr (Or.inl rfl) | exact Or.inr (Or.inr rfl)) (by decide) (by decide)) (by rfl)) (@pv _ 7 _ _ (by rfl) (by first | exact Or.inl rfl | exact Or.inr (Or.inl rfl) | exact Or.inr (Or.inr rfl)) (by decide) (by decide)) (@nomark _ _ (by decide) (by decide))))))) (@pss_one _ _ _ (@ps_ret _ _ _ _ (@pe_bl _ _ _ _))) (@pss_nil _)))))) (by intro _; rfl)) (@pss_one _ _ _ (@ps_ret _ _ _ _ (@pe_bl _ _ _ _)))))))))))), ?_⟩
 try dsimp only [cxOf]
 have hnl : (nn.map V.int).length = nn.length := List.length_map ..
 have L := Led.start H (fun _ => False)
 walk_at "go"
 refine use_hand L hS h63 (by decide) fun p0 H1 n0 L s1 => ?_
 walk_at "go"
 refine use_pick L .head (by decide) (by decide) (by decide) fun r1 H2 y0 y1 L ch1 => ?_
 have h2 := HandO.at (L.at_ (p0, HandO _) (by walk_at "mem"))
 have s2 := L.same
 clear L
 walk_at "go"
 refine ⟨p0, _, _, rfl, h2, by decide, fun ps sp c n far room term ws H3 hsg hstn o3 => ?_⟩
 have s3 : Same H H3 := o3.same s2 n0
 have L := Led.start H3 (fun _ => False)
 walk_at "go"
 refine use_hand L (s3.seq hS) h63 (by decide) fun p1 H4 n1' L s4 => ?_
 have h5 := HandO.at (L.at_ (p1, HandO _) (by walk_at "mem"))
 have s5 := L.same
 clear L
 walk_at "go"
 refine ⟨p1, _, 2, rfl, h5, by decide, by decide, by decide, fun nq ns H6 nnq hnq n1 n10 nn2 _ o6 => ?_⟩
 have s6 : Same H3 H6 := o6.same s5 n1'
 have s36 := s3.trans s6
 obtain ⟨z0, z1, rfl⟩ : ∃ z0 z1, ns = [z0, z1] := by
  match ns, nn2 with
  | [z0, z1], _ => exact ⟨z0, z1, rfl⟩
  | [], h => exact absurd h (by simp)
  | [_], h => exact absurd h (by simp)
  | _ :: _ :: _ :: r, h => exact absurd h (by simp only [List.length_cons]; omega)
 walk_at "go"
 refine g_make1 ?_
 walk_at "go"
 refine g_ixSq (SqL.of hnq) rfl ?_
 walk_at "go"
 refine use_mkHand (v := .non) (ls := []) (.inl ⟨rfl, rfl⟩) (fun _ h => (by simp at h)) (fun _ h => (by simp at h)) (by decide) (hsg.same s6) fun x1 l1 H7 nx1 nl1 hd7 s7 => ?_
 walk_at "go"
 refine g_make1 ?_
 walk_at "go"
 refine g_ixSq (SqL.of (s7 _ _ hnq)) rfl ?_
 walk_at "go"
 refine use_mkHand (v := .non) (ls := []) (.inl ⟨rfl, rfl⟩) (fun _ h => (by simp at h)) (fun _ h => (by simp at h)) (by decide) ((hsg.same s6).same s7) fun x2 l2 H8 nx2 nl2 hd8 s8 => ?_
 walk_at "go"
 refine use_post fun pp lp H9 npp nlp hpo s9 => ?_
 have L := Led.start H9 (fun _ => False)
 walk_at "go"
 obtain ⟨ls0, els⟩ : ∃ z, z = l' := ⟨_, rfl⟩
 subst els
 obtain ⟨HB, eHB⟩ : ∃ z, z = H' := ⟨_, rfl⟩
 subst eHB
 have hls := L'.eo (p := ls0) (by walk_at "put")
 have sB := L'.same
 clear L L'
 obtain ⟨d0, rfl, rfl, rfl, rfl, rfl, rfl, rfl, rfl, rfl⟩ : ∃ d0 : Hd, d0.ps = ps ∧ d0.sp = sp ∧ d0.nm = z0 ∧ d0.c = c ∧ d0.s = n ∧ d0.far = far ∧ d0.room = room ∧ d0.term = term ∧ d0.ws = ws := ⟨⟨x1, l1, ps, sp, z0, c, n, far, room, term, ws⟩, rfl, rfl, rfl, rfl, rfl, rfl, rfl, rfl, rfl⟩
 obtain ⟨z0, ez0⟩ : ∃ z0, z0 = d0.nm := ⟨_, rfl⟩
 rw [← ez0] at hnq
 obtain ⟨x, ex1, ex2, ex3, ex4, ex5, ex6, ex7, ex8⟩ : ∃ x : Wh, x.p = x1 ∧ x.l = l1 ∧ x.q = x2 ∧ x.m = l2 ∧ x.pp = pp ∧ x.lp = lp ∧ x.ls = ls0 ∧ x.nq = nq := ⟨⟨x1, l1, x2, l2, pp, lp, ls0, nq⟩, rfl, rfl, rfl, rfl, rfl, rfl, rfl, rfl⟩
 have e7 : H7 l1 = some (.lst []) := hd7.2.1
 have e8 : H8 l2 = some (.lst []) := hd8.2.1
 obtain ⟨⟨g1, g2, e7p, _⟩, _⟩ := id hd7
 obtain ⟨⟨g3, g4, e8p, _⟩, _⟩ := id hd8
 dsimp only at e7p e8p
 have nq7 := s7 _ _ hnq
 have nq8 := s8 _ _ nq7
 have nq9 := s9 _ _ nq8
 have W : WhOk H x := by
  refine ⟨?_, ?_, ?_, ?_, ?_, ?_, ?_, ?_, ?_, ?_, ?_, ?_, ?_, ?_, ?_, ?_, ?_, ?_, ?_⟩ <;> simp only [ex1, ex2, ex3, ex4, ex5, ex6, ex7, ex8]
  ·exact old_ne e7p nx2
  ·exact Ne.symm (old_ne (s8 _ _ e7p) npp)
  ·exact Ne.symm (old_ne e8p npp)
  ·exact old_ne e7 nl2
  ·exact old_ne (s8 _ _ e7) nlp
  ·exact old_ne (s9 _ _ (s8 _ _ e7)) n'
  ·exact Ne.symm (old_ne hnq nl1)
  ·exact old_ne e8 nlp
  ·exact old_ne (s9 _ _ e8) n'
  ·exact Ne.symm (old_ne nq7 nl2)
  ·exact old_ne hpo.2 n'
  ·exact Ne.symm (old_ne nq8 nlp)
  ·exact Ne.symm (old_ne nq9 n')
  ·exact none_of' s36 nx1
  ·exact none_of' (s36.trans s7) nx2
  ·exact none_of' s36 nl1
  ·exact none_of' (s36.trans s7) nl2
  ·exact none_of' ((s36.trans s7).trans s8) nlp
  ·exact none_of' (((s36.trans s7).trans s8).trans s9) n'
 have I0 : Pv C CS CH CP H HB d0 x [] [] [] (some (max (nt []).hd (nt []).hr, 0)) [z0, z1] 0 := by
  refine ⟨(((s36.trans s7).trans s8).trans s9).trans sB, ?_, ?_, rfl, ⟨fun _ h => (by simp at h), k0_some (Int.le_refl 0), by decide⟩, ⟨fun _ h => (by simp at h), k0_some (Int.le_refl 0), by decide⟩, ?_, ?_, fun _ h => (by simp at h), ?_, Nat.le_refl 0, Nat.le_refl 0⟩ <;> simp only [ex1, ex2, ex3, ex4, ex5, ex6, ex7, ex8]
  ·exact hd7.same ((s8.trans s9).trans sB)
  ·exact hd8.same (s9.trans sB)
  ·exact hpo.same sB
  ·exact hls
  ·exact sB _ _ nq9
 rw [← ex1, ← ex3, ← ex5, ← ex7, ← ex8]
 clear ex1 ex2 ex3 ex4 ex5 ex6 ex7 ex8
 refine g_lenSq (I0.sm.seq hS) ?_
 rw [hnl]
 walk_at "go"
 refine g_forR (fun i σ Hx => ∃ (mo : Int) (u1 u9 u10 u11 u12 u13 : Option V) (ts : Lts) (ls ls' : Lns) (pl : Option (Int × Int)), 0 ≤ mo ∧ σ = [some (.ref a), u1, some (.ref d0.ps), some (.ref x.nq), some (.ref x.p), some (.ref x.q), some (.ref x.pp), some (.ref x.ls), some (.int mo), u9, u10, u11, u12, u13] ∧ Pv C CS CH CP H Hx d0 x ts ls ls' pl [z0, z1] i) ⟨0, _, _, _, _, _, _, [], [], [], _, Int.le_refl 0, rfl, I0⟩ ?_ ?_
 ·rintro i σ HG hi ⟨mo, u1, u9, u10, u11, u12, u13, ts, ls, ls', pl, m0, rfl, I⟩
  have hi50 : i < 50 := by omega
  have L := Led.start HG (fun _ => False)
  try dsimp only [gName]
  walk_at "go"
  refine use_hand L (I.sm.seq hS) h63 (by omega) fun p Ha np L sa => ?_
  have hh := HandO.at (L.at_ (p, HandO 0) List.mem_cons_self)
  clear L
  have N := I.new np
  have Ia0 := I.same sa
  obtain ⟨zsa, ezsa⟩ := hand_lst hh
  have L := led_hand hh
  walk_at "go"
  refine use_pick L .head (by decide) (by decide) (by decide) fun r2 Ha' w0 w1 L cha => ?_
  have Ia := Ia0.chg N ezsa cha.oth
  have hh' := HandO.at (L.at_ (p, HandO _) (by walk_at "mem"))
  clear L
  have htn := I.tn
  have hgn := I.gn
  have hle : ls.length = ls'.length := by have := congrArg List.length I.eq; rwa [List.length_map, List.length_map] at this
  walk_at "one"
  try dsimp only [gName]
  refine seq_mid (fun σ' Hx => ∃ (mo2 : Int) (v11 v12 v13 : Option V) (ts2 : Lts) (l2 m2 : Lns) (pl2 : Option (Int × Int)), 0 ≤ mo2 ∧ σ' = [some (.ref a), some (.ref p), some (.ref d0.ps), some (.ref x.nq), some (.ref x.p), some (.ref x.q), some (.ref x.pp), some (.ref x.ls), some (.int mo2), some (.int (2 + i)), some (.int r2), v11, v12, v13] ∧ Pv C CS CH CP H Hx d0 x ts2 l2 m2 pl2 [z0, z1] (i + 1)) (fun nx kk => ?_) ?_
  ·have L := Led.start Ha' (fun _ => False)
   walk_at "go"
   refine g_eqD (d := .lst (ts.map fun x => ltD x.2)) (e := .lst []) (lts_at (SqL.of (L'.same _ _ Ia.sn)) (Ia.lt.same L'.same)) (.lst (SqL.of (L'.eo .head)) .nil) (lts_dep' ts) ?_
   rw [lts_eqnil]
   have Ib := Ia.same L'.same
   have hhb := hh'.same L'.same
   clear L L'
   rename Hp => Hb0
   walk_at "go"
   refine g_ifD (fun c0 => ?_) (fun c0 => ?_)
   ·have IX := Ib
    have hX := hhb
    have L := led_one IX.sn
    walk_at "go"
    clear L
    have L := led_hand hX
    obtain ⟨zs0, ezs0⟩ := hand_lst hX
    refine use_pick L .head (by decide) (by decide) (by decide) fun j Hc j0 j1 L chc => ?_
    obtain ⟨j, rfl⟩ := Int.eq_ofNat_of_zero_le j0
    have hhc := HandO.at (L.at_ (p, HandO _) (by walk_at "mem"))
    have Ic := IX.chg N ezs0 chc.oth
    clear L
    walk_at "go"
    obtain ⟨z, hz⟩ : ∃ z, [z0, z1][j]? = some z := ⟨_, List.getElem?_eq_getElem (by simp only [List.length_cons, List.length_nil]; omega)⟩
    refine g_ixSq (SqL.of Ic.nq_) (atI_nat (by rw [List.getElem?_map, hz]; rfl)) ?_
    obtain ⟨_, _, _, ⟨dy, tr, ms, hst1, _, _⟩, ⟨dz, hsh⟩, hshn⟩ := id Ic.ld
    walk_at "go"
    refine ⟨d0.ps, CS, dy, _, _, rfl, hst1, SS.cl, SS.n1, stF_shape _ _ _ _ _, ?_⟩
    walk_at "go"
    refine ⟨d0.sp, C, dz, _, _, rfl, hsh, SH.cl, SH.ns, shF_s _ _, ?_⟩
    walk_at "go"
    obtain ⟨zs1, ezs1⟩ := hand_lst hhc
    refine ⟨p, _, dh d0 x.p x.l, ls, pl, z, d0.s, mo, rfl, hhc, by omega, Ic.ld, hshn.s1, hshn.s2, m0, fun t y Hb hy ob => ?_⟩
    have Ib := Ic.chg N ezs1 ob
    have htn := Ib.tn
    have L := led_one Ib.sn
    walk_at "go"
    refine g_append L .head (by rw [ltV_len]; exact small1000 (by omega)) fun Hd LD chd => ?_
    have hls := LD.eo (p := x.ls) .head
    have hpoc := Ib.po.chg Ib.sn W.pls chd.oth
    have hyd := hy.ts chd.ts
    clear L LD
    walk_at "one"
    try dsimp only [gName]
    refine seq_mid (fun σ' Hz => ∃ mo2 : Int, 0 ≤ mo2 ∧ σ' = [some (.ref a), some (.ref p), some (.ref d0.ps), some (.ref x.nq), some (.ref x.p), some (.ref x.q), some (.ref x.pp), some (.ref x.ls), some (.int mo2), some (.int (2 + i)), some (.int r2), u11, u12, u13] ∧ Hz = Hd) (fun nx2 kk2 => ?_) ?_
    ·walk_at "go"
     refine g_ixSq (SqL.of hls) (atI_last _ _) ?_
     cases y with
     | news ot nm b =>
      have ht : Hd t = some (.tup [.str "news", .str ot, .str nm, .int b]) := hyd
      have L := (Led.start Hd (fun _ => False)).more (tupAt t [_, _, _, _]) ht
      walk_at "go"
      refine g_ifDF (by decide +kernel) ?_
      walk_at "go"
      exact kk2 _ _ ⟨_, m0, rfl, rfl⟩
     | grant nm n sl f e =>
      obtain ⟨hn, a', ht, ha⟩ := hyd
      have L := (Led.start Hd (fun _ => False)).more (tupAt t [_, _, _, _]) ht
      walk_at "go"
      refine g_ixSq (SqL.of hls) (atI_last _ _) ?_
      walk_at "go"
      exact kk2 _ _ ⟨_, by omega, rfl, rfl⟩
    rintro σ' Hz ⟨mo2, m02, rfl, rfl⟩
    obtain ⟨⟨dw, hppc⟩, _⟩ := id hpoc
    walk_at "go"
    refine g_methv hppc (lk_miss (by decide +kernel)) ?_
    walk_at "go"
    refine g_ixSq (SqL.of hls) (atI_last _ _) ?_
    walk_at "go"
    refine ⟨x.pp, x.lp, ltV ts, .ref t, rfl, hpoc, by rw [ltV_len]; omega, fun He ee oe => ?_⟩
    walk_at "go"
    exact kk _ _ ⟨mo2, _, _, _, _, _, _, _, m02, rfl, Ib.send W hy chd hls oe ee⟩
   walk_at "go"
   refine g_ifD (fun c1 => ?_) (fun c1 => ?_)
   ·have IX := Ib
    have hX := hhb
    have L := led_one IX.sn
    walk_at "go"
    clear L
    have L := led_hand hX
    obtain ⟨zs0, ezs0⟩ := hand_lst hX
    refine use_pick L .head (by decide) (by decide) (by decide) fun j Hc j0 j1 L chc => ?_
    obtain ⟨j, rfl⟩ := Int.eq_ofNat_of_zero_le j0
    have hhc := HandO.at (L.at_ (p, HandO _) (by walk_at "mem"))
    have Ic := IX.chg N ezs0 chc.oth
    clear L
    walk_at "go"
    obtain ⟨z, hz⟩ : ∃ z, [z0, z1][j]? = some z := ⟨_, List.getElem?_eq_getElem (by simp only [List.length_cons, List.length_nil]; omega)⟩
    refine g_ixSq (SqL.of Ic.nq_) (atI_nat (by rw [List.getElem?_map, hz]; rfl)) ?_
    obtain ⟨_, _, _, ⟨dy, tr, ms, hst1, _, _⟩, ⟨dz, hsh⟩, hshn⟩ := id Ic.ld
    walk_at "go"
    refine ⟨d0.ps, CS, dy, _, _, rfl, hst1, SS.cl, SS.n1, stF_shape _ _ _ _ _, ?_⟩
    walk_at "go"
    refine ⟨d0.sp, C, dz, _, _, rfl, hsh, SH.cl, SH.ns, shF_s _ _, ?_⟩
    walk_at "go"
    obtain ⟨zs1, ezs1⟩ := hand_lst hhc
    refine ⟨p, _, dh d0 x.p x.l, ls, pl, z, d0.s, mo, rfl, hhc, by omega, Ic.ld, hshn.s1, hshn.s2, m0, fun t y Hb hy ob => ?_⟩
    have Ib := Ic.chg N ezs1 ob
    have htn := Ib.tn
    have L := led_one Ib.sn
    walk_at "go"
    refine g_append L .head (by rw [ltV_len]; exact small1000 (by omega)) fun Hd LD chd => ?_
    have hls := LD.eo (p := x.ls) .head
    have hpoc := Ib.po.chg Ib.sn W.pls chd.oth
    have hyd := hy.ts chd.ts
    clear L LD
    walk_at "one"
    try dsimp only [gName]
    refine seq_mid (fun σ' Hz => ∃ mo2 : Int, 0 ≤ mo2 ∧ σ' = [some (.ref a), some (.ref p), some (.ref d0.ps), some (.ref x.nq), some (.ref x.p), some (.ref x.q), some (.ref x.pp), some (.ref x.ls), some (.int mo2), some (.int (2 + i)), some (.int r2), u11, u12, u13] ∧ Hz = Hd) (fun nx2 kk2 => ?_) ?_
    ·walk_at "go"
     refine g_ixSq (SqL.of hls) (atI_last _ _) ?_
     cases y with
     | news ot nm b =>
      have ht : Hd t = some (.tup [.str "news", .str ot, .str nm, .int b]) := hyd
      have L := (Led.start Hd (fun _ => False)).more (tupAt t [_, _, _, _]) ht
      walk_at "go"
      refine g_ifDF (by decide +kernel) ?_
      walk_at "go"
      exact kk2 _ _ ⟨_, m0, rfl, rfl⟩
     | grant nm n sl f e =>
      obtain ⟨hn, a', ht, ha⟩ := hyd
      have L := (Led.start Hd (fun _ => False)).more (tupAt t [_, _, _, _]) ht
      walk_at "go"
      refine g_ixSq (SqL.of hls) (atI_last _ _) ?_
      walk_at "go"
      exact kk2 _ _ ⟨_, by omega, rfl, rfl⟩
    rintro σ' Hz ⟨mo2, m02, rfl, rfl⟩
    obtain ⟨⟨dw, hppc⟩, _⟩ := id hpoc
    walk_at "go"
    refine g_methv hppc (lk_miss (by decide +kernel)) ?_
    walk_at "go"
    refine g_ixSq (SqL.of hls) (atI_last _ _) ?_
    walk_at "go"
    refine ⟨x.pp, x.lp, ltV ts, .ref t, rfl, hpoc, by rw [ltV_len]; omega, fun He ee oe => ?_⟩
    walk_at "go"
    exact kk _ _ ⟨mo2, _, _, _, _, _, _, _, m02, rfl, Ib.send W hy chd hls oe ee⟩
   walk_at "go"
   refine g_ifD (fun c2 => ?_) (fun c2 => ?_)
   ·walk_at "go"
    refine g_lenSq (SqL.of Ib.sn) ?_
    rw [ltV_len]
    have L := led_hand hhb
    walk_at "one"
    try dsimp only [gName]
    refine seq_mid (fun σ' Hx => ∃ j : Nat, j < ts.length ∧ σ' = [some (.ref a), some (.ref p), some (.ref d0.ps), some (.ref x.nq), some (.ref x.p), some (.ref x.q), some (.ref x.pp), some (.ref x.ls), some (.int mo), some (.int (2 + i)), some (.int r2), some (.int j), u12, u13] ∧ Pv C CS CH CP H Hx d0 x ts ls ls' pl [z0, z1] i) (fun nx2 kk2 => ?_) ?_
    ·obtain ⟨zs1, ezs1⟩ := hand_lst hhb
     walk_at "go"
     refine use_pick L .head (by decide) (by decide) (by decide) fun r4 Hd z2 z3 L chd => ?_
     have Id := Ib.chg N ezs1 chd.oth
     have hhd := HandO.at (L.at_ (p, HandO _) (by walk_at "mem"))
     obtain ⟨zs2, ezs2⟩ := hand_lst hhd
     walk_at "go"
     refine g_ifD (fun c3 => ?_) (fun c3 => ?_)
     ·walk_at "go"
      refine g_lenSq (SqL.of Id.sn) ?_
      rw [ltV_len]
      walk_at "go"
      refine use_pick L .head (by omega) (by omega) (by decide) fun r5 He z4 z5 L che => ?_
      obtain ⟨j, rfl⟩ := Int.eq_ofNat_of_zero_le z4
      walk_at "go"
      exact kk2 _ _ ⟨j, by omega, rfl, Id.chg N ezs2 che.oth⟩
     ·walk_at "go"
      exact kk2 _ _ ⟨ts.length - 1, by omega, by rw [show ((ts.length - 1 : Nat) : Int) = (ts.length : Int) - 1 by omega]; rfl, Id⟩
    clear L
    rintro σ' He ⟨j, hj, rfl, Ie⟩
    obtain ⟨⟨t, y⟩, hy⟩ : ∃ z, ts[j]? = some z := ⟨_, List.getElem?_eq_getElem hj⟩
    have hty := Ie.lt _ (List.mem_of_getElem? hy)
    walk_at "go"
    refine ⟨dh d0 x.p x.l, ls, pl, x.pp, x.lp, t, ts, j, y, rfl, Ie.po, hy, hty, Ie.ld, Ie.ok, by omega, fun v1 o1 l2 pl2 H1' op1 du1 hd1 ok1 hl1 f1 => ?_⟩
    have ts1 := fr2_ts Ie.ld f1
    have sn1 := f1 _ _ Ie.sn (hd_ne Ie.ld Ie.sn) (Ne.symm W.lls)
    have le1 : HdAt C CS CH H1' (dh d0 x.q x.m) ls' pl := Ie.le.fr2 Ie.ld (Ne.symm W.pq) (Ne.symm W.lm) f1
    walk_at "go"
    refine g_ixSq (SqL.of sn1) (atI_nat (show (ltV ts)[j]? = some (.ref t) by unfold ltV; rw [List.getElem?_map, hy]; rfl)) ?_
    walk_at "go"
    refine ⟨dh d0 x.q x.m, ls', pl, t, y, rfl, hty.ts ts1, le1, Ie.ok', by omega, fun v2 o2 m2 pl3 H2' op2 du2 hd2 ok2 hl2 f2 => ?_⟩
    rw [opF_eq (d := dh d0 x.p x.l) (e := dh d0 x.q x.m) ⟨rfl, rfl, rfl, rfl, rfl⟩ Ie.eq, op2] at op1
    simp only [Prod.mk.injEq] at op1
    obtain ⟨rfl, el, rfl⟩ := op1
    have I3 := Ie.step W f1 hd1 ok1 f2 hd2 ok2 el.symm hl1
    have du1' := du1.ts (fr2_ts le1 f2)
    walk_at "go"
    refine ⟨v1, v2, o2, rfl, du1', du2, ?_⟩
    walk_at "go"
    exact kk _ _ ⟨mo, _, _, _, _, _, _, _, m0, rfl, I3⟩
   ·obtain ⟨zs1, ezs1⟩ := hand_lst hhb
    have L := led_hand hhb
    walk_at "go"
    refine use_pick L' (by walk_at "put") (by decide) (by decide) (by decide) fun r4 Hd z2 z3 L chd => ?_
    have Id := Ib.chg N ezs1 L.fr
    have hhd := HandO.at (L.at_ (p, HandO _) (by walk_at "mem"))
    obtain ⟨zs2, ezs2⟩ := hand_lst hhd
    refine g_ixMS L .head z2 (by simp only [List.length_cons, List.length_nil]; omega) fun v hv => ?_
    obtain ⟨tu, rfl⟩ : ∃ n : Int, v = .int n := by
     simp only [List.mem_cons, List.not_mem_nil, or_false] at hv
     rcases hv with rfl | rfl | rfl | rfl | rfl | rfl | rfl | rfl | rfl <;> exact ⟨_, rfl⟩
    clear L L'
    walk_at "go"
    refine ⟨p, _, dh d0 x.p x.l, ls, pl, rfl, hhd, by decide, Id.ld, fun rd Hr orr => ?_⟩
    have Ir := Id.chg N ezs2 orr
    walk_at "go"
    refine ⟨dh d0 x.p x.l, ls, pl, tu, rd, rfl, Ir.ld, Ir.ok, by omega, fun v1 o1 l2 pl2 H1' op1 de1 hd1 ok1 hl1 f1 => ?_⟩
    have le1 : HdAt C CS CH H1' (dh d0 x.q x.m) ls' pl := Ir.le.fr2 Ir.ld (Ne.symm W.pq) (Ne.symm W.lm) f1
    walk_at "go"
    refine ⟨dh d0 x.q x.m, ls', pl, tu, rd, rfl, le1, Ir.ok', by omega, fun v2 o2 m2 pl3 H2' op2 de2 hd2 ok2 hl2 f2 => ?_⟩
    rw [opF_eq (d := dh d0 x.p x.l) (e := dh d0 x.q x.m) ⟨rfl, rfl, rfl, rfl, rfl⟩ Ir.eq, op2] at op1
    simp only [Prod.mk.injEq] at op1
    obtain ⟨rfl, el, rfl⟩ := op1
    have I3 := Ir.step W f1 hd1 ok1 f2 hd2 ok2 el.symm hl1
    have de1' := de1.fr le1 Ir.le.2.1 f2
    walk_at "go"
    refine g_neDF (d := deD o2) de1'.at de2.at (de_dep o2) ?_
    walk_at "go"
    exact kk _ _ ⟨mo, _, _, _, _, _, _, _, m0, rfl, I3⟩
  rintro σ' Hm ⟨mo2, v11, v12, v13, ts2, l2, m2, pl2, m02, rfl, J⟩
  obtain ⟨⟨d1, sv1, hp1, _⟩, _⟩ := id J.ld
  walk_at "go"
  refine g_methv hp1 h_note ?_
  walk_at "go"
  refine ⟨dh d0 x.p x.l, l2, pl2, rfl, J.ld, fun na Hn nna hna sn => ?_⟩
  have Jn := J.same sn
  obtain ⟨⟨d2, sv2, hp2, _⟩, _⟩ := id Jn.le
  walk_at "go"
  refine g_methv hp2 h_note ?_
  walk_at "go"
  refine ⟨dh d0 x.q x.m, m2, pl2, rfl, Jn.le, fun nb Ho nnb hnb so => ?_⟩
  have Jo := Jn.same so
  have eD : (l2.map fun x => lnD x.2) = m2.map fun x => lnD x.2 := by
   have key : ∀ l : Lns, (l.map fun x => lnD x.2) = (l.map (·.2)).map lnD := fun l => by rw [List.map_map]; rfl
   rw [key, key, Jo.eq]
  walk_at "go"
  refine g_neDF (d := .lst (l2.map fun x => lnD x.2)) (lns_at (SqL.of (so _ _ hna)) Jo.ld.2.2.1) (by rw [eD]; exact lns_at (SqL.of hnb) Jo.le.2.2.1) (lns_dep' _) ?_
  obtain ⟨⟨d3, sv3, hp3, _⟩, _⟩ := id Jo.ld
  obtain ⟨⟨d4, sv4, hp4, _⟩, _⟩ := id Jo.le
  walk_at "go"
  refine g_methv hp3 h_place ?_
  walk_at "go"
  refine ⟨dh d0 x.p x.l, l2, pl2, rfl, Jo.ld, fun v hv => ?_⟩
  walk_at "go"
  refine g_methv hp4 h_place ?_
  walk_at "go"
  refine ⟨dh d0 x.q x.m, m2, pl2, rfl, Jo.le, fun u hu => ?_⟩
  walk_at "go"
  refine g_neDF (d := plD pl2) (pl_at hv) (pl_at hu) (pl_dep pl2) ?_
  obtain ⟨⟨d5, hpp⟩, _⟩ := id Jo.po
  walk_at "go"
  refine g_methv hpp (lk_miss (by decide +kernel)) ?_
  walk_at "go"
  refine ⟨x.pp, x.lp, ltV ts2, rfl, Jo.po, fun lb H4 nb hb4 s4 => ?_⟩
  walk_at "go"
  refine g_neDF (d := .lst (ts2.map fun x => ltD x.2)) (lts_at (SqL.of hb4) (Jo.lt.same s4)) (lts_at (SqL.of (s4 _ _ Jo.sn)) (Jo.lt.same s4)) (lts_dep' _) ?_
  walk_at "go"
  exact ⟨mo2, _, _, _, _, _, _, ts2, l2, m2, pl2, m02, rfl, Jo.same s4⟩
 ·rintro σ HG ⟨mo, u1, u9, u10, u11, u12, u13, ts, ls, ls', pl, m0, rfl, I⟩
  walk_at "go"
  exact q _
end
end Law

namespace Law
open PySem PySem.Spec PyProof.Rows L2 L3 L4
structure Er1 (K : PySem.W.Frag) (CD CU CA CN CW CT c : Addr) (b0 b1 b2 b3 b4 b5 : Bool) : Prop where
 g : EGet K c
 k0 : PySem.W.kitOne K (.ref c) (.ref CD) = some b0
 k1 : PySem.W.kitOne K (.ref c) (.ref CU) = some b1
 k2 : PySem.W.kitOne K (.ref c) (.ref CA) = some b2
 k3 : PySem.W.kitOne K (.ref c) (.ref CN) = some b3
 k4 : PySem.W.kitOne K (.ref c) (.ref CW) = some b4
 k5 : PySem.W.kitOne K (.ref c) (.ref CT) = some b5
structure Er6 (K : PySem.W.Frag) (CD CU CA CN CW CT : Addr) : Prop where
 d : Er1 K CD CU CA CN CW CT CD true false false false false false
 u : Er1 K CD CU CA CN CW CT CU false true false false false false
 a : Er1 K CD CU CA CN CW CT CA false false true false false false
 n : Er1 K CD CU CA CN CW CT CN false false false true false false
 w : Er1 K CD CU CA CN CW CT CW false false false false true false
 t : Er1 K CD CU CA CN CW CT CT false false false false false true
theorem er1_all {K : PySem.W.Frag} {CD CU CA CN CW CT c : Addr} {b0 b1 b2 b3 b4 b5 : Bool} {j : Nat} (E : Er1 K CD CU CA CN CW CT c b0 b1 b2 b3 b4 b5) (h0 : b0 = decide (0 = j)) (h1 : b1 = decide (1 = j)) (h2 : b2 = decide (2 = j)) (h3 : b3 = decide (3 = j)) (h4 : b4 = decide (4 = j)) (h5 : b5 = decide (5 = j)) : ∀ (i : Nat) (c' : Addr), (ers CD CU CA CN CW CT)[i]? = some c' → PySem.W.kitOne K (.ref c) (.ref c') = some (decide (i = j)) := fun i c' hi => by
 match i, hi with
 | 0, hi => obtain rfl : CD = c' := Option.some.inj hi; rw [← h0]; exact E.k0
 | 1, hi => obtain rfl : CU = c' := Option.some.inj hi; rw [← h1]; exact E.k1
 | 2, hi => obtain rfl : CA = c' := Option.some.inj hi; rw [← h2]; exact E.k2
 | 3, hi => obtain rfl : CN = c' := Option.some.inj hi; rw [← h3]; exact E.k3
 | 4, hi => obtain rfl : CW = c' := Option.some.inj hi; rw [← h4]; exact E.k4
 | 5, hi => obtain rfl : CT = c' := Option.some.inj hi; rw [← h5]; exact E.k5
 | n + 6, hi => exact absurd hi (by simp [ers])
theorem Er6.era {K : PySem.W.Frag} {CD CU CA CN CW CT CR : Addr} (E : Er6 K CD CU CA CN CW CT) (et : ∀ c ∈ ers CD CU CA CN CW CT, PySem.W.exmOne K (.ref c) (.ref CR) = some true) : ErA K CR (ers CD CU CA CN CW CT) := fun j c hj => by
 have hm := et c (List.mem_of_getElem? hj)
 match j, hj with
 | 0, hj => obtain rfl : CD = c := Option.some.inj hj; exact ⟨E.d.g, hm, er1_all E.d rfl rfl rfl rfl rfl rfl⟩
 | 1, hj => obtain rfl : CU = c := Option.some.inj hj; exact ⟨E.u.g, hm, er1_all E.u rfl rfl rfl rfl rfl rfl⟩
 | 2, hj => obtain rfl : CA = c := Option.some.inj hj; exact ⟨E.a.g, hm, er1_all E.a rfl rfl rfl rfl rfl rfl⟩
 | 3, hj => obtain rfl : CN = c := Option.some.inj hj; exact ⟨E.n.g, hm, er1_all E.n rfl rfl rfl rfl rfl rfl⟩
 | 4, hj => obtain rfl : CW = c := Option.some.inj hj; exact ⟨E.w.g, hm, er1_all E.w rfl rfl rfl rfl rfl rfl⟩
 | 5, hj => obtain rfl : CT = c := Option.some.inj hj; exact ⟨E.t.g, hm, er1_all E.t rfl rfl rfl rfl rfl rfl⟩
 | n + 6, hj => exact absurd hj (by simp [ers])
open PySem.W in
theorem exl_mk {K : Frag} {h : Heap} {mg : Str → Option Value} {CL : Addr} (X : K.In h) (G : h.Ns mainGlobals mg) (WL : ExW K mg "NoLetter" "NoLetter.__init__" CL (inClass (top 10) 0) ["self", "number"]) (tk : takerIn K CL "number" = some none) : ∃ CL : Addr, ExW K mg "NoLetter" "NoLetter.__init__" CL (inClass (top 10) 0) ["self", "number"] ∧ EPut K CL "number" := ⟨CL, WL, WL.put tk⟩
end Law

namespace Law
open PySem PySem.Spec PyProof.Rows L2 L3 L4
open PySem.W in
theorem tup_mk {K : Frag} {h : Heap} {mg : Str → Option Value} {x : Str} {a : Addr} {dd : Option Addr} {its : Array Value} {n : Nat} {sl : Array (Option Value)} {xs : List V} (X : K.In h) (G : h.Ns mainGlobals mg)
  (n1 : nsIn K mainGlobals x = some (some (.ref a))) (n2 : K.lookup a = some ⟨.type "tuple", dd, .seq its n, sl⟩) (n3 : Vals xs its.toList) (hz : its.size ≤ sizeLine) : ∃ aN, GlV mg x (.ref aN) ∧ ∀ H, SqT K H aN xs :=
 ⟨a, ⟨_, mg_of X G n1, rfl⟩, fun _ => .inr ⟨_, its, n, n2, rfl, rfl, hz, n3⟩⟩
end Law

open PySem PySem.W PyProof.Rows
local macro_rules | `(tactic| walk_at "dat") => `(tactic| (dsimp only [L2.KOf]; refine' L3.dat_mk KX G ?a ?l ?c ?k ?b; (case a => k_is); (case l => k_is); (case c => k_is); (case k => k_is); (case b => first | exact (fun _ _ _ _ _ _ us hl => match us, hl with | [_], _ => rfl) | exact (fun _ _ _ _ _ _ us hl => match us, hl with | [_, _], _ => rfl) | exact (fun _ _ _ _ _ _ us hl => match us, hl with | [_, _, _], _ => rfl) | exact (fun _ _ _ _ _ _ us hl => match us, hl with | [_, _, _, _], _ => rfl) | exact (fun _ _ _ _ _ _ us hl => match us, hl with | [_, _, _, _, _], _ => rfl))))
namespace PySem.W.Fast
def tw8009181340496531376 : Unit := ()
def tw16397919850543468632 : Unit := ()
def tw9157016891127154037 : Unit := ()
def tw6670994738725644425 : Unit := ()
def tw15068813462245317770 : Unit := ()
def tw18140944498906780240 : Unit := ()
def tw3251476351452470223 : Unit := ()
def tw11468680281869578044 : Unit := ()
def tw13759610316777888932 : Unit := ()
def tw3381191724367812300 : Unit := ()
def tw14784355292694125768 : Unit := ()
def tw2295188395775003135 : Unit := ()
def tw6201497951004673800 : Unit := ()
def tw6721964362908191803 : Unit := ()
def tw10009328867877545579 : Unit := ()
def tw1872100792511854854 : Unit := ()
def tw3995136530056844236 : Unit := ()
def tw537156100134019002 : Unit := ()
def tw11240990723888359707 : Unit := ()
def tw7432400324772041972 : Unit := ()
def tw7673821043410150 : Unit := ()
def tw9510250689379990171 : Unit := ()
def tw3680359029343796084 : Unit := ()
def tw3383539161836366964 : Unit := ()
def tw11984493861073861779 : Unit := ()
def tw17129640032262012624 : Unit := ()
def tw6403461153865921064 : Unit := ()
def tw156830946864761771 : Unit := ()
def tw10222011382690113390 : Unit := ()
def tw8864529807962827248 : Unit := ()
def tw4351494011258758775 : Unit := ()
def tw13620339724397412642 : Unit := ()
def tw7858952397923973199 : Unit := ()
def tw12817624381469972207 : Unit := ()
def tw9687688788729425575 : Unit := ()
def tw13954333635055574048 : Unit := ()
def tw4856060008651731725 : Unit := ()
def tw922325792019288875 : Unit := ()
def tw3290914136098335906 : Unit := ()
def tw12146202753158345546 : Unit := ()
def tw8795804019991619216 : Unit := ()
def tw15219935217434837802 : Unit := ()
def tw2699921109443268052 : Unit := ()
def tw7463151899187751304 : Unit := ()
def tw4734062286351606952 : Unit := ()
def tw12019990032462839553 : Unit := ()
def tw15666210892543729043 : Unit := ()
def tw11928243517700414906 : Unit := ()
def tw17005650263745443433 : Unit := ()
def tw1811645963793742371 : Unit := ()
def tw18421313611833766753 : Unit := ()
def tw5914152773849951463 : Unit := ()
def tw16279727206836308737 : Unit := ()
def tw14484827472052817192 : Unit := ()
def tw2407586807831635989 : Unit := ()
def tw15904025364648937067 : Unit := ()
def tw3804159297526238766 : Unit := ()
def tw2689842029769699286 : Unit := ()
def tw3801003712002294010 : Unit := ()
def tw4523955601505383811 : Unit := ()
def tw2953964962199799461 : Unit := ()
def tw1276592348138204632 : Unit := ()
def tw18350605492070056412 : Unit := ()
def tw2313027941925049660 : Unit := ()
def tw9494760022266813061 : Unit := ()
def tw10458748088820169785 : Unit := ()
def tw9752227816280084223 : Unit := ()
def tw3716373807855517310 : Unit := ()
def tw17771911791517238582 : Unit := ()
def tw6834512186381633925 : Unit := ()
def tw158086219504908624 : Unit := ()
def tw7010069063713730833 : Unit := ()
def tw895937359386520310 : Unit := ()
def tw16937300131190884869 : Unit := ()
def tw2060994024789335289 : Unit := ()
def tw1103058598758875525 : Unit := ()
def tw15896829998673984491 : Unit := ()
def tw10613945360314447773 : Unit := ()
def tw3254348897205764870 : Unit := ()
def tw12473568035416849147 : Unit := ()
def tw6729450787423513879 : Unit := ()
def tw7837085985052716416 : Unit := ()
def tw8557064696897330391 : Unit := ()
def tw18113416422373789299 : Unit := ()
def tw16926713151604506704 : Unit := ()
def tw17813404912113984492 : Unit := ()
def tw7210659179291479729 : Unit := ()
def tw13614207823457562390 : Unit := ()
def tw14050840070261600579 : Unit := ()
def tw16955011736864728772 : Unit := ()
def tw9204355157036017495 : Unit := ()
def tw12878078934404442080 : Unit := ()
def tw847449656463145524 : Unit := ()
def tw7455906290988931274 : Unit := ()
def tw4901759988668718996 : Unit := ()
def tw4852848603034201884 : Unit := ()
def tw8937239736068025931 : Unit := ()
def tw17333120702733870351 : Unit := ()
def tw2116549607954264387 : Unit := ()
def tw15615468167771199578 : Unit := ()
def tw441520493365482405 : Unit := ()
def tw2527556592196921454 : Unit := ()
def tw8590575533691706626 : Unit := ()
def tw17647709042772843578 : Unit := ()
def tw15716517137577636314 : Unit := ()
def tw15452272598683685515 : Unit := ()
def tw16918079984826008030 : Unit := ()
def tw9425786651266403777 : Unit := ()
def tw4360406490920555731 : Unit := ()
end PySem.W.Fast
set_option maxHeartbeats 0 in
theorem PySem.Challenge.cw_risemarks_k54_grants_and_news_read_holds : PySem.Challenge.rw_risemarks_k54_grants_and_news_read.Holds := by
 w_on; o_law; k_head; (case hw => w_witness2)
 k_fill
 refine L4.walk_ofX (l := PySem.Challenge.rw_risemarks_k54_grants_and_news_read) (n := 63) (k := 15) (x := "_law_script") (CX := L4.CX1) (sp := Law.spLaw) rfl (by decide) rfl ⟨rfl, by decide, by decide⟩ (fun w h Y => PySem.W.kIn_of Y) ?F ?S ?C
 case S => exact fun K H a ns hl hO hS => ⟨a, ns, rfl, hS, hl, fun _ => rfl⟩
 case C => exact fun P w H s e s' z => L4.noErr1 _ _ _ _ _ z
 case F =>
  intro w mg fa h KX G hmg
  have BT : L3.Bt mg := by
   refine' ⟨?_, ?_, ?_, ?_, ?_, ?_, ?_, ?_, ?_, ?_, ?_, ?_, ?_, ?_, ?_, ?_, ?_, ?_⟩ <;> refine' PySem.W.mg_none_of KX G ?_ <;> k_is
  have D_is_whole : L3.Dat (L2.KOf KX) mg "is_whole" "is_whole" (Law.top 15) ["thing"] := by walk_at "dat"
  have D_is_whole_from : L3.Dat (L2.KOf KX) mg "is_whole_from" "is_whole_from" (Law.top 16) ["thing", "least"] := by walk_at "dat"
  have D_is_side : L3.Dat (L2.KOf KX) mg "is_side" "is_side" (Law.top 17) ["thing"] := by walk_at "dat"
  have D_mark_of : L3.Dat (L2.KOf KX) mg "mark_of" "mark_of" (Law.top 19) ["shape", "moment", "slot", "count"] := by walk_at "dat"
  have D_is_span : L3.Dat (L2.KOf KX) mg "is_span" "is_span" (Law.top 41) ["thing", "least"] := by walk_at "dat"
  have D_is_rule : L3.Dat (L2.KOf KX) mg "is_rule" "is_rule" (Law.top 42) ["thing"] := by walk_at "dat"
  have D_are_rules : L3.Dat (L2.KOf KX) mg "are_rules" "are_rules" (Law.top 43) ["thing"] := by walk_at "dat"
  have D_has_rule : L3.Dat (L2.KOf KX) mg "has_rule" "has_rule" (Law.top 45) ["settings", "word"] := by walk_at "dat"
  have D_slot_of : L3.Dat (L2.KOf KX) mg "slot_of" "slot_of" (Law.top 21) ["area"] := by walk_at "dat"
  have D_first_of : L3.Dat (L2.KOf KX) mg "first_of" "first_of" (Law.top 22) ["area"] := by walk_at "dat"
  have D_end_of : L3.Dat (L2.KOf KX) mg "end_of" "end_of" (Law.top 23) ["area"] := by walk_at "dat"
  have D_ended_at : L3.Dat (L2.KOf KX) mg "ended_at" "ended_at" (Law.top 24) ["area", "end"] := by walk_at "dat"
  have D_read_on : L3.Dat (L2.KOf KX) mg "read_on" "read_on" (Law.top 33) ["told", "line"] := by walk_at "dat"
  have D_read_note : L3.Dat (L2.KOf KX) mg "read_note" "read_note" (Law.top 34) ["lines"] := by walk_at "dat"
  have D_tooks_of : L3.Dat (L2.KOf KX) mg "tooks_of" "tooks_of" (Law.top 36) ["lines"] := by walk_at "dat"
  have D_greatest_taken : L3.Dat (L2.KOf KX) mg "greatest_taken" "greatest_taken" (Law.top 37) ["lines"] := by walk_at "dat"
  have D_bound_of : L3.Dat (L2.KOf KX) mg "bound_of" "bound_of" (Law.top 26) ["place"] := by walk_at "dat"
  have D_raised : L3.Dat (L2.KOf KX) mg "raised" "raised" (Law.top 27) ["place", "bound"] := by walk_at "dat"
  have D_next_place : L3.Dat (L2.KOf KX) mg "next_place" "next_place" (Law.top 28) ["shape", "place"] := by walk_at "dat"
  have D_moment_at : L3.Dat (L2.KOf KX) mg "moment_at" "moment_at" (Law.top 29) ["area", "place", "reading"] := by walk_at "dat"
  have D_made : L3.Dat (L2.KOf KX) mg "made" "made" (Law.top 30) ["shape", "far", "area", "place", "reading"] := by walk_at "dat"
  have D_grant_in : L3.Dat (L2.KOf KX) mg "grant_in" "grant_in" (Law.top 47) ["stand"] := by walk_at "dat"
  have D_area_in : L3.Dat (L2.KOf KX) mg "area_in" "area_in" (Law.top 48) ["stand"] := by walk_at "dat"
  have D_held_in : L3.Dat (L2.KOf KX) mg "held_in" "held_in" (Law.top 49) ["stand"] := by walk_at "dat"
  have D_heard_in : L3.Dat (L2.KOf KX) mg "heard_in" "heard_in" (Law.top 50) ["stand"] := by walk_at "dat"
  have D_start_by : L3.Dat (L2.KOf KX) mg "start_by" "start_by" (Law.top 51) ["note"] := by walk_at "dat"
  have D_need_up : L3.Dat (L2.KOf KX) mg "need_up" "need_up" (Law.top 52) ["place"] := by walk_at "dat"
  have D_need_area : L3.Dat (L2.KOf KX) mg "need_area" "need_area" (Law.top 53) ["area"] := by walk_at "dat"
  have D_falling : L3.Dat (L2.KOf KX) mg "falling" "falling" (Law.top 54) ["stand"] := by walk_at "dat"
  have D_rising : L3.Dat (L2.KOf KX) mg "rising" "rising" (Law.top 55) ["stand"] := by walk_at "dat"
  have D_taking : L3.Dat (L2.KOf KX) mg "taking" "taking" (Law.top 56) ["settings", "stand", "grant", "area"] := by walk_at "dat"
  have D_hearing : L3.Dat (L2.KOf KX) mg "hearing" "hearing" (Law.top 60) ["settings", "stand", "bound"] := by walk_at "dat"
  have D_giving : L3.Dat (L2.KOf KX) mg "giving" "giving" (Law.top 61) ["settings", "stand"] := by walk_at "dat"
  have D_mark_and_place : L3.Dat (L2.KOf KX) mg "mark_and_place" "mark_and_place" (Law.top 57) ["settings", "stand", "reading"] := by walk_at "dat"
  have D_writing : L3.Dat (L2.KOf KX) mg "writing" "writing" (Law.top 58) ["settings", "stand", "reading"] := by walk_at "dat"
  have D_making : L3.Dat (L2.KOf KX) mg "making" "making" (Law.top 59) ["settings", "stand", "reading"] := by walk_at "dat"
  have D_area_of : L3.Dat (L2.KOf KX) mg "area_of" "area_of" (Law.top 35) ["lines"] := by walk_at "dat"
  have D__law_hand : L3.Dat (L2.KOf KX) mg "_law_hand" "_law_hand" (Law.top 65) ["_law_script", "_law_k"] := by walk_at "dat"
  have D__law_pick : L3.Dat (L2.KOf KX) mg "_law_pick" "_law_pick" (Law.top 66) ["_law_hand_here", "_law_many"] := by walk_at "dat"
  have D__law_names : L3.Dat (L2.KOf KX) mg "_law_names" "_law_names" (Law.top 68) ["_law_cell", "_law_many"] := by walk_at "dat"
  have D__law_number : L3.Dat (L2.KOf KX) mg "_law_number" "_law_number" (Law.top 69) ["_law_cell"] := by walk_at "dat"
  have D__law_settings : L3.Dat (L2.KOf KX) mg "_law_settings" "_law_settings" (Law.top 70) ["_law_cell", "_law_sound"] := by walk_at "dat"
  have D__law_work : L3.Dat (L2.KOf KX) mg "_law_work" "_law_work" (Law.top 71) ["_law_hand_here", "_law_way", "_law_reading_here"] := by walk_at "dat"
  have D__law_deed : L3.Dat (L2.KOf KX) mg "_law_deed" "_law_deed" (Law.top 72) ["_law_hand_here", "_law_way", "_law_reading_here"] := by walk_at "dat"
  have D__law_letter : L3.Dat (L2.KOf KX) mg "_law_letter" "_law_letter" (Law.top 73) ["_law_cell", "_law_hand_here", "_law_other", "_law_slots", "_law_most"] := by walk_at "dat"
  have D__law_due : L3.Dat (L2.KOf KX) mg "_law_due" "_law_due" (Law.top 74) ["_law_letter_here", "_law_beside"] := by walk_at "dat"
  have D__law_read : L3.Dat (L2.KOf KX) mg "_law_read" "_law_read" (Law.top 75) ["_law_post", "_law_number_here", "_law_hand_here"] := by walk_at "dat"
  have D__law_alike : L3.Dat (L2.KOf KX) mg "_law_alike" "_law_alike" (Law.top 76) ["_law_found", "_law_due_here"] := by walk_at "dat"
  have D__law_reading : L3.Dat (L2.KOf KX) mg "_law_reading" "_law_reading" (Law.top 77) ["_law_cell", "_law_hand_here"] := by walk_at "dat"
  have D_law : L3.Dat (L2.KOf KX) mg "law" "law" (Law.top 78) ["_law_script"] := by walk_at "dat"
  obtain ⟨C, D_Shape, nc, ns⟩ : ∃ C, L3.CDat (L2.KOf KX) mg "Shape" "Shape.__init__" C (L2.inClass (Law.top 18) 0) ["self", "counts", "slots"] ∧ L2.NoAttr (L2.KOf KX) C "counts" ∧ L2.NoAttr (L2.KOf KX) C "slots" := by
   dsimp only [L2.KOf]
   refine' ⟨_, L3.cdat_mk KX G ?aC ?a ?i ?l ?c ?k ?pg ?hd ?po ?sa ?mk ?kc ?b, ?n1, ?n2⟩
   (case aC => k_is); (case a => k_is); (case i => k_is); (case l => k_is); (case c => k_is); (case k => k_is); (case pg => k_is); (case hd => k_is); (case po => k_is); (case sa => k_is); (case mk => k_is); (case kc => k_is)
   (case n1 => unfold L2.NoAttr; k_is); (case n2 => unfold L2.NoAttr; k_is)
   (case b => exact fun _ _ _ _ _ _ us hl => match us, hl with | [_, _, _], _ => rfl)
  have SC : Law.ShC (L2.KOf KX) C := ⟨D_Shape.cls, nc, ns⟩
  have g_SIDE : L3.GlV mg "GREATEST_SIDE" (.int 1000) := by
   refine' ⟨_, PySem.W.mg_of KX G ?_, ?_⟩
   rotate_left
   ·k_is
   ·exact ⟨_, rfl⟩
  have g_SPAN : L3.GlV mg "GREATEST_SPAN" (.int 1000000000000) := by
   refine' ⟨_, PySem.W.mg_of KX G ?_, ?_⟩
   rotate_left
   ·k_is
   ·exact ⟨_, rfl⟩
  obtain ⟨CS, D_Settings, n1, n2, n3, n4, n5⟩ : ∃ C, L4.CDatD (L2.KOf KX) mg "Settings" "Settings.__init__" C (L2.inClass (Law.top 44) 0) ["self", "shape", "far", "room", "term", "rules"] ∧ L2.NoAttr (L2.KOf KX) C "shape" ∧ L2.NoAttr (L2.KOf KX) C "far" ∧ L2.NoAttr (L2.KOf KX) C "room" ∧ L2.NoAttr (L2.KOf KX) C "term" ∧ L2.NoAttr (L2.KOf KX) C "rules" := by
   dsimp only [L2.KOf]
   refine' ⟨_, L4.cdatd_mk KX G ?aC ?a ?i ?l ?tl ?c ?pg ?hd ?po ?sa ?mk ?kc ?b, ?n1, ?n2, ?n3, ?n4, ?n5⟩
   (case aC => k_is); (case a => k_is); (case i => k_is); (case l => k_is); (case tl => k_is); (case c => k_is); (case pg => k_is); (case hd => k_is); (case po => k_is); (case sa => k_is); (case mk => k_is); (case kc => k_is)
   (case n1 => unfold L2.NoAttr; k_is); (case n2 => unfold L2.NoAttr; k_is); (case n3 => unfold L2.NoAttr; k_is); (case n4 => unfold L2.NoAttr; k_is); (case n5 => unfold L2.NoAttr; k_is)
   (case b => exact fun _ _ _ _ _ _ _ us hl => match us, hl with | [_, _, _, _, _, _], _ => ⟨_, rfl, rfl⟩)
  have SS : Law.StC (L2.KOf KX) CS := ⟨D_Settings.cl, n1, n2, n3, n4, n5⟩
  obtain ⟨aR, g_RULES, hR⟩ : ∃ aR, L3.GlV mg "RULES" (.ref aR) ∧ ∀ H, L2.SqT (L2.KOf KX) H aR (Law.ruleW.map L2.V.str) := by
   dsimp only [L2.KOf]
   refine' Law.tup_mk KX G ?n1 ?n2 ?n3 ?n4
   (case n1 => k_is); (case n2 => k_is); (case n3 => exact .cons ⟨_, rfl⟩ (.cons ⟨_, rfl⟩ (.cons ⟨_, rfl⟩ (.cons ⟨_, rfl⟩ (.cons ⟨_, rfl⟩ .nil))))); (case n4 => exact Nat.le_of_lt (L2.small1000 (by decide)))
  obtain ⟨aN, g_NOTHING, hN⟩ : ∃ aN, L3.GlV mg "NOTHING" (.ref aN) ∧ ∀ H, L2.SqT (L2.KOf KX) H aN [.int 0, .non, .int 0, .int 0] := by
   dsimp only [L2.KOf]
   refine' Law.tup_mk KX G ?n1 ?n2 ?n3 ?n4
   (case n1 => k_is); (case n2 => k_is); (case n3 => exact .cons ⟨_, rfl⟩ (.cons rfl (.cons ⟨_, rfl⟩ (.cons ⟨_, rfl⟩ .nil)))); (case n4 => exact Nat.le_of_lt (L2.small1000 (by decide)))
  obtain ⟨CH, D_Hand, n1, n2, n3, n4, HM⟩ : ∃ C, L4.CDat1 (L2.KOf KX) mg "Hand" "Hand.__init__" C (L2.inClass (Law.top 63) 0) ["self", "name", "settings", "lines"] ∧ L2.NoAttr (L2.KOf KX) C "name" ∧ L2.NoAttr (L2.KOf KX) C "settings" ∧ L2.NoAttr (L2.KOf KX) C "lines" ∧ L2.NoAttr (L2.KOf KX) C "spot" ∧ Law.HMet (L2.KOf KX) mg C := by
   dsimp only [L2.KOf]
   refine' ⟨_, L4.cdat1_mk KX G ?aC ?a ?i ?l ?tl ?c ?pg ?hd ?po ?sa ?mk ?kc ?b ?b1, ?n1, ?n2, ?n3, ?n4, ⟨L4.mdat_mk ⟨?pg, ?hd, ?po, ?sa⟩ ?is_up_a ?is_up_i ?is_up_l ?is_up_c ?is_up_k ?is_up_b, L4.mdat_mk ⟨?pg, ?hd, ?po, ?sa⟩ ?place_a ?place_i ?place_l ?place_c ?place_k ?place_b, L4.mdat_mk ⟨?pg, ?hd, ?po, ?sa⟩ ?note_a ?note_i ?note_l ?note_c ?note_k ?note_b, L4.mdat_mk ⟨?pg, ?hd, ?po, ?sa⟩ ?area_a ?area_i ?area_l ?area_c ?area_k ?area_b, L4.mdat_mk ⟨?pg, ?hd, ?po, ?sa⟩ ?stand_a ?stand_i ?stand_l ?stand_c ?stand_k ?stand_b, L4.mdat_mk ⟨?pg, ?hd, ?po, ?sa⟩ ?go_a ?go_i ?go_l ?go_c ?go_k ?go_b, L4.mdat_mk ⟨?pg, ?hd, ?po, ?sa⟩ ?fall_a ?fall_i ?fall_l ?fall_c ?fall_k ?fall_b, L4.mdat_mk ⟨?pg, ?hd, ?po, ?sa⟩ ?rise_a ?rise_i ?rise_l ?rise_c ?rise_k ?rise_b, L4.mdat_mk ⟨?pg, ?hd, ?po, ?sa⟩ ?take_a ?take_i ?take_l ?take_c ?take_k ?take_b, L4.mdat_mk ⟨?pg, ?hd, ?po, ?sa⟩ ?write_a ?write_i ?write_l ?write_c ?write_k ?write_b, L4.mdat_mk ⟨?pg, ?hd, ?po, ?sa⟩ ?make_a ?make_i ?make_l ?make_c ?make_k ?make_b, L4.mdat_mk ⟨?pg, ?hd, ?po, ?sa⟩ ?hear_a ?hear_i ?hear_l ?hear_c ?hear_k ?hear_b, L4.mdat_mk ⟨?pg, ?hd, ?po, ?sa⟩ ?tell_a ?tell_i ?tell_l ?tell_c ?tell_k ?tell_b, L4.mdat_mk ⟨?pg, ?hd, ?po, ?sa⟩ ?give_back_a ?give_back_i ?give_back_l ?give_back_c ?give_back_k ?give_back_b⟩⟩
   (case aC => k_is); (case a => k_is); (case i => k_is); (case l => k_is); (case tl => k_is); (case c => k_is); (case pg => k_is); (case hd => k_is); (case po => k_is); (case sa => k_is); (case mk => k_is); (case kc => k_is)
   (case n1 => unfold L2.NoAttr; k_is); (case n2 => unfold L2.NoAttr; k_is); (case n3 => unfold L2.NoAttr; k_is); (case n4 => unfold L2.NoAttr; k_is)
   (case b => exact fun _ _ _ _ _ _ _ us hl => match us, hl with | [_, _, _, _], _ => ⟨_, rfl, rfl⟩)
   (case b1 => exact fun _ _ _ _ _ _ _ us hl => match us, hl with | [_, _, _], _ => ⟨_, rfl, rfl⟩)
   (case is_up_a => k_is); (case is_up_i => k_is); (case is_up_l => k_is); (case is_up_c => k_is); (case is_up_k => k_is); (case is_up_b => exact fun _ _ _ _ _ _ us hl => match us, hl with | [_], _ => rfl)
   (case place_a => k_is); (case place_i => k_is); (case place_l => k_is); (case place_c => k_is); (case place_k => k_is); (case place_b => exact fun _ _ _ _ _ _ us hl => match us, hl with | [_], _ => rfl)
   (case note_a => k_is); (case note_i => k_is); (case note_l => k_is); (case note_c => k_is); (case note_k => k_is); (case note_b => exact fun _ _ _ _ _ _ us hl => match us, hl with | [_], _ => rfl)
   (case area_a => k_is); (case area_i => k_is); (case area_l => k_is); (case area_c => k_is); (case area_k => k_is); (case area_b => exact fun _ _ _ _ _ _ us hl => match us, hl with | [_], _ => rfl)
   (case stand_a => k_is); (case stand_i => k_is); (case stand_l => k_is); (case stand_c => k_is); (case stand_k => k_is); (case stand_b => exact fun _ _ _ _ _ _ us hl => match us, hl with | [_], _ => rfl)
   (case go_a => k_is); (case go_i => k_is); (case go_l => k_is); (case go_c => k_is); (case go_k => k_is); (case go_b => exact fun _ _ _ _ _ _ us hl => match us, hl with | [_, _], _ => rfl)
   (case fall_a => k_is); (case fall_i => k_is); (case fall_l => k_is); (case fall_c => k_is); (case fall_k => k_is); (case fall_b => exact fun _ _ _ _ _ _ us hl => match us, hl with | [_], _ => rfl)
   (case rise_a => k_is); (case rise_i => k_is); (case rise_l => k_is); (case rise_c => k_is); (case rise_k => k_is); (case rise_b => exact fun _ _ _ _ _ _ us hl => match us, hl with | [_], _ => rfl)
   (case take_a => k_is); (case take_i => k_is); (case take_l => k_is); (case take_c => k_is); (case take_k => k_is); (case take_b => exact fun _ _ _ _ _ _ us hl => match us, hl with | [_, _, _], _ => rfl)
   (case write_a => k_is); (case write_i => k_is); (case write_l => k_is); (case write_c => k_is); (case write_k => k_is); (case write_b => exact fun _ _ _ _ _ _ us hl => match us, hl with | [_, _], _ => rfl)
   (case make_a => k_is); (case make_i => k_is); (case make_l => k_is); (case make_c => k_is); (case make_k => k_is); (case make_b => exact fun _ _ _ _ _ _ us hl => match us, hl with | [_, _], _ => rfl)
   (case hear_a => k_is); (case hear_i => k_is); (case hear_l => k_is); (case hear_c => k_is); (case hear_k => k_is); (case hear_b => exact fun _ _ _ _ _ _ us hl => match us, hl with | [_, _], _ => rfl)
   (case tell_a => k_is); (case tell_i => k_is); (case tell_l => k_is); (case tell_c => k_is); (case tell_k => k_is); (case tell_b => exact fun _ _ _ _ _ _ us hl => match us, hl with | [_], _ => rfl)
   (case give_back_a => k_is); (case give_back_i => k_is); (case give_back_l => k_is); (case give_back_c => k_is); (case give_back_k => k_is); (case give_back_b => exact fun _ _ _ _ _ _ us hl => match us, hl with | [_], _ => rfl)
  have HC : Law.HdC (L2.KOf KX) CH := ⟨D_Hand.cl, n1, n2, n3, n4⟩
  obtain ⟨CP, D_Post, np, MPS, MPT, MPL, MPC⟩ : ∃ C, L3.CDat (L2.KOf KX) mg "Post" "Post.__init__" C (L2.inClass (Law.top 12) 0) ["self"] ∧ L2.NoAttr (L2.KOf KX) C "posted" ∧ L3.MDat (L2.KOf KX) C "send" "Post.send" (L2.inClass (Law.top 12) 1) ["self", "letter"] ∧ L3.MDat (L2.KOf KX) C "sent" "Post.sent" (L2.inClass (Law.top 12) 3) ["self"] ∧ L3.MDat (L2.KOf KX) C "letter" "Post.letter" (L2.inClass (Law.top 12) 2) ["self", "number"] ∧ L3.MDat (L2.KOf KX) C "carry" "Post.carry" (L2.inClass (Law.top 12) 4) ["self", "number", "hand", "lender"] := by
   dsimp only [L2.KOf]
   refine' ⟨_, L3.cdat_mk KX G ?aC ?a ?i ?l ?c ?k ?pg ?hd ?po ?sa ?mk ?kc ?b, ?n1, L4.mdat_mk ⟨?pg, ?hd, ?po, ?sa⟩ ?sa1 ?si ?sl ?sc ?sk ?sb, L4.mdat_mk ⟨?pg, ?hd, ?po, ?sa⟩ ?ta1 ?ti ?tl ?tc ?tk ?tb, L4.mdat_mk ⟨?pg, ?hd, ?po, ?sa⟩ ?la1 ?li ?ll ?lc ?lk ?lb, L4.mdat_mk ⟨?pg, ?hd, ?po, ?sa⟩ ?ca1 ?ci ?cl ?cc ?ck ?cb⟩
   (case aC => k_is); (case a => k_is); (case i => k_is); (case l => k_is); (case c => k_is); (case k => k_is); (case pg => k_is); (case hd => k_is); (case po => k_is); (case sa => k_is); (case mk => k_is); (case kc => k_is)
   (case n1 => unfold L2.NoAttr; k_is)
   (case b => exact fun _ _ _ _ _ _ us hl => match us, hl with | [_], _ => rfl)
   (case sa1 => k_is); (case si => k_is); (case sl => k_is); (case sc => k_is); (case sk => k_is); (case sb => exact fun _ _ _ _ _ _ us hl => match us, hl with | [_, _], _ => rfl)
   (case ta1 => k_is); (case ti => k_is); (case tl => k_is); (case tc => k_is); (case tk => k_is); (case tb => exact fun _ _ _ _ _ _ us hl => match us, hl with | [_], _ => rfl)
   (case la1 => k_is); (case li => k_is); (case ll => k_is); (case lc => k_is); (case lk => k_is); (case lb => exact fun _ _ _ _ _ _ us hl => match us, hl with | [_, _], _ => rfl)
   (case ca1 => k_is); (case ci => k_is); (case cl => k_is); (case cc => k_is); (case ck => k_is); (case cb => exact fun _ _ _ _ _ _ us hl => match us, hl with | [_, _, _, _], _ => rfl)
  have SP : Law.PoC (L2.KOf KX) CP := ⟨D_Post.cls, np⟩
  obtain ⟨CL, WL, EP⟩ : ∃ CL : PySem.Addr, Law.ExW (L2.KOf KX) mg "NoLetter" "NoLetter.__init__" CL (L2.inClass (Law.top 10) 0) ["self", "number"] ∧ L4.EPut (L2.KOf KX) CL "number" := by
   dsimp only [L2.KOf]
   refine' Law.exl_mk KX G (Law.exw_mk KX G ?a1 ?g6 ?g7 ?v1 ?v2 ?v3 ?v4 ?v5 ?v8 ?r0 ?u1 ?u3 ?u4 ?u5 ?u6 ?i1 ?i2 ?i3 ?i4 ?i5 ?i6 ?b ?x1) ?u2
   (case a1 => k_is); (case g6 => k_is); (case g7 => k_is)
   (case v1 => k_is); (case v2 => k_is); (case v3 => k_is); (case v4 => k_is); (case v5 => k_is); (case v8 => k_is)
   (case u1 => k_is); (case u2 => k_is); (case u3 => k_is); (case u4 => rfl); (case u5 => rfl); (case u6 => rfl); (case r0 => k_exc)
   (case i1 => k_is); (case i2 => k_is); (case i3 => k_is); (case i4 => k_is); (case i5 => k_is); (case i6 => k_is)
   (case b => exact fun _ _ _ _ _ _ us hl => match us, hl with | [_, _], _ => rfl); (case x1 => k_is)
  obtain ⟨CD, CU, CA, CN, CW, CT, CR, ER, RR⟩ : ∃ CD CU CA CN CW CT CR : PySem.Addr, Law.HErr (L2.KOf KX) mg CD CU CA CN CW CT CR ∧ Law.Er6 (L2.KOf KX) CD CU CA CN CW CT := by
   dsimp only [L2.KOf]
   refine' Law.herr_mk (R := fun CD CU CA CN CW CT CR => Law.Er6 _ CD CU CA CN CW CT) KX G (Law.exw_mk KX G ?aW ?g6 ?g7 ?v1 ?v2 ?v3 ?v4 ?v5 ?v8 ?r0 ?s1 ?s3 ?s4 ?s5 ?s6 ?i1 ?i2 ?i3 ?i4 ?i5 ?i6 ?b ?x1) (Law.exw_mk KX G ?aT ?g6 ?g7 ?w1 ?w2 ?w3 ?w4 ?w5 ?w8 ?r0 ?t1 ?t3 ?t4 ?t5 ?t6 ?j1 ?j2 ?j3 ?j4 ?j5 ?j6 ?bb ?y1) ?tw ?tt ?aD ?aU ?aA ?aN ?aW ?aT ?aR ?d1 ?d2 ?d3 ?u1 ?u2 ?u3 ?c1 ?c2 ?c3 ?n1 ?n2 ?n3 ?r1 ?r2 ?r3 ?m1 ?m2 ?m3 ?m4 ?m5 ?m6 ?hR
   (case aD => k_is); (case aU => k_is); (case aA => k_is); (case aN => k_is); (case aW => k_is); (case aT => k_is); (case aR => k_is)
   (case g6 => k_is); (case g7 => k_is)
   (case v1 => k_is); (case v2 => k_is); (case v3 => k_is); (case v4 => k_is); (case v5 => k_is); (case v8 => k_is)
   (case w1 => k_is); (case w2 => k_is); (case w3 => k_is); (case w4 => k_is); (case w5 => k_is); (case w8 => k_is)
   (case s1 => k_is); (case s3 => k_is); (case s4 => rfl); (case s5 => rfl); (case s6 => rfl)
   (case t1 => k_is); (case t3 => k_is); (case t4 => rfl); (case t5 => rfl); (case t6 => rfl)
   (case r0 => k_exc); (case r1 => k_is); (case r2 => k_is); (case r3 => k_is)
   (case i1 => k_is); (case i2 => k_is); (case i3 => k_is); (case i4 => k_is); (case i5 => k_is); (case i6 => k_is)
   (case j1 => k_is); (case j2 => k_is); (case j3 => k_is); (case j4 => k_is); (case j5 => k_is); (case j6 => k_is)
   (case b => exact fun _ _ _ _ _ _ us hl => match us, hl with | [_, _], _ => rfl)
   (case bb => exact fun _ _ _ _ _ _ us hl => match us, hl with | [_, _], _ => rfl)
   (case x1 => k_is); (case y1 => k_is); (case tw => k_is); (case tt => k_is)
   (case d1 => k_exc); (case d2 => k_is); (case d3 => k_is); (case u1 => k_exc); (case u2 => k_is); (case u3 => k_is); (case c1 => k_exc); (case c2 => k_is); (case c3 => k_is); (case n1 => k_exc); (case n2 => k_is); (case n3 => k_is)
   (case m1 => kts_exm); (case m2 => kts_exm); (case m3 => kts_exm); (case m4 => kts_exm); (case m5 => kts_exm); (case m6 => kts_exm)
   case hR =>
    refine' ⟨⟨⟨?ea1, ?ea2, ?ea3, ?ea4, ?ea5, ?g6, ?g7, L4.some_is ?ea8⟩, ?eak0, ?eak1, ?eak2, ?eak3, ?eak4, ?eak5⟩, ⟨⟨?eb1, ?eb2, ?eb3, ?eb4, ?eb5, ?g6, ?g7, L4.some_is ?eb8⟩, ?ebk0, ?ebk1, ?ebk2, ?ebk3, ?ebk4, ?ebk5⟩, ⟨⟨?ec1, ?ec2, ?ec3, ?ec4, ?ec5, ?g6, ?g7, L4.some_is ?ec8⟩, ?eck0, ?eck1, ?eck2, ?eck3, ?eck4, ?eck5⟩, ⟨⟨?ed1, ?ed2, ?ed3, ?ed4, ?ed5, ?g6, ?g7, L4.some_is ?ed8⟩, ?edk0, ?edk1, ?edk2, ?edk3, ?edk4, ?edk5⟩, ⟨⟨?ee1, ?ee2, ?ee3, ?ee4, ?ee5, ?g6, ?g7, L4.some_is ?ee8⟩, ?eek0, ?eek1, ?eek2, ?eek3, ?eek4, ?eek5⟩, ⟨⟨?ef1, ?ef2, ?ef3, ?ef4, ?ef5, ?g6, ?g7, L4.some_is ?ef8⟩, ?efk0, ?efk1, ?efk2, ?efk3, ?efk4, ?efk5⟩⟩
    (case g6 => k_is); (case g7 => k_is)
    (case ea1 => k_is); (case ea2 => k_is); (case ea3 => k_is); (case ea4 => k_is); (case ea5 => k_is); (case ea8 => k_is); (case eak0 => kit_is); (case eak1 => kit_is); (case eak2 => kit_is); (case eak3 => kit_is); (case eak4 => kit_is); (case eak5 => kit_is)
    (case eb1 => k_is); (case eb2 => k_is); (case eb3 => k_is); (case eb4 => k_is); (case eb5 => k_is); (case eb8 => k_is); (case ebk0 => kit_is); (case ebk1 => kit_is); (case ebk2 => kit_is); (case ebk3 => kit_is); (case ebk4 => kit_is); (case ebk5 => kit_is)
    (case ec1 => k_is); (case ec2 => k_is); (case ec3 => k_is); (case ec4 => k_is); (case ec5 => k_is); (case ec8 => k_is); (case eck0 => kit_is); (case eck1 => kit_is); (case eck2 => kit_is); (case eck3 => kit_is); (case eck4 => kit_is); (case eck5 => kit_is)
    (case ed1 => k_is); (case ed2 => k_is); (case ed3 => k_is); (case ed4 => k_is); (case ed5 => k_is); (case ed8 => k_is); (case edk0 => kit_is); (case edk1 => kit_is); (case edk2 => kit_is); (case edk3 => kit_is); (case edk4 => kit_is); (case edk5 => kit_is)
    (case ee1 => k_is); (case ee2 => k_is); (case ee3 => k_is); (case ee4 => k_is); (case ee5 => k_is); (case ee8 => k_is); (case eek0 => kit_is); (case eek1 => kit_is); (case eek2 => kit_is); (case eek3 => kit_is); (case eek4 => kit_is); (case eek5 => kit_is)
    (case ef1 => k_is); (case ef2 => k_is); (case ef3 => k_is); (case ef4 => k_is); (case ef5 => k_is); (case ef8 => k_is); (case efk0 => kit_is); (case efk1 => kit_is); (case efk2 => kit_is); (case efk3 => kit_is); (case efk4 => kit_is); (case efk5 => kit_is)
  have HD : Law.HDat (L2.KOf KX) mg := ⟨D_is_whole, D_is_whole_from, D_is_side, D_mark_of, D_is_span, D_is_rule, D_are_rules, D_has_rule, D_slot_of, D_first_of, D_end_of, D_ended_at, D_read_on, D_read_note, D_tooks_of, D_greatest_taken, D_bound_of, D_raised, D_next_place, D_moment_at, D_made, D_grant_in, D_area_in, D_held_in, D_heard_in, D_start_by, D_need_up, D_need_area, D_falling, D_rising, D_taking, D_hearing, D_giving, D_mark_and_place, D_writing, D_making, D_area_of, D__law_hand, D__law_pick⟩
  obtain ⟨f, fd, F, b, m⟩ := D_law.ex
  have e := hmg.symm.trans m
  cases e
  obtain ⟨oc, od, kV, doc, pm, an, cdv, ct, osl, rfl, lk, hcd⟩ := id F.ex
  refine ⟨PySem.W.fnOf "law" "law" (L2.defArgs (Law.top 78)) (L2.defBody (Law.top 78)) (L2.defScope (Law.top 78)) .none kV doc pm an cdv ct, fun s u => .of_eq rfl, fun base kb nb => ?_⟩
  have NE := @L4.noErr1 PySem.Challenge.rw_risemarks_k54_grants_and_news_read.prog w
  have HH := Law.hcal_mk (P := PySem.Challenge.rw_risemarks_k54_grants_and_news_read.prog) (w := w) (base := base) BT NE HD HM ER D_Shape SC D_Settings SS D_Hand HC g_SIDE g_SPAN g_RULES hR g_NOTHING hN
  have EA := RR.era ER.et
  have O_NoLetter := Law.ok_noletter (P := PySem.Challenge.rw_risemarks_k54_grants_and_news_read.prog) (w := w) (base := base) WL.dat ER.b EP
  have M_sent := Law.ok_psent (P := PySem.Challenge.rw_risemarks_k54_grants_and_news_read.prog) (w := w) (base := base) (CX := L4.CX1 PySem.Challenge.rw_risemarks_k54_grants_and_news_read.prog w) MPT SP BT
  have M_letter := Law.ok_pletter MPL SP BT NE O_NoLetter
  have M_carry := Law.ok_carryH (CU := CU) (CA := CA) (CN := CN) (CW := CW) (CT := CT) MPC BT NE M_letter HH.M_Hand_take HH.M_Hand_hear
  have c_number := Law.ok_lnumber D__law_number NE HH.c__law_pick
  have c_work := Law.ok_lwork D__law_work NE HH.M_Hand_rise HH.M_Hand_write HH.M_Hand_make HH.M_Hand_give_back HH.M_Hand_fall
  exact Law.ok_law F BT NE SC SS HH.c__law_hand HH.c__law_pick (Law.ok_lsetH D__law_settings BT NE HH.c__law_pick HH.m_Shape HH.m_Settings) (Law.ok_names D__law_names BT NE HH.c__law_pick) HH.m1_Hand (Law.ok_pinit D_Post SP) (Law.ok_lletterH D__law_letter HC BT NE HH.c__law_pick c_number HH.M_Hand_is_up HH.M_Hand_place) (Law.ok_ldueH D__law_due BT NE EA ER.hR ER.hD HH.M_Hand_take HH.M_Hand_hear) (Law.ok_lreadH D__law_read BT NE EA ER.hR ER.hD M_carry) (Law.ok_lalike D__law_alike BT) (Law.ok_lreadingH D__law_reading BT NE HH.c__law_pick HH.M_Hand_is_up HH.M_Hand_place) (Law.ok_ldeedH D__law_deed BT NE EA ER.hR ER.hD ER.hU ER.hA ER.hN ER.hW ER.hT c_work) (Law.ok_psend MPS SP BT) M_sent HH.M_Hand_note HH.M_Hand_place
end

