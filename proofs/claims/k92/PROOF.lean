import PyProof.Rows.All
import Wide.All
import OpenK.AllK
import Wide.FinOn
import PyProof.EqAt
import PyProof.EqKinds
import PyProof.TupleCall
import Lean
import PySem.Challenge.RW_risemarks_k92_deeds_written
section
set_option Elab.async false
set_option linter.all false
set_option maxRecDepth 100000
set_option maxHeartbeats 4000000
namespace L2
open PySem PySem.Spec PyProof.Rows

abbrev Key := Sum Int Str
def keyIs : Key → Value → Bool
  | .inl k, v => Value.isInt k v
  | .inr x, v => Value.isStrOf x v
def keyH (w : World) : Key → Int
  | .inl k => hashInt k
  | .inr x => hashStr w x
theorem keyIs_shape : ∀ {k : Key} {v : Value}, keyIs k v = true → (∃ i t, k = Sum.inl i ∧ v = Value.int i t) ∨ (∃ x t, k = Sum.inr x ∧ v = Value.str x t)
  | .inl i, v, h => by
    obtain ⟨t, e⟩ := Value.isInt_shape (k := i) (v := v) h
    exact .inl ⟨i, t, rfl, e⟩
  | .inr x, v, h => by
    obtain ⟨t, e⟩ := Value.isStrOf_shape (x := x) (v := v) h
    exact .inr ⟨x, t, rfl, e⟩
theorem key_ll (a b : Int) : decide ((Sum.inl a : Key) = Sum.inl b) = (a == b) := by
  by_cases e : a = b
  · subst e; simp
  · have h : ¬ (Sum.inl a : Key) = Sum.inl b := fun q => e (Sum.inl.inj q)
    rw [decide_eq_false h]
    exact (beq_eq_false_iff_ne.mpr e).symm
theorem key_rr (a b : Str) : decide ((Sum.inr a : Key) = Sum.inr b) = decide (a = b) := by
  by_cases e : a = b
  · subst e; simp
  · have h : ¬ (Sum.inr a : Key) = Sum.inr b := fun q => e (Sum.inr.inj q)
    rw [decide_eq_false h, decide_eq_false e]
theorem key_lr (a : Int) (b : Str) : decide ((Sum.inl a : Key) = Sum.inr b) = false := decide_eq_false (fun q => nomatch q)
theorem key_rl (a : Str) (b : Int) : decide ((Sum.inr a : Key) = Sum.inl b) = false := decide_eq_false (fun q => nomatch q)

def mixKind (prog : Program) (w : World) : PySem.KeyKind prog w Key where
  is := keyIs
  hash := keyH w
  inj := fun v a b ha hb => by
    rcases keyIs_shape ha with ⟨i, t, rfl, rfl⟩ | ⟨x, t, rfl, rfl⟩
    · rcases keyIs_shape hb with ⟨j, u, rfl, e⟩ | ⟨y, u, rfl, e⟩
      · injection e with e1 _; rw [e1]
      · exact nomatch e
    · rcases keyIs_shape hb with ⟨j, u, rfl, e⟩ | ⟨y, u, rfl, e⟩
      · exact nomatch e
      · injection e with e1 _; rw [e1]
  byValue := fun k v h => by
    rcases keyIs_shape h with ⟨i, t, rfl, rfl⟩ | ⟨x, t, rfl, rfl⟩ <;> rfl
  pyHash := fun hv h => by
    rcases keyIs_shape hv with ⟨i, t, rfl, rfl⟩ | ⟨x, t, rfl, rfl⟩
    · exact wpAny_pyHash_int h
    · exact wpAny_pyHash_str h
  eqBool := fun hu hv h => by
    rcases keyIs_shape hu with ⟨i, t, rfl, rfl⟩ | ⟨x, t, rfl, rfl⟩
    · rcases keyIs_shape hv with ⟨j, u, rfl, rfl⟩ | ⟨y, u, rfl, rfl⟩
      · rw [key_ll] at h; exact wpAny_eqBool_int h
      · rw [key_lr] at h; exact SeqAt.EqAt.int_str i t y u _ _ _ _ h
    · rcases keyIs_shape hv with ⟨j, u, rfl, rfl⟩ | ⟨y, u, rfl, rfl⟩
      · rw [key_rl] at h; exact SeqAt.EqAt.str_int x t j u _ _ _ _ h
      · rw [key_rr] at h; exact wpAny_eqBool_str h
  «strs» := fun k x t v h => by
    rcases keyIs_shape h with ⟨i, u, rfl, e⟩ | ⟨y, u, rfl, e⟩
    · exact nomatch e
    · injection e with e1 _
      subst e1
      cases v <;> rfl

end L2

namespace L2
open PySem PySem.Spec PyProof.Rows

inductive V where
  | non | bl (b : Bool) | int (i : Int) | str (x : Str) | byt (b : Array UInt8) | flt (b : UInt64) | ref (a : Addr) | ty (n : String)
  deriving DecidableEq

def RelV : V → Value → Prop
  | .non, u => u = Value.none
  | .bl b, u => u = Value.bool b
  | .int i, u => ∃ t, u = Value.int i t
  | .str x, u => ∃ t, u = Value.str x t
  | .byt b, u => ∃ t, u = Value.bytes b t
  | .flt b, u => ∃ t, u = Value.float b t
  | .ref a, u => u = Value.ref a
  | .ty n, u => u = Value.type n

abbrev Vals : List V → List Value → Prop := Paired RelV
theorem Vals.length {xs : List V} {us : List Value} (r : Vals xs us) : xs.length = us.length := Paired.length r
theorem Vals.get : ∀ {xs : List V} {us : List Value} {i : Nat} {x : V}, Vals xs us → xs[i]? = some x → ∃ u, us[i]? = some u ∧ RelV x u
  | _, _, _, _, .nil, e => by simp at e
  | _, _, 0, _, .cons r _, e => by simp at e; subst e; exact ⟨_, rfl, r⟩
  | _, _, i + 1, x, .cons _ t, e => by
    obtain ⟨u, h1, h2⟩ := Vals.get (i := i) (x := x) t (by simpa using e)
    exact ⟨u, by simpa using h1, h2⟩
theorem Vals.set {x : V} {u : Value} (r : RelV x u) : ∀ {xs : List V} {us : List Value} (i : Nat), Vals xs us → Vals (xs.set i x) (us.set i u)
  | _, _, _, .nil => .nil
  | _, _, 0, .cons _ t => .cons r t
  | _, _, i + 1, .cons q t => .cons q (Vals.set r i t)
theorem Vals.append : ∀ {xs ys : List V} {us ws : List Value}, Vals xs us → Vals ys ws → Vals (xs ++ ys) (us ++ ws)
  | _, _, _, _, .nil, s => s
  | _, _, _, _, .cons r t, s => .cons r (Vals.append t s)
theorem Vals.take : ∀ {xs : List V} {us : List Value} (n : Nat), Vals xs us → Vals (xs.take n) (us.take n)
  | _, _, 0, _ => .nil
  | _, _, _ + 1, .nil => .nil
  | _, _, n + 1, .cons r t => .cons r (Vals.take n t)
theorem Vals.drop : ∀ {xs : List V} {us : List Value} (n : Nat), Vals xs us → Vals (xs.drop n) (us.drop n)
  | _, _, 0, r => r
  | _, _, _ + 1, .nil => .nil
  | _, _, n + 1, .cons _ t => Vals.drop n t
def RelO : Option V → Option Value → Prop
  | some v, some u => RelV v u
  | none, none => True
  | _, _ => False
def KV {κ : Type} : List (κ × V) → List (κ × Value) → Prop := Paired fun (p : κ × V) (q : κ × Value) => p.1 = q.1 ∧ RelV p.2 q.2

def kV : Key → V
  | .inl i => .int i
  | .inr x => .str x

inductive HO where
    | lst (xs : List V)
    | tup (xs : List V)
    | dK (kvs : List (Key × V)) | dT (kvs : List (List Key × V))
    | set (S : Int → Bool) (n : Nat)
    | ins (C dx : Addr) (fs : List (Str × V))
    | own (x : Addr)
    | xd (fs : List (Str × V))
    | met (f x : Addr)
    | rng (lo hi : Int)
    | frz (o : Obj) (u : HO)
    | tbl (ps : Array Value)
    | ext (φ : Heap → Prop)

abbrev Hp := Addr → Option HO
def upd (H : Hp) (a : Addr) (o : HO) : Hp := fun b => if b = a then some o else H b
theorem upd_same {H : Hp} {a : Addr} {o : HO} : upd H a o a = some o := by unfold upd; rw [if_pos rfl]
theorem upd_ne {H : Hp} {a b : Addr} {o : HO} (h : b ≠ a) : upd H a o b = H b := by unfold upd; rw [if_neg h]
theorem upd_upd {H : Hp} {a : Addr} {o u : HO} : upd (upd H a o) a u = upd H a u := by
  funext b; unfold upd; split <;> rfl
theorem ne_of_none {H : Hp} {a b : Addr} {o : HO} (h : H a = some o) (h' : H b = none) : a ≠ b := by
  intro e; subst e; rw [h] at h'; cases h'

section
variable (P : Program) (w : World)
def ObjOk (H : Hp) (h : Heap) (a : Addr) : HO → Prop
  | .lst xs => xs.length ≤ sizeLine ∧ ∃ (its : List Value) (n : Nat), Vals xs its ∧ h.get? a = some { cls := .type "list", data := .seq its.toArray n }
  | .tup xs => xs.length ≤ sizeLine ∧ ∃ its : List Value, Vals xs its ∧ IsTup h a its.toArray
  | .dK kvs => kvs.length ≤ sizeLine ∧ (a == sysModules) = false ∧ ∃ vs, KV kvs vs ∧ h.DictOf (mixKind P w) a vs
  | .dT kvs => kvs.length ≤ sizeLine ∧ (a == sysModules) = false ∧ ∃ xs : List (List Key × Addr × Value),
      Paired (fun (p : List Key × V) (q : List Key × Addr × Value) => p.1 = q.1 ∧ H q.2.1 = some (.tup (p.1.map kV)) ∧ RelV p.2 q.2.2) kvs xs ∧
      ∃ o es ep, h.get? a = some o ∧ o.ExactDict ∧ o.data = .dict es ep ∧ es.toList = xs.map (entryOfKey (tupleKind (mixKind P w))) ∧ (xs.map (·.1)).Nodup
  | .set S n => h.SetOf (intKind P w) a S n
  | .ins C dx fs => H dx = some (.own a) ∧ fs.length ≤ 1000 ∧ dx ≠ a ∧ h.get? a = some (PySem.W.instObj C dx) ∧
      ∃ mA, h.Ns1 dx mA ∧ (∀ f, RelO (fs.lookup f) (mA f)) ∧ PySem.Within mA (fs.map (·.1))
  | .own _ => ∃ o, h.get? a = some o
  | .xd fs => ∃ mA, h.Ns1 a mA ∧ ∀ f, RelO (fs.lookup f) (mA f)
  | .rng lo hi => ∃ t u v, h.get? a = some { cls := .type "range", data := .fields #[.int lo t, .int hi u, .int 1 v] }
  | .frz o u => h.get? a = some o ∧ ObjOk H h a u
  | .tbl ps => h.get? a = some { cls := .none, data := .fields ps }
  | .met f x => h.get? a = some (PySem.W.methodObj (.ref f) (.ref x))
  | .ext φ => φ h ∧ (∃ o, h.get? a = some o) ∧ ∀ h1 h2 : Heap, φ h1 → (∀ o, h1.get? a = some o → h2.get? a = some o) → φ h2
def HOk (H : Hp) (h : Heap) : Prop := ∀ a o, H a = some o → ObjOk P w H h a o
end

section
variable {P : Program} {w : World} {H H' : Hp} {h h' : Heap} {a : Addr} {o : HO}
theorem ObjOk.lt (x : ObjOk P w H h a o) : a < h.objs.size := by
  cases o with
  | lst xs => obtain ⟨_, _, _, _, e⟩ := x; exact Heap.lt_size e
  | tup xs => obtain ⟨_, _, _, p⟩ := x; exact p.lt
  | dK kvs => obtain ⟨_, _, _, _, o, _, _, e, _⟩ := x; exact Heap.lt_size e
  | dT kvs => obtain ⟨_, _, _, _, o, _, _, e, _⟩ := x; exact Heap.lt_size e
  | set S n => obtain ⟨o, _, _, _, e, _⟩ := x; exact Heap.lt_size e
  | ins C dx fs => obtain ⟨_, _, _, e, _⟩ := x; exact Heap.lt_size e
  | own y => obtain ⟨_, e⟩ := x; exact Heap.lt_size e
  | xd fs => obtain ⟨_, ⟨_, _, _, e, _⟩, _⟩ := x; exact Heap.lt_size e
  | rng lo hi => obtain ⟨_, _, _, e⟩ := x; exact Heap.lt_size e
  | frz ob u => obtain ⟨e, _⟩ := x; exact Heap.lt_size e
  | tbl ps => exact Heap.lt_size (show h.get? a = some _ from x)
  | met f y => exact Heap.lt_size (show h.get? a = some _ from x)
  | ext φ => obtain ⟨_, ⟨_, e⟩, _⟩ := x; exact Heap.lt_size e
theorem Paired.mapP {α β : Type} {F G : α → β → Prop} : ∀ {l₁ : List α} {l₂ : List β}, Paired F l₁ l₂ → (∀ a b, F a b → G a b) → Paired G l₁ l₂
  | _, _, .nil, _ => .nil
  | _, _, .cons r t, f => .cons (f _ _ r) (Paired.mapP t f)
theorem ObjOk.stay (x : ObjOk P w H h a o) (k : ∀ b u, (b = a ∨ H b = some (.own a)) → h.get? b = some u → h'.get? b = some u)
    (ho : ∀ b, H b = some (.own a) → H' b = some (.own a)) (ht : ∀ b xs, H b = some (.tup xs) → H' b = some (.tup xs)) : ObjOk P w H' h' a o := by
  induction o with
  | lst xs => obtain ⟨z, its, n, r, e⟩ := x; exact ⟨z, its, n, r, k _ _ (.inl rfl) e⟩
  | tup xs => obtain ⟨z, its, r, ob, e, c⟩ := x; exact ⟨z, its, r, ob, k _ _ (.inl rfl) e, c⟩
  | dK kvs => obtain ⟨z, y, vs, r, ob, es, ep, e, c⟩ := x; exact ⟨z, y, vs, r, ob, es, ep, k _ _ (.inl rfl) e, c⟩
  | dT kvs =>
    obtain ⟨z, y, xs, r, ob, es, ep, e, c⟩ := x
    exact ⟨z, y, xs, Paired.mapP r fun p q z => ⟨z.1, ht _ _ z.2.1, z.2.2⟩, ob, es, ep, k _ _ (.inl rfl) e, c⟩
  | set S n => obtain ⟨ob, es, ep, t, e, c⟩ := x; exact ⟨ob, es, ep, t, k _ _ (.inl rfl) e, c⟩
  | ins C dx fs =>
    obtain ⟨d, z, ne, e, mA, ⟨od, es, ep, e2, c⟩, r⟩ := x
    exact ⟨ho _ d, z, ne, k _ _ (.inl rfl) e, mA, ⟨od, es, ep, k _ _ (.inr d) e2, c⟩, r⟩
  | own y => obtain ⟨ob, e⟩ := x; exact ⟨ob, k _ _ (.inl rfl) e⟩
  | xd fs => obtain ⟨mA, ⟨od, es, ep, e, c⟩, r⟩ := x; exact ⟨mA, ⟨od, es, ep, k _ _ (.inl rfl) e, c⟩, r⟩
  | rng lo hi => obtain ⟨t, u, v, e⟩ := x; exact ⟨t, u, v, k _ _ (.inl rfl) e⟩
  | frz ob u ih => obtain ⟨e, q⟩ := x; exact ⟨k _ _ (.inl rfl) e, ih q⟩
  | tbl ps =>
    have e : h.get? a = some { cls := .none, data := .fields ps } := x
    show h'.get? a = some { cls := .none, data := .fields ps }
    exact k a _ (.inl rfl) e
  | met f y =>
    have e : h.get? a = some (PySem.W.methodObj (.ref f) (.ref y)) := x
    show h'.get? a = some (PySem.W.methodObj (.ref f) (.ref y))
    exact k a _ (.inl rfl) e
  | ext φ => obtain ⟨p, ⟨o, e⟩, st⟩ := x; exact ⟨st _ _ p fun o q => k _ _ (.inl rfl) q, ⟨o, k _ _ (.inl rfl) e⟩, st⟩
theorem HOk.lt (x : HOk P w H h) (e : H a = some o) : a < h.objs.size := (x a o e).lt
theorem HOk.fresh (x : HOk P w H h) (e : h.objs.size ≤ a) : H a = none := by
  cases q : H a with
  | none => rfl
  | some u => exact absurd (Nat.lt_of_lt_of_le (x.lt q) e) (Nat.lt_irrefl _)
theorem HOk.kept (x : HOk P w H h) (k : ∀ b u, h.get? b = some u → h'.get? b = some u) : HOk P w H h' := fun a o e =>
  (x a o e).stay (fun b u _ q => k b u q) (fun _ q => q) fun _ _ q => q
theorem HOk.laid (x : HOk P w H h) (k : ∀ b u, h.get? b = some u → h'.get? b = some u) (hp : h.objs.size ≤ a) (new : ObjOk P w (upd H a o) h' a o) : HOk P w (upd H a o) h' := fun b u e => by
  have hn := x.fresh hp
  by_cases hb : b = a
  · subst hb; rw [upd_same] at e; cases e; exact new
  · rw [upd_ne hb] at e
    exact (x b u e).stay (fun c v _ q => k c v q) (fun c q => by rw [upd_ne (ne_of_none q hn)]; exact q) fun c xs q => by rw [upd_ne (ne_of_none q hn)]; exact q
end

def Rd (H : Hp) (a : Addr) (u : HO) : Prop := H a = some u ∨ ∃ o, H a = some (.frz o u)
theorem Rd.of {H : Hp} {a : Addr} {u : HO} (h : H a = some u) : Rd H a u := .inl h
theorem Rd.ok {P : Program} {w : World} {H : Hp} {h : Heap} {a : Addr} {u : HO} (r : Rd H a u) (x : HOk P w H h) : ObjOk P w H h a u := by
  rcases r with r | ⟨o, r⟩
  · exact x a u r
  · obtain ⟨_, q⟩ := x a _ r
    exact q
def Mut : Option HO → Prop
  | some (.lst _) => True
  | some (.dK _) => True
  | some (.dT _) => True
  | some (.set _ _) => True
  | some (.ins _ _ _) => True
  | some (.ext _) => True
  | _ => False
section
variable {P : Program} {w : World} {H : Hp} {h h' : Heap} {x e : Addr} {o' : HO}
theorem HOk.write (ok : HOk P w H h) (mu : Mut (H x)) (he : e = x ∨ H e = some (.own x)) (k : ∀ b u, b ≠ e → h.get? b = some u → h'.get? b = some u) (heo : ∃ u, h'.get? e = some u)
    (new : ObjOk P w (upd H x o') h' x o') : HOk P w (upd H x o') h' := fun b u q => by
  have nown : ∀ c y, H c = some (.own y) → c ≠ x := fun c y r z => by subst z; rw [r] at mu; exact mu
  have ntup : ∀ c xs, H c = some (.tup xs) → c ≠ x := fun c xs r z => by subst z; rw [r] at mu; exact mu
  by_cases hb : b = x
  · subst hb; rw [upd_same] at q; cases q; exact new
  · rw [upd_ne hb] at q
    by_cases hbe : b = e
    · have q' : H b = some (.own x) := by
        rcases he with z | z
        · exact absurd (hbe.trans z) hb
        · rw [hbe]; exact z
      rw [q] at q'; cases q'
      obtain ⟨v, hv⟩ := heo
      exact ⟨v, by rw [hbe]; exact hv⟩
    · refine (ok b u q).stay (fun c v hc r => k c v ?_ r) (fun c r => by rw [upd_ne (nown c b r)]; exact r) fun c xs r => by rw [upd_ne (ntup c xs r)]; exact r
      rcases hc with rfl | hc
      · exact hbe
      · rintro rfl
        rcases he with z | z
        · exact nown c b hc z
        · rw [hc] at z; cases z; exact hb rfl
end

structure Un (fs ex : List Addr) (H H' : Hp) (h h' : Heap) : Prop where
  keep : ∀ b o, h.get? b = some o → H b = none → b ∉ fs → b ∉ ex → h'.get? b = some o
  slot : ∀ b o, h.get? b = some o → H b = none → b ∈ fs → b ∉ ex → ∃ sl, h'.get? b = some { o with slots := sl }
  free : ∀ b o, h.get? b = some o → H b = none → b ∉ ex → H' b = none
  there : ∀ b o, h.get? b = some o → b ∉ ex → ∃ o', h'.get? b = some o'
  tups : ∀ b xs, H b = some (.tup xs) → H' b = some (.tup xs)
  frzs : ∀ b o u, H b = some (.frz o u) → H' b = some (.frz o u)
  tbls : ∀ b ps, H b = some (.tbl ps) → ∃ more, H' b = some (.tbl (ps ++ more))
section
variable {fs fs' ex ex' : List Addr} {H H1 H2 : Hp} {h h1 h2 h' : Heap} {a x e : Addr} {o : HO}
theorem Un.any (u : Un fs ex H H1 h h1) {b : Addr} {ob : Obj} (q : h.get? b = some ob) (n : H b = none) (hx : b ∉ ex) : ∃ sl, h1.get? b = some { ob with slots := sl } := by
  by_cases hb : b ∈ fs
  · exact u.slot b ob q n hb hx
  · exact ⟨ob.slots, u.keep b ob q n hb hx⟩
theorem Un.trans (a : Un fs ex H H1 h h1) (b : Un fs ex H1 H2 h1 h2) : Un fs ex H H2 h h2 where
  keep := fun c ob q n hc hx => b.keep c ob (a.keep c ob q n hc hx) (a.free c ob q n hx) hc hx
  slot := fun c ob q n hc hx => by
    obtain ⟨sl, e1⟩ := a.slot c ob q n hc hx
    obtain ⟨sl', e2⟩ := b.slot c _ e1 (a.free c ob q n hx) hc hx
    exact ⟨sl', e2⟩
  free := fun c ob q n hx => by
    obtain ⟨o', e1⟩ := a.there c ob q hx
    exact b.free c o' e1 (a.free c ob q n hx) hx
  there := fun c ob q hx => by
    obtain ⟨o', e1⟩ := a.there c ob q hx
    exact b.there c o' e1 hx
  tups := fun c xs q => b.tups c xs (a.tups c xs q)
  frzs := fun c ob xs q => b.frzs c ob xs (a.frzs c ob xs q)
  tbls := fun c ps q => by
    obtain ⟨m1, e1⟩ := a.tbls c ps q
    obtain ⟨m2, e2⟩ := b.tbls c _ e1
    exact ⟨m1 ++ m2, by rw [e2, Array.append_assoc]⟩
theorem Un.kept (k : ∀ b u, h.get? b = some u → h'.get? b = some u) : Un fs ex H H h h' :=
  ⟨fun b ob q _ _ _ => k b ob q, fun b ob q _ _ _ => ⟨ob.slots, k b ob q⟩, fun _ _ _ n _ => n, fun b ob q _ => ⟨ob, k b ob q⟩, fun _ _ q => q, fun _ _ _ q => q, fun _ ps q => ⟨#[], by rw [q]; simp⟩⟩
theorem Un.refl : Un fs ex H H h h := Un.kept fun _ _ q => q
theorem Un.laid (k : ∀ b u, h.get? b = some u → h'.get? b = some u) (hp : h.objs.size ≤ a) (hn : H a = none) : Un fs ex H (upd H a o) h h' where
  keep := fun b u q _ _ _ => k b u q
  slot := fun b u q _ _ _ => ⟨u.slots, k b u q⟩
  free := fun b u q n _ => by rw [upd_ne (Nat.ne_of_lt (Nat.lt_of_lt_of_le (Heap.lt_size q) hp))]; exact n
  there := fun b u q _ => ⟨u, k b u q⟩
  tups := fun b xs q => by rw [upd_ne (ne_of_none q hn)]; exact q
  frzs := fun b u xs q => by rw [upd_ne (ne_of_none q hn)]; exact q
  tbls := fun b ps q => ⟨#[], by rw [upd_ne (ne_of_none q hn), q]; simp⟩
theorem Un.write (mu : Mut (H x)) (he : e = x ∨ H e = some (.own x)) (k : ∀ b u, b ≠ e → h.get? b = some u → h'.get? b = some u) (heo : ∃ u, h'.get? e = some u) : Un fs ex H (upd H x o) h h' := by
  have hx : ∀ b, H b = none → b ≠ x := fun b n z => by subst z; rw [n] at mu; exact mu
  have hb : ∀ b, H b = none → b ≠ e := fun b n z => by
    subst z
    rcases he with r | r
    · exact hx b n r
    · rw [n] at r; cases r
  have hm : ∀ b u, H b = some u → ¬ Mut (some u) → b ≠ x := fun b u q nm z => by subst z; rw [q] at mu; exact nm mu
  refine ⟨fun b u q n _ _ => k b u (hb b n) q, fun b u q n _ _ => ⟨u.slots, k b u (hb b n) q⟩, fun b u q n _ => by rw [upd_ne (hx b n)]; exact n, fun b u q _ => ?_,
    fun b xs q => by rw [upd_ne (hm b _ q fun z => z)]; exact q, fun b u xs q => by rw [upd_ne (hm b _ q fun z => z)]; exact q, fun b ps q => ⟨#[], by rw [upd_ne (hm b _ q fun z => z), q]; simp⟩⟩
  by_cases hbe : b = e
  · subst hbe; exact heo
  · exact ⟨u, k b u hbe q⟩
theorem Un.mono (u : Un fs ex H H1 h h1) (hs : ∀ b ∈ fs, b ∈ fs') (hx : ∀ b ∈ ex, b ∈ ex') : Un fs' ex' H H1 h h1 :=
  ⟨fun b ob q n hb he => u.keep b ob q n (fun z => hb (hs b z)) fun z => he (hx b z), fun _ _ q n _ he => u.any q n fun z => he (hx _ z), fun b ob q n he => u.free b ob q n fun z => he (hx b z), fun b ob q he => u.there b ob q fun z => he (hx b z), u.tups, u.frzs, u.tbls⟩
end

def trk (h : Heap) (H : Hp) : List Addr := (List.range h.objs.size).filter fun a => (H a).isSome
def hidT (h : Heap) (H : Hp) : Heap := PySem.W.hideAll h (trk h H)
theorem hidT_size (h : Heap) (H : Hp) : (hidT h H).objs.size = h.objs.size := PySem.W.hideAll_size _ _
theorem hidT_get {h : Heap} {H : Hp} {b : Addr} {o : Obj} (e : h.get? b = some o) (n : H b = none) : (hidT h H).get? b = some o :=
  PySem.W.hideAll_get _ e fun hm => by
    have q : (H b).isSome = true := (List.mem_filter.mp hm).2
    rw [n] at q; simp at q
theorem of_hidT {h : Heap} {H : Hp} {b : Addr} {o : Obj} (e : (hidT h H).get? b = some o) : h.get? b = some o ∧ H b = none := by
  have e' : h.get? b = some o := PySem.W.of_hideAll (trk h H) e
  refine ⟨e', ?_⟩
  cases q : H b with
  | none => rfl
  | some x =>
    have hm : b ∈ trk h H := List.mem_filter.mpr ⟨List.mem_range.mpr (Heap.lt_size e'), by simp [q]⟩
    have z : (hidT h H).get? b = none := PySem.W.hideAll_none (trk h H) hm
    rw [z] at e; cases e

def allNews (g h : Heap) (L : Addr) : List (Addr × Obj) := (List.range h.objs.size).filterMap fun a => if a = L ∨ (g.get? a).isSome = true then none else (h.get? a).map fun o => (a, o)
def rest (g h : Heap) (L d : Addr) : List (Addr × Obj) := (allNews g h L).filter fun p => decide (p.1 ≠ d)
end L2

namespace L2
open PySem PySem.Spec PyProof.Rows

structure Mod (K : PySem.W.Frag) (mg : Str → Option Value) (base : Heap) : Prop where
  kin : K.In base
  glob : base.Ns mainGlobals mg
  blt : ∃ mb, base.Ns builtinsNs mb ∧ ∀ x : Str, x ≠ "__name__" → mb x = bootBuiltins x
  nolimit : base.NoLimit

structure Cx where
  prog : Program
  w : World
  K : PySem.W.Frag
  mg : Str → Option Value
  base : Heap
  A : Around
  N : List Str
  s₀ : Shared
  H₀ : Hp
  env : Env
  outer : List Env
  stack : List Env
  ex : List Addr
  fn : Str → Bool
  calm : Bool
  pn : List (Addr × Obj)
  xe : Value → Shared → Prop
def frs (l : List Env) : List Addr := l.filterMap (·.frame)
abbrev Cx.fs (X : Cx) : List Addr := frs X.outer

def Vis (sc : Scope) (x : Str) : Prop := sc.names.lookup x = some .local ∨ sc.names.lookup x = some .cell ∨ sc.names.lookup x = some .free
def Loc (sc : Scope) (x : Str) : Prop := sc.names.lookup x = some .local ∨ sc.names.lookup x = some .cell
def Look (env : Env) (h : Heap) (m : Str → Option Value) (x : Str) (u : Value) : Prop :=
  (env.kindOf x = some .local ∧ m x = some u) ∨ ((env.kindOf x = some .cell ∨ env.kindOf x = some .free) ∧ ∃ c, env.cells.lookup x = some c ∧ h.IsCell c (some u))

structure Cx.Ok (X : Cx) : Prop where
  mod : Mod X.K X.mg X.base
  kind : X.env.scope.kind = .function
  glob : X.env.globals = mainGlobals
  blt : X.env.builtins = builtinsNs
  above : X.s₀.heap.objs.size ≤ X.env.locals
  inj : ∀ x y c, X.env.cells.lookup x = some c → X.env.cells.lookup y = some c → x = y
  has : ∀ x, (X.env.kindOf x = some .cell ∨ X.env.kindOf x = some .free) → ∃ c, X.env.cells.lookup x = some c
  cab : ∀ x c, X.fn x = true → X.env.cells.lookup x = some c → X.s₀.heap.objs.size ≤ c
  hd : X.calm = true → X.A.handled = none
  frames : X.A.frames = some X.stack
  stk : X.stack = X.outer ∨ (X.stack = X.env :: X.outer ∧ X.env.frame = some X.env.locals)
  exf : ∀ b ∈ X.ex, b ≠ X.env.locals ∧ ∀ x c, X.env.cells.lookup x = some c → c ≠ b
  bs : ∀ b o, X.base.get? b = some o → X.s₀.heap.get? b = some o ∧ X.H₀ b = none
  bsz : X.base.objs.size ≤ X.s₀.heap.objs.size
  noex : ∀ b o, X.base.get? b = some o → b ∉ X.ex
  exfs : ∀ b ∈ X.ex, b ∉ X.fs
  funs : X.s₀.heap.FunFrames X.base X.outer
  frf : ∀ b ∈ X.fs, X.H₀ b = none

structure Inv (X : Cx) (pins : List (Addr × Obj)) (σ : List (Option V)) (H : Hp) (s : Shared) : Prop where
  ok : X.Ok
  os : s.os = X.s₀.os
  bare : AllBare s.gens
  base : Un X.fs X.ex X.H₀ H X.s₀.heap s.heap
  loc : ∃ m, s.heap.Ns X.env.locals m ∧ ∀ (i : Nat) (x : Str) (v : V), X.N[i]? = some x → σ[i]? = some (some v) → Vis X.env.scope x → ∃ u, RelV v u ∧ Look X.env s.heap m x u
  cell : ∀ x c, X.env.cells.lookup x = some c → ∃ v, s.heap.IsCell c v
  free : H X.env.locals = none
  freeC : ∀ x c, X.env.cells.lookup x = some c → H c = none
  pin : ∀ p ∈ X.pn ++ pins, s.heap.get? p.1 = some p.2 ∧ H p.1 = none ∧ p.1 ≠ X.env.locals ∧ p.1 ∉ X.fs ∧ ∀ v, p.2.data ≠ .cell v
  hok : HOk X.prog X.w H s.heap
  len : σ.length = X.N.length

section
variable {X : Cx} {pins : List (Addr × Obj)} {σ : List (Option V)} {H H' : Hp} {s : Shared} {h' : Heap}

theorem Cx.Ok.nofr (ok : X.Ok) {b : Addr} {o : Obj} (e : X.base.get? b = some o) : b ∉ X.fs := fun hb => by
  have := (ok.funs.mem hb).1
  rw [e] at this; cases this
theorem Inv.bs (I : Inv X pins σ H s) : ∀ b o, X.base.get? b = some o → s.heap.get? b = some o ∧ H b = none := fun b o e =>
  ⟨I.base.keep b o (I.ok.bs b o e).1 (I.ok.bs b o e).2 (I.ok.nofr e) (I.ok.noex b o e), I.base.free b o (I.ok.bs b o e).1 (I.ok.bs b o e).2 (I.ok.noex b o e)⟩
theorem Inv.bk (I : Inv X pins σ H s) : ∀ b o, X.base.get? b = some o → s.heap.get? b = some o := fun b o e => (I.bs b o e).1
theorem Inv.mod (I : Inv X pins σ H s) : Mod X.K X.mg X.base := I.ok.mod
theorem Inv.kIn (I : Inv X pins σ H s) : X.K.In s.heap := I.ok.mod.kin.keeps I.bk
theorem Inv.nolimit (I : Inv X pins σ H s) : s.heap.NoLimit := I.ok.mod.nolimit.keeps I.bk
theorem Inv.fr (I : Inv X pins σ H s) : ∃ m, Fr X.base X.env.locals s.heap m :=
  let ⟨m, hn, _⟩ := I.loc
  ⟨m, hn, I.bk, Nat.le_trans I.ok.bsz I.ok.above⟩
theorem Inv.lt (I : Inv X pins σ H s) : X.env.locals < s.heap.objs.size := let ⟨_, hn, _⟩ := I.loc; hn.lt
theorem Inv.sz (I : Inv X pins σ H s) : X.s₀.heap.objs.size ≤ s.heap.objs.size := Nat.le_trans I.ok.above (Nat.le_of_lt I.lt)
theorem Inv.nofs (I : Inv X pins σ H s) {a : Addr} (h : s.heap.objs.size ≤ a) : a ∉ X.fs := fun hb => by
  obtain ⟨_, o, ho, _⟩ := I.ok.funs.mem hb
  exact absurd (Nat.lt_of_lt_of_le (Heap.lt_size ho) (Nat.le_trans I.sz h)) (Nat.lt_irrefl _)
theorem Inv.cne (I : Inv X pins σ H s) : ∀ x c, X.env.cells.lookup x = some c → c ≠ X.env.locals := fun x c e z => by
  obtain ⟨v, o, ho, hd⟩ := I.cell x c e
  obtain ⟨m, ⟨o', es, ep, ho', hd', _⟩, _⟩ := I.loc
  rw [z, ho'] at ho; cases ho; rw [hd'] at hd; cases hd
theorem Inv.funs (I : Inv X pins σ H s) : s.heap.FunFrames X.base X.outer := by
  have all : ∀ (l : List Env), (∀ b ∈ frs l, b ∈ X.fs) → X.s₀.heap.FunFrames X.base l → s.heap.FunFrames X.base l := by
    intro l
    induction l with
    | nil => intro _ _; trivial
    | cons env r ih =>
      intro hs hl
      obtain ⟨hk, ⟨L, o, hf, hn, ho, hd⟩, hr⟩ := hl
      have hL : L ∈ X.fs := hs L (by unfold frs; rw [List.filterMap_cons, hf]; exact List.mem_cons_self)
      obtain ⟨sl, e⟩ := I.base.slot L o ho (I.ok.frf L hL) hL fun z => I.ok.exfs L z hL
      exact ⟨hk, ⟨L, _, hf, hn, e, hd⟩, ih (fun b hb => hs b (by unfold frs; rw [List.filterMap_cons, hf]; exact List.mem_cons_of_mem _ hb)) hr⟩
  exact all X.outer (fun _ hb => hb) I.ok.funs

theorem Inv.stack (I : Inv X pins σ H s) : s.heap.FunFrames X.base X.stack := by
  rcases I.ok.stk with e | ⟨e, hf⟩
  · rw [e]; exact I.funs
  · rw [e]
    obtain ⟨m, hn, _⟩ := I.loc
    refine .cons (by rw [I.ok.kind]; decide) hf hn ?_ I.funs
    exact Heap.get?_none_of_le (Nat.le_trans I.ok.bsz I.ok.above)
theorem Inv.stkSub (I : Inv X pins σ H s) : ∀ b ∈ frs X.stack, b ∈ X.env.locals :: X.fs := fun b hb => by
  rcases I.ok.stk with e | ⟨e, hf⟩
  · rw [e] at hb; exact List.mem_cons_of_mem _ hb
  · rw [e] at hb
    unfold frs at hb
    rw [List.filterMap_cons, hf] at hb
    exact hb
theorem Inv.stkFree (I : Inv X pins σ H s) : ∀ b ∈ frs X.stack, H b = none := fun b hb => by
  rcases List.mem_cons.mp (I.stkSub b hb) with e | hb
  · rw [e]; exact I.free
  · obtain ⟨_, o, ho, _⟩ := I.ok.funs.mem hb
    exact I.base.free b o ho (I.ok.frf b hb) fun z => I.ok.exfs b z hb

theorem Inv.step {g' : Array GenState} {t' : Nat} {d' : Drawn} {ch : List Addr} (I : Inv X pins σ H s)
    (hch : ∀ b ∈ ch, (b ∈ X.ex ∨ X.s₀.heap.objs.size ≤ b) ∧ b ≠ X.env.locals ∧ (∀ x c, X.env.cells.lookup x = some c → c ≠ b) ∧ ∀ p ∈ X.pn ++ pins, p.1 ≠ b)
    (keep : ∀ b o, b ≠ X.env.locals → b ∉ X.fs → b ∉ ch → s.heap.get? b = some o → H b = none → h'.get? b = some o)
    (slot : ∀ b o, b ≠ X.env.locals → b ∈ X.fs → b ∉ ch → s.heap.get? b = some o → H b = none → ∃ sl, h'.get? b = some { o with slots := sl }) (free : ∀ b o, b ∉ ch → s.heap.get? b = some o → H b = none → H' b = none)
    (there : ∀ b o, b ∉ ch → s.heap.get? b = some o → ∃ o', h'.get? b = some o')
    (tups : ∀ b xs, H b = some (.tup xs) → H' b = some (.tup xs)) (frzs : ∀ b o u, H b = some (.frz o u) → H' b = some (.frz o u)) (tbls : ∀ b ps, H b = some (.tbl ps) → ∃ more, H' b = some (.tbl (ps ++ more)))
    (ns : ∀ m, s.heap.Ns X.env.locals m → h'.Ns X.env.locals m) (hok : HOk X.prog X.w H' h') (hg : AllBare g') :
    Inv X pins σ H' { s with heap := h', gens := g', drawn := d', toks := t' } := by
  have neL : ∀ b o, X.s₀.heap.get? b = some o → b ≠ X.env.locals := fun b o e => Nat.ne_of_lt (Nat.lt_of_lt_of_le (Heap.lt_size e) I.ok.above)
  have neC : ∀ b o, X.s₀.heap.get? b = some o → b ∉ X.ex → b ∉ ch := fun b o e hx hb => by
    rcases (hch b hb).1 with z | z
    · exact hx z
    · exact absurd (Nat.lt_of_lt_of_le (Heap.lt_size e) z) (Nat.lt_irrefl _)
  have cellK : ∀ x c, X.env.cells.lookup x = some c → ∀ v, s.heap.IsCell c v → h'.IsCell c v := fun x c e v ⟨o, ho, hd⟩ => by
    have nch : c ∉ ch := fun z => (hch c z).2.2.1 x c e rfl
    by_cases hc : c ∈ X.fs
    · obtain ⟨sl, q⟩ := slot c o (I.cne x c e) hc nch ho (I.freeC x c e)
      exact ⟨_, q, hd⟩
    · exact ⟨o, keep c o (I.cne x c e) hc nch ho (I.freeC x c e), hd⟩
  refine ⟨I.ok, I.os, hg, ⟨fun b o e n hb hx => ?_, fun b o e n hb hx => ?_, fun b o e n hx => ?_, fun b o e hx => ?_, fun b xs e => tups b xs (I.base.tups b xs e), fun b o xs e => frzs b o xs (I.base.frzs b o xs e), fun b ps e => ?_⟩, ?_, fun x c e => ?_, ?_, fun x c e => ?_, fun p hp => ?_, hok, I.len⟩
  · exact keep b o (neL b o e) hb (neC b o e hx) (I.base.keep b o e n hb hx) (I.base.free b o e n hx)
  · obtain ⟨sl, e1⟩ := I.base.slot b o e n hb hx
    obtain ⟨sl', e2⟩ := slot b _ (neL b o e) hb (neC b o e hx) e1 (I.base.free b o e n hx)
    exact ⟨sl', e2⟩
  · obtain ⟨o', e1⟩ := I.base.there b o e hx
    exact free b o' (neC b o e hx) e1 (I.base.free b o e n hx)
  · obtain ⟨o', e1⟩ := I.base.there b o e hx
    exact there b o' (neC b o e hx) e1
  · obtain ⟨m1, e1⟩ := I.base.tbls b ps e
    obtain ⟨m2, e2⟩ := tbls b _ e1
    exact ⟨m1 ++ m2, by rw [e2, Array.append_assoc]⟩
  · obtain ⟨m, hn, hl⟩ := I.loc
    refine ⟨m, ns m hn, fun i x v e1 e2 e3 => ?_⟩
    obtain ⟨u, r, l⟩ := hl i x v e1 e2 e3
    refine ⟨u, r, ?_⟩
    rcases l with l | ⟨k, c, e, z⟩
    · exact .inl l
    · exact .inr ⟨k, c, e, cellK x c e _ z⟩
  · obtain ⟨v, z⟩ := I.cell x c e
    exact ⟨v, cellK x c e v z⟩
  · obtain ⟨m, ⟨o, _, _, ho, _⟩, _⟩ := I.loc
    exact free _ o (fun z => (hch _ z).2.1 rfl) ho I.free
  · obtain ⟨v, o, ho, hd⟩ := I.cell x c e
    exact free c o (fun z => (hch c z).2.2.1 x c e rfl) ho (I.freeC x c e)
  · obtain ⟨e, n, ne, nf, d⟩ := I.pin p hp
    have nch : p.1 ∉ ch := fun z => (hch p.1 z).2.2.2 p hp rfl
    exact ⟨keep p.1 p.2 ne nf nch e n, free p.1 p.2 nch e n, ne, nf, d⟩
theorem Inv.un {t' : Nat} (I : Inv X pins σ H s) (u : Un X.fs [] H H' s.heap h') (hok : HOk X.prog X.w H' h') : Inv X pins σ H' { s with heap := h', toks := t' } := by
  obtain ⟨m, ⟨o, es, ep, ho, r⟩, _⟩ := id I.loc
  obtain ⟨sl, hL⟩ := u.any ho I.free (by simp)
  exact I.step (g' := s.gens) (d' := s.drawn) (ch := []) (fun _ z => nomatch z) (fun b o _ hb _ e n => u.keep b o e n hb (by simp)) (fun b o _ hb _ e n => u.slot b o e n hb (by simp)) (fun b o _ e n => u.free b o e n (by simp)) (fun b o _ e => u.there b o e (by simp)) u.tups u.frzs u.tbls (fun m' hm => by
    obtain ⟨o', es', ep', ho', r'⟩ := hm
    rw [ho] at ho'; cases ho'
    exact ⟨_, es', ep', hL, r'⟩) hok I.bare
theorem Inv.call {g' : Array GenState} {t' : Nat} {d' : Drawn} {ch : List Addr} (I : Inv X pins σ H s) (u : Un (frs X.stack) ch H H' s.heap h') (hok : HOk X.prog X.w H' h') (hg : AllBare g')
    (hch : ∀ b ∈ ch, (b ∈ X.ex ∨ X.s₀.heap.objs.size ≤ b) ∧ b ≠ X.env.locals ∧ (∀ x c, X.env.cells.lookup x = some c → c ≠ b) ∧ ∀ p ∈ X.pn ++ pins, p.1 ≠ b) :
    Inv X pins σ H' { s with heap := h', gens := g', drawn := d', toks := t' } := by
  obtain ⟨m, ⟨o, es, ep, ho, r⟩, _⟩ := id I.loc
  obtain ⟨sl, hL⟩ := u.any ho I.free fun z => (hch _ z).2.1 rfl
  exact I.step (ch := ch) hch (fun b o hL hb hc e n => u.keep b o e n (fun z => (List.mem_cons.mp (I.stkSub b z)).elim hL hb) hc) (fun b o _ _ hc e n => u.any e n hc) (fun b o hc e n => u.free b o e n hc) (fun b o hc e => u.there b o e hc) u.tups u.frzs u.tbls (fun m' hm => by
    obtain ⟨o', es', ep', ho', r'⟩ := hm
    rw [ho] at ho'; cases ho'
    exact ⟨_, es', ep', hL, r'⟩) hok hg
theorem Inv.turned {t' : Nat} {it : Addr} (I : Inv X pins σ H s) (k : ∀ b o, b ≠ it → s.heap.get? b = some o → h'.get? b = some o) (hn : H it = none) (hL : it ≠ X.env.locals)
    (h1 : it ∈ X.ex ∨ X.s₀.heap.objs.size ≤ it) (h2 : ∀ x c, X.env.cells.lookup x = some c → c ≠ it) (h3 : ∀ p ∈ X.pn ++ pins, p.1 ≠ it) : Inv X pins σ H { s with heap := h', toks := t' } := by
  have nit : ∀ b u, H b = some u → b ≠ it := fun b u e z => by rw [z, hn] at e; cases e
  refine I.step (g' := s.gens) (d' := s.drawn) (ch := [it]) (fun b hb => ?_) (fun b o _ _ hc e _ => k b o (fun z => hc (by simp [z])) e) (fun b o _ _ hc e _ => ⟨o.slots, k b o (fun z => hc (by simp [z])) e⟩) (fun _ _ _ _ n => n)
    (fun b o hc e => ⟨o, k b o (fun z => hc (by simp [z])) e⟩) (fun _ _ e => e) (fun _ _ _ e => e) (fun b ps e => ⟨#[], by rw [e]; simp⟩) (fun m hm => ?_) (fun b u e => ?_) I.bare
  · have e : b = it := by simpa using hb
    subst e
    exact ⟨h1, hL, h2, h3⟩
  · obtain ⟨o, es, ep, ho, r⟩ := hm
    exact ⟨o, es, ep, k _ o (Ne.symm hL) ho, r⟩
  · refine (I.hok b u e).stay (fun c v hc q => k c v ?_ q) (fun _ q => q) fun _ _ q => q
    rcases hc with z | z
    · rw [z]; exact nit b u e
    · exact nit c _ z
theorem Inv.tok (I : Inv X pins σ H s) (t : Nat) : Inv X pins σ H { s with toks := t } := I.un (h' := s.heap) (t' := t) Un.refl I.hok
theorem Inv.kept {t' : Nat} (I : Inv X pins σ H s) (k : ∀ b u, s.heap.get? b = some u → h'.get? b = some u) : Inv X pins σ H { s with heap := h', toks := t' } := I.un (Un.kept k) (I.hok.kept k)
theorem Inv.laid {a : Addr} {o : HO} {t' : Nat} (I : Inv X pins σ H s) (k : ∀ b u, s.heap.get? b = some u → h'.get? b = some u) (hp : s.heap.objs.size ≤ a) (new : ObjOk X.prog X.w (upd H a o) h' a o) :
    Inv X pins σ (upd H a o) { s with heap := h', toks := t' } := I.un (Un.laid k hp (I.hok.fresh hp)) (I.hok.laid k hp new)
theorem Inv.write {x e : Addr} {o : HO} {t' : Nat} (I : Inv X pins σ H s) (mu : Mut (H x)) (he : e = x ∨ H e = some (.own x)) (k : ∀ b u, b ≠ e → s.heap.get? b = some u → h'.get? b = some u) (heo : ∃ u, h'.get? e = some u)
    (new : ObjOk X.prog X.w (upd H x o) h' x o) : Inv X pins σ (upd H x o) { s with heap := h', toks := t' } := I.un (Un.write mu he k heo) (I.hok.write mu he k heo new)
theorem Inv.pins_of {pins' : List (Addr × Obj)} (I : Inv X pins σ H s) (h : ∀ p ∈ pins', s.heap.get? p.1 = some p.2 ∧ H p.1 = none ∧ p.1 ≠ X.env.locals ∧ p.1 ∉ X.fs ∧ ∀ v, p.2.data ≠ .cell v) : Inv X pins' σ H s :=
  ⟨I.ok, I.os, I.bare, I.base, I.loc, I.cell, I.free, I.freeC, fun p hp => (List.mem_append.mp hp).elim (fun z => I.pin p (List.mem_append_left _ z)) (h p), I.hok, I.len⟩

theorem nodup_ix {N : List Str} (hN : N.Nodup) {i j : Nat} {x : Str} (a : N[i]? = some x) (b : N[j]? = some x) : i = j := by
  obtain ⟨h1, e1⟩ := List.getElem?_eq_some_iff.mp a
  obtain ⟨h2, e2⟩ := List.getElem?_eq_some_iff.mp b
  exact (List.getElem_inj hN).mp (e1.trans e2.symm)

theorem store_ok2 {M : Model} {A : Around} {E : Value → Shared → Prop} {i : Nat} {x : Str} {v : V} {u : Value} {Q : Unit → Shared → Prop} (I : Inv X pins σ H s) (hN : X.N.Nodup) (hi : X.N[i]? = some x) (hx : Loc X.env.scope x) (r : RelV v u)
    (h : ∀ s', Inv X pins (σ.set i (some v)) H s' → (∃ a, Heap.SameBut a s.heap s'.heap ∧ (a = X.env.locals ∨ X.env.cells.lookup x = some a)) → Q () s') (hf : X.fn x = true ∨ X.env.scope.names.lookup x = some .local := by first | exact .inl rfl | exact .inr rfl | assumption) : wpAny M A (storeName X.env x u) Q E s := by
  obtain ⟨m, hn, hl⟩ := id I.loc
  have hcls : (X.env.scope.kind == .class || (X.env.scope.kind == .module && X.env.locals != X.env.globals)) = false := by rw [I.ok.kind]; rfl
  have hiσ : i < σ.length := by rw [I.len]; exact (List.getElem?_eq_some_iff.mp hi).1
  have cne := I.cne
  have tracked : ∀ {a : Addr} {h' : Heap}, (∃ o, s.heap.get? a = some o ∧ H a = none) → Heap.SameBut a s.heap h' → HOk X.prog X.w H h' := fun {a h'} ha hs b ob e => by
    obtain ⟨_, _, hfree⟩ := ha
    refine (I.hok b ob e).stay (fun c w' hc q => (hs.2 c ?_).trans q) (fun _ q => q) fun _ _ q => q
    rintro rfl
    rcases hc with rfl | hc
    · rw [hfree] at e; cases e
    · rw [hfree] at hc; cases hc
  rcases hx with hk | hk
  · refine wpAny_storeName_local hk hn (fun h' hn' hs => ?_) hcls
    obtain ⟨oL, _, _, hoL, _⟩ := id hn
    refine h _ ⟨I.ok, I.os, I.bare, ⟨fun b o e n hb hx => ?_, fun b o e n hb hx => ?_, I.base.free, fun b o e hx => ?_, I.base.tups, I.base.frzs, I.base.tbls⟩, ⟨_, hn', fun j y v' e1 e2 e3 => ?_⟩, fun y c e => ?_, I.free, I.freeC, fun p hp => ?_, tracked ⟨oL, hoL, I.free⟩ hs, by simpa using I.len⟩ ⟨_, hs, .inl rfl⟩
    · exact (hs.2 b (Nat.ne_of_lt (Nat.lt_of_lt_of_le (Heap.lt_size e) I.ok.above))).trans (I.base.keep b o e n hb hx)
    · obtain ⟨sl, e1⟩ := I.base.slot b o e n hb hx
      exact ⟨sl, (hs.2 b (Nat.ne_of_lt (Nat.lt_of_lt_of_le (Heap.lt_size e) I.ok.above))).trans e1⟩
    · obtain ⟨o', e1⟩ := I.base.there b o e hx
      exact ⟨o', (hs.2 b (Nat.ne_of_lt (Nat.lt_of_lt_of_le (Heap.lt_size e) I.ok.above))).trans e1⟩
    · by_cases hj : j = i
      · subst hj
        rw [hi] at e1; cases e1
        rw [List.getElem?_set_self hiσ] at e2
        cases e2
        exact ⟨u, r, .inl ⟨hk, by simp⟩⟩
      · rw [List.getElem?_set_ne (Ne.symm hj)] at e2
        obtain ⟨u', r', q⟩ := hl j y v' e1 e2 e3
        refine ⟨u', r', ?_⟩
        rcases q with ⟨k, e⟩ | ⟨k, c, e, z⟩
        · refine .inl ⟨k, ?_⟩
          have : y ≠ x := fun e => hj (nodup_ix hN e1 (e ▸ hi))
          simp [this, e]
        · exact .inr ⟨k, c, e, z.sameBut hs (cne y c e)⟩
    · obtain ⟨w', z⟩ := I.cell y c e
      exact ⟨w', z.sameBut hs (cne y c e)⟩
    · obtain ⟨e, n, ne, nf, d⟩ := I.pin p hp
      exact ⟨(hs.2 p.1 ne).trans e, n, ne, nf, d⟩
  · have hfn : X.fn x = true := by
      rcases hf with z | z
      · exact z
      · rw [z] at hk; cases hk
    obtain ⟨c, hc⟩ := I.ok.has x (.inl hk)
    obtain ⟨w', z⟩ := I.cell x c hc
    refine wpAny_storeName_cell I.ok.kind hk hc z (fun h' hc' hs => ?_)
    obtain ⟨oc, hoc, hocd⟩ := id z
    refine h { s with heap := h' } ⟨I.ok, I.os, I.bare, ⟨fun b o e n hb hx => ?_, fun b o e n hb hx => ?_, I.base.free, fun b o e hx => ?_, I.base.tups, I.base.frzs, I.base.tbls⟩, ⟨m, hn.sameBut hs (Ne.symm (cne x c hc)), fun j y v' e1 e2 e3 => ?_⟩, fun y c' e => ?_, I.free, I.freeC, fun p hp => ?_, tracked ⟨oc, hoc, I.freeC x c hc⟩ hs, by simpa using I.len⟩ ⟨c, hs, .inr hc⟩
    · exact (hs.2 b (Nat.ne_of_lt (Nat.lt_of_lt_of_le (Heap.lt_size e) (I.ok.cab x c hfn hc)))).trans (I.base.keep b o e n hb hx)
    · obtain ⟨sl, e1⟩ := I.base.slot b o e n hb hx
      exact ⟨sl, (hs.2 b (Nat.ne_of_lt (Nat.lt_of_lt_of_le (Heap.lt_size e) (I.ok.cab x c hfn hc)))).trans e1⟩
    · obtain ⟨o', e1⟩ := I.base.there b o e hx
      exact ⟨o', (hs.2 b (Nat.ne_of_lt (Nat.lt_of_lt_of_le (Heap.lt_size e) (I.ok.cab x c hfn hc)))).trans e1⟩
    · by_cases hj : j = i
      · subst hj
        rw [hi] at e1; cases e1
        rw [List.getElem?_set_self hiσ] at e2
        cases e2
        exact ⟨u, r, .inr ⟨.inl hk, c, hc, hc'⟩⟩
      · rw [List.getElem?_set_ne (Ne.symm hj)] at e2
        obtain ⟨u', r', q⟩ := hl j y v' e1 e2 e3
        refine ⟨u', r', ?_⟩
        rcases q with q | ⟨k, c', e, z'⟩
        · exact .inl q
        · refine .inr ⟨k, c', e, z'.sameBut hs ?_⟩
          rintro rfl
          exact hj (nodup_ix hN e1 (I.ok.inj _ _ _ e hc ▸ hi))
    · by_cases hcc : c' = c
      · subst hcc; exact ⟨_, hc'⟩
      · obtain ⟨w2, z2⟩ := I.cell y c' e
        exact ⟨w2, z2.sameBut hs hcc⟩
    · obtain ⟨e, n, ne, nf, d⟩ := I.pin p hp
      refine ⟨(hs.2 p.1 ?_).trans e, n, ne, nf, d⟩
      intro q
      rw [q, hoc] at e
      have q' : oc = p.2 := Option.some.inj e
      exact d w' (by rw [← q']; exact hocd)
theorem store_ok {M : Model} {A : Around} {E : Value → Shared → Prop} {i : Nat} {x : Str} {v : V} {u : Value} {Q : Unit → Shared → Prop} (I : Inv X pins σ H s) (hN : X.N.Nodup) (hi : X.N[i]? = some x) (hx : Loc X.env.scope x) (r : RelV v u)
    (h : ∀ s', Inv X pins (σ.set i (some v)) H s' → Q () s') (hf : X.fn x = true ∨ X.env.scope.names.lookup x = some .local := by first | exact .inl rfl | exact .inr rfl | assumption) : wpAny M A (storeName X.env x u) Q E s :=
  store_ok2 I hN hi hx r (fun s' I' _ => h s' I') hf
theorem Inv.call' {s' : Shared} {ch : List Addr} (I : Inv X pins σ H s) (ho : s'.os = s.os) (u : Un (frs X.stack) ch H H' s.heap s'.heap) (hok : HOk X.prog X.w H' s'.heap) (hg : AllBare s'.gens)
    (hch : ∀ b ∈ ch, (b ∈ X.ex ∨ X.s₀.heap.objs.size ≤ b) ∧ b ≠ X.env.locals ∧ (∀ x c, X.env.cells.lookup x = some c → c ≠ b) ∧ ∀ p ∈ X.pn ++ pins, p.1 ≠ b) : Inv X pins σ H' s' := by
  obtain ⟨h', g', d', t', o'⟩ := s'
  have e : o' = s.os := ho
  subst e
  exact I.call (g' := g') (t' := t') (d' := d') u hok hg hch
end

abbrev XK := Value → Option Addr → Hp → Prop
abbrev St := List (Option V)
abbrev VK := V → Hp → Prop
abbrev TE := St → Hp → VK → Prop
abbrev TT := St → Hp → (Bool → Hp → Prop) → Prop
abbrev TA := St → Hp → (List V → Hp → Prop) → Prop
structure Ends where
  nx : St → Hp → Prop
  rt : VK
  bk : St → Hp → Prop := fun _ _ => False
  ct : St → Hp → Prop := fun _ _ => False
abbrev TS := Ends → St → Hp → Prop

def EP (X : Cx) (pins : List (Addr × Obj)) (σ : St) (Q : VK) (u : Value) (s' : Shared) : Prop := ∃ v H', Inv X pins σ H' s' ∧ RelV v u ∧ Q v H'
def TP (X : Cx) (pins : List (Addr × Obj)) (σ : St) (Q : Bool → Hp → Prop) (b : Bool) (s' : Shared) : Prop := ∃ H', Inv X pins σ H' s' ∧ Q b H'
def AP (X : Cx) (pins : List (Addr × Obj)) (σ : St) (Q : List V → Hp → Prop) (us : List Value) (s' : Shared) : Prop := ∃ vs H', Inv X pins σ H' s' ∧ Vals vs us ∧ Q vs H'
def SP (X : Cx) (pins : List (Addr × Obj)) (D : Ends) (f : Flow) (s' : Shared) : Prop :=
  match f with
  | .next => ∃ σ' H', Inv X pins σ' H' s' ∧ D.nx σ' H'
  | .brk => ∃ σ' H', Inv X pins σ' H' s' ∧ D.bk σ' H'
  | .cont => ∃ σ' H', Inv X pins σ' H' s' ∧ D.ct σ' H'
  | .ret u => ∃ v σ' H', Inv X pins σ' H' s' ∧ RelV v u ∧ D.rt v H'

def PE (X : Cx) (e : Expr) (t : TE) : Prop :=
  ∀ (pins : List (Addr × Obj)) (s : Shared) (σ : St) (H : Hp) (Q : VK), Inv X pins σ H s → t σ H Q → wpAny (model X.prog X.w) X.A (eval e X.env) (EP X pins σ Q) X.xe s
def PT (X : Cx) (e : Expr) (t : TT) : Prop :=
  ∀ (pins : List (Addr × Obj)) (s : Shared) (σ : St) (H : Hp) (Q : Bool → Hp → Prop), Inv X pins σ H s → t σ H Q → wpAny (model X.prog X.w) X.A (isTrue e X.env (eval e X.env)) (TP X pins σ Q) X.xe s
def PW (X : Cx) (e : Expr) (t : TT) : Prop :=
  ∀ (whole : Sem Value) (pins : List (Addr × Obj)) (s : Shared) (σ : St) (H : Hp) (Q : Bool → Hp → Prop), Inv X pins σ H s → t σ H Q → wpAny (model X.prog X.w) X.A (isTrue e X.env whole) (TP X pins σ Q) X.xe s
theorem PW.pt {X : Cx} {e : Expr} {t : TT} (h : PW X e t) : PT X e t := h _
def PA (X : Cx) (es : List Expr) (t : TA) : Prop :=
  ∀ (pos : Pos) (pins : List (Addr × Obj)) (s : Shared) (σ : St) (H : Hp) (Q : List V → Hp → Prop), Inv X pins σ H s → t σ H Q → wpAny (model X.prog X.w) X.A (spliced (backTo pos (starEach es X.env))) (AP X pins σ Q) X.xe s
def PS (X : Cx) (st : Stmt) (t : TS) : Prop :=
  ∀ (pins : List (Addr × Obj)) (s : Shared) (σ : St) (H : Hp) (D : Ends), Inv X pins σ H s → t D σ H → wpAny (model X.prog X.w) X.A (exec st X.env) (SP X pins D) X.xe s
def PSs (X : Cx) (st : List Stmt) (t : TS) : Prop :=
  ∀ (pins : List (Addr × Obj)) (s : Shared) (σ : St) (H : Hp) (D : Ends), Inv X pins σ H s → t D σ H → wpAny (model X.prog X.w) X.A (execs st X.env) (SP X pins D) X.xe s
theorem thn {α : Type} {t : Sem α} {Q Q' : α → Shared → Prop} {M : Model} {A : Around} {E : Value → Shared → Prop} {s : Shared} (h : wpAny M A t Q E s) (hQ : ∀ a s, Q a s → Q' a s) : wpAny M A t Q' E s := wpAny_mono h hQ fun _ _ x => x
end L2

namespace L2
open PySem PySem.Spec PyProof.Rows
section
variable {X : Cx}

def tVar (i : Nat) : TE := fun σ H Q => ∃ v, σ[i]? = some (some v) ∧ Q v H
def tC (v : V) : TE := fun _ H Q => Q v H
theorem pe_var {i : Nat} {x : Str} {pos : Pos} (hN : X.N[i]? = some x) (hv : Vis X.env.scope x) (hd : (x == ("__debug__" : Str)) = false := by decide) (hcd : (x == ("__classdict__" : Str)) = false := by decide) : PE X (.Name x pos) (tVar i) := by
  intro pins s σ H Q I h
  obtain ⟨v, e, h⟩ := h
  obtain ⟨m, hn, hl⟩ := I.loc
  obtain ⟨u, r, l⟩ := hl i x v hN e hv
  have fin : EP X pins σ Q u s := ⟨v, H, I, r, h⟩
  rcases l with ⟨hk, hm⟩ | ⟨hk, c, hc, hcell⟩
  · exact wpAny_Name (wpAny_loadName_local I.ok.kind hk hn hm fin) hd
  · rcases hk with hk | hk
    · exact wpAny_Name (wpAny_loadName_cell I.ok.kind hk hc hcell fin) hd
    · exact wpAny_Name (wpAny_loadName_free I.ok.kind hk hc hcell fin hcd) hd
theorem pe_int {i j pos} : PE X (.Constant (.int i) j pos) (tC (.int i)) := fun _ _ _ H _ I h => wpAny_Constant_int ⟨.int i, H, I.tok _, ⟨_, rfl⟩, h⟩
theorem pe_bl {b j pos} : PE X (.Constant (.bool b) j pos) (tC (.bl b)) := fun _ _ _ H _ I h => Constant_bool ⟨.bl b, H, I, rfl, h⟩
theorem pe_non {j pos} : PE X (.Constant .none j pos) (tC .non) := fun _ _ _ H _ I h => Constant_none ⟨.non, H, I, rfl, h⟩
theorem pe_str {x j pos} : PE X (.Constant (.str x) j pos) (tC (.str x)) := fun _ _ _ H _ I h => Calls.Constant_str ⟨.str x, H, I.tok _, ⟨_, rfl⟩, h⟩

def Gl (X : Cx) (x : Str) : Prop := X.env.kindOf x = some .globalImplicit
theorem ld_glob {E : Value → Shared → Prop} {pins : List (Addr × Obj)} {s : Shared} {σ : St} {H : Hp} {x : Str} {u : Value} {pos : Pos} {Q : Value → Shared → Prop} (I : Inv X pins σ H s) (hg : Gl X x) (hm : X.mg x = some u) (h : Q u s)
    (hd : (x == ("__debug__" : Str)) = false := by decide) : wpAny (model X.prog X.w) X.A (eval (.Name x pos) X.env) Q E s :=
  Calls.Name_function_global I.ok.kind hg (Calls.loadGlobal_global (by rw [I.ok.glob]; exact I.mod.glob.keeps I.bk) hm h) hd
theorem ld_blt {E : Value → Shared → Prop} {pins : List (Addr × Obj)} {s : Shared} {σ : St} {H : Hp} {x : Str} {u : Value} {pos : Pos} {Q : Value → Shared → Prop} (I : Inv X pins σ H s) (hg : Gl X x) (hm : X.mg x = none) (hv : bootBuiltins x = some u) (h : Q u s)
    (hn : x ≠ "__name__" := by decide) (hd : (x == ("__debug__" : Str)) = false := by decide) : wpAny (model X.prog X.w) X.A (eval (.Name x pos) X.env) Q E s := by
  obtain ⟨mb, h1, h2⟩ := I.mod.blt
  exact Calls.Name_function_global I.ok.kind hg (Calls.loadGlobal_builtin (by rw [I.ok.glob]; exact I.mod.glob.keeps I.bk) hm (by rw [I.ok.blt]; exact h1.keeps I.bk) ((h2 x hn).trans hv) h) hd
theorem pe_glob {x : Str} {v : V} {u : Value} {pos : Pos} (hg : Gl X x) (hm : X.mg x = some u) (r : RelV v u) (hd : (x == ("__debug__" : Str)) = false := by decide) : PE X (.Name x pos) (tC v) :=
  fun _ _ _ H _ I h => ld_glob I hg hm ⟨v, H, I, r, h⟩ hd
theorem pe_bltn {x : Str} {v : V} {u : Value} {pos : Pos} (hg : Gl X x) (hm : X.mg x = none) (hv : bootBuiltins x = some u) (r : RelV v u) (hn : x ≠ "__name__" := by decide) (hd : (x == ("__debug__" : Str)) = false := by decide) : PE X (.Name x pos) (tC v) :=
  fun _ _ _ H _ I h => ld_blt I hg hm hv ⟨v, H, I, r, h⟩ hn hd

variable {a b : Expr} {ta tb : TE} {pos : Pos}
def PC (X : Cx) (op : CmpOp) (a b : Expr) (t : TE) : Prop :=
  ∀ (pins : List (Addr × Obj)) (s : Shared) (σ : St) (H : Hp) (Q : VK), Inv X pins σ H s → t σ H Q →
    wpAny (model X.prog X.w) X.A (eval a X.env) (fun v s₁ => wpAny (model X.prog X.w) X.A (eval b X.env) (fun u s₂ => wpAny (model X.prog X.w) X.A (compareOp op v u) (EP X pins σ Q) X.xe s₂) X.xe s₁) X.xe s
theorem nobehind (b : Expr) {op : CmpOp} (h : op ≠ .In) (h2 : op ≠ .NotIn) : behindInMarks op b = false := by
  have e1 : (op == CmpOp.In) = false := by cases op <;> first | rfl | exact absurd rfl h
  have e2 : (op == CmpOp.NotIn) = false := by cases op <;> first | rfl | exact absurd rfl h2
  cases b <;> simp [behindInMarks, e1, e2]
def tIsN (ta : TE) : TE := fun σ H Q => ta σ H fun x H1 => Q (.bl (decide (x = .non))) H1
def tNotN (ta : TE) : TE := fun σ H Q => ta σ H fun x H1 => Q (.bl (!decide (x = .non))) H1
theorem RelV.none_iff {x : V} {v : Value} (r : RelV x v) : (v == Value.none) = decide (x = .non) := by
  cases x with
  | non => cases r; rfl
  | bl _ => cases r; rfl
  | int _ => obtain ⟨t, rfl⟩ := r; rfl
  | str _ => obtain ⟨t, rfl⟩ := r; rfl
  | byt _ => obtain ⟨t, rfl⟩ := r; rfl
  | flt _ => obtain ⟨t, rfl⟩ := r; rfl
  | ref _ => cases r; rfl
  | ty _ => cases r; rfl
theorem pc_isN {j pos'} (ha : PE X a ta) : PC X .Is a (.Constant .none j pos') (tIsN ta) := by
  intro pins s σ H Q I h
  refine thn (ha pins s σ H _ I h) fun v s1 ⟨x, H1, I1, r1, q1⟩ => ?_
  exact Constant_none (is_none_gen ⟨.bl _, H1, I1, by rw [r1.none_iff]; rfl, q1⟩)
def tB (t : TE) : TT := fun σ H Q => t σ H fun x H1 => ∃ c, x = .bl c ∧ Q c H1
theorem pt_cmp {op : CmpOp} {t : TE} (h : PC X op a b t) (h1 : behindInMarks op b = false := by first | exact nobehind _ (by decide) (by decide) | rfl) : PT X (.Compare a [op] [b] pos) (tB t) := by
  intro pins s σ H Q I hw
  refine wpAny_isTrue_Compare1 (thn (h pins s σ H _ I hw) fun v s1 h1 => thn h1 fun u s2 h2 => thn h2 fun c s3 ⟨x, H1, I1, r1, q1⟩ => ?_) h1
  obtain ⟨d, rfl, q⟩ := q1
  cases r1
  exact wpAny_truthy_bool ⟨H1, I1, q⟩
theorem pt_val {e : Expr} {t : TE} (h : PE X e t) (he : ∀ whole, isTrue e X.env whole = (do let v ← whole; standAt e.pos; holding [v] (truthy v)) := by intro _; rfl) : PT X e (tB t) := by
  intro pins s σ H Q I hw
  refine isTrue_plain (thn (h pins s σ H _ I hw) fun v s1 ⟨x, H1, I1, r1, q1⟩ => ?_) (he _)
  obtain ⟨d, rfl, q⟩ := q1
  cases r1
  exact wpAny_truthy_bool ⟨H1, I1, q⟩

variable {tA tB' : TT} {rest : List Expr}
def tAnd (t u : TT) : TT := fun σ H Q => t σ H fun c H1 => if c = true then u σ H1 Q else Q false H1
def tOr (t u : TT) : TT := fun σ H Q => t σ H fun c H1 => if c = true then Q true H1 else u σ H1 Q
def tNot (t : TT) : TT := fun σ H Q => t σ H fun c H1 => Q (!c) H1
theorem pw_and1 (ha : PT X a tA) : PW X (.BoolOp .And [a] pos) tA := by
  intro wh pins s σ H Q I h
  refine isTrue_and (thn (ha pins s σ H Q I h) fun c s1 e => ?_)
  cases c with
  | true => exact isTrue_and_nil e
  | false => exact e
theorem pw_or1 (ha : PT X a tA) : PW X (.BoolOp .Or [a] pos) tA := by
  intro wh pins s σ H Q I h
  refine isTrue_or (thn (ha pins s σ H Q I h) fun c s1 e => ?_)
  cases c with
  | false => exact isTrue_or_nil e
  | true => exact e
theorem pw_and (ha : PT X a tA) (hb : PW X (.BoolOp .And (b :: rest) pos) tB') : PW X (.BoolOp .And (a :: b :: rest) pos) (tAnd tA tB') := by
  intro wh pins s σ H Q I h
  refine isTrue_and (thn (ha pins s σ H _ I h) fun c s1 ⟨H1, I1, q1⟩ => ?_)
  cases c with
  | true => exact hb wh pins s1 σ H1 Q I1 q1
  | false => exact ⟨H1, I1, q1⟩
theorem pw_or (ha : PT X a tA) (hb : PW X (.BoolOp .Or (b :: rest) pos) tB') : PW X (.BoolOp .Or (a :: b :: rest) pos) (tOr tA tB') := by
  intro wh pins s σ H Q I h
  refine isTrue_or (thn (ha pins s σ H _ I h) fun c s1 ⟨H1, I1, q1⟩ => ?_)
  cases c with
  | true => exact ⟨H1, I1, q1⟩
  | false => exact hb wh pins s1 σ H1 Q I1 q1
theorem pt_not (ha : PT X a tA) : PT X (.UnaryOp .Not a pos) (tNot tA) := by
  intro pins s σ H Q I h
  exact isTrue_not (ha pins s σ H (fun c H1 => Q (!c) H1) I h)
def tAndV (ta tb : TE) : TE := fun σ H Q => ta σ H fun x H1 => ∃ c, x = .bl c ∧ if c = true then tb σ H1 Q else Q (.bl false) H1
def tOrV (ta tb : TE) : TE := fun σ H Q => ta σ H fun x H1 => ∃ c, x = .bl c ∧ if c = true then Q (.bl true) H1 else tb σ H1 Q
def tNotV (ta : TE) : TE := fun σ H Q => ta σ H fun x H1 => ∃ c, x = .bl c ∧ Q (.bl (!c)) H1
theorem pe_one {op} {t : TE} (h : PE X a t) : PE X (.BoolOp op [a] pos) t := fun pins s σ H Q I hw => BoolOp_one (h pins s σ H Q I hw)
theorem pe_and (ha : PE X a ta) (hb : PE X (.BoolOp .And (b :: rest) pos) tb) : PE X (.BoolOp .And (a :: b :: rest) pos) (tAndV ta tb) := by
  intro pins s σ H Q I h
  refine BoolOp_and (thn (ha pins s σ H _ I h) fun v s1 ⟨x, H1, I1, r1, q1⟩ => ?_)
  obtain ⟨c, rfl, q1⟩ := q1
  cases r1
  refine wpAny_truthy_bool ?_
  cases c with
  | true => exact hb pins s1 σ H1 Q I1 q1
  | false => exact ⟨.bl false, H1, I1, rfl, q1⟩
theorem pe_or (ha : PE X a ta) (hb : PE X (.BoolOp .Or (b :: rest) pos) tb) : PE X (.BoolOp .Or (a :: b :: rest) pos) (tOrV ta tb) := by
  intro pins s σ H Q I h
  refine BoolOp_or (thn (ha pins s σ H _ I h) fun v s1 ⟨x, H1, I1, r1, q1⟩ => ?_)
  obtain ⟨c, rfl, q1⟩ := q1
  cases r1
  refine wpAny_truthy_bool ?_
  cases c with
  | false => exact hb pins s1 σ H1 Q I1 q1
  | true => exact ⟨.bl true, H1, I1, rfl, q1⟩
theorem pe_not (ha : PE X a ta) : PE X (.UnaryOp .Not a pos) (tNotV ta) := by
  intro pins s σ H Q I h
  refine UnaryOp_ (thn (ha pins s σ H _ I h) fun v s1 ⟨x, H1, I1, r1, q1⟩ => ?_)
  obtain ⟨c, rfl, q1⟩ := q1
  cases r1
  exact not_of (wpAny_truthy_bool ⟨.bl (!c), H1, I1, rfl, q1⟩)
def tIf (t : TT) (ta tb : TE) : TE := fun σ H Q => t σ H fun c H1 => if c = true then ta σ H1 Q else tb σ H1 Q
theorem pe_ifExp {c : Expr} (hc : PT X c tA) (ha : PE X a ta) (hb : PE X b tb) : PE X (.IfExp c a b pos) (tIf tA ta tb) := by
  intro pins s σ H Q I h
  refine wpAny_IfExp (thn (hc pins s σ H _ I h) fun d s1 ⟨H1, I1, q1⟩ => ?_)
  cases d with
  | true => exact ha pins s1 σ H1 Q I1 q1
  | false => exact hb pins s1 σ H1 Q I1 q1
end
end L2

namespace L2
open PySem PySem.Spec PyProof.Rows

def SqL (K : PySem.W.Frag) (H : Hp) (a : Addr) (xs : List V) : Prop :=
  Rd H a (.lst xs) ∨
    ∃ (o : Obj) (its : Array Value) (n : Nat), K.lookup a = some o ∧ o.cls = .type "list" ∧ o.dict = none ∧ o.data = .seq its n ∧ its.size ≤ sizeLine ∧ Vals xs its.toList
def SqT (K : PySem.W.Frag) (H : Hp) (a : Addr) (xs : List V) : Prop :=
  Rd H a (.tup xs) ∨
    ∃ (o : Obj) (its : Array Value) (n : Nat), K.lookup a = some o ∧ o.cls = .type "tuple" ∧ o.data = .seq its n ∧ its.size ≤ sizeLine ∧ Vals xs its.toList
def absV : Value → Option V
  | .none => some .non
  | .bool b => some (.bl b)
  | .int i _ => some (.int i)
  | .str x _ => some (.str x)
  | .bytes b _ => some (.byt b)
  | .float b _ => some (.flt b)
  | .ref a => some (.ref a)
  | .type n => some (.ty n)
  | _ => none
theorem RelV.abs {x : V} {u : Value} (r : RelV x u) : absV u = some x := by
  cases x with
  | non => cases r; rfl
  | bl _ => cases r; rfl
  | int _ => obtain ⟨t, rfl⟩ := r; rfl
  | str _ => obtain ⟨t, rfl⟩ := r; rfl
  | byt _ => obtain ⟨t, rfl⟩ := r; rfl
  | flt _ => obtain ⟨t, rfl⟩ := r; rfl
  | ref _ => cases r; rfl
  | ty _ => cases r; rfl
theorem RelV.inj {x y : V} {u : Value} (r : RelV x u) (q : RelV y u) : x = y := Option.some.inj (r.abs.symm.trans q.abs)
theorem Vals.inj : ∀ {xs ys : List V} {us : List Value}, Vals xs us → Vals ys us → xs = ys
  | _, _, _, .nil, .nil => rfl
  | _, _, _, .cons r t, .cons r' t' => by rw [r.inj r', Vals.inj t t']
section
variable {X : Cx} {pins : List (Addr × Obj)} {σ : St} {H : Hp} {s : Shared} {a : Addr} {xs ys : List V}
theorem SqL.of {K : PySem.W.Frag} (h : H a = some (.lst xs)) : SqL K H a xs := .inl (.inl h)
theorem SqT.of {K : PySem.W.Frag} (h : H a = some (.tup xs)) : SqT K H a xs := .inl (.inl h)
theorem Inv.list (I : Inv X pins σ H s) (h : SqL X.K H a xs) : ∃ its : List Value, Vals xs its ∧ PlainL s.heap a its.toArray ∧ xs.length ≤ sizeLine := by
  rcases h with h | ⟨o, its, n, hk, hc, hd, hs, hz, r⟩
  · obtain ⟨z, its, n, r, e⟩ := h.ok I.hok
    exact ⟨its, r, ⟨_, n, e, rfl, rfl, rfl⟩, z⟩
  · refine ⟨its.toList, r, ⟨o, n, I.kIn a o hk, hc, hd, by simpa using hs⟩, ?_⟩
    have e := r.length
    simp only [Array.length_toList] at e
    omega
theorem Inv.tuple (I : Inv X pins σ H s) (h : SqT X.K H a xs) : ∃ its : List Value, Vals xs its ∧ IsTup s.heap a its.toArray ∧ xs.length ≤ sizeLine := by
  rcases h with h | ⟨o, its, n, hk, hc, hs, hz, r⟩
  · obtain ⟨z, its, r, p⟩ := h.ok I.hok
    exact ⟨its, r, p, z⟩
  · refine ⟨its.toList, r, ⟨o, I.kIn a o hk, hc, n, by simpa using hs⟩, ?_⟩
    have e := r.length
    simp only [Array.length_toList] at e
    omega
theorem Inv.list_inj (I : Inv X pins σ H s) (h : SqL X.K H a xs) (h' : SqL X.K H a ys) : xs = ys := by
  obtain ⟨its, r, ⟨o, n, e, _, _, d⟩, _⟩ := I.list h
  obtain ⟨its', r', ⟨o', n', e', _, _, d'⟩, _⟩ := I.list h'
  rw [e] at e'; cases e'
  rw [d] at d'
  injection d' with d1 _
  have : its = its' := by simpa using congrArg Array.toList d1
  subst this
  exact r.inj r'
theorem Inv.tuple_inj (I : Inv X pins σ H s) (h : SqT X.K H a xs) (h' : SqT X.K H a ys) : xs = ys := by
  obtain ⟨its, r, ⟨o, e, _, n, d⟩, _⟩ := I.tuple h
  obtain ⟨its', r', ⟨o', e', _, n', d'⟩, _⟩ := I.tuple h'
  rw [e] at e'; cases e'
  rw [d] at d'
  injection d' with d1 _
  have : its = its' := by simpa using congrArg Array.toList d1
  subst this
  exact r.inj r'
end

abbrev Cx.wish (X : Cx) (E : Value → Shared → Prop) : Cx := { X with xe := E }
abbrev Cx.nox (X : Cx) : Cx := X.wish fun _ _ => False
theorem Cx.Ok.wish {X : Cx} (ok : X.Ok) (E : Value → Shared → Prop) : (X.wish E).Ok :=
  ⟨ok.mod, ok.kind, ok.glob, ok.blt, ok.above, ok.inj, ok.has, ok.cab, ok.hd, ok.frames, ok.stk, ok.exf, ok.bs, ok.bsz, ok.noex, ok.exfs, ok.funs, ok.frf⟩
theorem Cx.Ok.unwish {X : Cx} {E : Value → Shared → Prop} (ok : (X.wish E).Ok) : X.Ok :=
  ⟨ok.mod, ok.kind, ok.glob, ok.blt, ok.above, ok.inj, ok.has, ok.cab, ok.hd, ok.frames, ok.stk, ok.exf, ok.bs, ok.bsz, ok.noex, ok.exfs, ok.funs, ok.frf⟩
section
variable {X : Cx} {pins : List (Addr × Obj)} {σ : St} {H : Hp} {s : Shared} {E : Value → Shared → Prop}
theorem Inv.wish (I : Inv X pins σ H s) (E : Value → Shared → Prop) : Inv (X.wish E) pins σ H s := ⟨I.ok.wish E, I.os, I.bare, I.base, I.loc, I.cell, I.free, I.freeC, I.pin, I.hok, I.len⟩
theorem Inv.unwish (I : Inv (X.wish E) pins σ H s) : Inv X pins σ H s := ⟨I.ok.unwish, I.os, I.bare, I.base, I.loc, I.cell, I.free, I.freeC, I.pin, I.hok, I.len⟩
theorem SP.unwish {D : Ends} {f : Flow} {s' : Shared} (h : SP (X.wish E) pins D f s') : SP X pins D f s' := by
  cases f with
  | next => obtain ⟨σ', H', I, q⟩ := h; exact ⟨σ', H', I.unwish, q⟩
  | brk => obtain ⟨σ', H', I, q⟩ := h; exact ⟨σ', H', I.unwish, q⟩
  | cont => obtain ⟨σ', H', I, q⟩ := h; exact ⟨σ', H', I.unwish, q⟩
  | ret u => obtain ⟨v, σ', H', I, r, q⟩ := h; exact ⟨v, σ', H', I.unwish, r, q⟩
theorem PE.nox {e : Expr} {t : TE} (h : PE X.nox e t) : PE X e t := fun pins s σ H Q I hw =>
  wpAny_mono (h pins s σ H Q (I.wish _) hw) (fun _ _ ⟨v, H', I', r, q⟩ => ⟨v, H', I'.unwish, r, q⟩) fun _ _ z => False.elim z
theorem PT.nox {e : Expr} {t : TT} (h : PT X.nox e t) : PT X e t := fun pins s σ H Q I hw =>
  wpAny_mono (h pins s σ H Q (I.wish _) hw) (fun _ _ ⟨H', I', q⟩ => ⟨H', I'.unwish, q⟩) fun _ _ z => False.elim z
theorem PSs.nox {st : List Stmt} {t : TS} (h : PSs X.nox st t) : PSs X st t := fun pins s σ H D I hw =>
  wpAny_mono (h pins s σ H D (I.wish _) hw) (fun _ _ q => q.unwish) fun _ _ z => False.elim z
end

section
variable {X : Cx} {st : Stmt} {rest : List Stmt} {t u : TS} {e : Expr} {te : TE} {pos : Pos}
def tNext : TS := fun D σ H => D.nx σ H
def tSeq (t u : TS) : TS := fun D σ H => t { D with nx := u D } σ H
theorem pss_nil : PSs X [] tNext := fun _ _ σ H _ I h => wpAny_execs_nil ⟨σ, H, I, h⟩
theorem pss_cons (h1 : PS X st t) (h2 : PSs X rest u) : PSs X (st :: rest) (tSeq t u) := by
  intro pins s σ H D I h
  refine wpAny_execs_cons (thn (h1 pins s σ H { D with nx := u D } I h) fun f s1 q => ?_)
  cases f with
  | next =>
    obtain ⟨σ', H', I', q⟩ := q
    exact h2 pins s1 σ' H' D I' q
  | ret v => exact q
  | brk => exact q
  | cont => exact q
theorem pss_one (h1 : PS X st t) : PSs X [st] t := by
  intro pins s σ H D I h
  refine wpAny_execs_cons (thn (h1 pins s σ H D I h) fun f s1 q => ?_)
  cases f with
  | next => exact wpAny_execs_nil q
  | ret v => exact q
  | brk => exact q
  | cont => exact q
def tBreak : TS := fun D σ H => D.bk σ H
def tCont : TS := fun D σ H => D.ct σ H
theorem Inv.quiet {pins : List (Addr × Obj)} {σ : St} {H : Hp} {s : Shared} (I : Inv X pins σ H s) : interactive X.env = false := by simp [interactive, I.ok.kind]
def tDrop (te : TE) : TS := fun D σ H => te σ H fun _ H1 => D.nx σ H1
theorem ps_expr (he : PE X e te) (hs : swapsWith e none pos.line X.env = pure false := by rfl) : PS X (.Expr e pos) (tDrop te) := by
  intro pins s σ H D I h
  exact wpAny_Expr_any (thn (he pins s σ H _ I h) fun v s1 ⟨x, H1, I1, r1, q1⟩ => ⟨σ, H1, I1, q1⟩) I.quiet hs
def tRet (te : TE) : TS := fun D σ H => te σ H D.rt
theorem ps_ret (he : PE X e te) : PS X (.Return (some e) pos) (tRet te) := by
  intro pins s σ H D I h
  exact wpAny_Return_some (thn (he pins s σ H _ I h) fun v s1 ⟨x, H1, I1, r1, q1⟩ => ⟨x, σ, H1, I1, r1, q1⟩)
def tRetN : TS := fun D _ H => D.rt .non H
def tIfS (c : TT) (t u : TS) : TS := fun D σ H => c σ H fun b H1 => if b = true then t D σ H1 else u D σ H1
theorem ps_if {c : Expr} {a b : List Stmt} {tc : TT} (hc : PT X c tc) (ha : PSs X a t) (hb : PSs X b u) : PS X (.If c a b pos) (tIfS tc t u) := by
  intro pins s σ H D I h
  refine wpAny_If (thn (hc pins s σ H _ I h) fun d s1 ⟨H1, I1, q1⟩ => ?_)
  cases d with
  | true => exact ha pins s1 σ H1 D I1 q1
  | false => exact hb pins s1 σ H1 D I1 q1
end

abbrev TG := V → St → Hp → (St → Hp → Prop) → Prop
abbrev TGs := List V → St → Hp → (St → Hp → Prop) → Prop
def PG (X : Cx) (target : Expr) (t : TG) : Prop :=
  ∀ (pins : List (Addr × Obj)) (s : Shared) (σ : St) (H : Hp) (v : V) (u : Value) (Q : St → Hp → Prop), Inv X pins σ H s → RelV v u → t v σ H Q →
    wpAny (model X.prog X.w) X.A (assign target X.env u) (fun _ s' => ∃ σ' H', Inv X pins σ' H' s' ∧ Q σ' H') X.xe s
def PGs (X : Cx) (ts : List Expr) (t : TGs) : Prop :=
  ∀ (pins : List (Addr × Obj)) (s : Shared) (σ : St) (H : Hp) (vs : List V) (us : List Value) (Q : St → Hp → Prop), Inv X pins σ H s → Vals vs us → t vs σ H Q →
    wpAny (model X.prog X.w) X.A (assignInOrder ((assignEach ts X.env).map (·.2)) us) (fun _ s' => ∃ σ' H', Inv X pins σ' H' s' ∧ Q σ' H') X.xe s
abbrev TSet := V → V → V → Hp → (Hp → Prop) → Prop
def PSet (X : Cx) (t : TSet) : Prop :=
  ∀ (pins : List (Addr × Obj)) (s : Shared) (σ : St) (H : Hp) (o i v : V) (ov iv u : Value) (Q : Hp → Prop), Inv X pins σ H s → RelV o ov → RelV i iv → RelV v u → t o i v H Q →
    wpAny (model X.prog X.w) X.A (setItem ov iv u) (fun _ s' => ∃ H', Inv X pins σ H' s' ∧ Q H') X.xe s
section
variable {X : Cx} {pos : Pos}
abbrev gName (i : Nat) : TG := fun v σ H Q => Q (σ.set i (some v)) H
theorem pg_name {i : Nat} {x : Str} (hN : X.N.Nodup) (hi : X.N[i]? = some x) (hx : Loc X.env.scope x) (hf : X.fn x = true ∨ X.env.scope.names.lookup x = some .local := by first | exact .inl rfl | exact .inr rfl | assumption) : PG X (.Name x pos) (gName i) := by
  intro pins s σ H v u Q I r h
  exact wpAny_assign_Name (store_ok I hN hi hx r (fun s' I' => ⟨_, H, I', h⟩) hf)
def gNil : TGs := fun vs σ H Q => vs = [] ∧ Q σ H
def gCons (t : TG) (u : TGs) : TGs := fun vs σ H Q => ∃ v r, vs = v :: r ∧ t v σ H fun σ' H' => u r σ' H' Q
theorem pgs_nil : PGs X [] gNil := by
  intro pins s σ H vs us Q I r h
  obtain ⟨e, h⟩ := h
  subst e
  cases r
  exact assignInOrder_nil ⟨σ, H, I, h⟩
theorem pgs_cons {e : Expr} {es : List Expr} {t : TG} {u : TGs} (h1 : PG X e t) (h2 : PGs X es u)
    (hs : (assignEach (e :: es) X.env).map (·.2) = assign e X.env :: (assignEach es X.env).map (·.2) := by rfl) : PGs X (e :: es) (gCons t u) := by
  intro pins s σ H vs us Q I r h
  obtain ⟨v, vr, e1, h⟩ := h
  subst e1
  cases r with
  | cons r rr =>
    rw [hs]
    refine assignInOrder_cons (thn (h1 pins s σ H _ _ _ I r h) fun _ s1 ⟨σ1, H1, I1, q1⟩ => ?_)
    exact h2 pins s1 σ1 H1 _ _ Q I1 rr q1
def gTup (K : PySem.W.Frag) (n : Nat) (t : TGs) : TG := fun v σ H Q => ∃ a xs, v = .ref a ∧ SqT K H a xs ∧ xs.length = n ∧ t xs σ H Q
theorem pg_tup {es : List Expr} {k : Nat} {t : TGs} {n : Nat} (hc : X.calm = true) (h : PGs X es t)
    (hn : (assignEach es X.env).length = n := by rfl) (hst : (assignEach es X.env).findIdx? (·.1) = none := by rfl) : PG X (.Tuple es k pos) (gTup X.K n t) := by
  intro pins s σ H v u Q I r hw
  obtain ⟨a, xs, e1, hq, hl, hw⟩ := hw
  subst e1
  cases r
  obtain ⟨its, rv, ht, hz⟩ := I.tuple hq
  refine assign_Tuple_tuple (I.ok.hd hc) ht (by simp [hn, ← hl, rv.length]) hst fun h' hx => ?_
  have I1 : Inv X pins σ H { s with heap := h' } := I.kept (t' := s.toks) fun b o e => hx b o (Nat.ne_of_lt (Heap.lt_size e)) e
  exact h pins _ σ H xs _ Q I1 (by simpa using rv) hw
def gSub (to ti : TE) (t : TSet) : TG := fun v σ H Q => to σ H fun o H1 => ti σ H1 fun i H2 => t o i v H2 fun H3 => Q σ H3
theorem pg_sub {o i : Expr} {to ti : TE} {t : TSet} (ho : PE X o to) (hi : PE X i ti) (hs : PSet X t)
    (ha : ∀ v, assign (.Subscript o i pos) X.env v = (do
      let ov ← holding [v] (eval o X.env)
      let iv ← holding [v, ov] (eval i X.env)
      standAt pos
      holding [v, ov, iv] (setItem ov iv v)
      release [v, ov, iv] []) := by intro _; rfl) : PG X (.Subscript o i pos) (gSub to ti t) := by
  intro pins s σ H v u Q I r h
  rw [ha]
  refine wpAny_bind (wpAny_holding (thn (ho pins s σ H _ I h) fun ov s1 ⟨x, H1, I1, r1, q1⟩ => ?_))
  refine wpAny_bind (wpAny_holding (thn (hi pins s1 σ H1 _ I1 q1) fun iv s2 ⟨y, H2, I2, r2, q2⟩ => ?_))
  refine wpAny_bind (wpAny_standAt (wpAny_bind (wpAny_holding (thn (hs pins s2 σ H2 x y v ov iv u _ I2 r1 r2 r q2) fun _ s3 ⟨H3, I3, q3⟩ => ?_))))
  exact wpAny_release ⟨σ, H3, I3, q3⟩
def tAsg (te : TE) (g : TG) : TS := fun D σ H => te σ H fun x H1 => g x σ H1 D.nx
theorem ps_asg {tg e : Expr} {te : TE} {g : TG} (he : PE X e te) (hg : PG X tg g) (hs : swapsWithSole [tg] e pos.line X.env = pure false := by rfl) (hw : swappedStores [tg] e X.env = pure none := by rfl)
    (h1 : (assignEach [tg] X.env).map (·.2) = [assign tg X.env] := by rfl) : PS X (.Assign [tg] e pos) (tAsg te g) := by
  intro pins s σ H D I h
  refine wpAny_Assign_stores (thn (he pins s σ H _ I h) fun v s1 ⟨x, H1, I1, r1, q1⟩ => ?_) hs hw
  rw [h1]
  exact thn (hg pins s1 σ H1 x v _ I1 r1 q1) fun _ s2 q => q
theorem ps_set {i : Nat} {x : Str} {e : Expr} {te : TE} {pos' : Pos} (hN : X.N.Nodup) (hi : X.N[i]? = some x) (hx : Loc X.env.scope x) (he : PE X e te) (hs : swapsWith e (some (.Name x pos')) pos.line X.env = pure false := by rfl) (hf : X.fn x = true ∨ X.env.scope.names.lookup x = some .local := by first | exact .inl rfl | exact .inr rfl | assumption) :
    PS X (.Assign [.Name x pos'] e pos) (tAsg te (gName i)) := by
  intro pins s σ H D I h
  refine wpAny_Assign_Name (thn (he pins s σ H _ I h) fun v s1 ⟨y, H1, I1, r1, q1⟩ => ?_) hs
  exact store_ok I1 hN hi hx r1 (fun s2 I2 => ⟨_, H1, I2, q1⟩) hf
end

section
variable {X : Cx} {pos : Pos}
end

structure It where
  go : Nat → Hp → Prop
  yld : Nat → Hp → V → Hp → Prop
  stop : Nat → Hp → Prop
def FpOk (X : Cx) (pins : List (Addr × Obj)) (H : Hp) (b : Addr) : Prop :=
  H b = none ∧ b ≠ X.env.locals ∧ b ∉ X.fs ∧ (b ∈ X.ex ∨ X.s₀.heap.objs.size ≤ b) ∧ (∀ x c, X.env.cells.lookup x = some c → c ≠ b) ∧ ∀ p ∈ X.pn ++ pins, p.1 ≠ b
theorem Inv.fpOk {X : Cx} {pins : List (Addr × Obj)} {σ : St} {H H' : Hp} {s : Shared} {b : Addr} (I : Inv X pins σ H s) (hb : s.heap.objs.size ≤ b) (hn : H' b = none) : FpOk X pins H' b := by
  refine ⟨hn, Nat.ne_of_gt (Nat.lt_of_lt_of_le I.lt hb), I.nofs hb, .inr (Nat.le_trans I.sz hb), fun x c e z => ?_, fun p hp z => ?_⟩
  · obtain ⟨v, q⟩ := I.cell x c e
    exact absurd (Nat.lt_of_lt_of_le q.lt (by rw [z]; exact hb)) (Nat.lt_irrefl _)
  · exact absurd (Nat.lt_of_lt_of_le (Heap.lt_size (I.pin p hp).1) (by rw [z]; exact hb)) (Nat.lt_irrefl _)
structure Turn (P : Program) (w : World) (K : PySem.W.Frag) (tg : Expr) (J : It) (fp : List Addr) (it : Addr) (tn : Nat → Heap → Prop) : Prop where
  mem : it ∈ fp
  obj : ∀ i h, tn i h → ∀ b ∈ fp, ∃ o, h.get? b = some o ∧ ∀ v, o.data ≠ .cell v
  keep : ∀ i h h', tn i h → (∀ b ∈ fp, ∀ o, h.get? b = some o → h'.get? b = some o) → tn i h'
  item : ∀ (X : Cx), X.prog = P → X.w = w → X.K = K → X.calm = true → ∀ (i : Nat) (pins : List (Addr × Obj)) (s : Shared) (σ : St) (H : Hp) (E : Value → Shared → Prop), Inv X pins σ H s → (∀ b ∈ fp, FpOk X pins H b) → tn i s.heap → J.go i H →
    wpAny (model P w) X.A (pyNext (.ref it)) (fun r s1 => ∃ u, r = some u ∧
      wpAny (model P w) X.A (letOwnedTupleGo tg (.ref it) u) (fun _ s2 => ∃ x H', Inv X pins σ H' s2 ∧ RelV x u ∧ J.yld i H x H' ∧ tn (i + 1) s2.heap ∧ ∀ b ∈ fp, H' b = none) E s1) E s
  done : ∀ (X : Cx), X.prog = P → X.w = w → X.K = K → X.calm = true → ∀ (i : Nat) (pins : List (Addr × Obj)) (s : Shared) (σ : St) (H : Hp) (E : Value → Shared → Prop), Inv X pins σ H s → (∀ b ∈ fp, FpOk X pins H b) → tn i s.heap → J.stop i H →
    wpAny (model P w) X.A (pyNext (.ref it)) (fun r s1 => r = none ∧ Inv X pins σ H s1) E s
  self : ∀ (A : Around) (i : Nat) (s : Shared) (Q : Value → Shared → Prop) (E : Value → Shared → Prop), tn i s.heap → Q (.ref it) s → wpAny (model P w) A (pyIter (.ref it)) Q E s
abbrev TI := St → Hp → (It → Hp → Prop) → Prop
def PIE (X : Cx) (pins : List (Addr × Obj)) (σ : St) (tg : Expr) (R : It → Hp → Prop) (itv : Value) (s2 : Shared) : Prop :=
  ∃ (it : Addr) (fp : List Addr) (tn : Nat → Heap → Prop) (J : It) (H' : Hp), itv = .ref it ∧ Inv X pins σ H' s2 ∧ Turn X.prog X.w X.K tg J fp it tn ∧ tn 0 s2.heap ∧ (∀ b ∈ fp, FpOk X pins H' b) ∧ R J H'
def PI (X : Cx) (tg iter : Expr) (wi : TI) : Prop :=
  ∀ (pins : List (Addr × Obj)) (s : Shared) (σ : St) (H : Hp) (R : It → Hp → Prop), Inv X pins σ H s → wi σ H R →
    wpAny (model X.prog X.w) X.A (eval iter X.env) (fun v s1 => wpAny (model X.prog X.w) X.A (pyIter v) (PIE X pins σ tg R) X.xe s1) X.xe s

theorem go_of {M : Model} {A : Around} {E : Value → Shared → Prop} {s : Shared} {tg : Expr} {it : Addr} {u : Value} {o : Obj} {n : String} {vs : Array Value} {Q : Unit → Shared → Prop} (ho : s.heap.get? it = some o) (hc : o.cls = .type n) (hd : o.data = .fields vs)
    (hn : ["enumerate", "zip", "dict_itemiterator", "dict_reverseitemiterator", "odict_iterator", "itertools.zip_longest", "itertools.pairwise"].contains n = false) (hQ : Q () s) : wpAny M A (letOwnedTupleGo tg (.ref it) u) Q E s := by
  unfold letOwnedTupleGo
  cases tg <;> first
    | exact wpAny_pure hQ
    | (cases u <;> first
        | exact wpAny_pure hQ
        | (refine wpAny_bind (wpAny_load ho ?_)
           rw [hc, hd]
           show wpAny M A (if (["enumerate", "zip", "dict_itemiterator", "dict_reverseitemiterator", "odict_iterator", "itertools.zip_longest", "itertools.pairwise"].contains n && vs[0]? == some (rawInt _)) = true then _ else _) Q E s
           rw [if_neg (by intro h; rw [hn, Bool.false_and] at h; cases h)]
           exact wpAny_pure hQ))

def Itl (K : PySem.W.Frag) (a : Addr) : It :=
  ⟨fun i H => ∃ xs x, SqL K H a xs ∧ xs[i]? = some x, fun i H x H' => H' = H ∧ ∀ xs, SqL K H a xs → xs[i]? = some x, fun i H => ∃ xs, SqL K H a xs ∧ xs.length ≤ i⟩
def Itt (K : PySem.W.Frag) (a : Addr) : It :=
  ⟨fun i H => ∃ xs x, SqT K H a xs ∧ xs[i]? = some x, fun i H x H' => H' = H ∧ ∀ xs, SqT K H a xs → xs[i]? = some x, fun i H => ∃ xs, SqT K H a xs ∧ xs.length ≤ i⟩
def Itr (lo : Int) (n : Nat) : It := ⟨fun i _ => i < n, fun i H x H' => H' = H ∧ x = .int (lo + i), fun i _ => n ≤ i⟩
theorem turn_list {P : Program} {w : World} {K : PySem.W.Frag} {tg : Expr} (a it : Addr) : Turn P w K tg (Itl K a) [it] it (fun i h => h.IsListIter it a i) where
  mem := by simp
  obj := fun i h st b hb => by
    have e : b = it := by simpa using hb
    subst e
    obtain ⟨o, e, c, d⟩ := st
    exact ⟨o, e, fun v z => by rw [d] at z; cases z⟩
  keep := fun i h h' st k => st.at fun o e => k it (by simp) o e
  item := by
    intro X hP hw hK hc i pins s σ H E I hf st hg
    subst hP hw hK
    obtain ⟨xs, x, hq, hx⟩ := hg
    obtain ⟨its, rv, p, hz⟩ := I.list hq
    obtain ⟨u, hu, ru⟩ := rv.get hx
    obtain ⟨f0, f1, f2, f3, f4, f5⟩ := hf it (by simp)
    refine wpAny_pyNext_list_item st p.isList (x := u) (by simpa using hu) fun h' st' sb => ?_
    have I1 : Inv X pins σ H { s with heap := h' } := I.turned (t' := s.toks) (fun b o hb e => (sb.2 b hb).trans e) f0 f1 f3 f4 f5
    obtain ⟨o, e, c, d⟩ := id st'
    exact ⟨u, rfl, go_of (s := { s with heap := h' }) e c d (by decide) ⟨x, H, I1, ru, ⟨rfl, fun ys hy => by rw [I.list_inj hy hq]; exact hx⟩, st', fun b hb => (hf b hb).1⟩⟩
  done := by
    intro X hP hw hK hc i pins s σ H E I hf st hg
    subst hP hw hK
    obtain ⟨xs, hq, hx⟩ := hg
    obtain ⟨its, rv, p, hz⟩ := I.list hq
    obtain ⟨f0, f1, f2, f3, f4, f5⟩ := hf it (by simp)
    have hl := rv.length
    exact wpAny_pyNext_list_end (I.ok.hd hc) st p.isList (by simp; omega) fun h' eb => ⟨rfl, I.turned (t' := s.toks) (fun b o hb e => eb b o hb e) f0 f1 f3 f4 f5⟩
  self := fun _ _ _ _ _ st h => wpAny_pyIter_listiter st h
theorem turn_tuple {P : Program} {w : World} {K : PySem.W.Frag} {tg : Expr} (a it : Addr) : Turn P w K tg (Itt K a) [it] it (fun i h => h.IsTupleIter it a i) where
  mem := by simp
  obj := fun i h st b hb => by
    have e : b = it := by simpa using hb
    subst e
    obtain ⟨o, e, c, d⟩ := st
    exact ⟨o, e, fun v z => by rw [d] at z; cases z⟩
  keep := fun i h h' st k => st.at fun o e => k it (by simp) o e
  item := by
    intro X hP hw hK hc i pins s σ H E I hf st hg
    subst hP hw hK
    obtain ⟨xs, x, hq, hx⟩ := hg
    obtain ⟨its, rv, p, hz⟩ := I.tuple hq
    obtain ⟨u, hu, ru⟩ := rv.get hx
    obtain ⟨f0, f1, f2, f3, f4, f5⟩ := hf it (by simp)
    refine wpAny_pyNext_tuple_item st (show s.heap.IsTuple a its.toArray from p) (x := u) (by simpa using hu) fun h' st' sb => ?_
    have I1 : Inv X pins σ H { s with heap := h' } := I.turned (t' := s.toks) (fun b o hb e => (sb.2 b hb).trans e) f0 f1 f3 f4 f5
    obtain ⟨o, e, c, d⟩ := id st'
    exact ⟨u, rfl, go_of (s := { s with heap := h' }) e c d (by decide) ⟨x, H, I1, ru, ⟨rfl, fun ys hy => by rw [I.tuple_inj hy hq]; exact hx⟩, st', fun b hb => (hf b hb).1⟩⟩
  done := by
    intro X hP hw hK hc i pins s σ H E I hf st hg
    subst hP hw hK
    obtain ⟨xs, hq, hx⟩ := hg
    obtain ⟨its, rv, p, hz⟩ := I.tuple hq
    obtain ⟨f0, f1, f2, f3, f4, f5⟩ := hf it (by simp)
    have hl := rv.length
    exact wpAny_pyNext_tuple_end (I.ok.hd hc) st (show s.heap.IsTuple a its.toArray from p) (by simp; omega) fun h' eb => ⟨rfl, I.turned (t' := s.toks) (fun b o hb e => eb b o hb e) f0 f1 f3 f4 f5⟩
  self := fun _ _ _ _ _ st h => wpAny_pyIter_tupleiter st h
theorem turn_range {P : Program} {w : World} {K : PySem.W.Frag} {tg : Expr} (it : Addr) (lo : Int) (n : Nat) : Turn P w K tg (Itr lo n) [it] it (fun i h => IsRangeIter h it (lo + (i : Nat) * 1) ((n : Int) - (i : Nat)) 1) where
  mem := by simp
  obj := fun i h st b hb => by
    have e : b = it := by simpa using hb
    subst e
    exact ⟨_, st, fun v z => by
      have z' : Data.fields _ = Data.cell v := z
      cases z'⟩
  keep := fun i h h' st k => k it (by simp) _ st
  item := by
    intro X hP hw hK hc i pins s σ H E I hf st hg
    subst hP hw hK
    obtain ⟨f0, f1, f2, f3, f4, f5⟩ := hf it (by simp)
    have W := Walks.range (prog := X.prog) (w := X.w) (I.ok.hd hc) it lo 1 n
    refine W.item i s _ _ hg st fun v h' tk hv st' kk => ?_
    obtain ⟨t, rfl⟩ := hv
    have I1 : Inv X pins σ H { s with heap := h', toks := tk } := I.turned (fun b o hb e => kk b o (by simpa using hb) e) f0 f1 f3 f4 f5
    refine ⟨_, rfl, go_of (s := { s with heap := h', toks := tk }) (n := "range_iterator") st' rfl rfl (by decide) ⟨.int (lo + i), H, I1, ⟨t, ?_⟩, ⟨rfl, rfl⟩, st', fun b hb => (hf b hb).1⟩⟩
    rw [Int.mul_one]
  done := by
    intro X hP hw hK hc i pins s σ H E I hf st hg
    subst hP hw hK
    obtain ⟨f0, f1, f2, f3, f4, f5⟩ := hf it (by simp)
    exact wpAny_pyNext_range_end (I.ok.hd hc) st (by have : n ≤ i := hg; omega) fun h' eb => ⟨rfl, I.turned (t' := s.toks) (fun b o hb e => eb b o hb e) f0 f1 f3 f4 f5⟩
  self := fun _ _ _ _ _ st h => wpAny_pyIter_rangeiter st h
end L2

namespace L2
open PySem PySem.Spec PyProof.Rows
section
variable {X : Cx} {tg : Expr}
def iList (K : PySem.W.Frag) (tl : TE) : TI := fun σ H R => tl σ H fun x H1 => ∃ a, x = .ref a ∧ (∃ xs, SqL K H1 a xs) ∧ R (Itl K a) H1
def iTup (K : PySem.W.Frag) (tl : TE) : TI := fun σ H R => tl σ H fun x H1 => ∃ a, x = .ref a ∧ (∃ xs, SqT K H1 a xs) ∧ R (Itt K a) H1
theorem pi_list {l : Expr} {tl : TE} (hl : PE X l tl) : PI X tg l (iList X.K tl) := by
  intro pins s σ H R I h
  refine thn (hl pins s σ H _ I h) fun v s1 ⟨x, H1, I1, r1, q1⟩ => ?_
  obtain ⟨a, e, ⟨xs, hq⟩, q⟩ := q1
  subst e
  cases r1
  obtain ⟨its, rv, p, hz⟩ := I1.list hq
  refine wpAny_pyIter_list p.isList ?_
  refine ⟨s1.heap.objs.size, [s1.heap.objs.size], _, _, H1, rfl, I1.kept (t' := s1.toks) fun b o e => Heap.get?_push_of_some _ e, turn_list a _, ⟨_, Heap.get?_push_size _ rfl, rfl, rfl⟩, fun b hb => ?_, q⟩
  have e : b = s1.heap.objs.size := by simpa using hb
  subst e
  exact I1.fpOk (Nat.le_refl _) (I1.hok.fresh (Nat.le_refl _))
theorem pi_tup {l : Expr} {tl : TE} (hl : PE X l tl) : PI X tg l (iTup X.K tl) := by
  intro pins s σ H R I h
  refine thn (hl pins s σ H _ I h) fun v s1 ⟨x, H1, I1, r1, q1⟩ => ?_
  obtain ⟨a, e, ⟨xs, hq⟩, q⟩ := q1
  subst e
  cases r1
  obtain ⟨its, rv, p, hz⟩ := I1.tuple hq
  refine wpAny_pyIter_tuple (show s1.heap.IsTuple a its.toArray from p) ?_
  refine ⟨s1.heap.objs.size, [s1.heap.objs.size], _, _, H1, rfl, I1.kept (t' := s1.toks) fun b o e => Heap.get?_push_of_some _ e, turn_tuple a _, ⟨_, Heap.get?_push_size _ rfl, rfl, rfl⟩, fun b hb => ?_, q⟩
  have e : b = s1.heap.objs.size := by simpa using hb
  subst e
  exact I1.fpOk (Nat.le_refl _) (I1.hok.fresh (Nat.le_refl _))
theorem range_it {pins : List (Addr × Obj)} {σ : St} {H : Hp} {s : Shared} {R : It → Hp → Prop} {E : Value → Shared → Prop} {lo hi : Int} {t u v : Tok} {tk : Nat} (I : Inv X pins σ H s) (h1 : -(2 ^ 62) ≤ lo) (h2 : lo < 2 ^ 62) (h3 : -(2 ^ 62) ≤ hi) (h4 : hi < 2 ^ 62)
    (q : R (Itr lo (hi - lo).toNat) H) : wpAny (model X.prog X.w) X.A (pyIter (.ref s.heap.objs.size)) (PIE X pins σ tg R) E { s with heap := s.heap.push { cls := .type "range", data := .fields #[.int lo t, .int hi u, .int 1 v] }, toks := tk } := by
  refine wpAny_pyIter_range (IsRange.new ..) (small_one h1 h2 h3 h4) ?_
  have I1 : Inv X pins σ H { s with heap := s.heap.push { cls := .type "range", data := .fields #[.int lo t, .int hi u, .int 1 v] }, toks := tk } := I.kept fun b o e => Heap.get?_push_of_some _ e
  refine ⟨(s.heap.push { cls := .type "range", data := .fields #[.int lo t, .int hi u, .int 1 v] }).objs.size, [(s.heap.push { cls := .type "range", data := .fields #[.int lo t, .int hi u, .int 1 v] }).objs.size], _, _, H, rfl,
    I1.kept (t' := tk) fun b o e => Heap.get?_push_of_some _ e, turn_range _ lo (hi - lo).toNat, ?_, fun b hb => ?_, q⟩
  · have e1 : lo + ((0 : Nat) : Int) * 1 = lo := by simp
    have e2 : (((hi - lo).toNat : Nat) : Int) - ((0 : Nat) : Int) = Builtin.Range.rangeSize lo hi 1 := by rw [rangeSize_one]; split <;> omega
    show IsRangeIter _ _ (lo + ((0 : Nat) : Int) * 1) ((((hi - lo).toNat : Nat) : Int) - ((0 : Nat) : Int)) 1
    rw [e1, e2]
    exact Heap.get?_push_size _ rfl
  · have e : b = (s.heap.push { cls := .type "range", data := .fields #[.int lo t, .int hi u, .int 1 v] }).objs.size := by simpa using hb
    subst e
    exact I1.fpOk (Nat.le_refl _) (I1.hok.fresh (Nat.le_refl _))
def iRng1 (ta : TA) : TI := fun σ H R => ta σ H fun vs H1 => ∃ j : Int, vs = [.int j] ∧ -(2 ^ 62) ≤ j ∧ j < 2 ^ 62 ∧ R (Itr 0 j.toNat) H1
def iRng2 (ta : TA) : TI := fun σ H R => ta σ H fun vs H1 => ∃ i j : Int, vs = [.int i, .int j] ∧ (-(2 ^ 62) ≤ i ∧ i < 2 ^ 62 ∧ -(2 ^ 62) ≤ j ∧ j < 2 ^ 62) ∧ R (Itr i (j - i).toNat) H1
theorem pi_range1 {a : Expr} {ta : TA} {p pos : Pos} (hg : Gl X "range") (hm : X.mg "range" = none) (ha : PA X [a] ta) (hs : starEach [a] X.env = [(false, eval a X.env)] := by rfl) : PI X tg (.Call (.Name "range" p) [a] [] pos) (iRng1 ta) := by
  intro pins s σ H R I h
  refine Call_ (ld_blt I hg hm boot_range (PyProof.Rows.callWith_type1 (thn (ha pos pins s σ H _ I h) fun us s1 ⟨vs, H1, I1, r1, q1⟩ => ?_) hs rfl))
  obtain ⟨j, e, q1, q2, q⟩ := q1
  subst e
  cases r1 with
  | cons r rr =>
    cases rr
    obtain ⟨t, rfl⟩ := r
    exact call_range_1 (range_it I1 (by omega) (by omega) q1 q2 (by simpa using q))
theorem pi_range2 {a b : Expr} {ta : TA} {p pos : Pos} (hg : Gl X "range") (hm : X.mg "range" = none) (ha : PA X [a, b] ta) (hs : starEach [a, b] X.env = [(false, eval a X.env), (false, eval b X.env)] := by rfl) (hs2 : starEach [b] X.env = [(false, eval b X.env)] := by rfl) :
    PI X tg (.Call (.Name "range" p) [a, b] [] pos) (iRng2 ta) := by
  intro pins s σ H R I h
  refine Call_ (ld_blt I hg hm boot_range (PyProof.Rows.callWith_type1 (thn (ha pos pins s σ H _ I h) fun us s1 ⟨vs, H1, I1, r1, q1⟩ => ?_) (by rw [hs, hs2]) (by rw [hs2]; rfl)))
  obtain ⟨i, j, e, ⟨q1, q2, q3, q4⟩, q⟩ := q1
  subst e
  cases r1 with
  | cons r rr =>
    cases rr with
    | cons r' rr =>
      cases rr
      obtain ⟨t, rfl⟩ := r
      obtain ⟨t', rfl⟩ := r'
      exact call_range_2 (range_it I1 q1 q2 q3 q4 q)

def tFor (wi : TI) (g : TG) (tb : TS) : TS := fun D σ H => wi σ H fun J H1 => ∃ W : Nat → Nat → St → Hp → Prop, (∃ m, W 0 m σ H1) ∧ ∀ i m σ H, W i m σ H →
  (J.stop i H ∧ D.nx σ H) ∨ (J.go i H ∧ ∃ N : St → Hp → Prop, (∀ σ' H', N σ' H' → ∃ m', m' < m ∧ W (i + 1) m' σ' H') ∧ ∀ x H', J.yld i H x H' → g x σ H' fun σ2 H2 => tb { D with nx := N, ct := N, bk := D.nx } σ2 H2)
def pinsAt (fp : List Addr) (h : Heap) : List (Addr × Obj) := fp.filterMap fun b => (h.get? b).map fun o => (b, o)
theorem mem_pinsAt {fp : List Addr} {h : Heap} {b : Addr} {o : Obj} (hb : b ∈ fp) (e : h.get? b = some o) : (b, o) ∈ pinsAt fp h := List.mem_filterMap.mpr ⟨b, hb, by rw [e]; rfl⟩
theorem of_pinsAt {fp : List Addr} {h : Heap} {p : Addr × Obj} (hp : p ∈ pinsAt fp h) : p.1 ∈ fp ∧ h.get? p.1 = some p.2 := by
  obtain ⟨b, hb, e⟩ := List.mem_filterMap.mp hp
  cases q : h.get? b with
  | none => rw [q] at e; cases e
  | some o =>
    rw [q] at e
    have e' : (b, o) = p := Option.some.inj e
    subst e'
    exact ⟨hb, q⟩
theorem Inv.pinned {pins : List (Addr × Obj)} {σ : St} {H : Hp} {s : Shared} {fp : List Addr} (I : Inv X pins σ H s) (hf : ∀ b ∈ fp, FpOk X pins H b) (ho : ∀ b ∈ fp, ∃ o, s.heap.get? b = some o ∧ ∀ v, o.data ≠ .cell v) : Inv X (pins ++ pinsAt fp s.heap) σ H s :=
  I.pins_of fun p hp => (List.mem_append.mp hp).elim (fun z => I.pin p (List.mem_append_right _ z)) fun z => by
    obtain ⟨hb, e⟩ := of_pinsAt z
    obtain ⟨f0, f1, f2, _⟩ := hf p.1 hb
    obtain ⟨o, e', d⟩ := ho p.1 hb
    rw [e] at e'; cases e'
    exact ⟨e, f0, f1, f2, d⟩
theorem Inv.unpinned {pins pl : List (Addr × Obj)} {σ : St} {H : Hp} {s : Shared} (I : Inv X (pins ++ pl) σ H s) : Inv X pins σ H s := I.pins_of fun p hp => I.pin p (List.mem_append_right _ (List.mem_append_left _ hp))
theorem ps_for {iter : Expr} {body : List Stmt} {wi : TI} {g : TG} {tb : TS} {pos : Pos} (hp : PassesOwn (model X.prog X.w) X.A X.env X.xe) (hc : X.calm = true) (hi : PI X tg iter wi) (hg : PG X tg g) (hb : PSs X body tb)
    (hs : ∀ x, foldedSetIterable iter X.env x = pure x := by intro _; rfl) : PS X (.For tg iter body [] pos) (tFor wi g tb) := by
  intro pins s σ H D I h
  refine wpAny_For (thn (hi pins s σ H _ I h) fun v s1 h1 => thn h1 fun itv s2 h2 => ?_) hs
  obtain ⟨it, fp, tn, J, H2, e, I2, T, st2, f2, W, ⟨m0, w0⟩, turn⟩ := h2
  subst e
  -- what stays true of the iterator's objects through the loop
  have stat : ∀ {H' : Hp}, (∀ b ∈ fp, H' b = none) → ∀ b ∈ fp, FpOk X pins H' b := fun hn b hb => ⟨hn b hb, (f2 b hb).2⟩
  refine codeAny_forLoop_any (fun n s' => ∃ i σ' H', Inv X pins σ' H' s' ∧ tn i s'.heap ∧ (∀ b ∈ fp, H' b = none) ∧ W i n σ' H') ?_ m0 ⟨0, σ, H2, I2, st2, fun b hb => (f2 b hb).1, w0⟩
  rintro n s3 ⟨i, σ3, H3, I3, st3, fr3, w3⟩
  rcases turn i n σ3 H3 w3 with ⟨stop, qn⟩ | ⟨go, N, hN, step⟩
  · refine wpAny_passesOwn hp (thn (T.done X rfl rfl rfl hc i pins s3 σ3 H3 X.xe I3 (stat fr3) st3 stop) fun r s4 ⟨hr, I4⟩ => ?_)
    subst hr
    exact wpAny_execs_nil ⟨σ3, H3, I4, qn⟩
  · refine wpAny_passesOwn hp (thn (T.item X rfl rfl rfl hc i pins s3 σ3 H3 X.xe I3 (stat fr3) st3 go) fun r s4 ⟨u, hr, h4⟩ => ?_)
    subst hr
    refine wpAny_passesOwn hp (thn h4 fun _ s5 ⟨x, H5, I5, r5, y5, st5, fr5⟩ => ?_)
    have I5' := I5.pinned (stat fr5) (T.obj _ _ st5)
    refine wpAny_passesOwn hp (thn (hg _ s5 σ3 H5 x u _ I5' r5 (step x H5 y5)) fun _ s6 ⟨σ6, H6, I6, q6⟩ => ?_)
    refine wpAny_passesOwn hp (thn (hb _ s6 σ6 H6 _ I6 q6) fun f s7 q7 => ?_)
    have again : ∀ {σ7 : St} {H7 : Hp}, Inv X (pins ++ pinsAt fp s5.heap) σ7 H7 s7 → N σ7 H7 → ∃ m, m < n ∧ ∃ i σ' H', Inv X pins σ' H' s7 ∧ tn i s7.heap ∧ (∀ b ∈ fp, H' b = none) ∧ W i m σ' H' := fun {σ7 H7} I7 n7 => by
      obtain ⟨m', hm, w7⟩ := hN σ7 H7 n7
      refine ⟨m', hm, i + 1, σ7, H7, I7.unpinned, T.keep _ _ _ st5 fun b hb o e => (I7.pin (b, o) (List.mem_append_right _ (List.mem_append_right _ (mem_pinsAt hb e)))).1, fun b hb => ?_, w7⟩
      obtain ⟨o, e, d⟩ := T.obj _ _ st5 b hb
      exact (I7.pin (b, o) (List.mem_append_right _ (List.mem_append_right _ (mem_pinsAt hb e)))).2.1
    cases f with
    | next => obtain ⟨σ7, H7, I7, n7⟩ := q7; exact again I7 n7
    | cont => obtain ⟨σ7, H7, I7, n7⟩ := q7; exact again I7 n7
    | brk => obtain ⟨σ7, H7, I7, q7⟩ := q7; exact ⟨σ7, H7, I7.unpinned, q7⟩
    | ret v => obtain ⟨x7, σ7, H7, I7, r7, q7⟩ := q7; exact ⟨x7, σ7, H7, I7.unpinned, r7, q7⟩
end

theorem for_range {lo : Int} {n : Nat} {g : TG} {tb : TS} {D : Ends} {σ : St} {H : Hp} (Pv : Nat → St → Hp → Prop) (h0 : Pv 0 σ H)
    (hs : ∀ i σ H, i < n → Pv i σ H → g (.int (lo + i)) σ H fun σ2 H2 => tb { D with nx := Pv (i + 1), ct := Pv (i + 1), bk := D.nx } σ2 H2) (hd : ∀ σ H, Pv n σ H → D.nx σ H) :
    ∃ W : Nat → Nat → St → Hp → Prop, (∃ m, W 0 m σ H) ∧ ∀ i m σ H, W i m σ H →
      ((Itr lo n).stop i H ∧ D.nx σ H) ∨ ((Itr lo n).go i H ∧ ∃ N : St → Hp → Prop, (∀ σ' H', N σ' H' → ∃ m', m' < m ∧ W (i + 1) m' σ' H') ∧ ∀ x H', (Itr lo n).yld i H x H' → g x σ H' fun σ2 H2 => tb { D with nx := N, ct := N, bk := D.nx } σ2 H2) := by
  refine ⟨fun i m σ H => m = n - i ∧ i ≤ n ∧ Pv i σ H, ⟨n, by simp, Nat.zero_le _, h0⟩, ?_⟩
  rintro i m σ H ⟨rfl, hi, p⟩
  by_cases hlt : i < n
  · refine .inr ⟨hlt, Pv (i + 1), fun σ' H' p' => ⟨n - (i + 1), by omega, rfl, hlt, p'⟩, fun x H' y => ?_⟩
    obtain ⟨e, y⟩ := y
    subst e y
    exact hs i σ _ hlt p
  · have e : i = n := by omega
    subst e
    exact .inl ⟨Nat.le_refl _, hd σ H p⟩
end L2

namespace L2
open PySem PySem.Spec PyProof.Rows

abbrev R2 := V → V → Hp → VK → Prop
def OpR (X : Cx) (f : Value → Value → Sem Value) (r : R2) : Prop :=
  ∀ (pins : List (Addr × Obj)) (s : Shared) (σ : St) (H : Hp) (x y : V) (v u : Value) (Q : VK), Inv X pins σ H s → RelV x v → RelV y u → r x y H Q →
    wpAny (model X.prog X.w) X.A (f v u) (EP X pins σ Q) X.xe s
def UnR (X : Cx) (f : Value → Sem Value) (r : V → Hp → VK → Prop) : Prop :=
  ∀ (pins : List (Addr × Obj)) (s : Shared) (σ : St) (H : Hp) (x : V) (v : Value) (Q : VK), Inv X pins σ H s → RelV x v → r x H Q →
    wpAny (model X.prog X.w) X.A (f v) (EP X pins σ Q) X.xe s
def CallR (X : Cx) (f : Value) (r : List V → Hp → VK → Prop) : Prop :=
  ∀ (pins : List (Addr × Obj)) (s : Shared) (σ : St) (H : Hp) (xs : List V) (us : List Value) (Q : VK), Inv X pins σ H s → Vals xs us → r xs H Q →
    wpAny (model X.prog X.w) X.A (call f us) (EP X pins σ Q) X.xe s
def tOp (r : R2) (ta tb : TE) : TE := fun σ H Q => ta σ H fun x H1 => tb σ H1 fun y H2 => r x y H2 Q
def tUn (r : V → Hp → VK → Prop) (ta : TE) : TE := fun σ H Q => ta σ H fun x H1 => r x H1 Q
def rI (C : Int → Int → Prop) (g : Int → Int → V) : R2 := fun x y H Q => ∃ i j, x = .int i ∧ y = .int j ∧ C i j ∧ Q (g i j) H
def rI0 (g : Int → Int → V) : R2 := fun x y H Q => ∃ i j, x = .int i ∧ y = .int j ∧ Q (g i j) H
def rU (g : Int → V) : V → Hp → VK → Prop := fun x H Q => ∃ i, x = .int i ∧ Q (g i) H

section
variable {X : Cx} {a b c : Expr} {ta tb tc : TE} {pos : Pos}

theorem binT (ha : PE X a ta) (hb : PE X b tb) {pins : List (Addr × Obj)} {s : Shared} {σ : St} {H : Hp} {R : V → V → Hp → Prop} (I : Inv X pins σ H s)
    (h : ta σ H fun x H1 => tb σ H1 fun y H2 => R x y H2) {Q : Value → Shared → Prop} {f : Value → Value → Sem Value}
    (hf : ∀ v u s2 x y H2, Inv X pins σ H2 s2 → RelV x v → RelV y u → R x y H2 → wpAny (model X.prog X.w) X.A (f v u) Q X.xe s2) :
    wpAny (model X.prog X.w) X.A (eval a X.env) (fun v s₁ => wpAny (model X.prog X.w) X.A (eval b X.env) (fun u s₂ => wpAny (model X.prog X.w) X.A (f v u) Q X.xe s₂) X.xe s₁) X.xe s := by
  refine thn (ha pins s σ H _ I h) fun v s1 ⟨x, H1, I1, r1, q1⟩ => ?_
  refine thn (hb pins s1 σ H1 _ I1 q1) fun u s2 ⟨y, H2, I2, r2, q2⟩ => ?_
  exact hf v u s2 x y H2 I2 r1 r2 q2

theorem pe_op {op : Operator} {r : R2} (ho : OpR X (binaryOp op) r) (ha : PE X a ta) (hb : PE X b tb) : PE X (.BinOp a op b pos) (tOp r ta tb) := by
  intro pins s σ H Q I h
  exact wpAny_BinOp (binT ha hb I h fun v u s2 x y H2 I2 rx ry q => ho pins s2 σ H2 x y v u Q I2 rx ry q)
theorem pe_un {op : UnaryOp} {r : V → Hp → VK → Prop} (ho : UnR X (unaryOp op) r) (ha : PE X a ta) : PE X (.UnaryOp op a pos) (tUn r ta) := by
  intro pins s σ H Q I h
  exact UnaryOp_ (thn (ha pins s σ H _ I h) fun v s1 ⟨x, H1, I1, r1, q1⟩ => ho pins s1 σ H1 x v Q I1 r1 q1)
theorem opI {f : Value → Value → Sem Value} {C : Int → Int → Prop} {g : Int → Int → Int}
    (rule : ∀ (i j : Int) (t u : Tok) (s : Shared) (Q : Value → Shared → Prop) (E : Value → Shared → Prop), C i j → Q (.int (g i j) s.toks) { s with toks := s.toks + 1 } → wpAny (model X.prog X.w) X.A (f (.int i t) (.int j u)) Q E s) :
    OpR X f (rI C fun i j => .int (g i j)) := by
  intro pins s σ H x y v u Q I rx ry h
  obtain ⟨i, j, rfl, rfl, hc, q⟩ := h
  obtain ⟨t, rfl⟩ := rx
  obtain ⟨t', rfl⟩ := ry
  exact rule i j t t' s _ _ hc ⟨.int (g i j), H, I.tok _, ⟨_, rfl⟩, q⟩
theorem opI0 {f : Value → Value → Sem Value} {g : Int → Int → Int}
    (rule : ∀ (i j : Int) (t u : Tok) (s : Shared) (Q : Value → Shared → Prop) (E : Value → Shared → Prop), Q (.int (g i j) s.toks) { s with toks := s.toks + 1 } → wpAny (model X.prog X.w) X.A (f (.int i t) (.int j u)) Q E s) :
    OpR X f (rI0 fun i j => .int (g i j)) := by
  intro pins s σ H x y v u Q I rx ry h
  obtain ⟨i, j, rfl, rfl, q⟩ := h
  obtain ⟨t, rfl⟩ := rx
  obtain ⟨t', rfl⟩ := ry
  exact rule i j t t' s _ _ ⟨.int (g i j), H, I.tok _, ⟨_, rfl⟩, q⟩
theorem opB0 {f : Value → Value → Sem Value} {g : Int → Int → Bool}
    (rule : ∀ (i j : Int) (t u : Tok) (s : Shared) (Q : Value → Shared → Prop) (E : Value → Shared → Prop), Q (.bool (g i j)) s → wpAny (model X.prog X.w) X.A (f (.int i t) (.int j u)) Q E s) :
    OpR X f (rI0 fun i j => .bl (g i j)) := by
  intro pins s σ H x y v u Q I rx ry h
  obtain ⟨i, j, rfl, rfl, q⟩ := h
  obtain ⟨t, rfl⟩ := rx
  obtain ⟨t', rfl⟩ := ry
  exact rule i j t t' s _ _ ⟨.bl (g i j), H, I, rfl, q⟩

def CDiv (i j : Int) : Prop := 0 < j ∧ j < 1073741824
def CPow (i j : Int) : Prop := 0 ≤ j ∧ j ≤ 1000000 ∧ i.natAbs < 2 ^ 64
def CMul (i j : Int) : Prop := (-(2 ^ 64) < i ∧ i < 2 ^ 64) ∨ (-(2 ^ 64) < j ∧ j < 2 ^ 64)
theorem CMul.ok {i j : Int} (h : CMul i j) : IntMulOk i j := by
  rcases h with ⟨h1, h2⟩ | ⟨h1, h2⟩
  · exact .of_left (intBits_le_64 h1 h2)
  · exact .of_right (intBits_le_64 h1 h2)
theorem op_add : OpR X (binaryOp .Add) (rI0 fun i j => .int (i + j)) := opI0 fun _ _ _ _ _ _ _ q => add_int q
theorem op_sub : OpR X (binaryOp .Sub) (rI0 fun i j => .int (i - j)) := opI0 fun _ _ _ _ _ _ _ q => sub_int q
theorem op_mod : OpR X (binaryOp .Mod) (rI (fun _ j => 0 < j) fun i j => .int (i % j)) := opI fun i j _ _ _ _ _ hc q => by
  have h1 : (0 : Int) < j := hc
  exact mod_int' (by omega) (by rw [Int.fmod_eq_emod_of_nonneg i (by omega)]; exact q)
theorem op_pow : OpR X (binaryOp .Pow) (rI CPow fun i j => .int (i ^ j.toNat)) := opI fun _ _ _ _ _ _ _ hc q => pow_int_small hc.1 hc.2.1 hc.2.2 q
theorem unI {f : Value → Sem Value} {g : Int → Int}
    (rule : ∀ (i : Int) (t : Tok) (s : Shared) (Q : Value → Shared → Prop) (E : Value → Shared → Prop), Q (.int (g i) s.toks) { s with toks := s.toks + 1 } → wpAny (model X.prog X.w) X.A (f (.int i t)) Q E s) :
    UnR X f (rU fun i => .int (g i)) := by
  intro pins s σ H x v Q I rx h
  obtain ⟨i, rfl, q⟩ := h
  obtain ⟨t, rfl⟩ := rx
  exact rule i t s _ _ ⟨.int (g i), H, I.tok _, ⟨_, rfl⟩, q⟩
theorem un_neg : UnR X (unaryOp .USub) (rU fun i => .int (-i)) := unI fun _ _ _ _ _ q => neg_int q
end

def scal : V → V → Bool
  | .non, .non => true | .non, .int _ => true | .int _, .non => true | .non, .bl _ => true | .bl _, .non => true | .non, .str _ => true | .str _, .non => true
  | .int _, .int _ => true | .bl _, .bl _ => true | .str _, .str _ => true | .byt _, .byt _ => true
  | .int _, .str _ => true | .str _, .int _ => true | .bl _, .str _ => true | .str _, .bl _ => true
  | _, _ => false
def rEq : R2 := fun x y H Q => scal x y = true ∧ Q (.bl (decide (x = y))) H
def rNe : R2 := fun x y H Q => scal x y = true ∧ Q (.bl (!decide (x = y))) H

theorem dec_int {i j : Int} : decide (V.int i = V.int j) = (i == j) := by
  rw [Bool.eq_iff_iff]
  simp
theorem dec_bl {i j : Bool} : decide (V.bl i = V.bl j) = (i == j) := by
  rw [Bool.eq_iff_iff]
  simp
theorem dec_str {i j : Str} : decide (V.str i = V.str j) = (i == j) := by
  rw [Bool.eq_iff_iff]
  simp
theorem dec_byt {i j : Array UInt8} : decide (V.byt i = V.byt j) = (i.toList == j.toList) := by
  rw [Bool.eq_iff_iff]
  cases i
  cases j
  simp

section
variable {X : Cx} {a b c : Expr} {ta tb tc : TE} {pos : Pos}
theorem fin_bl {pins : List (Addr × Obj)} {σ : St} {H : Hp} {s : Shared} {Q : VK} {k k' : Bool} (I : Inv X pins σ H s) (q : Q (.bl k) H) (e : k = k') : EP X pins σ Q (.bool k') s := by
  subst e
  exact ⟨.bl k, H, I, rfl, q⟩
theorem op_eq : OpR X (compareOp .Eq) rEq := by
  intro pins s σ H x y v u Q I rx ry h
  obtain ⟨hs, q⟩ := h
  cases x with
  | non =>
    cases rx
    cases y with
    | non => cases ry; exact PySem.EqNone.eq_none_none (fin_bl I q (by simp))
    | bl j => cases ry; exact PySem.EqNone.eq_none_bool (fin_bl I q (by simp))
    | int j => obtain ⟨t', rfl⟩ := ry; exact PySem.EqNone.eq_none_int (fin_bl I q (by simp))
    | str j => obtain ⟨t', rfl⟩ := ry; exact PySem.EqNone.eq_none_str (fin_bl I q (by simp))
    | _ => exact absurd (show false = true from hs) Bool.false_ne_true
  | bl i =>
    cases rx
    cases y with
    | non => cases ry; exact PySem.EqNone.eq_bool_none (fin_bl I q (by simp))
    | bl j => cases ry; exact eq_bool (fin_bl I q dec_bl)
    | str j => obtain ⟨t', rfl⟩ := ry; exact PySem.EqMixed.eq_bool_str (fin_bl I q (by simp))
    | _ => exact absurd (show false = true from hs) Bool.false_ne_true
  | int i =>
    obtain ⟨t, rfl⟩ := rx
    cases y with
    | non => cases ry; exact PySem.EqNone.eq_int_none (fin_bl I q (by simp))
    | int j => obtain ⟨t', rfl⟩ := ry; exact eq_int (fin_bl I q dec_int)
    | str j => obtain ⟨t', rfl⟩ := ry; exact PySem.EqMixed.eq_int_str (fin_bl I q (by simp))
    | _ => exact absurd (show false = true from hs) Bool.false_ne_true
  | str i =>
    obtain ⟨t, rfl⟩ := rx
    cases y with
    | non => cases ry; exact PySem.EqNone.eq_str_none (fin_bl I q (by simp))
    | bl j => cases ry; exact PySem.EqMixed.eq_str_bool (fin_bl I q (by simp))
    | int j => obtain ⟨t', rfl⟩ := ry; exact PySem.EqMixed.eq_str_int (fin_bl I q (by simp))
    | str j => obtain ⟨t', rfl⟩ := ry; exact eq_str (fin_bl I q dec_str)
    | _ => exact absurd (show false = true from hs) Bool.false_ne_true
  | byt i =>
    obtain ⟨t, rfl⟩ := rx
    cases y with
    | byt j => obtain ⟨t', rfl⟩ := ry; exact PySem.W.eq_bytes (fin_bl I q dec_byt)
    | _ => exact absurd (show false = true from hs) Bool.false_ne_true
  | _ => cases y <;> exact absurd (show false = true from hs) Bool.false_ne_true
theorem op_ne : OpR X (compareOp .NotEq) rNe := by
  intro pins s σ H x y v u Q I rx ry h
  obtain ⟨hs, q⟩ := h
  cases x with
  | non =>
    cases rx
    cases y with
    | non => cases ry; exact PySem.EqNone.ne_none_none (fin_bl I q (by simp))
    | bl j => cases ry; exact PySem.EqNone.ne_none_bool (fin_bl I q (by simp))
    | int j => obtain ⟨t', rfl⟩ := ry; exact PySem.EqNone.ne_none_int (fin_bl I q (by simp))
    | str j => obtain ⟨t', rfl⟩ := ry; exact PySem.EqNone.ne_none_str (fin_bl I q (by simp))
    | _ => exact absurd (show false = true from hs) Bool.false_ne_true
  | bl i =>
    cases rx
    cases y with
    | non => cases ry; exact PySem.EqNone.ne_bool_none (fin_bl I q (by simp))
    | bl j => cases ry; exact ne_bool (fin_bl I q (congrArg not dec_bl))
    | str j => obtain ⟨t', rfl⟩ := ry; exact PySem.EqMixed.ne_bool_str (fin_bl I q (by simp))
    | _ => exact absurd (show false = true from hs) Bool.false_ne_true
  | int i =>
    obtain ⟨t, rfl⟩ := rx
    cases y with
    | non => cases ry; exact PySem.EqNone.ne_int_none (fin_bl I q (by simp))
    | int j => obtain ⟨t', rfl⟩ := ry; exact ne_int (fin_bl I q (congrArg not dec_int))
    | str j => obtain ⟨t', rfl⟩ := ry; exact PySem.EqMixed.ne_int_str (fin_bl I q (by simp))
    | _ => exact absurd (show false = true from hs) Bool.false_ne_true
  | str i =>
    obtain ⟨t, rfl⟩ := rx
    cases y with
    | non => cases ry; exact PySem.EqNone.ne_str_none (fin_bl I q (by simp))
    | bl j => cases ry; exact PySem.EqMixed.ne_str_bool (fin_bl I q (by simp))
    | int j => obtain ⟨t', rfl⟩ := ry; exact PySem.EqMixed.ne_str_int (fin_bl I q (by simp))
    | str j => obtain ⟨t', rfl⟩ := ry; exact ne_str (fin_bl I q (congrArg not dec_str))
    | _ => exact absurd (show false = true from hs) Bool.false_ne_true
  | byt i =>
    obtain ⟨t, rfl⟩ := rx
    cases y with
    | byt j => obtain ⟨t', rfl⟩ := ry; exact PySem.W.ne_bytes (fin_bl I q (congrArg not dec_byt))
    | _ => exact absurd (show false = true from hs) Bool.false_ne_true
  | _ => cases y <;> exact absurd (show false = true from hs) Bool.false_ne_true

theorem op_lt : OpR X (compareOp .Lt) (rI0 fun i j => .bl (decide (i < j))) := opB0 fun _ _ _ _ _ _ _ q => lt_int q
theorem op_le : OpR X (compareOp .LtE) (rI0 fun i j => .bl (decide (i ≤ j))) := opB0 fun _ _ _ _ _ _ _ q => le_int q
theorem op_gt : OpR X (compareOp .Gt) (rI0 fun i j => .bl (decide (j < i))) := opB0 fun _ _ _ _ _ _ _ q => gt_int q
theorem op_ge : OpR X (compareOp .GtE) (rI0 fun i j => .bl (decide (j ≤ i))) := opB0 fun _ _ _ _ _ _ _ q => ge_int q
theorem op_in_str : OpR X (compareOp .In) (fun x y H Q => ∃ i j, x = .str i ∧ y = .str j ∧ Q (.bl (!(Builtin.Str.occurrences j i 0 j.length 1).isEmpty)) H) := by
  intro pins s σ H x y v u Q I rx ry h
  obtain ⟨i, j, rfl, rfl, q⟩ := h
  obtain ⟨t, rfl⟩ := rx
  obtain ⟨t', rfl⟩ := ry
  exact in_str (fin_bl I q rfl)

theorem OpR.or {f : Value → Value → Sem Value} {r r' : R2} (h : OpR X f r) (h' : OpR X f r') : OpR X f (fun x y H Q => r x y H Q ∨ r' x y H Q) := by
  intro pins s σ H x y v u Q I rx ry q
  rcases q with q | q
  · exact h pins s σ H x y v u Q I rx ry q
  · exact h' pins s σ H x y v u Q I rx ry q

theorem nomark (b : Expr) {op : CmpOp} (h : op ≠ .In := by decide) (h2 : op ≠ .NotIn := by decide) : behindInMarks op b = false := by
  have e1 : (op == CmpOp.In) = false := by cases op <;> first | rfl | exact absurd rfl h
  have e2 : (op == CmpOp.NotIn) = false := by cases op <;> first | rfl | exact absurd rfl h2
  cases b <;> simp [behindInMarks, e1, e2]
theorem pe_cmpR {op : CmpOp} {r : R2} (ho : OpR X (compareOp op) r) (ha : PE X a ta) (hb : PE X b tb) (hm : behindInMarks op b = false) : PE X (.Compare a [op] [b] pos) (tOp r ta tb) := by
  intro pins s σ H Q I h
  exact wpAny_Compare1 (binT ha hb I h fun v u s2 x y H2 I2 rx ry q => ho pins s2 σ H2 x y v u Q I2 rx ry q) hm
def tTest (t : TE) : TT := fun σ H Q => t σ H fun x H' => ∃ k, x = .bl k ∧ Q k H'
theorem pt_cmpR {op : CmpOp} {r : R2} (ho : OpR X (compareOp op) r) (ha : PE X a ta) (hb : PE X b tb) (hm : behindInMarks op b = false) : PT X (.Compare a [op] [b] pos) (tTest (tOp r ta tb)) := by
  intro pins s σ H Q I h
  refine wpAny_isTrue_Compare1 (thn (ha pins s σ H _ I h) fun v s1 ⟨x, H1, I1, r1, q1⟩ => thn (hb pins s1 σ H1 _ I1 q1) fun u s2 ⟨y, H2, I2, r2, q2⟩ =>
    thn (ho pins s2 σ H2 x y v u _ I2 r1 r2 q2) fun c s3 ⟨z, H3, I3, r3, k, e, q3⟩ => ?_) hm
  subst e
  cases r3
  exact wpAny_truthy_bool ⟨H3, I3, q3⟩
def tChain (r r' : R2) (ta tb tc : TE) : TE := fun σ H Q => ta σ H fun x H1 => tb σ H1 fun y H2 => r x y H2 fun z H3 => ∃ k, z = .bl k ∧
  (if k = true then tc σ H3 fun w' H4 => r' y w' H4 Q else Q (.bl false) H3)
theorem pe_chain {op op' : CmpOp} {r r' : R2} (ho : OpR X (compareOp op) r) (ho' : OpR X (compareOp op') r') (ha : PE X a ta) (hb : PE X b tb) (hc : PE X c tc)
    (hm : lastMarks [op, op'] [b, c] = false := by with_unfolding_all rfl) : PE X (.Compare a [op, op'] [b, c] pos) (tChain r r' ta tb tc) := by
  intro pins s σ H Q I h
  refine Compare_chain (thn (ha pins s σ H _ I h) fun v s1 ⟨x, H1, I1, r1, q1⟩ => chain_link (thn (hb pins s1 σ H1 _ I1 q1) fun u s2 ⟨y, H2, I2, r2, q2⟩ =>
    thn (ho pins s2 σ H2 x y v u _ I2 r1 r2 q2) fun d s3 ⟨z, H3, I3, r3, k, e, q3⟩ => ?_)) hm
  subst e
  cases r3
  refine wpAny_truthy_bool ?_
  cases k with
  | false => exact ite_ff ⟨.bl false, H3, I3, rfl, q3⟩
  | true => exact ite_tt (chain_last (thn (hc pins s3 σ H3 _ I3 q3) fun w' s4 ⟨z', H4, I4, r4, q4⟩ => ho' pins s4 σ H4 y z' u w' Q I4 r2 r4 q4))
theorem pt_chain {op op' : CmpOp} {r r' : R2} (ho : OpR X (compareOp op) r) (ho' : OpR X (compareOp op') r') (ha : PE X a ta) (hb : PE X b tb) (hc : PE X c tc)
    (hm : lastMarks [op, op'] [b, c] = false := by with_unfolding_all rfl) : PT X (.Compare a [op, op'] [b, c] pos) (tTest (tChain r r' ta tb tc)) := by
  intro pins s σ H Q I h
  refine isTrue_chain (thn (ha pins s σ H _ I h) fun v s1 ⟨x, H1, I1, r1, q1⟩ => test_link (thn (hb pins s1 σ H1 _ I1 q1) fun u s2 ⟨y, H2, I2, r2, q2⟩ =>
    thn (ho pins s2 σ H2 x y v u _ I2 r1 r2 q2) fun d s3 ⟨z, H3, I3, r3, k, e, q3⟩ => ?_)) hm
  subst e
  cases r3
  refine wpAny_truthy_bool ?_
  cases k with
  | false =>
    obtain ⟨k', e', q'⟩ := q3
    cases e'
    exact ite_ff ⟨H3, I3, q'⟩
  | true =>
    refine ite_tt (test_last (thn (hc pins s3 σ H3 _ I3 q3) fun w' s4 ⟨z', H4, I4, r4, q4⟩ => thn (ho' pins s4 σ H4 y z' u w' _ I4 r2 r4 q4) fun d' s5 ⟨z2, H5, I5, r5, k2, e2, q5⟩ => ?_))
    subst e2
    cases r5
    exact wpAny_truthy_bool ⟨H5, I5, q5⟩

def TruV (K : PySem.W.Frag) (x : V) (H : Hp) (k : Bool) : Prop :=
  match x with
  | .non => k = false
  | .bl b => k = b
  | .int i => k = (i != 0)
  | .str y => y.length ≤ sizeLine ∧ k = ((y.length : Int) != 0)
  | .byt y => y.size ≤ sizeLine ∧ k = ((y.size : Int) != 0)
  | .ref p => (∃ xs, SqL K H p xs ∧ k = !xs.isEmpty) ∨ (∃ xs, SqT K H p xs ∧ k = !xs.isEmpty) ∨ ∃ kvs, H p = some (.dK kvs) ∧ k = !kvs.isEmpty
  | _ => False
theorem line63 : (sizeLine : Nat) < 2 ^ 63 := by rw [sizeLine_eq]; decide
theorem op_add_str : OpR X (binaryOp .Add) (fun x y H Q => ∃ i j, x = .str i ∧ y = .str j ∧ i.length + j.length ≤ sizeLine ∧ Q (.str (i ++ j)) H) := by
  intro pins s σ H x y v u Q I rx ry h
  obtain ⟨i, j, rfl, rfl, hz, q⟩ := h
  obtain ⟨t, rfl⟩ := rx
  obtain ⟨t', rfl⟩ := ry
  exact add_str (fun t' tk => ⟨.str (i ++ j), H, I.tok _, ⟨_, rfl⟩, q⟩) hz
theorem vals1 {x : V} {us : List Value} (r : Vals [x] us) : ∃ u, us = [u] ∧ RelV x u := by
  cases r with
  | cons r1 r2 => cases r2; exact ⟨_, rfl, r1⟩
theorem vals2 {x y : V} {us : List Value} (r : Vals [x, y] us) : ∃ u w', us = [u, w'] ∧ RelV x u ∧ RelV y w' := by
  cases r with
  | cons r1 r2 =>
    cases r2 with
    | cons r3 r4 => cases r4; exact ⟨_, _, rfl, r1, r3⟩
theorem call_max2 (hc : X.calm = true) : CallR X (.builtin "max") (fun xs H Q => ∃ i j, xs = [.int i, .int j] ∧ Q (.int (if j > i then j else i)) H) := by
  intro pins s σ H xs us Q I r h
  obtain ⟨i, j, rfl, q⟩ := h
  obtain ⟨u, w', rfl, ⟨t, rfl⟩, ⟨t', rfl⟩⟩ := vals2 r
  refine max_two_ints (I.ok.hd hc) fun h' tk k => ⟨_, H, I.kept k, ?_, q⟩
  by_cases hj : j > i
  · rw [if_pos hj, if_pos hj]; exact ⟨_, rfl⟩
  · rw [if_neg hj, if_neg hj]; exact ⟨_, rfl⟩
theorem call_min2 (hc : X.calm = true) : CallR X (.builtin "min") (fun xs H Q => ∃ i j, xs = [.int i, .int j] ∧ Q (.int (if j < i then j else i)) H) := by
  intro pins s σ H xs us Q I r h
  obtain ⟨i, j, rfl, q⟩ := h
  obtain ⟨u, w', rfl, ⟨t, rfl⟩, ⟨t', rfl⟩⟩ := vals2 r
  refine min_two_ints (I.ok.hd hc) fun h' tk k => ⟨_, H, I.kept k, ?_, q⟩
  by_cases hj : j < i
  · rw [if_pos hj, if_pos hj]; exact ⟨_, rfl⟩
  · rw [if_neg hj, if_neg hj]; exact ⟨_, rfl⟩
theorem call_int1 : CallR X (.type "int") (fun xs H Q => (∃ i, xs = [.int i] ∧ Q (.int i) H) ∨ ∃ k, xs = [.bl k] ∧ Q (.int (if k then 1 else 0)) H) := by
  intro pins s σ H xs us Q I r h
  rcases h with ⟨i, rfl, q⟩ | ⟨k, rfl, q⟩
  · obtain ⟨u, rfl, t, rfl⟩ := vals1 r
    exact call_int_int ⟨.int i, H, I, ⟨_, rfl⟩, q⟩
  · obtain ⟨u, rfl, r1⟩ := vals1 r
    cases r1
    exact call_int_bool ⟨.int (if k then 1 else 0), H, I.tok _, ⟨_, rfl⟩, q⟩
theorem call_str_int : CallR X (.type "str") (fun xs H Q => ∃ i, xs = [.int i] ∧ i.natAbs.log2 < 1920 ∧ Q (.str (toString i)) H) := by
  intro pins s σ H xs us Q I r h
  obtain ⟨i, rfl, hz, q⟩ := h
  obtain ⟨u, rfl, t, rfl⟩ := vals1 r
  exact PySem.P.str_of_int hz ⟨.str _, H, I.tok _, ⟨_, rfl⟩, q⟩
end
end L2

namespace L2
open PySem PySem.Spec PyProof.Rows

structure ObjM (h : Heap) (x dx C : Addr) (mA : Str → Option Value) : Prop where
  obj : h.get? x = some (PySem.W.instObj C dx)
  ns : h.Ns1 dx mA
  ne : dx ≠ x

theorem lookIn_ns {h : Heap} {dx : Addr} {mA : Str → Option Value} (n : h.Ns1 dx mA) : ∃ od, h.get? dx = some od ∧ ∀ name, PySem.W.lookIn name od = some (mA name) := by
  obtain ⟨o, es, ep, ho, hd, hk, _, hm⟩ := n
  refine ⟨o, ho, fun name => ?_⟩
  have e := hm name
  unfold nsFind findBy at e
  rw [← Array.find?_toList] at e
  unfold PySem.W.lookIn
  rw [hd]
  dsimp only
  split
  · rename_i y q
    rw [q] at e
    exact congrArg some e
  · rename_i q
    rw [q] at e
    have a : es.toList.any (·.refKey) = false := by
      rw [List.any_eq_false]
      intro y hy
      obtain ⟨z, t, hkey⟩ := hk y (Array.mem_toList_iff.mp hy)
      simp [DictEntry.refKey, hkey]
    have a' : ¬ es.toList.any (·.refKey) = true := by rw [a]; exact Bool.false_ne_true
    rw [if_neg a']
    exact congrArg some e

theorem ObjM.look {h : Heap} {x dx C : Addr} {mA : Str → Option Value} (I : ObjM h x dx C mA) : ∃ od, PySem.W.InstAt h x (PySem.W.instObj C dx) C (some od) ∧ ∀ name, PySem.W.lookIn name od = some (mA name) :=
  let ⟨od, ho, hl⟩ := lookIn_ns I.ns
  ⟨od, ⟨I.obj, rfl, rfl, ho⟩, hl⟩

section
variable {prog : Program} {w : World} {A : Around} {E : Value → Shared → Prop} {s : Shared} {K : PySem.W.Frag} {x dx C f : Addr} {mA : Str → Option Value} {name : Str} {v : Value}

end

def putF (f : Str) (v : V) : List (Str × V) → List (Str × V)
  | [] => [(f, v)]
  | (g, x) :: r => if g = f then (g, v) :: r else (g, x) :: putF f v r
section
variable {P : Program} {w : World} {H H' : Hp} {h h' : Heap} {a C dx : Addr} {fs fs' : List (Str × V)}
theorem ins_get (hok : HOk P w H h) (e : H a = some (.ins C dx fs)) : ∃ mA, ObjM h a dx C mA ∧ (∀ f, RelO (fs.lookup f) (mA f)) ∧ PySem.Within mA (fs.map (·.1)) ∧ fs.length ≤ 1000 ∧ H dx = some (.own a) := by
  obtain ⟨d, z, ne, ob, mA, n, r, q⟩ := (show ObjOk P w H h a (.ins C dx fs) from hok a _ e)
  exact ⟨mA, ⟨ob, n, ne⟩, r, q, z, d⟩
end

structure Cls (K : PySem.W.Frag) (C : Addr) : Prop where
  pg : PySem.W.plainGet K C Str.empty = true
  hd : PySem.W.hasDictIn K C = true
  po : PySem.W.plainOver K C = true
  sa : PySem.W.findIn K (.ref C) "__setattr__" = some (some (.builtin "object.__setattr__"))
theorem Cls.get {K : PySem.W.Frag} {C : Addr} (c : Cls K C) (f : Str) : PySem.W.plainGet K C f = true := c.pg
def NoAttr (K : PySem.W.Frag) (C : Addr) (f : Str) : Prop := PySem.W.findIn K (.ref C) f = some none
structure Con (K : PySem.W.Frag) (C : Addr) (f : Str) (v : V) (u : Value) : Prop where
  at_ : PySem.W.findIn K (.ref C) f = some (some u)
  rel : RelV v u
  get : PySem.W.specialIn K u "__get__" = some none
  cp : PySem.W.copiedNames.contains f = false
structure Meth (K : PySem.W.Frag) (C : Addr) (m : Str) (f : Addr) : Prop where
  at_ : PySem.W.findIn K (.ref C) m = some (some (.ref f))
  fn : PySem.W.isFn K (.ref f) = true
  kp : PySem.W.keepIn K (.ref f) = true

section
variable {X : Cx} {pins : List (Addr × Obj)} {σ : St} {H : Hp} {s : Shared} {a C dx : Addr} {fs : List (Str × V)} {f : Str} {v : V} {A : Around} {E : Value → Shared → Prop}

theorem Inv.made (I : Inv X pins σ H s) : Inv X pins σ (upd (upd H s.heap.objs.size (.own (s.heap.objs.size + 1))) (s.heap.objs.size + 1) (.ins C s.heap.objs.size []))
    { s with heap := (s.heap.push PySem.W.emptyDict).push (PySem.W.instObj C s.heap.objs.size) } := by
  have e1 : (s.heap.push PySem.W.emptyDict).get? s.heap.objs.size = some PySem.W.emptyDict := Heap.get?_push_size s.heap rfl
  have e2 : ((s.heap.push PySem.W.emptyDict).push (PySem.W.instObj C s.heap.objs.size)).get? (s.heap.objs.size + 1) = some (PySem.W.instObj C s.heap.objs.size) := by
    have := Heap.get?_push_size (s.heap.push PySem.W.emptyDict) (o := PySem.W.instObj C s.heap.objs.size) rfl
    rwa [Heap.size_push] at this
  have e3 : (s.heap.push PySem.W.emptyDict).Ns s.heap.objs.size (fun _ => none) := ⟨PySem.W.emptyDict, #[], _, e1, rfl, (fun e he => absurd he (by simp)), fun _ => rfl⟩
  have I1 := I.laid (a := s.heap.objs.size) (o := .own (s.heap.objs.size + 1)) (h' := s.heap.push PySem.W.emptyDict) (t' := s.toks) (fun b u q => Heap.get?_push_of_some _ q) (Nat.le_refl _) ⟨_, e1⟩
  refine I1.laid (a := s.heap.objs.size + 1) (o := .ins C s.heap.objs.size []) (t' := s.toks) (fun b u q => Heap.get?_push_of_some _ q) (Nat.le_of_eq (Heap.size_push _ _)) ?_
  have ne : s.heap.objs.size ≠ s.heap.objs.size + 1 := Nat.ne_of_lt (Nat.lt_succ_self _)
  refine ⟨by rw [upd_ne ne, upd_same], Nat.zero_le _, ne, e2, fun _ => none, (Heap.Ns1.of_empty e3).at fun o q => Heap.get?_push_of_some _ q, fun _ => True.intro, fun y hy => absurd rfl hy⟩

end

def tFld (K : PySem.W.Frag) (ta : TE) (f : Str) : TE := fun σ H Q => ta σ H fun x H1 => ∃ a C dx fs v, x = .ref a ∧ H1 a = some (.ins C dx fs) ∧ Cls K C ∧ NoAttr K C f ∧ fs.lookup f = some v ∧ Q v H1
def sFld (K : PySem.W.Frag) (ta tv : TE) (f : Str) : TS := fun D σ H => tv σ H fun y H1 => ta σ H1 fun x H2 => ∃ a C dx fs, x = .ref a ∧ H2 a = some (.ins C dx fs) ∧ Cls K C ∧ NoAttr K C f ∧ fs.length < 1000 ∧
  D.nx σ (upd H2 a (.ins C dx (putF f y fs)))
section
variable {X : Cx} {o e value : Expr} {f : Str} {pos pos' tpos : Pos} {ta tv : TE}
end

section
variable {X : Cx} {pins : List (Addr × Obj)} {σ : St} {H : Hp} {s : Shared} {A : Around} {E : Value → Shared → Prop} {Q : Value → Shared → Prop} {c : Value} {b : Bool}
inductive TyOf (K : PySem.W.Frag) (H : Hp) : V → Value → Prop where
  | non : TyOf K H .non (.type "NoneType")
  | bl (x : Bool) : TyOf K H (.bl x) (.type "bool")
  | int (i : Int) : TyOf K H (.int i) (.type "int")
  | str (x : Str) : TyOf K H (.str x) (.type "str")
  | flt (x : UInt64) : TyOf K H (.flt x) (.type "float")
  | lst {a : Addr} {xs : List V} (e : H a = some (.lst xs)) : TyOf K H (.ref a) (.type "list")
  | frz {a : Addr} {o : Obj} {xs : List V} (e : H a = some (.frz o (.lst xs))) : TyOf K H (.ref a) (.type "list")
  | tup {a : Addr} {xs : List V} (e : H a = some (.tup xs)) : TyOf K H (.ref a) (.type "tuple")
  | dK {a : Addr} {kvs : List (Key × V)} (e : H a = some (.dK kvs)) : TyOf K H (.ref a) (.type "dict")
  | dT {a : Addr} {kvs : List (List Key × V)} (e : H a = some (.dT kvs)) : TyOf K H (.ref a) (.type "dict")
  | ins {a C dx : Addr} {fs : List (Str × V)} (e : H a = some (.ins C dx fs)) (cl : Cls K C) (ha : PySem.W.findIn K (.ref C) "__class__" = some (some (.builtin "object.__class__")))
      (hn : PySem.W.specialIn K (.builtin "object.__class__") "__get__" = some (some (.builtin "getset_descriptor.__get__"))) (htk : PySem.W.takesIn K (.builtin "object.__class__") = some true)
      (hm : PySem.W.mroIn K C (.type "object") = some true) : TyOf K H (.ref a) (.ref C)
theorem isinst_ok {x : V} {u t : Value} (I : Inv X pins σ H s) (rx : RelV x u) (ty : TyOf X.K H x t) (e : PySem.W.kitOne X.K t c = some b) (h : ∀ tk, Q (.bool b) { s with toks := tk }) :
    wpAny (model X.prog X.w) A (call (.builtin "isinstance") [u, c]) Q E s := by
  cases ty with
  | non => cases (show u = Value.none from rx); exact PySem.W.kia_one PySem.W.kitx_none I.kIn True.intro e (fun z => nomatch z) h
  | bl y => cases (show u = Value.bool y from rx); exact PySem.W.kia_one PySem.W.kitx_bool I.kIn True.intro e (fun z => nomatch z) h
  | int i => obtain ⟨t, q⟩ := (show ∃ t, u = Value.int i t from rx); cases q; exact PySem.W.kia_one PySem.W.kitx_int I.kIn True.intro e (fun z => nomatch z) h
  | str y => obtain ⟨t, q⟩ := (show ∃ t, u = Value.str y t from rx); cases q; exact PySem.W.kia_one PySem.W.kitx_str I.kIn True.intro e (fun z => nomatch z) h
  | flt y => obtain ⟨t, q⟩ := (show ∃ t, u = Value.float y t from rx); cases q; exact PySem.W.kia_one PySem.W.kitx_float I.kIn True.intro e (fun z => nomatch z) h
  | @lst a xs ea =>
    cases (show u = Value.ref a from rx)
    obtain ⟨_, _, n, _, h1⟩ := (show ObjOk X.prog X.w H s.heap a (.lst xs) from I.hok a _ ea)
    exact PySem.W.kia_one PySem.W.kitx_list I.kIn ⟨_, h1, rfl⟩ e (fun z => nomatch z) h
  | @frz a ob xs ea =>
    cases (show u = Value.ref a from rx)
    obtain ⟨_, _, _, n, _, h1⟩ := (show ObjOk X.prog X.w H s.heap a (.frz ob (.lst xs)) from I.hok a _ ea)
    exact PySem.W.kia_one PySem.W.kitx_list I.kIn ⟨_, h1, rfl⟩ e (fun z => nomatch z) h
  | @tup a xs ea =>
    cases (show u = Value.ref a from rx)
    obtain ⟨_, _, _, p⟩ := (show ObjOk X.prog X.w H s.heap a (.tup xs) from I.hok a _ ea)
    obtain ⟨o, h1, h2, _⟩ := p
    exact PySem.W.kia_one PySem.W.kitx_tuple I.kIn ⟨o, h1, h2⟩ e (fun z => nomatch z) h
  | @dK a kvs ea =>
    cases (show u = Value.ref a from rx)
    obtain ⟨_, _, vs, _, p⟩ := (show ObjOk X.prog X.w H s.heap a (.dK kvs) from I.hok a _ ea)
    obtain ⟨o, es, ep, h1, h2, _⟩ := p
    exact PySem.W.kia_one PySem.W.kitx_dict I.kIn ⟨o, h1, h2.1⟩ e (fun z => nomatch z) h
  | @dT a kvs ea =>
    cases (show u = Value.ref a from rx)
    obtain ⟨_, _, xs, _, o, es, ep, h1, h2, _⟩ := (show ObjOk X.prog X.w H s.heap a (.dT kvs) from I.hok a _ ea)
    exact PySem.W.kia_one PySem.W.kitx_dict I.kIn ⟨o, h1, h2.1⟩ e (fun z => nomatch z) h
  | @ins a C dx fs ea cl ha hn htk hm =>
    cases (show u = Value.ref a from rx)
    obtain ⟨mA, O, _⟩ := ins_get I.hok ea
    obtain ⟨od, J, _⟩ := O.look
    exact PySem.W.kia_one (PySem.W.kitx_own (cl.get _) cl.hd ha hn htk hm) I.kIn J e (fun z => nomatch z) h
end
end L2

namespace L2
open PySem PySem.Spec PyProof.Rows

structure Room (k : Nat) (A : Around) : Prop where
  hd : A.handled = none
  dp : A.depth + 3 * k + 5 < recursionLimit
  un : A.units + 16 * k + 200 < cLine
theorem Room.mono {j k : Nat} {A : Around} (r : Room k A) (h : j ≤ k) : Room j A := ⟨r.hd, by have := r.dp; omega, by have := r.un; omega⟩
theorem Room.deeper {k : Nat} {A : Around} (r : Room (k + 1) A) (env : Env) : Room k (A.deeper env) :=
  ⟨r.hd, by have := r.dp; show A.depth + 1 + 3 * k + 5 < _; omega, by have := r.un; show A.units + 3 + 16 * k + 200 < _; omega⟩
theorem Room.in1 {k : Nat} {A : Around} (r : Room (k + 1) A) : Room k A.in1 :=
  ⟨r.hd, by have := r.dp; show A.depth + 3 * k + 5 < _; omega, by have := r.un; show A.units + 1 + 16 * k + 200 < _; omega⟩
theorem make_depth {A : Around} {C : Addr} {us : List Value} {kw : List (Str × Value)} : (A.under (.builtin "type.__call__" ⟨.ref C :: us, kw⟩)).depth = A.depth + 1 := by
  first | rfl | simp [Around.under, Code.weight, Code.isCreation, Code.isGuard, Code.isCaller, Code.frames, Code.isFrame, guardIds]
theorem make_units {A : Around} {C : Addr} {us : List Value} {kw : List (Str × Value)} : (A.under (.builtin "type.__call__" ⟨.ref C :: us, kw⟩)).units = A.units + 1 := by
  first | rfl | simp [Around.under, Code.cUnits, Code.frames, Code.isFrame]
theorem Room.make {k : Nat} {A : Around} (r : Room (k + 1) A) (C : Addr) (us : List Value) (kw : List (Str × Value)) : Room k (A.under (.builtin "type.__call__" ⟨.ref C :: us, kw⟩)) :=
  ⟨r.hd, by have := r.dp; rw [make_depth]; omega, by have := r.un; rw [make_units]; omega⟩
theorem Room.depth {k : Nat} {A : Around} (r : Room k A) : A.depth < recursionLimit := by have := r.dp; omega
theorem Room.units {k : Nat} {A : Around} (r : Room k A) : A.units + 64 < cLine := by have := r.un; omega
def tNil : TA := fun _ H Q => Q [] H
def tCons (ta : TE) (tr : TA) : TA := fun σ H Q => ta σ H fun x H1 => tr σ H1 fun xs H2 => Q (x :: xs) H2
section
variable {X : Cx} {e : Expr} {es : List Expr} {te : TE} {t : TA} {pos : Pos}
theorem pa_nil : PA X [] tNil := fun _ _ _ _ H Q I h => Calls.spliced_nil ⟨[], H, I, .nil, h⟩
theorem pa_cons (ha : PE X e te) (hr : PA X es t) (hs : starEach (e :: es) X.env = (false, eval e X.env) :: starEach es X.env := by rfl) : PA X (e :: es) (tCons te t) := by
  intro pos pins s σ H Q I h
  rw [hs]
  show wpAny _ _ (spliced ((false, eval e X.env) :: backTo pos (starEach es X.env))) _ _ s
  refine Calls.spliced_cons (thn (ha pins s σ H _ I h) fun u s1 ⟨x, H1, I1, r1, q1⟩ => ?_)
  exact thn (hr pos pins s1 σ H1 _ I1 q1) fun us s2 ⟨xs, H2, I2, r2, q2⟩ => ⟨x :: xs, H2, I2, .cons r1 r2, q2⟩

def tTup (t : TA) : TE := fun σ H Q => t σ H fun xs H1 => xs.length ≤ sizeLine ∧ ∀ p, H1 p = none → Q (.ref p) (upd H1 p (.tup xs))
def tLst (t : TA) : TE := fun σ H Q => t σ H fun xs H1 => xs.length ≤ sizeLine ∧ ∀ p, H1 p = none → Q (.ref p) (upd H1 p (.lst xs))
theorem pe_tup {x1} (h : PA X es t) : PE X (.Tuple es x1 pos) (tTup t) := by
  intro pins s σ H Q I hq
  refine wpAny_Tuple_spliced (thn (h pos pins s σ H _ I hq) fun us s1 ⟨xs, H1, I1, r, z, q⟩ => ⟨by rw [← r.length]; exact z, ?_⟩)
  have hf : H1 s1.heap.objs.size = none := I1.hok.fresh (Nat.le_refl _)
  refine ⟨.ref s1.heap.objs.size, upd H1 s1.heap.objs.size (.tup xs), I1.laid (t' := s1.toks) (fun b u e => Heap.get?_push_of_some _ e) (Nat.le_refl _) ?_, rfl, q _ hf⟩
  exact ⟨z, us, r, ⟨_, Heap.get?_push_size _ rfl, rfl, _, rfl⟩⟩
theorem pe_lst (h : PA X es t) : PE X (.List es pos) (tLst t) := by
  intro pins s σ H Q I hq
  refine wpAny_List_spliced (thn (h pos pins s σ H _ I hq) fun us s1 ⟨xs, H1, I1, r, z, q⟩ => ⟨by rw [← r.length]; exact z, ?_⟩)
  have hf : H1 s1.heap.objs.size = none := I1.hok.fresh (Nat.le_refl _)
  refine ⟨.ref s1.heap.objs.size, upd H1 s1.heap.objs.size (.lst xs), I1.laid (t' := s1.toks) (fun b u e => Heap.get?_push_of_some _ e) (Nat.le_refl _) ?_, rfl, q _ hf⟩
  exact ⟨z, us, 0, r, Heap.get?_push_size _ rfl⟩
end

abbrev Sp := List V → Hp → VK → XK → Prop
abbrev CXT := List Env → Hp → Shared → XK → Value → Shared → Prop

structure Env0 (P : Program) (w : World) (K : PySem.W.Frag) (mg : Str → Option Value) (base : Heap) (A : Around) (outer : List Env) (s : Shared) (H : Hp) : Prop where
  frames : A.frames = some outer
  mod : Mod K mg base
  bs : ∀ b o, base.get? b = some o → s.heap.get? b = some o ∧ H b = none
  bsz : base.objs.size ≤ s.heap.objs.size
  funs : s.heap.FunFrames base outer
  frf : ∀ b ∈ frs outer, H b = none
  hok : HOk P w H s.heap
  bare : AllBare s.gens
def CE (outer : List Env) (P : Program) (w : World) (H : Hp) (s : Shared) (Q : VK) (u : Value) (s' : Shared) : Prop :=
  ∃ v H', s'.os = s.os ∧ AllBare s'.gens ∧ Un (frs outer) [] H H' s.heap s'.heap ∧ HOk P w H' s'.heap ∧ RelV v u ∧ Q v H'
def CR (CX : CXT) (outer : List Env) (P : Program) (w : World) (H : Hp) (s : Shared) (Q : VK) (E : XK) (r : Result) (s' : Shared) : Prop :=
  match r with
  | .ok (.ret u) => CE outer P w H s Q u s'
  | .ok _ => False
  | .error e => CX outer H s E e s'
structure FnOk (P : Program) (w : World) (K : PySem.W.Frag) (mg : Str → Option Value) (base : Heap) (CX : CXT) (k : Nat) (f : Addr) (fd : FuncData) (ps : List Str) (sp : Sp) : Prop where
  len : ∀ vs H Q E, sp vs H Q E → vs.length = ps.length
  run : ∀ (A : Around) (outer : List Env) (s : Shared) (H : Hp) (args : Args) (us : List Value) (vs : List V) (Q : VK) (E : XK), Room k A → Env0 P w K mg base A outer s H → BindsTo s fd args (ps.zip us) → Vals vs us → sp vs H Q E →
    codeAny (model P w) A (.call (.ref f) args) (CR CX outer P w H s Q E) s
theorem FnOk.mono {P : Program} {w : World} {K : PySem.W.Frag} {mg : Str → Option Value} {base : Heap} {CX : CXT} {j k : Nat} {f : Addr} {fd : FuncData} {ps : List Str} {sp : Sp} (F : FnOk P w K mg base CX j f fd ps sp) (h : j ≤ k) :
    FnOk P w K mg base CX k f fd ps sp := ⟨F.len, fun A outer s H args us vs Q E hr => F.run A outer s H args us vs Q E (hr.mono h)⟩
theorem FnOk.imp {P : Program} {w : World} {K : PySem.W.Frag} {mg : Str → Option Value} {base : Heap} {CX : CXT} {k : Nat} {f : Addr} {fd : FuncData} {ps : List Str} {sp sp' : Sp} (F : FnOk P w K mg base CX k f fd ps sp)
    (h : ∀ vs H Q E, sp' vs H Q E → sp vs H Q E) : FnOk P w K mg base CX k f fd ps sp' :=
  ⟨fun vs H Q E q => F.len vs H Q E (h _ _ _ _ q), fun A outer s H args us vs Q E hr he hb hv hs => F.run A outer s H args us vs Q E hr he hb hv (h _ _ _ _ hs)⟩

theorem Env0.make {P : Program} {w : World} {K : PySem.W.Frag} {mg : Str → Option Value} {base : Heap} {A : Around} {outer : List Env} {s : Shared} {H : Hp} (e : Env0 P w K mg base A outer s H) (C : Addr) (us : List Value) (kw : List (Str × Value)) :
    Env0 P w K mg base (A.under (.builtin "type.__call__" ⟨.ref C :: us, kw⟩)) outer s H := ⟨by first | exact e.frames | (simpa [Around.under, Code.envs, Code.isFrame, pushEnvs] using e.frames), e.mod, e.bs, e.bsz, e.funs, e.frf, e.hok, e.bare⟩
theorem Env0.in1 {P : Program} {w : World} {K : PySem.W.Frag} {mg : Str → Option Value} {base : Heap} {A : Around} {outer : List Env} {s : Shared} {H : Hp} (e : Env0 P w K mg base A outer s H) :
    Env0 P w K mg base A.in1 outer s H := ⟨e.frames, e.mod, e.bs, e.bsz, e.funs, e.frf, e.hok, e.bare⟩

section
variable {X : Cx} {pins : List (Addr × Obj)} {σ : St} {H : Hp} {s s' : Shared}
theorem Inv.env0 (I : Inv X pins σ H s) : Env0 X.prog X.w X.K X.mg X.base X.A X.stack s H :=
  ⟨I.ok.frames, I.ok.mod, I.bs, Nat.le_trans I.ok.bsz I.sz, I.stack, I.stkFree, I.hok, I.bare⟩
theorem Inv.after {Q : VK} {u : Value} (I : Inv X pins σ H s) (h : CE X.stack X.prog X.w H s Q u s') : EP X pins σ Q u s' := by
  obtain ⟨v, H', os, bare, un, hok, r, q⟩ := h
  obtain ⟨hh, g, d, t, os'⟩ := s'
  obtain rfl : os' = s.os := os
  exact ⟨v, H', I.call (h' := hh) (g' := g) (d' := d) (t' := t) (ch := []) un hok bare (fun b z => absurd z (by simp)), r, q⟩
end

def tCall (sp : Sp) (dvs : List V) (E : XK) (t : TA) : TE := fun σ H Q => t σ H fun vs H1 => sp (vs ++ dvs) H1 Q E
def tMeth (C : Addr) (m : Str) (sp : Sp) (dvs : List V) (E : XK) (ta : TE) (t : TA) : TE := fun σ H Q => ta σ H fun x H1 => ∃ a dx fs, x = .ref a ∧ H1 a = some (.ins C dx fs) ∧ fs.lookup m = none ∧
  t σ H1 fun vs H2 => sp (x :: (vs ++ dvs)) H2 Q E
def tMake (C : Addr) (sp : Sp) (dvs : List V) (E : XK) (t : TA) : TE := fun σ H Q => t σ H fun vs H1 => ∀ x dx, H1 x = none → H1 dx = none → dx ≠ x →
  sp (.ref x :: (vs ++ dvs)) (upd (upd H1 dx (.own x)) x (.ins C dx [])) (fun v H2 => v = .non ∧ Q (.ref x) H2) E

def Binds (K : PySem.W.Frag) (fd : FuncData) (ps : List Str) (ds : List Value) : Prop :=
  ∀ (s : Shared) (us : List Value), K.In s.heap → (us ++ ds).length = ps.length → BindsTo s fd ⟨us, []⟩ (ps.zip (us ++ ds))
theorem Binds.all {K : PySem.W.Frag} {fd : FuncData} {ps : List Str} (h : ∀ us : List Value, us.length = ps.length → bindArgs fd ⟨us, []⟩ = pure (ps.zip us)) : Binds K fd ps [] := fun s us _ hl => by
  rw [List.append_nil] at hl ⊢
  exact .of_eq (h us hl)

def Passes (CX : CXT) (X : Cx) (E : XK) : Prop := ∀ (pins : List (Addr × Obj)) (σ : St) (H : Hp) (s : Shared) (e : Value) (s' : Shared), Inv X pins σ H s → CX X.stack H s E e s' → X.xe e s'

section
variable {X : Cx} {CX : CXT} {k : Nat} {f C : Addr} {fd : FuncData} {ps : List Str} {sp : Sp} {dvs : List V} {ds : List Value} {E : XK} {x m : Str} {p pos apos : Pos} {e o : Expr} {es : List Expr} {ta : TE} {t : TA}

theorem run_fn {pins : List (Addr × Obj)} {σ : St} {H : Hp} {s : Shared} {Q : VK} {us : List Value} {vs : List V} (F : FnOk X.prog X.w X.K X.mg X.base CX k f fd ps sp) (hr : Room k X.A) (hb : Binds X.K fd ps ds) (hd : Vals dvs ds) (hx : Passes CX X E)
    (I : Inv X pins σ H s) (r : Vals vs us) (h : sp (vs ++ dvs) H Q E) : wpAny (model X.prog X.w) X.A (call (.ref f) us) (EP X pins σ Q) X.xe s := by
  have r2 : Vals (vs ++ dvs) (us ++ ds) := r.append hd
  have hl : (us ++ ds).length = ps.length := by rw [← r2.length]; exact F.len _ _ _ _ h
  refine wpAny_call (codeAny_mono (F.run X.A X.stack s H ⟨us, []⟩ (us ++ ds) (vs ++ dvs) Q E hr I.env0 (hb s us I.kIn hl) r2 h) fun r s' hq => ?_)
  cases r with
  | error e => exact hx pins σ H s e s' I hq
  | ok fl =>
    cases fl with
    | ret u => exact I.after hq
    | next => exact False.elim hq
    | brk => exact False.elim hq
    | cont => exact False.elim hq

theorem pe_call (F : FnOk X.prog X.w X.K X.mg X.base CX k f fd ps sp) (hr : Room k X.A) (hg : Gl X x) (hm : X.mg x = some (.ref f)) (hk : PySem.W.keepIn X.K (.ref f) = true) (hb : Binds X.K fd ps ds) (hd : Vals dvs ds) (hx : Passes CX X E)
    (ha : PA X (e :: es) t) (hdb : (x == ("__debug__" : Str)) = false := by decide) (he : starEach (e :: es) X.env = (false, eval e X.env) :: starEach es X.env := by rfl) (hpl : (backTo pos (starEach es X.env)).any (·.1) = false := by rfl) :
    PE X (.Call (.Name x p) (e :: es) [] pos) (tCall sp dvs E t) := by
  intro pins s σ H Q I h
  refine wpAny_Call_Name_kw (ld_glob I hg hm ?_ hdb)
  refine PySem.W.callWith_K (h₀ := X.base) I.ok.mod.kin hk (thn (ha pos pins s σ H _ I h) fun us s1 ⟨vs, H1, I1, r, q⟩ => ⟨I1.kIn, ?_⟩) he hpl
  exact run_fn F hr hb hd hx I1 r q
structure Mk (K : PySem.W.Frag) (C f : Addr) : Prop where
  makes : PySem.W.makesIn K C = true
  init : PySem.W.findIn K (.ref C) "__init__" = some (some (.ref f))
  fn : PySem.W.isFn K (.ref f) = true
  kp : PySem.W.keepIn K (.ref C) = true

end

section
variable {X : Cx} {CX : CXT} {k : Nat} {f C : Addr} {fd : FuncData} {ps ks : List Str} {sp : Sp} {E : XK} {x m : Str} {p pos apos kpos : Pos} {e o : Expr} {es : List Expr} {kws : List Keyword} {te ta : TE} {t tk : TA} {nm : Option Str}
structure KBinds (K : PySem.W.Frag) (fd : FuncData) (ps ks : List Str) (g : List Value → List Value → List Value) (gV : List V → List V → List V) : Prop where
  to : ∀ (s : Shared) (us ws : List Value), K.In s.heap → (g us ws).length = ps.length → BindsTo s fd ⟨us, ks.zip ws⟩ (ps.zip (g us ws))
  rel : ∀ {vs : List V} {us : List Value} {zs : List V} {ws : List Value}, Vals vs us → Vals zs ws → Vals (gV vs zs) (g us ws)
variable {g : List Value → List Value → List Value} {gV : List V → List V → List V}
end

structure FnScope (N P : List Str) (sc : Scope) : Prop where
  kind : sc.kind = .function
  co : sc.isCoroutine = false
  gen : sc.isGenerator = false
  nd : N.Nodup
  pre : N.take P.length = P
  par : ∀ x ∈ P, sc.names.lookup x = some .local ∨ sc.names.lookup x = some .cell
  nofree : ∀ y ∈ sc.names, y.2 ≠ .free

theorem bindL_out {kindOf : Str → Option NameKind} {x : Str} : ∀ {binds : List (Str × Value)} {m : Str → Option Value}, (∀ v, (x, v) ∉ binds) → bindL kindOf binds m x = m x
  | [], _, _ => rfl
  | (n, v) :: r, m, h => by
    unfold bindL
    rw [bindL_out fun w hw => h w (List.mem_cons_of_mem _ hw)]
    split
    · have : x ≠ n := by rintro rfl; exact h v List.mem_cons_self
      simp [this]
    · rfl
theorem bindC_out {kindOf : Str → Option NameKind} {x : Str} : ∀ {binds : List (Str × Value)} {m : Str → Option Value}, (∀ v, (x, v) ∉ binds) → bindC kindOf binds m x = m x
  | [], _, _ => rfl
  | (n, v) :: r, m, h => by
    unfold bindC
    rw [bindC_out fun w hw => h w (List.mem_cons_of_mem _ hw)]
    split
    · rfl
    · have : x ≠ n := by rintro rfl; exact h v List.mem_cons_self
      simp [this]
theorem bindL_get {kindOf : Str → Option NameKind} {x : Str} {v : Value} : ∀ {P : List Str} {vs : List Value} {i : Nat} {m : Str → Option Value}, P.Nodup → P[i]? = some x → vs[i]? = some v → kindOf x = some .local →
    bindL kindOf (P.zip vs) m x = some v
  | [], _, _, _, _, h, _, _ => by simp at h
  | _ :: _, [], _, _, _, _, h, _ => by simp at h
  | p :: P, w :: vs, 0, m, nd, h1, h2, hk => by
    simp at h1 h2; subst h1; subst h2
    show bindL kindOf ((p, w) :: P.zip vs) m p = _
    unfold bindL
    rw [bindL_out fun v hv => (List.nodup_cons.mp nd).1 (List.of_mem_zip hv).1, if_pos hk]
    simp
  | p :: P, w :: vs, i + 1, m, nd, h1, h2, hk => by
    show bindL kindOf ((p, w) :: P.zip vs) m x = _
    unfold bindL
    exact bindL_get (i := i) (List.nodup_cons.mp nd).2 (by simpa using h1) (by simpa using h2) hk
theorem bindC_get {kindOf : Str → Option NameKind} {x : Str} {v : Value} : ∀ {P : List Str} {vs : List Value} {i : Nat} {m : Str → Option Value}, P.Nodup → P[i]? = some x → vs[i]? = some v → kindOf x ≠ some .local →
    bindC kindOf (P.zip vs) m x = some v
  | [], _, _, _, _, h, _, _ => by simp at h
  | _ :: _, [], _, _, _, _, h, _ => by simp at h
  | p :: P, w :: vs, 0, m, nd, h1, h2, hk => by
    simp at h1 h2; subst h1; subst h2
    show bindC kindOf ((p, w) :: P.zip vs) m p = _
    unfold bindC
    rw [bindC_out fun v hv => (List.nodup_cons.mp nd).1 (List.of_mem_zip hv).1, if_neg hk]
    simp
  | p :: P, w :: vs, i + 1, m, nd, h1, h2, hk => by
    show bindC kindOf ((p, w) :: P.zip vs) m x = _
    unfold bindC
    exact bindC_get (i := i) (List.nodup_cons.mp nd).2 (by simpa using h1) (by simpa using h2) hk

def start (N : List Str) (vs : List V) : St := vs.map some ++ List.replicate (N.length - vs.length) none

def cxOf (CX : CXT) (P : Program) (w : World) (K : PySem.W.Frag) (mg : Str → Option Value) (base : Heap) (N : List Str) (qual : Str) (scope : Scope) (f : Addr) (cd : Value) (A : Around) (outer : List Env) (s : Shared) (H : Hp) (E : XK) : Cx where
  prog := P
  w := w
  K := K
  mg := mg
  base := base
  A := A.deeper (envOfC qual scope s.heap.objs.size f cd)
  N := N
  s₀ := s
  H₀ := H
  env := envOfC qual scope s.heap.objs.size f cd
  outer := outer
  stack := envOfC qual scope s.heap.objs.size f cd :: outer
  ex := []
  calm := true
  fn := fun _ => true
  pn := []
  xe := fun e s' => wpAny (model P w) (A.deeper (envOfC qual scope s.heap.objs.size f cd)) (leaving (envOfC qual scope s.heap.objs.size f cd) e) (fun _ s'' => CX outer H s E e s'') (fun e' s'' => CX outer H s E e' s'') s'

theorem cell_has {sc : Scope} {n : Nat} {x : Str} (h : sc.names.lookup x = some .cell) : ∃ c, (cellsFrom n sc.names []).lookup x = some c := by
  have q := PySem.W.cellsFrom_some sc.names n [] (.inl h)
  exact Option.isSome_iff_exists.mp q

theorem inv_start {CX : CXT} {P : Program} {w : World} {K : PySem.W.Frag} {mg : Str → Option Value} {base : Heap} {N ps : List Str} {qual : Str} {scope : Scope} {f : Addr} {cd : Value} {A : Around} {outer : List Env} {s s1 : Shared} {H : Hp} {E : XK} {us : List Value} {vs : List V}
    (S : FnScope N ps scope) (hd : A.handled = none) (e0 : Env0 P w K mg base A outer s H) (hl : vs.length = ps.length) (r : Vals vs us)
    (x : InCallC s s.heap.objs.size (bindL (envOfC qual scope s.heap.objs.size f cd).kindOf (ps.zip us) fun _ => none) (cellsFrom (s.heap.objs.size + 1) scope.names []) (bindC (envOfC qual scope s.heap.objs.size f cd).kindOf (ps.zip us) fun _ => none) s1) :
    Inv (cxOf CX P w K mg base N qual scope f cd A outer s H E) [] (start N vs) H s1 := by
  have hpl : ps.length ≤ N.length := by have := congrArg List.length S.pre; rw [List.length_take] at this; omega
  obtain ⟨h1, tk, rfl, hk⟩ := x.done
  have noA : ∀ b : Addr, b ∉ (cxOf CX P w K mg base N qual scope f cd A outer s H E).ex := fun b z => absurd (show b ∈ ([] : List Addr) from z) (by simp)
  refine ⟨⟨e0.mod, S.kind, rfl, rfl, Nat.le_refl _, fun y z c h1 h2 => ?_, fun y hy => ?_, fun y c _ h => ?_, fun _ => hd, Around.frames_deeper e0.frames, .inr ⟨rfl, rfl⟩, fun b z => absurd z (noA b), e0.bs, e0.bsz, fun b _ _ => noA b, fun b z => absurd z (noA b), e0.funs, e0.frf⟩,
    rfl, e0.bare, Un.kept hk, ⟨_, x.toInCall.ns, fun i y v h1 h2 h3 => ?_⟩, fun y c h => ⟨_, x.cell y c h⟩, e0.hok.fresh (Nat.le_refl _), fun y c h => ?_, fun p hp => absurd (show p ∈ ([] : List (Addr × Obj)) from hp) (by simp), e0.hok.kept hk, ?_⟩
  · exact name_of_addr x.apart (PySem.mem_of_lookup h1) (PySem.mem_of_lookup h2)
  · have hy : scope.names.lookup y = some .cell ∨ scope.names.lookup y = some .free := hy
    rcases hy with hy | hy
    · exact cell_has hy
    · exact absurd rfl (S.nofree _ (PySem.mem_of_lookup hy))
  · exact Nat.le_of_lt (x.above y c (PySem.mem_of_lookup h))
  · have hi : i < vs.length := by
      unfold start at h2
      by_cases hi : i < vs.length
      · exact hi
      · rw [List.getElem?_append_right (by simpa using hi)] at h2
        rw [List.getElem?_replicate] at h2
        split at h2 <;> cases h2
    have ha : vs[i]? = some v := by
      unfold start at h2
      rw [List.getElem?_append_left (by simpa using hi), List.getElem?_map] at h2
      cases e : vs[i]? with
      | none => rw [e] at h2; cases h2
      | some a => rw [e] at h2; cases h2; rfl
    obtain ⟨u, hu, rv⟩ := r.get ha
    have hp : ps[i]? = some y := by
      rw [← S.pre, List.getElem?_take_of_lt (by omega)]; exact h1
    have ndP : ps.Nodup := by rw [← S.pre]; exact S.nd.sublist (List.take_sublist _ _)
    refine ⟨u, rv, ?_⟩
    rcases S.par y (List.mem_of_getElem? hp) with k | k
    · exact .inl ⟨k, bindL_get ndP hp hu k⟩
    · obtain ⟨c, e⟩ := cell_has (n := s.heap.objs.size + 1) k
      refine .inr ⟨.inl k, c, e, ?_⟩
      have q := x.cell y c e
      rw [bindC_get ndP hp hu (by show scope.names.lookup y ≠ _; rw [k]; decide)] at q
      exact q
  · exact e0.hok.fresh (Nat.le_of_lt (x.above y c (PySem.mem_of_lookup h)))
  · unfold start
    show _ = N.length
    rw [List.length_append, List.length_map, List.length_replicate]
    omega

theorem fn_of {CX : CXT} {P : Program} {w : World} {K : PySem.W.Frag} {mg : Str → Option Value} {base : Heap} {k : Nat} {f : Addr} {name qual : Str} {params : Arguments} {body : List Stmt} {scope : Scope} {dV kV doc pm cdv ct oc : Value} {an od : Option Addr}
    {osl : Array (Option Value)} {N ps : List Str} {sp : Sp} (lk : K.lookup f = some ⟨oc, od, .func (PySem.W.fnOf name qual params body scope dV kV doc pm an cdv ct), osl⟩) (hcd : PySem.W.codeIn K cdv qual = true) (S : FnScope N ps scope)
    (len : ∀ vs H Q E, sp vs H Q E → vs.length = ps.length)
    (hbody : ∀ (A : Around) (outer : List Env) (s : Shared) (H : Hp) (vs : List V) (Q : VK) (E : XK), Room k (A.deeper (envOfC qual scope s.heap.objs.size f cdv)) → sp vs H Q E →
      ∃ t, PSs (cxOf CX P w K mg base N qual scope f cdv A outer s H E) body t ∧ t { nx := fun _ H' => Q .non H', rt := Q } (start N vs) H) :
    FnOk P w K mg base CX (k + 1) f (PySem.W.fnOf name qual params body scope dV kV doc pm an cdv ct) ps sp := by
  refine ⟨len, fun A outer s H args us vs Q E hr e0 hb r hsp => ?_⟩
  have hl := len _ _ _ _ hsp
  have KX : K.In s.heap := e0.mod.kin.keeps fun b o e => (e0.bs b o e).1
  have lim : s.heap.NoLimit := e0.mod.nolimit.keeps fun b o e => (e0.bs b o e).1
  have hkind : ∀ y ∈ ps.zip us, scope.names.lookup y.1 = some .local ∨ (scope.names.lookup y.1 = some .cell ∧ ((cellsFrom (s.heap.objs.size + 1) scope.names []).lookup y.1).isSome = true) := fun ⟨n, v⟩ hy => by
    rcases S.par n (List.of_mem_zip hy).1 with q | q
    · exact .inl q
    · exact .inr ⟨q, PySem.W.cellsFrom_some _ _ _ (.inl q)⟩
  refine codeAny_call_function hr.depth (KX _ _ lk) rfl S.co S.gen rfl (PySem.W.codeRec_of KX hcd) (hb _ _ _ _ ?_)
  refine wpAny_newFunctionEnv_cells S.kind hkind fun env he s1 x => ?_
  subst he
  refine ⟨lim.keeps x.toInCall.keep, codeAny_func ?_⟩
  obtain ⟨t, ht, hq⟩ := hbody A outer s H vs Q E (hr.deeper _) hsp
  have I : Inv (cxOf CX P w K mg base N qual scope f cdv A outer s H E) [] (start N vs) H s1 := inv_start S hr.hd e0 hl r x
  refine wpAny_mono (ht [] s1 (start N vs) H _ I hq) (fun fl s' hs => ?_) fun e s' hs => hs
  have fin : ∀ {σ' : St} {H' : Hp} {v : V} {u : Value}, Inv (cxOf CX P w K mg base N qual scope f cdv A outer s H E) [] σ' H' s' → RelV v u → Q v H' → CE outer P w H s Q u s' :=
    fun {σ' H' v u} J rv q => ⟨v, H', J.os, J.bare, J.base, J.hok, rv, q⟩
  cases fl with
  | ret u =>
    obtain ⟨v, σ', H', J, rv, q⟩ := hs
    exact fin J rv q
  | next =>
    obtain ⟨σ', H', J, q⟩ := hs
    exact fin (v := V.non) (u := Value.none) J rfl q
  | brk =>
    obtain ⟨_, _, _, q⟩ := hs
    exact False.elim q
  | cont =>
    obtain ⟨_, _, _, q⟩ := hs
    exact False.elim q
end L2

namespace L2
open PySem PySem.Spec PyProof.Rows
section
variable {X : Cx} {x : Str} {p pos : Pos} {e : Expr} {es : List Expr} {t : TA} {id T : String} {r : List V → Hp → VK → Prop}

def tCB (r : List V → Hp → VK → Prop) (t : TA) : TE := fun σ H Q => t σ H fun vs H1 => r vs H1 Q
theorem pe_callB (hc : CallR X (.builtin id) r) (hg : Gl X x) (hm : X.mg x = none) (hv : bootBuiltins x = some (.builtin id)) (ha : PA X (e :: es) t) (hn : x ≠ "__name__" := by decide) (hdb : (x == ("__debug__" : Str)) = false := by decide)
    (he : starEach (e :: es) X.env = (false, eval e X.env) :: starEach es X.env := by rfl) (hpl : (backTo pos (starEach es X.env)).any (·.1) = false := by rfl) : PE X (.Call (.Name x p) (e :: es) [] pos) (tCB r t) := by
  intro pins s σ H Q I h
  refine wpAny_Call_Name_kw (ld_blt I hg hm hv ?_ hn hdb)
  exact PyProof.Rows.callWith_builtin1 (thn (ha pos pins s σ H _ I h) fun us s1 ⟨vs, H1, I1, r1, q1⟩ => hc pins s1 σ H1 vs us Q I1 r1 q1) he hpl
theorem pe_callTy (hc : CallR X (.type T) r) (hg : Gl X x) (hm : X.mg x = none) (hv : bootBuiltins x = some (.type T)) (ha : PA X (e :: es) t) (hn : x ≠ "__name__" := by decide) (hdb : (x == ("__debug__" : Str)) = false := by decide)
    (he : starEach (e :: es) X.env = (false, eval e X.env) :: starEach es X.env := by rfl) (hpl : (backTo pos (starEach es X.env)).any (·.1) = false := by rfl) : PE X (.Call (.Name x p) (e :: es) [] pos) (tCB r t) := by
  intro pins s σ H Q I h
  refine wpAny_Call_Name_kw (ld_blt I hg hm hv ?_ hn hdb)
  exact PyProof.Rows.callWith_type1 (thn (ha pos pins s σ H _ I h) fun us s1 ⟨vs, H1, I1, r1, q1⟩ => hc pins s1 σ H1 vs us Q I1 r1 q1) he hpl
end
end L2

namespace HT
open PySem PyProof.Rows

def lexLt : List Int → List Int → Bool
  | [], [] => false
  | [], _ :: _ => true
  | _ :: _, [] => false
  | x :: xs, y :: ys => if x = y then lexLt xs ys else decide (x < y)
theorem lexLt_cons (x y : Int) (xs ys : List Int) : lexLt (x :: xs) (y :: ys) = if x = y then lexLt xs ys else decide (x < y) := rfl
theorem lexLt_nil_nil : lexLt [] [] = false := rfl
section
open PySem.SeqAt
open PySem.AutoSeq1 (wpAny_loadPart')
open PySem.MeetsSeq PySem.MeetsSeq2 PySem.MeetsSeq3

end

section
variable {prog : Program} {w : World} {A : Around} {E : Value → Shared → Prop} {s : Shared}

def sIx (n d : Nat) : Option Int → Nat
  | none => d
  | some v => if v < 0 then (v + (n : Int)).toNat else min v.toNat n
theorem sIx_none (n d : Nat) : sIx n d none = d := rfl
theorem sIx_nat (n d k : Nat) : sIx n d (some (k : Int)) = min k n := by
  show (if (k : Int) < 0 then ((k : Int) + (n : Int)).toNat else min (k : Int).toNat n) = min k n
  rw [if_neg (by omega), Int.toNat_natCast]
theorem sIx_le (n d : Nat) (hd : d ≤ n) (o : Option Int) : sIx n d o ≤ n := by
  cases o with
  | none => exact hd
  | some v =>
    show (if v < 0 then (v + (n : Int)).toNat else min v.toNat n) ≤ n
    by_cases hv : v < 0
    · rw [if_pos hv]; omega
    · rw [if_neg hv]; exact Nat.min_le_right _ _
theorem clip_eq (v : Int) (n d : Nat) : (if v < 0 then max (v + (n : Int)) 0 else min v (n : Int)) = ((sIx n d (some v) : Nat) : Int) := by
  show (if v < 0 then max (v + (n : Int)) 0 else min v (n : Int)) = (((if v < 0 then (v + (n : Int)).toNat else min v.toNat n) : Nat) : Int)
  by_cases hv : v < 0
  · simp only [if_pos hv]; omega
  · simp only [if_neg hv]; omega
theorem adjust_gen (lo hi : Option Int) (n : Nat) : Builtin.Slice.sliceAdjust lo hi 1 (n : Int) = (((sIx n 0 lo : Nat) : Int), ((sIx n n hi : Nat) : Int)) := by
  have h1 : ¬ ((1 : Int) < 0) := by omega
  unfold Builtin.Slice.sliceAdjust
  simp only [h1, if_false]
  refine Prod.ext ?_ ?_
  · cases lo with
    | none => rfl
    | some v => exact clip_eq v n 0
  · cases hi with
    | none => rfl
    | some v => exact clip_eq v n n
theorem places_gen (i j : Nat) : Builtin.Slice.slicePlaces (i : Int) (j : Int) 1 = j - i := by
  unfold Builtin.Slice.slicePlaces
  have h1 : (1 : Int) > 0 := by omega
  simp only [h1, if_true, Int.ediv_one]
  split <;> omega
theorem slicePart_ {v : Value} {o : Option Int} {Q : Option Int → Shared → Prop} (p : IsPart v o) (h : Q o s) : wpAny (model prog w) A (Builtin.Slice.slicePartIndex v) Q E s := by
  cases p with
  | none => exact slicePart_none h
  | int i t => exact slicePart_int h
theorem sliceApplied_gen {sl : Addr} {vl vu : Value} {lo hi : Option Int} {n : Nat} {Q : Int × Int × Nat → Shared → Prop} (hs : s.heap.IsSliceOf sl vl vu .none) (pl : IsPart vl lo) (pu : IsPart vu hi)
    (h : Q (((sIx n 0 lo : Nat) : Int), 1, sIx n n hi - sIx n 0 lo) s) : wpAny (model prog w) A (Builtin.Slice.sliceApplied (.ref sl) (pure (n : Int))) Q E s := by
  obtain ⟨os, hos, hcs, hds⟩ := id hs
  unfold Builtin.Slice.sliceApplied Builtin.Slice.sliceFields
  refine wpAny_bind (wpAny_bind (wpAny_field hos hds (x := vl) rfl (wpAny_bind (wpAny_field hos hds (x := vu) rfl (wpAny_bind (wpAny_field hos hds (x := .none) rfl (wpAny_pure ?_)))))))
  refine wpAny_bind (slicePart_none ?_)
  show wpAny _ _ (if ((1 : Int) == 0) = true then _ else _) _ _ s
  rw [if_neg (by decide)]
  refine wpAny_bind (slicePart_ pl (wpAny_bind (slicePart_ pu (wpAny_bind (wpAny_pure ?_)))))
  show wpAny _ _ (match Builtin.Slice.sliceAdjust lo hi 1 (n : Int) with | (lo, hi) => pure (lo, (1 : Int), Builtin.Slice.slicePlaces lo hi 1)) _ _ s
  rw [adjust_gen lo hi n]
  show wpAny _ _ (pure (((sIx n 0 lo : Nat) : Int), (1 : Int), Builtin.Slice.slicePlaces ((sIx n 0 lo : Nat) : Int) ((sIx n n hi : Nat) : Int) 1)) _ _ s
  rw [places_gen]
  exact wpAny_pure h
theorem pick_gen (xs : Array Value) (i k : Nat) : ((List.range k).filterMap fun (m : Nat) => xs[((i : Int) + (m : Int) * 1).toNat]?).toArray = ((xs.toList.drop i).take k).toArray := by
  have e : (fun (m : Nat) => xs[((i : Int) + (m : Int) * 1).toNat]?) = fun m => xs[i + m]? := by
    funext m
    have : ((i : Int) + (m : Int) * 1).toNat = i + m := by omega
    rw [this]
  rw [e]
  have := pick_run xs i k
  rw [List.filterMap_map] at this
  have e2 : ((fun x => xs[x]?) ∘ fun x => i + x) = fun m => xs[i + m]? := rfl
  rw [e2] at this
  rw [this]

theorem getItem_tuple_cut {t sl : Addr} {items : Array Value} {vl vu : Value} {lo hi : Option Int} {Q : Value → Shared → Prop} (ht : IsTup s.heap t items) (hs : s.heap.IsSliceOf sl vl vu .none) (pl : IsPart vl lo) (pu : IsPart vu hi)
    (hw : ¬ (sIx items.size 0 lo = 0 ∧ sIx items.size items.size hi = items.size))
    (h : Q (.ref s.heap.objs.size) { s with heap := s.heap.push { cls := .type "tuple", data := .seq ((items.toList.drop (sIx items.size 0 lo)).take (sIx items.size items.size hi - sIx items.size 0 lo)).toArray } })
    (hsz : items.size ≤ sizeLine) : wpAny (model prog w) A (getItem (.ref t) (.ref sl)) Q E s := by
  have htake : sizeOk (.seq ((items.toList.drop (sIx items.size 0 lo)).take (sIx items.size items.size hi - sIx items.size 0 lo)).toArray) := by
    show ((items.toList.drop (sIx items.size 0 lo)).take (sIx items.size items.size hi - sIx items.size 0 lo)).toArray.size ≤ sizeLine
    rw [List.size_toArray, List.length_take, List.length_drop, Array.length_toList]
    omega
  have hj : sIx items.size items.size hi ≤ items.size := sIx_le _ _ (Nat.le_refl _) hi
  obtain ⟨os, hos, hcs, hds⟩ := id hs
  have hTs : s.TypeIs (.ref sl) "slice" := ⟨os, hos, hcs⟩
  unfold getItem
  try with_reducible refine wpAny_holding ?_
  first | refine wpAny_bind (wpAny_pure ?_) | skip
  refine wpAny_bind (wpAny_sequenceKey ht.typeIs (by decide) ?_)
  refine wpAny_bind (wpAny_callSpecial?_slot (name := Str.ofString "__getitem__") ht.typeIs PyProof.Rows.slot_tuple_getitem
    (wpAny_call_entry PyProof.Rows.slot_tuple_getitem ht.typeIs entry_tuple_getitem ?_ (args_tuple_getitem _ _)))
  show wpAny _ _ (Builtin.Tuple.tupleItemsOf (.ref t) >>= _) _ _ s
  refine wpAny_bind (tupleItemsOf_ ht ?_)
  refine wpAny_bind (wpAny_typeOf hTs ?_)
  rw [if_pos (by decide)]
  refine wpAny_bind (sliceApplied_gen hs pl pu ?_)
  have hno : ¬ ((((sIx items.size 0 lo : Nat) : Int) == 0 && (1 : Int) == 1 && (sIx items.size items.size hi - sIx items.size 0 lo) == items.size) = true) := by
    intro q
    rw [Bool.and_eq_true, Bool.and_eq_true] at q
    have q1 : ((sIx items.size 0 lo : Nat) : Int) = 0 := eq_of_beq q.1.1
    have q2 : sIx items.size items.size hi - sIx items.size 0 lo = items.size := eq_of_beq q.2
    exact hw ⟨by omega, by omega⟩
  show wpAny _ _ (if (((sIx items.size 0 lo : Nat) : Int) == 0 && (1 : Int) == 1 && (sIx items.size items.size hi - sIx items.size 0 lo) == items.size) = true then _ else _) _ _ s
  rw [if_neg hno, pick_gen]
  first
    | exact wpAny_bind (m := Builtin.Tuple.tupleExact _) (wpAny_newObj_type (wpAny_pure ⟨_, rfl, wpAny_pure h⟩) htake)
    | exact wpAny_bind (m := Builtin.Tuple.tupleExact _) (wpAny_newObj_type (wpAny_bind (wpAny_pure (wpAny_pure ⟨_, rfl, wpAny_pure h⟩))) htake)
    | exact wpAny_bind (wpAny_bind (m := Builtin.Tuple.tupleExact _) (wpAny_newObj_type (wpAny_pure (wpAny_pure ⟨_, rfl, wpAny_pure h⟩)) htake))
    | exact wpAny_bind (wpAny_bind (m := Builtin.Tuple.tupleExact _) (wpAny_newObj_type (wpAny_pure ⟨_, rfl, wpAny_pure h⟩) htake))
end
end HT

namespace L2
open PySem PySem.Spec PyProof.Rows

abbrev TO := St → Hp → (Option Int → Hp → Prop) → Prop
def PO (X : Cx) (e : Option Expr) (t : TO) : Prop :=
  ∀ (pins : List (Addr × Obj)) (s : Shared) (σ : St) (H : Hp) (Q : Option Int → Hp → Prop), Inv X pins σ H s → t σ H Q →
    wpAny (model X.prog X.w) X.A (evalPart e X.env) (fun u s' => ∃ o H', Inv X pins σ H' s' ∧ IsPart u o ∧ Q o H') X.xe s
def tNoPart : TO := fun _ H Q => Q none H
def tPart (t : TE) : TO := fun σ H Q => t σ H fun x H1 => ∃ i, x = .int i ∧ Q (some i) H1

section
variable {X : Cx} {e : Expr} {te : TE} {lo hi : Option Expr} {tl th : TO} {pos p2 : Pos}

theorem po_none : PO X none tNoPart := by
  intro pins s σ H Q I h
  rw [evalPart_none]
  exact wpAny_pure ⟨none, H, I, .none, h⟩
theorem po_some (h : PE X e te) : PO X (some e) (tPart te) := by
  intro pins s σ H Q I hw
  rw [evalPart_some]
  refine thn (h pins s σ H _ I hw) fun u s1 ⟨x, H1, I1, r1, q1⟩ => ?_
  obtain ⟨i, rfl, q⟩ := q1
  obtain ⟨t, rfl⟩ := r1
  exact ⟨some i, H1, I1, .int i t, q⟩

def SlR (X : Cx) (r : V → Option Int → Option Int → Hp → VK → Prop) : Prop :=
  ∀ (pins : List (Addr × Obj)) (s : Shared) (σ : St) (H : Hp) (x : V) (v vl vu : Value) (lo hi : Option Int) (sl : Addr) (Q : VK), Inv X pins σ H s → RelV x v → s.heap.IsSliceOf sl vl vu .none → IsPart vl lo → IsPart vu hi → r x lo hi H Q →
    ∃ T id, typeLookup (.type T) "__getitem__" = pure (some (.builtin id)) ∧ s.TypeIs v T ∧ wpAny (model X.prog X.w) X.A (getItem v (.ref sl)) (EP X pins σ Q) X.xe s
theorem SlR.or {r r' : V → Option Int → Option Int → Hp → VK → Prop} (h : SlR X r) (h' : SlR X r') : SlR X (fun x lo hi H Q => r x lo hi H Q ∨ r' x lo hi H Q) := by
  intro pins s σ H x v vl vu lo hi sl Q I rx hs pl pu q
  rcases q with q | q
  · exact h pins s σ H x v vl vu lo hi sl Q I rx hs pl pu q
  · exact h' pins s σ H x v vl vu lo hi sl Q I rx hs pl pu q
def tSl (r : V → Option Int → Option Int → Hp → VK → Prop) (te : TE) (tl th : TO) : TE := fun σ H Q => te σ H fun x H1 => tl σ H1 fun l H2 => th σ H2 fun u H3 => r x l u H3 Q
theorem pe_slice {r : V → Option Int → Option Int → Hp → VK → Prop} (hr : SlR X r) (he : PE X e te) (hl : PO X lo tl) (hu : PO X hi th) : PE X (.Subscript e (.Slice lo hi none p2) pos) (tSl r te tl th) := by
  intro pins s σ H Q I h
  refine Subscript_ (thn (he pins s σ H _ I h) fun v s1 ⟨x, H1, I1, r1, q1⟩ => ?_)
  refine wpAny_Slice (thn (hl pins s1 σ H1 _ I1 q1) fun vl s2 ⟨l, H2, I2, pl, q2⟩ => thn (hu pins s2 σ H2 _ I2 q2) fun vu s3 ⟨u, H3, I3, pu, q3⟩ => ?_)
  rw [evalPart_none]
  refine wpAny_pure ?_
  have I4 : Inv X pins σ H3 { s3 with heap := s3.heap.push { cls := .type "slice", data := .fields #[vl, vu, .none] } } := I3.kept (t' := s3.toks) fun b ob q => Heap.get?_push_of_some _ q
  obtain ⟨T, id, hT, ht, hg⟩ := hr pins { s3 with heap := s3.heap.push { cls := .type "slice", data := .fields #[vl, vu, .none] } } σ H3 x v vl vu l u s3.heap.objs.size Q I4 r1 (Heap.IsSliceOf.new ..) pl pu q3
  show wpAny (model X.prog X.w) X.A (subscriptTail e (.Slice lo hi none p2) v (.ref s3.heap.objs.size)) (EP X pins σ Q) X.xe { s3 with heap := s3.heap.push { cls := .type "slice", data := .fields #[vl, vu, .none] } }
  exact tail_any (ops := [.ref s3.heap.objs.size, v]) ht hT hg (by with_unfolding_all rfl)

def cutV (xs : List V) (lo hi : Option Int) : List V := (xs.drop (HT.sIx xs.length 0 lo)).take (HT.sIx xs.length xs.length hi - HT.sIx xs.length 0 lo)
theorem cutV_length (xs : List V) (lo hi : Option Int) : (cutV xs lo hi).length ≤ xs.length := by
  unfold cutV
  rw [List.length_take, List.length_drop]
  omega
def rSlT (K : PySem.W.Frag) : V → Option Int → Option Int → Hp → VK → Prop := fun x lo hi H Q => ∃ a xs, x = .ref a ∧ SqT K H a xs ∧
  ¬ (HT.sIx xs.length 0 lo = 0 ∧ HT.sIx xs.length xs.length hi = xs.length) ∧ ∀ p, H p = none → Q (.ref p) (upd H p (.tup (cutV xs lo hi)))
theorem sl_tup : SlR X (rSlT X.K) := by
  intro pins s σ H x v vl vu lo hi sl Q I rx hs pl pu h
  obtain ⟨a, xs, rfl, hx, hw, q⟩ := h
  cases rx
  obtain ⟨its, r, ht, hz⟩ := I.tuple hx
  have hlen : its.toArray.size = xs.length := by rw [List.size_toArray]; exact r.length.symm
  refine ⟨"tuple", _, PyProof.Rows.slot_tuple_getitem.lookup, ht.typeIs, ?_⟩
  refine HT.getItem_tuple_cut ht hs pl pu (by rw [hlen]; exact hw) ?_ (by rw [hlen]; exact hz)
  rw [hlen]
  refine ⟨.ref s.heap.objs.size, _, I.laid (t' := s.toks) (o := .tup (cutV xs lo hi)) (fun b ob q => Heap.get?_push_of_some _ q) (Nat.le_refl _) ?_, rfl, q _ (I.hok.fresh (Nat.le_refl _))⟩
  exact ⟨Nat.le_trans (cutV_length xs lo hi) hz, _, (r.drop (HT.sIx xs.length 0 lo)).take (HT.sIx xs.length xs.length hi - HT.sIx xs.length 0 lo), IsTup.new _ _⟩

end
end L2

namespace L2
open PySem PySem.Spec PyProof.Rows

def ixN (n : Nat) (i : Int) : Option Nat := if 0 ≤ i then (if i < n then some i.toNat else none) else if -(n : Int) ≤ i then some (i + n).toNat else none
def atI {α : Type} (xs : List α) (i : Int) : Option α := (ixN xs.length i).bind fun j => xs[j]?
theorem ixN_seq {n : Nat} {i : Int} {j : Nat} (h : ixN n i = some j) : seqIndex? i n = some j ∧ j < n ∧ -(n : Int) ≤ i ∧ i < n := by
  unfold ixN at h
  by_cases h0 : 0 ≤ i
  · rw [if_pos h0] at h
    by_cases h1 : i < n
    · rw [if_pos h1] at h
      have e : i.toNat = j := Option.some.inj h
      exact ⟨by rw [seqIndex_of h0 h1, e], by omega, by omega, h1⟩
    · rw [if_neg h1] at h; cases h
  · rw [if_neg h0] at h
    by_cases h1 : -(n : Int) ≤ i
    · rw [if_pos h1] at h
      have e : (i + n).toNat = j := Option.some.inj h
      exact ⟨by rw [seqIndex_neg (by omega) h1, e], by omega, h1, by omega⟩
    · rw [if_neg h1] at h; cases h
theorem atI_get {α : Type} {xs : List α} {i : Int} {v : α} (h : atI xs i = some v) : ∃ j, seqIndex? i xs.length = some j ∧ xs[j]? = some v ∧ j < xs.length ∧ -(xs.length : Int) ≤ i ∧ i < xs.length := by
  unfold atI at h
  cases e : ixN xs.length i with
  | none => rw [e] at h; cases h
  | some j =>
    rw [e] at h
    obtain ⟨h1, h2, h3, h4⟩ := ixN_seq e
    exact ⟨j, h1, h, h2, h3, h4⟩
theorem atI_nat {α : Type} {xs : List α} {j : Nat} {v : α} (h : xs[j]? = some v) : atI xs (j : Int) = some v := by
  have hj : j < xs.length := (List.getElem?_eq_some_iff.mp h).1
  have e : ixN xs.length (j : Int) = some j := by
    unfold ixN
    rw [if_pos (by omega), if_pos (by omega)]; simp
  unfold atI; rw [e]; exact h
def PlainIx (b : Expr) : Prop := ∀ o i, subscripted b false o i = operate [o, i] (getItem o i)
def IxR (X : Cx) (r : R2) : Prop :=
  ∀ (value slice : Expr) (pins : List (Addr × Obj)) (s : Shared) (σ : St) (H : Hp) (x y : V) (v u : Value) (Q : VK), Inv X pins σ H s → RelV x v → RelV y u → r x y H Q →
    subscripted slice false v u = operate [v, u] (getItem v u) → wpAny (model X.prog X.w) X.A (subscriptTail value slice v u) (EP X pins σ Q) X.xe s
def MtR (X : Cx) (id : String) (r : V → List V → Hp → VK → Prop) : Prop :=
  ∀ (pins : List (Addr × Obj)) (s : Shared) (σ : St) (H : Hp) (x : V) (xs : List V) (v : Value) (us : List Value) (Q : VK), Inv X pins σ H s → RelV x v → Vals xs us → r x xs H Q →
    wpAny (model X.prog X.w) X.A (call (.builtin id) (v :: us)) (EP X pins σ Q) X.xe s
section
variable {X : Cx} {a b : Expr} {ta tb : TE} {pos : Pos}
theorem IxR.or {r r' : R2} (h : IxR X r) (h' : IxR X r') : IxR X (fun x y H Q => r x y H Q ∨ r' x y H Q) := by
  intro value slice pins s σ H x y v u Q I rx ry q hs
  rcases q with q | q
  · exact h value slice pins s σ H x y v u Q I rx ry q hs
  · exact h' value slice pins s σ H x y v u Q I rx ry q hs
theorem MtR.or {id : String} {r r' : V → List V → Hp → VK → Prop} (h : MtR X id r) (h' : MtR X id r') : MtR X id (fun x xs H Q => r x xs H Q ∨ r' x xs H Q) := by
  intro pins s σ H x xs v us Q I rx rs q
  rcases q with q | q
  · exact h pins s σ H x xs v us Q I rx rs q
  · exact h' pins s σ H x xs v us Q I rx rs q
theorem pe_ix {r : R2} (hr : IxR X r) (ha : PE X a ta) (hb : PE X b tb) (hs : PlainIx b) : PE X (.Subscript a b pos) (tOp r ta tb) := by
  intro pins s σ H Q I h
  exact Subscript_ (binT ha hb I h fun v u s2 x y H2 I2 rx ry q => hr a b pins s2 σ H2 x y v u Q I2 rx ry q (hs _ _))

def rIxL (K : PySem.W.Frag) : R2 := fun x y H Q => ∃ p xs i v, x = .ref p ∧ y = .int i ∧ SqL K H p xs ∧ atI xs i = some v ∧ Q v H
def rIxT (K : PySem.W.Frag) : R2 := fun x y H Q => ∃ p xs i v, x = .ref p ∧ y = .int i ∧ SqT K H p xs ∧ atI xs i = some v ∧ Q v H
def rIxS : R2 := fun x y H Q => ∃ z i c, x = .str z ∧ y = .int i ∧ z.length ≤ sizeLine ∧ atI z.cps.toList i = some c ∧ Q (.str ⟨#[c]⟩) H
theorem ix_list : IxR X (rIxL X.K) := by
  intro value slice pins s σ H x y v u Q I rx ry h hs
  obtain ⟨p, xs, i, z, rfl, rfl, hq, he, q⟩ := h
  cases rx
  obtain ⟨t, rfl⟩ := ry
  obtain ⟨its, r, pl, hz⟩ := I.list hq
  obtain ⟨j, h1, h2, h3, h4, h5⟩ := atI_get he
  obtain ⟨w, ew, rw'⟩ := r.get h2
  have hl := r.length
  have hn := line63
  have fin : EP X pins σ Q w s := ⟨z, H, I, rw', q⟩
  by_cases h0 : 0 ≤ i
  · have hj : i.toNat = j := by
      rw [seqIndex_of h0 h5] at h1
      exact Option.some.inj h1
    exact item_listR pl.isList h0 (by omega) (by rw [hj]; simpa using ew) fin hs
  · have hj : (i + (its.toArray.size : Int)).toNat = j := by
      rw [seqIndex_neg (by omega) h4] at h1
      rw [List.size_toArray, ← hl]
      exact Option.some.inj h1
    exact subscriptTail_builtinR (x := w) pl.isList.typeIs slot_list_getitem.lookup
      (wpAny_getItem_list_neg (Q := fun r s' => r = w ∧ EP X pins σ Q r s') pl.isList (by omega) (by rw [List.size_toArray] <;> omega) (by omega) (by rw [hj]; simpa using ew) ⟨rfl, fin⟩) hs
theorem ix_tup : IxR X (rIxT X.K) := by
  intro value slice pins s σ H x y v u Q I rx ry h hs
  obtain ⟨p, xs, i, z, rfl, rfl, hq, he, q⟩ := h
  cases rx
  obtain ⟨t, rfl⟩ := ry
  obtain ⟨its, r, pl, hz⟩ := I.tuple hq
  obtain ⟨j, h1, h2, h3, h4, h5⟩ := atI_get he
  obtain ⟨w, ew, rw'⟩ := r.get h2
  have hl := r.length
  have hn := line63
  have fin : EP X pins σ Q w s := ⟨z, H, I, rw', q⟩
  exact subscriptTail_builtinR (x := w) pl.typeIs slot_tuple_getitem.lookup
    (getItem_tuple (j := j) (Q := fun r s' => r = w ∧ EP X pins σ Q r s') pl (by omega) (by omega) (by rw [List.size_toArray, ← hl]; exact h1) (by simpa using ew) ⟨rfl, fin⟩) hs
theorem ix_str : IxR X rIxS := by
  intro value slice pins s σ H x y v u Q I rx ry h hs
  obtain ⟨z, i, c, rfl, rfl, hz, he, q⟩ := h
  obtain ⟨t, rfl⟩ := rx
  obtain ⟨t', rfl⟩ := ry
  obtain ⟨j, h1, h2, h3, h4, h5⟩ := atI_get he
  have hl : z.cps.toList.length = z.length := by simp [Str.length]
  rw [hl] at h1 h4 h5
  have hn := line63
  exact tail_any (typeIs_str s z t) slot_str_getitem.lookup (getItem_str (c := c) (by
    have e1 : decide (i < -(2 ^ 63 : Int)) = false := decide_eq_false (by omega)
    have e2 : decide (i ≥ 2 ^ 63) = false := decide_eq_false (by omega)
    rw [e1, e2, Bool.or_false]) (by rw [h1]; simpa using h2) ⟨.str ⟨#[c]⟩, H, I.tok _, ⟨_, rfl⟩, q⟩) hs
theorem mapSeq_set (its : List Value) (n j : Nat) (u : Value) : Obj.mapSeq (·.setIfInBounds j u) { cls := .type "list", data := .seq its.toArray n } = { cls := .type "list", data := .seq (its.set j u).toArray n } := by
  simp [Obj.mapSeq]
theorem Inv.lst {pins : List (Addr × Obj)} {σ : St} {H : Hp} {s : Shared} {p : Addr} {xs : List V} (I : Inv X pins σ H s) (h : H p = some (.lst xs)) :
    ∃ (its : List Value) (n : Nat), Vals xs its ∧ s.heap.get? p = some { cls := .type "list", data := .seq its.toArray n } ∧ xs.length ≤ sizeLine := by
  obtain ⟨z, its, n, r, e⟩ := I.hok p _ h
  exact ⟨its, n, r, e, z⟩
theorem Inv.lstUpd {pins : List (Addr × Obj)} {σ : St} {H : Hp} {s : Shared} {p : Addr} {xs ys : List V} {its its' : List Value} {n n' : Nat} {f : Obj → Obj} (I : Inv X pins σ H s) (h : H p = some (.lst xs))
    (ho : s.heap.get? p = some { cls := .type "list", data := .seq its.toArray n }) (hf : f { cls := .type "list", data := .seq its.toArray n } = { cls := .type "list", data := .seq its'.toArray n' }) (r : Vals ys its') (hz : ys.length ≤ sizeLine) (t : Nat) :
    Inv X pins σ (upd H p (.lst ys)) { s with heap := s.heap.update p f, toks := t } := by
  have e : (s.heap.update p f).get? p = some { cls := .type "list", data := .seq its'.toArray n' } := by
    rw [Heap.get?_update_self f ho (by rw [hf] <;> rfl), hf]
  refine I.write (x := p) (e := p) (by rw [h]; trivial) (.inl rfl) (fun b u hb q => (Heap.get?_update_other _ _ (Ne.symm hb)).trans q) ⟨_, e⟩ ?_
  exact ⟨hz, its', n', r, e⟩
def rSetL : V → V → V → Hp → (Hp → Prop) → Prop := fun o i v H Q => ∃ p xs k j, o = .ref p ∧ i = .int k ∧ H p = some (.lst xs) ∧ ixN xs.length k = some j ∧ Q (upd H p (.lst (xs.set j v)))
theorem set_list : PSet X rSetL := by
  intro pins s σ H o i v ov iv u Q I ro ri rv h
  obtain ⟨p, xs, k, j, rfl, rfl, hp, hj, q⟩ := h
  cases ro
  obtain ⟨t, rfl⟩ := ri
  obtain ⟨its, n, r, ho, hz⟩ := I.lst hp
  obtain ⟨h1, h2, h3, h4⟩ := ixN_seq hj
  have hl := r.length
  have hn := line63
  have I' : Inv X pins σ (upd H p (.lst (xs.set j v))) { s with heap := s.heap.update p (Obj.mapSeq (·.setIfInBounds j u)) } :=
    I.lstUpd hp ho (mapSeq_set its n j u) (r.set rv j) (by rw [List.length_set]; exact hz) s.toks
  by_cases h0 : 0 ≤ k
  · have hk : k.toNat = j := by
      rw [seqIndex_of h0 h4] at h1
      exact Option.some.inj h1
    exact PySem.W.ki_setAt ho h0 (by omega) (by rw [List.size_toArray, ← hl]; exact h4) (by rw [hk]; exact ⟨_, I', q⟩)
  · have hk : (k + (its.toArray.size : Int)).toNat = j := by
      rw [seqIndex_neg (by omega) h3] at h1
      rw [List.size_toArray, ← hl]
      exact Option.some.inj h1
    exact PySem.W.ki_setBack ho (by omega) (by rw [List.size_toArray, ← hl]; exact h3) (by omega) (by rw [hk]; exact ⟨_, I', q⟩)

theorem slice_bounds (lo hi : Option Int) (n : Nat) : (sliceBounds lo hi none n).1 = ((HT.sIx n 0 lo : Nat) : Int) ∧ (sliceBounds lo hi none n).2.1 = ((HT.sIx n n hi : Nat) : Int) ∧ (sliceBounds lo hi none n).2.2 = 1 := by
  refine ⟨?_, ?_, rfl⟩
  · cases lo with
    | none => simp [sliceBounds, HT.sIx]
    | some i =>
      simp only [sliceBounds, HT.sIx, Option.getD_none, show (1 : Int) > 0 by decide, if_true]
      by_cases h : i < 0
      · simp only [h, if_true] <;> omega
      · simp only [h, if_false] <;> omega
  · cases hi with
    | none => simp [sliceBounds, HT.sIx]
    | some i =>
      simp only [sliceBounds, HT.sIx, Option.getD_none, show (1 : Int) > 0 by decide, if_true]
      by_cases h : i < 0
      · simp only [h, if_true] <;> omega
      · simp only [h, if_false] <;> omega
theorem slicePick_cut (its : List Value) (lo hi : Option Int) : slicePick its.toArray lo hi none = ((its.drop (HT.sIx its.length 0 lo)).take (HT.sIx its.length its.length hi - HT.sIx its.length 0 lo)).toArray := by
  obtain ⟨h1, h2, h3⟩ := slice_bounds lo hi its.toArray.size
  unfold slicePick
  rw [h1, h2, h3]
  simp only [sliceRange_one, pick_run, List.size_toArray] <;> rfl
def rSlL (K : PySem.W.Frag) : V → Option Int → Option Int → Hp → VK → Prop := fun x lo hi H Q => ∃ a xs, x = .ref a ∧ SqL K H a xs ∧ ∀ p, H p = none → Q (.ref p) (upd H p (.lst (cutV xs lo hi)))
theorem sl_list : SlR X (rSlL X.K) := by
  intro pins s σ H x v vl vu lo hi sl Q I rx hs pl pu h
  obtain ⟨a, xs, rfl, hx, q⟩ := h
  cases rx
  obtain ⟨its, r, ht, hz⟩ := I.list hx
  have hlen := r.length
  refine ⟨"list", _, slot_list_getitem.lookup, ht.isList.typeIs, ?_⟩
  refine wpAny_getItem_list_slice ht.isList hs pl pu .none (by simp) ?_ (by rw [List.size_toArray] <;> omega)
  rw [slicePick_cut, ← hlen]
  refine ⟨.ref s.heap.objs.size, _, I.laid (t' := s.toks) (o := .lst (cutV xs lo hi)) (fun b ob q => Heap.get?_push_of_some _ q) (Nat.le_refl _) ?_, rfl, q _ (I.hok.fresh (Nat.le_refl _))⟩
  exact ⟨Nat.le_trans (cutV_length xs lo hi) hz, _, 0, (r.drop (HT.sIx xs.length 0 lo)).take (HT.sIx xs.length xs.length hi - HT.sIx xs.length 0 lo), Heap.get?_push_size _ rfl⟩

def flatV : V → Bool
  | .non => true
  | .bl _ => true
  | .int _ => true
  | .str _ => true
  | _ => false
def eqV : V → V → Bool
  | .non, .non => true
  | .bl a, .bl b => a == b
  | .bl a, .int b => (if a then 1 else 0) == b
  | .int a, .bl b => a == (if b then 1 else 0)
  | .int a, .int b => a == b
  | .str a, .str b => a == b
  | _, _ => false
theorem eqAt_V {A : Around} {s : Shared} {y x : V} {u v : Value} (ry : RelV y u) (rx : RelV x v) (fy : flatV y = true) (fx : flatV x = true) : SeqAt.EqAt A s u v (eqV y x) := by
  cases y with
  | non =>
    cases ry
    cases x with
    | non => cases rx; exact SeqAt.EqAt.same _
    | bl b => cases rx; exact SeqAt.EqAt.none_bool b
    | int b => obtain ⟨t, rfl⟩ := rx; exact SeqAt.EqAt.none_int b t
    | str b => obtain ⟨t, rfl⟩ := rx; exact SeqAt.EqAt.none_str b t
    | _ => exact absurd (show false = true from fx) Bool.false_ne_true
  | bl a =>
    cases ry
    cases x with
    | non => cases rx; exact SeqAt.EqAt.bool_none a
    | bl b => cases rx; exact SeqAt.EqAt.bool_bool a b
    | int b => obtain ⟨t, rfl⟩ := rx; exact SeqAt.EqAt.bool_int a b t
    | str b => obtain ⟨t, rfl⟩ := rx; exact SeqAt.EqAt.bool_str a b t
    | _ => exact absurd (show false = true from fx) Bool.false_ne_true
  | int a =>
    obtain ⟨t', rfl⟩ := ry
    cases x with
    | non => cases rx; exact SeqAt.EqAt.int_none a t'
    | bl b => cases rx; exact SeqAt.EqAt.int_bool a t' b
    | int b => obtain ⟨t, rfl⟩ := rx; exact SeqAt.EqAt.int_int a t' b t
    | str b => obtain ⟨t, rfl⟩ := rx; exact SeqAt.EqAt.int_str a t' b t
    | _ => exact absurd (show false = true from fx) Bool.false_ne_true
  | str a =>
    obtain ⟨t', rfl⟩ := ry
    cases x with
    | non => cases rx; exact SeqAt.EqAt.str_none a t'
    | bl b => cases rx; exact SeqAt.EqAt.str_bool a t' b
    | int b => obtain ⟨t, rfl⟩ := rx; exact SeqAt.EqAt.str_int a t' b t
    | str b => obtain ⟨t, rfl⟩ := rx; exact SeqAt.EqAt.str_str a t' b t
    | _ => exact absurd (show false = true from fx) Bool.false_ne_true
  | _ => exact absurd (show false = true from fy) Bool.false_ne_true
def eqU (x : V) (u : Value) : Bool := match u with
  | .none => eqV .non x
  | .bool b => eqV (.bl b) x
  | .int i _ => eqV (.int i) x
  | .str z _ => eqV (.str z) x
  | _ => false
theorem eqU_of {x y : V} {u : Value} (r : RelV y u) (f : flatV y = true) : eqU x u = eqV y x := by
  cases y with
  | non => cases r; rfl
  | bl b => cases r; rfl
  | int i => obtain ⟨t, rfl⟩ := r; rfl
  | str z => obtain ⟨t, rfl⟩ := r; rfl
  | _ => exact absurd (show false = true from f) Bool.false_ne_true
theorem any_eqU {x : V} : ∀ {xs : List V} {us : List Value}, Vals xs us → xs.all flatV = true → us.any (eqU x) = xs.any fun y => eqV y x
  | _, _, .nil, _ => rfl
  | y :: xs, u :: us, .cons r t, f => by
    rw [List.all_cons, Bool.and_eq_true] at f
    rw [List.any_cons, List.any_cons, eqU_of r f.1, any_eqU t f.2]
theorem mem_eqAt {A : Around} {s : Shared} {x : V} {v : Value} (rx : RelV x v) (fx : flatV x = true) : ∀ {xs : List V} {us : List Value}, Vals xs us → xs.all flatV = true → ∀ u ∈ us, SeqAt.EqAt A s u v (eqU x u)
  | _, _, .nil, _ => fun u hu => by cases hu
  | y :: xs, u :: us, .cons r t, f => fun u' hu => by
    rw [List.all_cons, Bool.and_eq_true] at f
    rcases List.mem_cons.mp hu with rfl | hu
    · rw [eqU_of r f.1]; exact eqAt_V r rx f.1 fx
    · exact mem_eqAt rx fx t f.2 u' hu
def inV (x : V) (xs : List V) : Bool := xs.any fun y => eqV y x
def rIn (K : PySem.W.Frag) (neg : Bool) : R2 := fun x y H Q => ∃ p xs, y = .ref p ∧ (SqL K H p xs ∨ SqT K H p xs) ∧ flatV x = true ∧ xs.all flatV = true ∧ Q (.bl (if neg then !inV x xs else inV x xs)) H
theorem op_in_seq : OpR X (compareOp .In) (rIn X.K false) := by
  intro pins s σ H x y v u Q I rx ry h
  obtain ⟨p, xs, rfl, hq, fx, fs, q⟩ := h
  cases ry
  rcases hq with hq | hq
  · obtain ⟨its, r, pl, hz⟩ := I.list hq
    refine SeqAt.in_listAt (eqU x) pl.isList (fun w hw => mem_eqAt rx fx r fs w (by simpa using hw)) ⟨.bl _, H, I, rfl, ?_⟩
    rw [show its.toArray.any (eqU x) = its.any (eqU x) by simp, any_eqU r fs]
    exact q
  · obtain ⟨its, r, pl, hz⟩ := I.tuple hq
    refine SeqAt.in_tupleAt (eqU x) pl (fun w hw => mem_eqAt rx fx r fs w (by simpa using hw)) ⟨.bl _, H, I, rfl, ?_⟩
    rw [show its.toArray.any (eqU x) = its.any (eqU x) by simp, any_eqU r fs]
    exact q
theorem op_notIn_seq : OpR X (compareOp .NotIn) (rIn X.K true) := by
  intro pins s σ H x y v u Q I rx ry h
  obtain ⟨p, xs, rfl, hq, fx, fs, q⟩ := h
  cases ry
  rcases hq with hq | hq
  · obtain ⟨its, r, pl, hz⟩ := I.list hq
    refine SeqAt.notIn_listAt (eqU x) pl.isList (fun w hw => mem_eqAt rx fx r fs w (by simpa using hw)) ⟨.bl _, H, I, rfl, ?_⟩
    rw [show its.toArray.any (eqU x) = its.any (eqU x) by simp, any_eqU r fs]
    exact q
  · obtain ⟨its, r, pl, hz⟩ := I.tuple hq
    refine SeqAt.notIn_tupleAt (eqU x) pl (fun w hw => mem_eqAt rx fx r fs w (by simpa using hw)) ⟨.bl _, H, I, rfl, ?_⟩
    rw [show its.toArray.any (eqU x) = its.any (eqU x) by simp, any_eqU r fs]
    exact q
theorem call_len_seq : CallR X (.builtin "len") (fun xs H Q => ∃ p ys, xs = [.ref p] ∧ (SqL X.K H p ys ∨ SqT X.K H p ys) ∧ Q (.int ys.length) H) := by
  intro pins s σ H xs us Q I r h
  obtain ⟨p, ys, rfl, hq, q⟩ := h
  obtain ⟨u, rfl, rx⟩ := vals1 r
  cases rx
  have hn := line63
  rcases hq with hq | hq
  · obtain ⟨its, r', pl, hz⟩ := I.list hq
    have hlen := r'.length
    exact Calls.call_len_list pl.isList (by simp only [List.size_toArray] <;> omega) ⟨.int ys.length, H, I.tok _, ⟨s.toks + 1, by rw [List.size_toArray, hlen]⟩, q⟩
  · obtain ⟨its, r', pl, hz⟩ := I.tuple hq
    have hlen := r'.length
    exact len_tuple pl (by simp only [List.size_toArray] <;> omega) ⟨.int ys.length, H, I.tok _, ⟨s.toks + 1, by rw [List.size_toArray, hlen]⟩, q⟩
theorem call_len_str : CallR X (.builtin "len") (fun xs H Q => ∃ z, xs = [.str z] ∧ z.length ≤ sizeLine ∧ Q (.int z.length) H) := by
  intro pins s σ H xs us Q I r h
  obtain ⟨z, rfl, hz, q⟩ := h
  obtain ⟨u, rfl, t, rfl⟩ := vals1 r
  have hn := line63
  exact len_str (by omega) ⟨.int z.length, H, I.tok _, ⟨_, rfl⟩, q⟩
theorem CallR.or {f : Value} {r r' : List V → Hp → VK → Prop} (h : CallR X f r) (h' : CallR X f r') : CallR X f (fun xs H Q => r xs H Q ∨ r' xs H Q) := by
  intro pins s σ H xs us Q I rs q
  rcases q with q | q
  · exact h pins s σ H xs us Q I rs q
  · exact h' pins s σ H xs us Q I rs q
theorem call_tuple_of : CallR X (.type "tuple") (fun xs H Q => ∃ p ys, xs = [.ref p] ∧ ((SqL X.K H p ys ∧ ∀ l, H l = none → Q (.ref l) (upd H l (.tup ys))) ∨ (SqT X.K H p ys ∧ Q (.ref p) H))) := by
  intro pins s σ H xs us Q I r h
  obtain ⟨p, ys, rfl, h⟩ := h
  obtain ⟨u, rfl, rx⟩ := vals1 r
  cases rx
  rcases h with ⟨hq, q⟩ | ⟨hq, q⟩
  · obtain ⟨its, r', pl, hz⟩ := I.list hq
    have hlen := r'.length
    refine call_tuple_list pl.isList (fun h' kp => ?_) (by simp only [List.size_toArray] <;> omega)
    have I1 : Inv X pins σ H { s with heap := h' } := I.kept (t' := s.toks) kp
    have I2 : Inv X pins σ (upd H h'.objs.size (.tup ys)) { s with heap := h'.push { cls := .type "tuple", data := .seq its.toArray } } :=
      I1.laid (t' := s.toks) (fun b o e => Heap.get?_push_of_some _ e) (Nat.le_refl _) (show ObjOk X.prog X.w _ _ _ (.tup ys) from ⟨hz, its, r', IsTup.new _ _⟩)
    exact ⟨.ref h'.objs.size, _, I2, rfl, q _ (I1.hok.fresh (Nat.le_refl _))⟩
  · obtain ⟨its, r', pl, hz⟩ := I.tuple hq
    exact call_tuple_same pl ⟨.ref p, H, I, rfl, q⟩

def tyV (K : PySem.W.Frag) (T : String) (x : V) (H : Hp) : Prop := match x with
  | .str _ => T = "str"
  | .int _ => T = "int"
  | .ref p => (T = "list" ∧ ∃ xs, SqL K H p xs) ∨ (T = "tuple" ∧ ∃ o, K.lookup p = some o ∧ o.cls = .type "tuple" ∧ o.dict = none) ∨
      (T = "dict" ∧ ((∃ kvs, H p = some (.dK kvs)) ∨ ∃ kvs, H p = some (.dT kvs))) ∨ (T = "set" ∧ ∃ S n, H p = some (.set S n))
  | _ => False
theorem tyV_is {pins : List (Addr × Obj)} {σ : St} {H : Hp} {s : Shared} {T : String} {x : V} {v : Value} (I : Inv X pins σ H s) (r : RelV x v) (ty : tyV X.K T x H) :
    s.TypeIs v T ∧ ∀ a, v = .ref a → ∃ ob, s.heap.get? a = some ob ∧ ob.dict = none := by
  cases x with
  | str z =>
    obtain ⟨t, rfl⟩ := r
    cases (show T = "str" from ty)
    exact ⟨typeIs_str s z t, fun _ e => nomatch e⟩
  | int i =>
    obtain ⟨t, rfl⟩ := r
    cases (show T = "int" from ty)
    exact ⟨typeIs_int s i t, fun _ e => nomatch e⟩
  | ref p =>
    cases r
    rcases ty with ⟨rfl, xs, hq⟩ | ⟨rfl, o, hk, hc, hd⟩ | ⟨rfl, hk⟩ | ⟨rfl, S, n, hk⟩
    · obtain ⟨its, _, pl, _⟩ := I.list hq
      refine ⟨pl.isList.typeIs, fun a e => ?_⟩
      cases e
      obtain ⟨o, n, e, c, hd, _⟩ := pl
      exact ⟨o, e, hd⟩
    · refine ⟨⟨o, I.kIn p o hk, hc⟩, fun a e => ?_⟩
      cases e
      exact ⟨o, I.kIn _ o hk, hd⟩
    · have z : ∃ o, s.heap.get? p = some o ∧ o.ExactDict := by
        rcases hk with ⟨kvs, hk⟩ | ⟨kvs, hk⟩
        · obtain ⟨_, _, _, _, o, _, _, e, ex, _⟩ := I.hok p _ hk
          exact ⟨o, e, ex⟩
        · obtain ⟨_, _, _, _, o, _, _, e, ex, _⟩ := I.hok p _ hk
          exact ⟨o, e, ex⟩
      obtain ⟨o, e, ex⟩ := z
      refine ⟨⟨o, e, ex.1⟩, fun a e2 => ?_⟩
      cases e2
      exact ⟨o, e, ex.2.1⟩
    · obtain ⟨o, _, _, _, e, ex, _⟩ := I.hok p _ hk
      refine ⟨⟨o, e, ex.1⟩, fun a e2 => ?_⟩
      cases e2
      exact ⟨o, e, ex.2.1⟩
  | _ => exact False.elim ty
def tBM0 (K : PySem.W.Frag) (T : String) (r : V → List V → Hp → VK → Prop) (to : TE) : TE := fun σ H Q => to σ H fun x H1 => tyV K T x H1 ∧ r x [] H1 Q
def tBM (K : PySem.W.Frag) (T : String) (r : V → List V → Hp → VK → Prop) (to : TE) (t : TA) : TE := fun σ H Q => to σ H fun x H1 => tyV K T x H1 ∧ t σ H1 fun xs H2 => r x xs H2 Q
variable {o e : Expr} {es : List Expr} {to : TE} {t : TA} {name : Str} {apos cpos : Pos} {T id : String} {r : V → List V → Hp → VK → Prop}
theorem pe_bm0 (pa : PlainAttrs T) (slot : Slot T name id) (hty : typeOf (.builtin id) = pure (.type "method_descriptor")) (hm : MtR X id r) (ho : PE X o to)
    (hbase : attributeBase o name X.env (eval o X.env) = eval o X.env := by rfl) (hline : (apos.endLine == cpos.line) = true := by rfl) : PE X (.Call (.Attribute o name apos) [] [] cpos) (tBM0 X.K T r to) := by
  intro pins s σ H Q I h
  refine wpAny_Call_method0_late hbase hline (thn (ho pins s σ H _ I h) fun v s1 ⟨x, H1, I1, r1, ty, q1⟩ => ?_)
  obtain ⟨h1, h2⟩ := tyV_is I1 r1 ty
  exact ⟨T, id, pa, slot, hty, h1, h2, Calls.callWith_builtin rfl (PySem.evalArgs_none (hm pins s1 σ H1 x [] v [] Q I1 r1 .nil q1))⟩
theorem pe_bm (pa : PlainAttrs T) (slot : Slot T name id) (hty : typeOf (.builtin id) = pure (.type "method_descriptor")) (hm : MtR X id r) (ho : PE X o to) (ha : PA X (e :: es) t)
    (hbase : attributeBase o name X.env (eval o X.env) = eval o X.env := by rfl)
    (hfew : ((backTo cpos (starEach (e :: es) X.env)).all (fun x => !x.1) && (backToKw cpos (keywordEach [] X.env)).all (fun x => x.1.isSome)
      && decide ((e :: es).length + ([] : List Keyword).length + (if ([] : List Keyword).isEmpty then 0 else 1) < 30)) = true := by rfl)
    (hline : (apos.endLine == cpos.line) = true := by rfl) (hs : starEach (e :: es) X.env = (false, eval e X.env) :: starEach es X.env := by rfl) (hplain : (backTo cpos (starEach es X.env)).any (·.1) = false := by rfl) :
    PE X (.Call (.Attribute o name apos) (e :: es) [] cpos) (tBM X.K T r to t) := by
  intro pins s σ H Q I h
  refine wpAny_Call_method_late hbase hfew hline rfl (thn (ho pins s σ H _ I h) fun v s1 ⟨x, H1, I1, r1, ty, q1⟩ => ?_)
  obtain ⟨h1, h2⟩ := tyV_is I1 r1 ty
  refine ⟨T, id, pa, slot, hty, h1, h2, ?_⟩
  have hA := ha cpos pins s1 σ H1 _ I1 q1
  rw [hs] at hA ⊢
  refine Calls.callWith_builtin (by show (false || (backTo cpos (starEach es X.env)).any (·.1)) = false; rw [hplain] <;> rfl) (Calls.evalArgs_plain ?_)
  exact thn hA fun us s2 ⟨vs, H2, I2, r2, q2⟩ => hm pins s2 σ H2 x vs v us Q I2 r1 r2 q2
end
end L2

namespace L2
open PySem PySem.Spec PyProof.Rows

def MtM (X : Cx) (id : String) (r : V → List V → Hp → VK → Prop) : Prop :=
  ∀ (pins : List (Addr × Obj)) (s : Shared) (σ : St) (H : Hp) (x : V) (xs : List V) (v : Value) (us : List Value) (Q : VK), Inv X pins σ H s → RelV x v → Vals xs us → r x xs H Q →
    wpAny (model X.prog X.w) X.A (call (.builtin id) (v :: us)) (EP X pins σ Q) X.xe s

theorem Vals.one : ∀ {x : V} {us : List Value}, Vals [x] us → ∃ u, us = [u] ∧ RelV x u
  | _, _, .cons r .nil => ⟨_, rfl, r⟩
theorem Vals.two : ∀ {x y : V} {us : List Value}, Vals [x, y] us → ∃ u v, us = [u, v] ∧ RelV x u ∧ RelV y v
  | _, _, _, .cons r (.cons q .nil) => ⟨_, _, rfl, r, q⟩
theorem Vals.zero : ∀ {us : List Value}, Vals [] us → us = []
  | _, .nil => rfl
theorem Vals.reverse {xs : List V} {us : List Value} (h : Vals xs us) : Vals xs.reverse us.reverse := by
  induction h with
  | nil => exact .nil
  | cons r t ih => rw [List.reverse_cons, List.reverse_cons]; exact Vals.append ih (.cons r .nil)
section
variable {X : Cx} {pins : List (Addr × Obj)} {σ : St} {H : Hp} {s : Shared} {l b : Addr} {xs ys zs : List V}

theorem Inv.lset {its its' : List Value} {n : Nat} {f : Array Value → Array Value} {t' : Nat} (I : Inv X pins σ H s) (hH : H l = some (.lst xs))
    (e : s.heap.get? l = some { cls := .type "list", data := .seq its.toArray n }) (hf : f its.toArray = its'.toArray) (hv : Vals ys its') (hz : ys.length ≤ sizeLine) :
    Inv X pins σ (upd H l (.lst ys)) { s with heap := s.heap.update l (Obj.mapSeq f), toks := t' } := by
  have q := PySem.IsL.update e f
  rw [hf] at q
  refine I.write (x := l) (e := l) (by rw [hH]; exact trivial) (.inl rfl) (fun b' u hb hu => (Heap.get?_update_other s.heap (Obj.mapSeq f) (Ne.symm hb)).trans hu) ⟨_, q⟩ ?_
  exact ⟨hz, its', _, hv, q⟩
theorem Inv.lnew {its : List Value} {t' : Nat} (I : Inv X pins σ H s) (hv : Vals ys its) (hz : ys.length ≤ sizeLine) :
    Inv X pins σ (upd H s.heap.objs.size (.lst ys)) { s with heap := s.heap.push { cls := .type "list", data := .seq its.toArray }, toks := t' } :=
  I.laid (fun _ _ q => Heap.get?_push_of_some _ q) (Nat.le_refl _) ⟨hz, its, 0, hv, Heap.get?_push_size _ rfl⟩
theorem Inv.fresh (I : Inv X pins σ H s) : H s.heap.objs.size = none := I.hok.fresh (Nat.le_refl _)
theorem Inv.lstM (I : Inv X pins σ H s) (hH : H l = some (.lst xs)) : xs.length ≤ sizeLine ∧ ∃ (its : List Value) (n : Nat), Vals xs its ∧ xs.length = its.length ∧ s.heap.get? l = some { cls := .type "list", data := .seq its.toArray n } := by
  obtain ⟨z, its, n, r, e⟩ := I.hok l _ hH
  exact ⟨z, its, n, r, r.length, e⟩

end

section
variable {X : Cx}

def rAppend : V → List V → Hp → VK → Prop := fun x vs H Q => ∃ l xs y, x = .ref l ∧ vs = [y] ∧ H l = some (.lst xs) ∧ xs.length < sizeLine ∧ Q .non (upd H l (.lst (xs ++ [y])))
theorem mt_append : MtM X "list.append" rAppend := by
  intro pins s σ H x vs v us Q I rx rv h
  obtain ⟨l, xs, y, rfl, rfl, hH, hz, q⟩ := h
  cases rx
  obtain ⟨u, rfl, ru⟩ := rv.one
  obtain ⟨z, its, n, r, hl, e⟩ := I.lstM hH
  refine call_meets F.slot_list_append ⟨_, e, rfl⟩ F.entry_list_append (F.args_list_append_2 _ _) (PySem.list_append l its.toArray n u (by rw [List.size_toArray]; omega)) ⟨e, ?_⟩
  refine ⟨.non, _, I.lset (its' := its ++ [u]) hH e (by simp) (r.append (.cons ru .nil)) ?_, rfl, q⟩
  rw [List.length_append, List.length_singleton]
  omega

def rReverse : V → List V → Hp → VK → Prop := fun x vs H Q => ∃ l xs, x = .ref l ∧ vs = [] ∧ H l = some (.lst xs) ∧ Q .non (upd H l (.lst xs.reverse))
theorem mt_reverse : MtM X "list.reverse" rReverse := by
  intro pins s σ H x vs v us Q I rx rv h
  obtain ⟨l, xs, rfl, rfl, hH, q⟩ := h
  cases rx
  have hus := rv.zero
  subst hus
  obtain ⟨z, its, n, r, hl, e⟩ := I.lstM hH
  refine call_meets F.slot_list_reverse ⟨_, e, rfl⟩ F.entry_list_reverse (F.args_list_reverse_1 _) (AutoSeq1.list_reverse_list_0 l its.toArray n (by rw [List.size_toArray]; omega)) ⟨e, ?_⟩
  refine ⟨.non, _, I.lset (its' := its.reverse) hH e (by simp) r.reverse ?_, rfl, q⟩
  rw [List.length_reverse]
  omega

def rCat : R2 := fun x y H Q => ∃ l b xs zs, x = .ref l ∧ y = .ref b ∧ H l = some (.lst xs) ∧ H b = some (.lst zs) ∧ xs.length + zs.length ≤ sizeLine ∧ ∀ p, H p = none → Q (.ref p) (upd H p (.lst (xs ++ zs)))
theorem op_cat : OpR X (binaryOp .Add) rCat := by
  intro pins s σ H x y v u Q I rx ry h
  obtain ⟨l, b, xs, zs, rfl, rfl, hH, hB, hz, q⟩ := h
  cases rx
  cases ry
  obtain ⟨z, its, n, r, hl, e⟩ := I.lstM hH
  obtain ⟨z2, its2, n2, r2, hl2, e2⟩ := I.lstM hB
  refine PySem.P.add_list e e2 ?_ (by rw [List.size_toArray, List.size_toArray]; omega)
  have ea : its.toArray ++ its2.toArray = (its ++ its2).toArray := by simp
  rw [ea]
  exact ⟨.ref _, _, I.lnew (t' := s.toks) (r.append r2) (by rw [List.length_append]; omega), rfl, q _ I.fresh⟩
end

section
variable {prog : Program} {w : World} {A : Around} {E : Value → Shared → Prop} {s : Shared}
end

section
variable {X : Cx}
end
end L2

namespace L2
open PySem PySem.Spec PyProof.Rows

section
variable {κ : Type} [DecidableEq κ]
def valV (kvs : List (κ × V)) (k : κ) : Option V := (kvs.find? fun kv => decide (kv.1 = k)).map (·.2)
def putK (kvs : List (κ × V)) (k : κ) (v : V) : List (κ × V) :=
  if (kvs.any fun kv => decide (kv.1 = k)) = true then kvs.map (fun kv => if kv.1 = k then (kv.1, v) else kv) else kvs ++ [(k, v)]
def dropK (kvs : List (κ × V)) (k : κ) : List (κ × V) := kvs.filter fun kv => decide (kv.1 ≠ k)

theorem valV_pos {p : κ × V} {r : List (κ × V)} {k : κ} (e : p.1 = k) : valV (p :: r) k = some p.2 := by simp [valV, List.find?_cons, e]
theorem valV_neg {p : κ × V} {r : List (κ × V)} {k : κ} (e : ¬ p.1 = k) : valV (p :: r) k = valV r k := by simp [valV, List.find?_cons, e]
theorem valV_any (k : κ) : ∀ kvs : List (κ × V), (kvs.any fun kv => decide (kv.1 = k)) = (valV kvs k).isSome
  | [] => rfl
  | p :: r => by
    rw [List.any_cons]
    by_cases e : p.1 = k
    · simp only [valV_pos e, decide_eq_true e, Bool.true_or, Option.isSome_some]
    · rw [valV_neg e, decide_eq_false e, Bool.false_or]; exact valV_any k r
theorem RelO.isSome_eq {o : Option V} {u : Option Value} (r : RelO o u) : o.isSome = u.isSome := by
  cases o with
  | none => cases u with
    | none => rfl
    | some _ => exact (show False from r).elim
  | some _ => cases u with
    | none => exact (show False from r).elim
    | some _ => rfl
theorem RelO.getD {o : Option V} {u : Option Value} {d : V} {d' : Value} (r : RelO o u) (rd : RelV d d') : RelV (o.getD d) (u.getD d') := by
  cases o with
  | none => cases u with
    | none => exact rd
    | some _ => exact (show False from r).elim
  | some _ => cases u with
    | none => exact (show False from r).elim
    | some _ => exact r

theorem KV.val {kvs : List (κ × V)} {vs : List (κ × Value)} (r : KV kvs vs) (k : κ) : RelO (valV kvs k) (valueAt vs k) := by
  unfold KV at r
  induction r with
  | nil => exact True.intro
  | @cons p q ps qs h t ih =>
    obtain ⟨h1, h2⟩ := h
    by_cases e : p.1 = k
    · have e' : q.1 = k := h1.symm.trans e
      have b : valueAt (q :: qs) k = some q.2 := by simp [valueAt, List.find?_cons, e']
      rw [valV_pos e, b]; exact h2
    · have e' : ¬ q.1 = k := fun z => e (h1.trans z)
      have b : valueAt (q :: qs) k = valueAt qs k := by simp [valueAt, List.find?_cons, e']
      rw [valV_neg e, b]; exact ih
theorem KV.any {kvs : List (κ × V)} {vs : List (κ × Value)} (r : KV kvs vs) (k : κ) : (kvs.any fun kv => decide (kv.1 = k)) = vs.any fun kv => decide (kv.1 = k) := by
  unfold KV at r
  induction r with
  | nil => rfl
  | cons h t ih => rw [List.any_cons, List.any_cons, ih, h.1]
theorem KV.repl {kvs : List (κ × V)} {vs : List (κ × Value)} (r : KV kvs vs) (k : κ) {y : V} {u : Value} (ry : RelV y u) :
    KV (kvs.map fun kv => if kv.1 = k then (kv.1, y) else kv) (vs.map fun kv => if kv.1 = k then (kv.1, u) else kv) := by
  unfold KV at r ⊢
  induction r with
  | nil => exact .nil
  | @cons p q ps qs h t ih =>
    rw [List.map_cons, List.map_cons]
    refine .cons ?_ ih
    obtain ⟨h1, h2⟩ := h
    by_cases e : p.1 = k
    · rw [if_pos e, if_pos (h1.symm.trans e)]; exact ⟨h1, ry⟩
    · rw [if_neg e, if_neg (fun z => e (h1.trans z))]; exact ⟨h1, h2⟩
theorem KV.put {kvs : List (κ × V)} {vs : List (κ × Value)} (r : KV kvs vs) (k : κ) {y : V} {u : Value} (ry : RelV y u) : KV (putK kvs k y) (stored vs k u) := by
  unfold putK stored
  rw [r.any k]
  by_cases e : (vs.any fun kv => decide (kv.1 = k)) = true
  · rw [if_pos e, if_pos e]; exact r.repl k ry
  · rw [if_neg e, if_neg e]; exact Paired.snoc r ⟨rfl, ry⟩
theorem KV.drop {kvs : List (κ × V)} {vs : List (κ × Value)} (r : KV kvs vs) (k : κ) : KV (dropK kvs k) (without vs k) := by
  unfold KV at r ⊢
  unfold dropK without
  induction r with
  | nil => exact .nil
  | @cons p q ps qs h t ih =>
    obtain ⟨h1, h2⟩ := h
    rw [List.filter_cons, List.filter_cons]
    by_cases e : p.1 = k
    · have a : ¬ decide (p.1 ≠ k) = true := by simp [e]
      have b : ¬ decide (q.1 ≠ k) = true := by simp [h1.symm.trans e]
      rw [if_neg a, if_neg b]; exact ih
    · have e' : ¬ q.1 = k := fun z => e (h1.trans z)
      have a : decide (p.1 ≠ k) = true := by simp [e]
      have b : decide (q.1 ≠ k) = true := by simp [e']
      rw [if_pos a, if_pos b]; exact .cons ⟨h1, h2⟩ ih
theorem KV.keys {kvs : List (κ × V)} {vs : List (κ × Value)} (r : KV kvs vs) : kvs.map (·.1) = vs.map (·.1) := by
  unfold KV at r
  induction r with
  | nil => rfl
  | cons h t ih => rw [List.map_cons, List.map_cons, ih, h.1]
theorem KV.length {kvs : List (κ × V)} {vs : List (κ × Value)} (r : KV kvs vs) : kvs.length = vs.length := Paired.length r
end


abbrev KT (H : Hp) : List (List Key × V) → List (List Key × Addr × Value) → Prop := Paired fun p q => p.1 = q.1 ∧ H q.2.1 = some (.tup (p.1.map kV)) ∧ RelV p.2 q.2.2
theorem KT.val {H : Hp} {kvs : List (List Key × V)} {xs : List (List Key × Addr × Value)} (r : KT H kvs xs) (k : List Key) : RelO (valV kvs k) ((atKey xs k).map (·.2)) := by
  induction r with
  | nil => exact True.intro
  | @cons p q ps qs h t ih =>
    obtain ⟨h1, _, h2⟩ := h
    by_cases e : p.1 = k
    · have e' : q.1 = k := h1.symm.trans e
      have b : atKey (q :: qs) k = some q.2 := by simp [atKey, List.find?_cons, e']
      rw [valV_pos e, b]; exact h2
    · have e' : ¬ q.1 = k := fun z => e (h1.trans z)
      have b : atKey (q :: qs) k = atKey qs k := by simp [atKey, List.find?_cons, e']
      rw [valV_neg e, b]; exact ih
theorem KT.repl {H : Hp} {kvs : List (List Key × V)} {xs : List (List Key × Addr × Value)} (r : KT H kvs xs) (k : List Key) {y : V} {u : Value} (ry : RelV y u) :
    KT H (kvs.map fun kv => if kv.1 = k then (kv.1, y) else kv) (xs.map (putAt k u)) := by
  induction r with
  | nil => exact .nil
  | @cons p q ps qs h t ih =>
    rw [List.map_cons, List.map_cons]
    refine .cons ?_ ih
    obtain ⟨h1, h2, h3⟩ := h
    unfold putAt
    by_cases e : p.1 = k
    · rw [if_pos e, if_pos (h1.symm.trans e)]; exact ⟨h1, h2, ry⟩
    · rw [if_neg e, if_neg (fun z => e (h1.trans z))]; exact ⟨h1, h2, h3⟩
theorem KT.put {H : Hp} {kvs : List (List Key × V)} {xs : List (List Key × Addr × Value)} (r : KT H kvs xs) (k : List Key) {b : Addr} {y : V} {u : Value} (hb : H b = some (.tup (k.map kV))) (ry : RelV y u) :
    KT H (putK kvs k y) (storedH xs k b u) := by
  have e : (kvs.any fun kv => decide (kv.1 = k)) = (atKey xs k).isSome := by
    rw [valV_any, (r.val k).isSome_eq, Option.isSome_map]
  unfold putK storedH
  rw [e]
  by_cases q : (atKey xs k).isSome = true
  · rw [if_pos q, if_pos q]; exact r.repl k ry
  · rw [if_neg q, if_neg q]; exact Paired.snoc r ⟨rfl, hb, ry⟩
theorem KT.keeps {H H' : Hp} {kvs : List (List Key × V)} {xs : List (List Key × Addr × Value)} (r : KT H kvs xs) (ht : ∀ b ys, H b = some (.tup ys) → H' b = some (.tup ys)) : KT H' kvs xs :=
  Paired.mapP r fun _ _ z => ⟨z.1, ht _ _ z.2.1, z.2.2⟩

section
variable {P : Program} {w : World} {H : Hp} {h : Heap} {a : Addr}
end

def DGet (H : Hp) (a : Addr) (y : V) (r : Option V) : Prop :=
  (∃ kvs k, Rd H a (.dK kvs) ∧ y = kV k ∧ r = valV kvs k) ∨ ∃ kvs k b, Rd H a (.dT kvs) ∧ y = .ref b ∧ H b = some (.tup (k.map kV)) ∧ r = valV kvs k
def DPut (H : Hp) (a : Addr) (y v : V) (H' : Hp) : Prop :=
  (∃ kvs k, H a = some (.dK kvs) ∧ y = kV k ∧ kvs.length < sizeLine ∧ H' = upd H a (.dK (putK kvs k v))) ∨
  ∃ kvs k b, H a = some (.dT kvs) ∧ y = .ref b ∧ H b = some (.tup (k.map kV)) ∧ kvs.length < sizeLine ∧ H' = upd H a (.dT (putK kvs k v))
theorem DGet.k {H : Hp} {a : Addr} {kvs : List (Key × V)} {k : Key} (e : H a = some (.dK kvs)) : DGet H a (kV k) (valV kvs k) := .inl ⟨kvs, k, .inl e, rfl, rfl⟩
theorem DGet.t {H : Hp} {a b : Addr} {kvs : List (List Key × V)} {k : List Key} (e : H a = some (.dT kvs)) (eb : H b = some (.tup (k.map kV))) : DGet H a (.ref b) (valV kvs k) := .inr ⟨kvs, k, b, .inl e, rfl, eb, rfl⟩
theorem DPut.k {H : Hp} {a : Addr} {kvs : List (Key × V)} {k : Key} {v : V} (e : H a = some (.dK kvs)) (hl : kvs.length < sizeLine) : DPut H a (kV k) v (upd H a (.dK (putK kvs k v))) := .inl ⟨kvs, k, e, rfl, hl, rfl⟩
theorem DPut.t {H : Hp} {a b : Addr} {kvs : List (List Key × V)} {k : List Key} {v : V} (e : H a = some (.dT kvs)) (eb : H b = some (.tup (k.map kV))) (hl : kvs.length < sizeLine) :
    DPut H a (.ref b) v (upd H a (.dT (putK kvs k v))) := .inr ⟨kvs, k, b, e, rfl, eb, hl, rfl⟩


section
variable {X : Cx} {pins : List (Addr × Obj)} {σ : St} {H : Hp} {s : Shared} {a : Addr} {y v : V} {u r : Value} {o : Option V} {A : Around} {E : Value → Shared → Prop}

theorem Inv.big (I : Inv X pins σ H s) : sysModules < s.heap.objs.size := by
  have h : mainGlobals < s.heap.objs.size := (I.mod.glob.keeps I.bk).lt
  exact Nat.lt_trans (by decide) h

end

section
variable {X : Cx} {pins : List (Addr × Obj)} {σ : St} {H : Hp} {s : Shared} {a : Addr} {kvs : List (Key × V)} {k : Key} {u : Value} {A : Around} {E : Value → Shared → Prop}
end


def NoSl (i : Expr) : Prop := ∀ ov iv, subscripted i false ov iv = operate [ov, iv] (getItem ov iv)
theorem subD_of {prog : Program} {w : World} {A : Around} {E : Value → Shared → Prop} {s : Shared} {env : Env} {value slice : Expr} {pos : Pos} {T id : String} {Q : Value → Shared → Prop}
    (hl : typeLookup (.type T) "__getitem__" = pure (some (.builtin id))) (hs : NoSl slice)
    (h : wpAny (model prog w) A (eval value env) (fun o s₁ => wpAny (model prog w) A (eval slice env) (fun i s₂ => s₂.TypeIs o T ∧ wpAny (model prog w) A (getItem o i) Q E s₂) E s₁) E s) :
    wpAny (model prog w) A (eval (.Subscript value slice pos) env) Q E s := by
  refine Subscript_ (wpAny_mono h (fun o s₁ h₁ => wpAny_mono h₁ (fun i s₂ h₂ => ?_) fun _ _ x => x) fun _ _ x => x)
  obtain ⟨hT, h₂⟩ := h₂
  unfold subscriptTail
  refine wpAny_bind ?_
  rw [getitemInPython_of_ne hT.not_modules]
  refine wpAny_bind (wpAny_specialOf hT hl ?_)
  have fin : wpAny (model prog w) A (subscripted slice false o i) (fun r s₃ => wpAny (model prog w) A (letTemporaryGo value o r >>= fun _ => pure r) Q E s₃) E s₂ := by
    rw [hs o i]
    exact wpAny_operating (wpAny_mono h₂ (fun r s₃ h₃ => wpAny_bind (wpAny_letTemporaryGo (wpAny_pure h₃))) fun _ _ x => x)
  first
    | exact wpAny_pure (wpAny_bind fin)
    | exact wpAny_bind (wpAny_pure (wpAny_bind fin))
    | exact wpAny_bind fin

section
variable {X : Cx} {o i e value : Expr} {pos pos' tpos : Pos} {td ty tv : TE}
end


theorem dk_empty {P : Program} {w : World} {H : Hp} (h : Heap) (hb : sysModules < h.objs.size) : ObjOk P w H (h.push { cls := .type "dict", data := .dict #[] }) h.objs.size (.dK []) :=
  ⟨Nat.zero_le _, beq_eq_false_iff_ne.mpr (Ne.symm (Nat.ne_of_lt hb)), [], .nil, Heap.DictOf.new h⟩
def tDNewK : TE := fun _ H Q => ∀ p, H p = none → Q (.ref p) (upd H p (.dK []))
section
variable {X : Cx} {pos : Pos}
theorem pe_dnewK : PE X (.Dict [] [] pos) tDNewK := fun pins s σ H Q I h =>
  wpAny_Dict_empty ⟨.ref s.heap.objs.size, _, I.laid (a := s.heap.objs.size) (o := .dK []) (t' := s.toks) (fun _ _ q => Heap.get?_push_of_some _ q) (Nat.le_refl _) (dk_empty s.heap I.big), rfl, h _ (I.hok.fresh (Nat.le_refl _))⟩
end

structure M1 (X : Cx) (o : Expr) (m : Str) (apos : Pos) (e : Expr) (cpos : Pos) : Prop where
  base : attributeBase o m X.env (eval o X.env) = eval o X.env
  few : ((backTo cpos (starEach [e] X.env)).all (fun x => !x.1) && (backToKw cpos (keywordEach [] X.env)).all (fun x => x.1.isSome)
    && decide (([e] : List Expr).length + ([] : List Keyword).length + (if ([] : List Keyword).isEmpty then 0 else 1) < 30)) = true
  line : (apos.endLine == cpos.line) = true
  trees : backTo cpos (starEach [e] X.env) = [(false, eval e X.env)]
structure M2 (X : Cx) (o : Expr) (m : Str) (apos : Pos) (e f : Expr) (cpos : Pos) : Prop where
  base : attributeBase o m X.env (eval o X.env) = eval o X.env
  few : ((backTo cpos (starEach [e, f] X.env)).all (fun x => !x.1) && (backToKw cpos (keywordEach [] X.env)).all (fun x => x.1.isSome)
    && decide (([e, f] : List Expr).length + ([] : List Keyword).length + (if ([] : List Keyword).isEmpty then 0 else 1) < 30)) = true
  line : (apos.endLine == cpos.line) = true
  trees : backTo cpos (starEach [e, f] X.env) = [(false, eval e X.env), (false, eval f X.env)]

section
variable {X : Cx} {pins : List (Addr × Obj)} {σ : St} {H : Hp} {s : Shared} {a : Addr} {y d : V} {u r : Value} {o : Option V} {A : Around} {E : Value → Shared → Prop}
end

section
variable {X : Cx} {o e f : Expr} {apos cpos : Pos} {td ty tx : TE}
end

section
variable {X : Cx} {pins : List (Addr × Obj)} {σ : St} {H : Hp} {s : Shared} {a : Addr} {kvs : List (Key × V)} {A : Around} {E : Value → Shared → Prop}
end


section
variable {X : Cx} {pins : List (Addr × Obj)} {σ : St} {H : Hp} {s : Shared} {a : Addr} {y : V} {u : Value} {A : Around} {E : Value → Shared → Prop}
end
end L2

namespace Att
open PySem PySem.W PySem.Calls PyProof.Rows

theorem ints_of_wellAll {P : Params} {h : Heap} : ∀ (ns : List Int) (vs : List Value), WellAll P h vs (ns.map WData.int) → IntsAre vs ns := by
  intro ns
  induction ns with
  | nil =>
    intro vs w
    rw [List.map_nil] at w
    cases w
    exact .nil
  | cons n ns ih =>
    intro vs w
    rw [List.map_cons] at w
    cases w with
    | cons a b =>
      cases a
      exact .cons _ _ (ih _ b)

theorem script_of {l : OpenLaw} {n : Nat} (hn : l.most = some n) {P : Params} {h : Heap} {args : List WData} {vals : List Value}
    (hpre : l.row.toRowW.claim.pre args = true) (hwl : WellAll P h vals args) :
    ∃ a vs ns, vals = [Value.ref a] ∧ args = [WData.list (ns.map WData.int)] ∧ h.get? a = some { cls := .type "list", data := .seq vs.toArray } ∧ IntsAre vs ns ∧ ns.length ≤ n := by
  have hsh : WShape.hasAll [] args [.list .int] = true := (pre_splitW hpre).1
  have hc : l.pre.holds [] { args := args } = true := (pre_splitW hpre).2
  obtain ⟨d, r, rfl, h1, h2⟩ := hasAllW_cons hsh
  obtain rfl := hasAllW_nil h2
  obtain ⟨xs, rfl, h3⟩ := hasW_list h1
  obtain ⟨ns, rfl⟩ := items_int h3
  have hlen : ns.length ≤ n := by
    unfold OpenLaw.pre at hc
    have h4 : (WTm.not (.lt (.lit (.int (n : Int))) (.len (.arg 0)))).holds [] { args := [.list (ns.map .int)] } = true := by
      have h4 := (holds_andW hc).1
      rw [hn] at h4
      exact h4
    have h5 := condW_of h4 (w_not (w_lt w_lit (w_len_list (w_arg rfl))))
    rw [List.length_map] at h5
    refine Nat.le_of_not_lt fun q => ?_
    have q' : (n : Int) < ((ns.length : Nat) : Int) := by omega
    first
      | (rw [decide_eq_true q'] at h5; exact absurd h5 (by decide))
      | (simp at h5; omega)
  cases hwl with
  | cons w1 w2 =>
    cases w2
    cases w1 with
    | list ho hall => exact ⟨_, _, ns, rfl, rfl, ho, ints_of_wellAll ns _ hall, hlen⟩

theorem post_true (l : OpenLaw) (args : List WData) : l.row.toRowW.claim.post args (.bool true) args = true :=
  postW_of (r := l.row.toRowW) (X := (true == true))
    (show WShape.has [] (.bool true) .bool = true by first | rfl | decide | simp [WShape.has, WShape.arms, WShape.armsAll])
    (show (WTm.eq .res (.lit (.bool true))).value [] { args := args, res := some (.bool true), after := args } = some (.bool (true == true)) from w_eq_bool (w_res rfl) w_lit) rfl

theorem attach_call {l : OpenLaw} {n : Nat} {q : Program} {loose : List Str} {XP : (Str → Option Value) → Heap → Prop} {YP : World → Heap → Prop} {d : DefRec}
    (hn : l.most = some n) (hdf : d.params.defaults = [])
    (call : ∀ (w : World) (s₀ s₁ : Shared) (mg mb : Str → Option Value) (fa : Addr) (o : Obj) (pm cd doc : Value) (a : Addr) (vs : List Value) (ns : List Int),
      Ground q loose [] XP w s₀ mg mb s₁.heap → YP w s₁.heap →
      s₁.heap.get? fa = some o → o.data = .func (docDef d.name d.params d.body d.scope pm cd doc) → s₁.heap.CodeRec cd d.name → mg d.name = some (.ref fa) →
      s₁.heap.get? a = some { cls := .type "list", data := .seq vs.toArray } → IntsAre vs ns → ns.length ≤ n → s₁.gens = #[] →
      codeAny (model l.prog w) callerA (.call (.ref fa) ⟨[.ref a], []⟩) (fun r s' => r = .ok (.ret (.bool true)) ∧ OldK s₁.heap s'.heap ∧ s'.os = s₁.os ∧ AllBare s'.gens) s₁) :
    WalkO q loose XP YP l.row.toRowW d [] (fun f vs => PySem.call f vs) := by
  intro w s₀ s₁ mg mb G Y fa o pm cd doc dV kV ho hd hcd hD hmg hg args vals as hpre hlay hrd hwl hlo
  obtain rfl : dV = .none := Dflts.none hD hdf
  obtain rfl : kV = .none := Dflts.noKw hD
  obtain ⟨a, vs, ns, rfl, rfl, hobj, hints, hlen⟩ := script_of hn hpre hwl
  refine enter_call (codeAny_mono (call w s₀ s₁ mg mb fa o pm cd doc a vs ns G Y ho (fd_plain hd) hcd hmg hobj hints hlen hg) fun r s' hq => ?_)
  obtain ⟨rfl, h2, h3, h4⟩ := hq
  exact ⟨.inl ⟨.bool true, .bool true, [], rfl, fun _ => rfl, .bool true, post_true l _, fun _ => ⟨List.Pairwise.nil, fun _ hm => (nomatch hm)⟩⟩, h2, h3, h4⟩

section
variable {prog : Program} {w : World} {A : Around} {E : Value → Shared → Prop} {s : Shared} {K : Frag}

def ledger (h : Heap) (L d : Addr) : List (Addr × Obj) := (List.range h.objs.size).filterMap fun a => if a = L ∨ a = d then none else (h.get? a).map fun o => (a, o)
end
end Att

namespace L2
open PySem PySem.Spec PyProof.Rows

theorem vals_ints : ∀ {vs : List Value} {ns : List Int}, IntsAre vs ns → Vals (ns.map V.int) vs
  | _, _, .nil => .nil
  | _, _, .cons n t h => .cons ⟨t, rfl⟩ (vals_ints h)

def Only (H : Hp) : Prop := ∀ b, H b = none ∨ ∃ o xs, H b = some (.frz o (.lst xs))

theorem law_call {P : Program} {w : World} {K : PySem.W.Frag} {mg mb : Str → Option Value} {CX : CXT} {k : Nat} {fa a : Addr} {fd : FuncData} {x : Str} {sp : Sp} {s₁ : Shared} {vs : List Value} {ns : List Int}
    (KX : K.In s₁.heap) (hns : s₁.heap.Ns mainGlobals mg) (hb : s₁.heap.Ns builtinsNs mb) (hbb : ∀ x : Str, x ≠ "__name__" → mb x = bootBuiltins x) (hlim : s₁.heap.NoLimit) (hg : s₁.gens = #[])
    (ha : s₁.heap.get? a = some { cls := .type "list", data := .seq vs.toArray }) (hi : IntsAre vs ns) (hl : ns.length ≤ sizeLine) (hr : Room k callerA)
    (F : ∀ base : Heap, K.In base → base.Ns mainGlobals mg → FnOk P w K mg base CX k fa fd [x] sp) (hbind : ∀ (s : Shared) (u : Value), BindsTo s fd ⟨[u], []⟩ [(x, u)])
    (hsp : ∀ H : Hp, Only H → SqL K H a (ns.map V.int) → sp [.ref a] H (fun v _ => v = .bl true) fun _ _ _ => False)
    (hCX : ∀ H e s', CX [] H s₁ (fun _ _ _ => False) e s' → False) :
    codeAny (model P w) callerA (.call (.ref fa) ⟨[.ref a], []⟩) (fun r s' => r = .ok (.ret (.bool true)) ∧ OldK s₁.heap s'.heap ∧ s'.os = s₁.os ∧ AllBare s'.gens) s₁ := by
  have rv := vals_ints hi
  have lenV := hi.length
  -- from an abstract heap in which nothing but the script may be tracked
  have core : ∀ H : Hp, Only H → SqL K H a (ns.map V.int) → HOk P w H s₁.heap → (∀ b, H b ≠ none → b = a) → (H a ≠ none → K.lookup a = none) →
      codeAny (model P w) callerA (.call (.ref fa) ⟨[.ref a], []⟩) (fun r s' => r = .ok (.ret (.bool true)) ∧ OldK s₁.heap s'.heap ∧ s'.os = s₁.os ∧ AllBare s'.gens) s₁ := by
    intro H hO hS hok hA hK
    have base_of : ∀ {b : Addr} {o : Obj}, s₁.heap.get? b = some o → H b = none → (hidT s₁.heap H).get? b = some o := fun e n => hidT_get e n
    have noA : ∀ {b : Addr} {o : Obj} {es : Array DictEntry} {ep : Nat}, s₁.heap.get? b = some o → o.data = .dict es ep → H b = none := fun {b o es ep} e d => by
      cases q : H b with
      | none => rfl
      | some u =>
        have e' : b = a := hA b (by rw [q]; simp)
        subst e'
        rw [ha] at e; cases e
        have d' : Data.seq vs.toArray _ = Data.dict es ep := d
        cases d'
    have nsK : ∀ {b : Addr} {m : Str → Option Value}, s₁.heap.Ns b m → (hidT s₁.heap H).Ns b m := fun {b m} ⟨o, es, ep, e, d, r⟩ => ⟨o, es, ep, base_of e (noA e d), d, r⟩
    have hKb : K.In (hidT s₁.heap H) := fun b o e => base_of (KX b o e) (by
      cases q : H b with
      | none => rfl
      | some u =>
        have e' : b = a := hA b (by rw [q]; simp)
        subst e'
        rw [hK (by rw [q]; simp)] at e; cases e)
    have hM : Mod K mg (hidT s₁.heap H) := ⟨hKb, nsK hns, ⟨mb, nsK hb, hbb⟩, let ⟨mc, h1, h2⟩ := hlim; ⟨mc, nsK h1, h2⟩⟩
    have e0 : Env0 P w K mg (hidT s₁.heap H) callerA [] s₁ H := ⟨rfl, hM, fun b o e => of_hidT e, Nat.le_of_eq (hidT_size _ _), trivial, fun b hb => absurd (show b ∈ ([] : List Addr) from hb) (by simp), hok, .of_eq hg⟩
    refine codeAny_mono ((F _ hKb (nsK hns)).run callerA [] s₁ H ⟨[.ref a], []⟩ [.ref a] [.ref a] _ _ hr e0 (hbind s₁ (.ref a)) (.cons rfl .nil) (hsp H hO hS)) fun r s' h => ?_
    cases r with
    | error e => exact (hCX H e s' h).elim
    | ok fl =>
      cases fl with
      | next => exact False.elim h
      | brk => exact False.elim h
      | cont => exact False.elim h
      | ret u =>
        obtain ⟨v, H', os, bare, un, hok', r', q⟩ := h
        have q' : v = .bl true := q
        subst q'
        obtain rfl : u = Value.bool true := r'
        refine ⟨rfl, OldK.of_keep fun b o e => ?_, os, bare⟩
        cases q : H b with
        | none => exact un.keep b o e q (by intro z; exact absurd (show b ∈ ([] : List Addr) from z) (by simp)) (by simp)
        | some u =>
          rcases hO b with z | ⟨ob, xs, z⟩
          · rw [q] at z; cases z
          · have z2 := un.frzs b ob _ z
            obtain ⟨e1, _⟩ := hok b _ z
            obtain ⟨e2, _⟩ := hok' b _ z2
            rw [e] at e1; cases e1
            exact e2
  cases hk : K.lookup a with
  | some o =>
    -- the script is one of the module's own objects
    have e := KX a o hk
    rw [ha] at e
    cases e
    refine core (fun _ => none) (fun _ => .inl rfl) (.inr ⟨_, vs.toArray, _, hk, rfl, rfl, rfl, by rw [List.size_toArray, lenV]; exact hl, by simpa using rv⟩) (fun b u z => by have z' : (none : Option HO) = some u := z; cases z') (fun b z => absurd rfl z) fun z => absurd rfl z
  | none =>
    refine core (fun b => if b = a then some (.frz { cls := .type "list", data := .seq vs.toArray } (.lst (ns.map V.int))) else none) (fun b => ?_) (.inl (.inr ⟨{ cls := .type "list", data := .seq vs.toArray }, if_pos rfl⟩)) (fun b u z => ?_) (fun b z => ?_) fun _ => hk
    · by_cases hb : b = a
      · exact .inr ⟨_, _, if_pos hb⟩
      · exact .inl (if_neg hb)
    · by_cases hb : b = a
      · have z' := (if_pos hb).symm.trans z
        cases z'
        subst hb
        exact ⟨ha, by rw [List.length_map]; exact hl, vs, _, rv, ha⟩
      · have z' := (if_neg hb).symm.trans z
        cases z'
    · by_cases hb : b = a
      · exact hb
      · exact absurd (if_neg hb) z
end L2

namespace L2
open PySem PySem.Spec PyProof.Rows

abbrev KOf {K : PySem.W.Frag} {h : Heap} (_ : K.In h) : PySem.W.Frag := K

theorem walk_of {l : PySem.W.OpenLaw} {n k : Nat} {q : Program} {loose : List Str} {XP : (Str → Option Value) → Heap → Prop} {YP : World → Heap → Prop} {d : DefRec} {K : Params → PySem.W.Frag} {CX : World → CXT} {sp : World → Sp} {x : Str}
    (hn : l.most = some n) (hn2 : n ≤ sizeLine) (hdf : d.params.defaults = []) (hr : Room k callerA)
    (hY : ∀ (w : World) (h : Heap), YP w h → (K w.params).In h)
    (F : ∀ (w : World) (mg : Str → Option Value) (fa : Addr) (h : Heap), (K w.params).In h → h.Ns mainGlobals mg → mg d.name = some (.ref fa) →
      ∃ fd : FuncData, (∀ (s : Shared) (u : Value), BindsTo s fd ⟨[u], []⟩ [(x, u)]) ∧
        ∀ base : Heap, (K w.params).In base → base.Ns mainGlobals mg → FnOk l.prog w (K w.params) mg base (CX w) k fa fd [x] (sp w))
    (hsp : ∀ (w : World) (H : Hp) (a : Addr) (ns : List Int), ns.length ≤ n → Only H → SqL (K w.params) H a (ns.map V.int) → sp w [.ref a] H (fun v _ => v = .bl true) fun _ _ _ => False)
    (hCX : ∀ (w : World) (H : Hp) (s : Shared) (e : Value) (s' : Shared), CX w [] H s (fun _ _ _ => False) e s' → False) :
    PySem.W.WalkO q loose XP YP l.row.toRowW d [] (fun f vs => PySem.call f vs) := by
  refine Att.attach_call hn hdf fun w s₀ s₁ mg mb fa o pm cd doc a vs ns G Y ho hd hcd hmg hobj hints hlen hg => ?_
  have KX := hY w _ Y
  obtain ⟨fd, hb, hF⟩ := F w mg fa _ KX G.T.g hmg
  exact law_call KX G.T.g G.T.b G.T.builtins G.T.nolimit hg hobj hints (Nat.le_trans hlen hn2) hr hF hb (fun H hO hS => hsp w H a ns hlen hO hS) fun H e s' => hCX w H s₁ e s'
end L2


namespace L2
open PySem PySem.Spec PyProof.Rows

def defArgs (s : Stmt) : Arguments := match s with
  | .FunctionDef _ a _ _ _ _ _ _ _ _ => a
  | _ => { posonlyargs := [], args := [], vararg := none, kwonlyargs := [], kw_defaults := [], kwarg := none, defaults := [] }
def defBody (s : Stmt) : List Stmt := match s with
  | .FunctionDef _ _ b _ _ _ _ _ _ _ => b
  | _ => []
def defScope (s : Stmt) : Scope := match s with
  | .FunctionDef _ _ _ _ _ _ sc _ _ _ => sc
  | _ => { kind := .function, names := [], isGenerator := false, isCoroutine := false }

abbrev CX0 : CXT := fun _ _ _ _ _ _ => False
abbrev E0 : XK := fun _ _ _ => False
structure Fun (K : PySem.W.Frag) (x qual : Str) (st : Stmt) (f : Addr) (fd : FuncData) : Prop where
  ex : ∃ (oc : Value) (od : Option Addr) (kV doc pm : Value) (an : Option Addr) (cdv ct : Value) (osl : Array (Option Value)),
    fd = PySem.W.fnOf x qual (defArgs st) (defBody st) (defScope st) .none kV doc pm an cdv ct ∧ K.lookup f = some ⟨oc, od, .func fd, osl⟩ ∧ PySem.W.codeIn K cdv qual = true
  kp : PySem.W.keepIn K (.ref f) = true
section
variable {P : Program} {w : World} {K : PySem.W.Frag} {mg : Str → Option Value} {base : Heap}
theorem Fun.ok {x qual : Str} {st : Stmt} {f : Addr} {fd : FuncData} {N ps : List Str} {k : Nat} {sp : Sp} (F : Fun K x qual st f fd) (S : FnScope N ps (defScope st)) (len : ∀ vs H Q E, sp vs H Q E → vs.length = ps.length)
    (hbody : ∀ (cdv : Value) (A : Around) (outer : List Env) (s : Shared) (H : Hp) (vs : List V) (Q : VK) (E : XK), Room k (A.deeper (envOfC qual (defScope st) s.heap.objs.size f cdv)) → sp vs H Q E →
      ∃ t, PSs (cxOf CX0 P w K mg base N qual (defScope st) f cdv A outer s H E).nox (defBody st) t ∧ t { nx := fun _ H' => Q .non H', rt := Q } (start N vs) H) : FnOk P w K mg base CX0 (k + 1) f fd ps sp := by
  obtain ⟨oc, od, kV, doc, pm, an, cdv, ct, osl, rfl, lk, hcd⟩ := F.ex
  refine fn_of lk hcd S len fun A outer s H vs Q E hr hsp => ?_
  obtain ⟨t, h, q⟩ := hbody cdv A outer s H vs Q E hr hsp
  exact ⟨t, h.nox, q⟩
theorem Fun.binds {x qual : Str} {st : Stmt} {f : Addr} {fd : FuncData} {ps : List Str} (F : Fun K x qual st f fd)
    (h : ∀ (kV doc pm : Value) (an : Option Addr) (cdv ct : Value) (us : List Value), us.length = ps.length → bindArgs (PySem.W.fnOf x qual (defArgs st) (defBody st) (defScope st) .none kV doc pm an cdv ct) ⟨us, []⟩ = pure (ps.zip us)) : Binds K fd ps [] := by
  obtain ⟨oc, od, kV, doc, pm, an, cdv, ct, osl, rfl, lk, hcd⟩ := F.ex
  exact .all (h kV doc pm an cdv ct)
theorem fun_mk {x qual : Str} {st : Stmt} {f : Addr} {oc : Value} {od an : Option Addr} {osl : Array (Option Value)} {kV doc pm cdv ct : Value} (l : K.lookup f = some ⟨oc, od, .func (PySem.W.fnOf x qual (defArgs st) (defBody st) (defScope st) .none kV doc pm an cdv ct), osl⟩)
    (c : PySem.W.codeIn K cdv qual = true) (k : PySem.W.keepIn K (.ref f) = true) : Fun K x qual st f (PySem.W.fnOf x qual (defArgs st) (defBody st) (defScope st) .none kV doc pm an cdv ct) := ⟨⟨oc, od, kV, doc, pm, an, cdv, ct, osl, rfl, l, c⟩, k⟩
end
theorem small1000 {n : Nat} (h : n ≤ 1000) : n < sizeLine := Nat.lt_of_le_of_lt h (by decide)

section
variable {X : Cx}
theorem pv (i : Nat) {x : Str} {pos : Pos} (hN : X.N[i]? = some x := by rfl) (hv : Vis X.env.scope x := by first | exact Or.inl rfl | exact Or.inr (Or.inl rfl) | exact Or.inr (Or.inr rfl)) (hd : (x == ("__debug__" : Str)) = false := by decide)
    (hcd : (x == ("__classdict__" : Str)) = false := by decide) : PE X (.Name x pos) (tVar i) := pe_var hN hv hd hcd
end

theorem iteF {A B : Prop} (h : B) : if false = true then A else B := by
  rw [if_neg Bool.false_ne_true]
  exact h
theorem ite2 {c A B : Prop} [Decidable c] (h1 : c → A) (h2 : ¬ c → B) : if c then A else B := by
  by_cases h : c
  · rw [if_pos h]
    exact h1 h
  · rw [if_neg h]
    exact h2 h
def Same (H H' : Hp) : Prop := ∀ b o, H b = some o → H' b = some o
theorem Same.refl (H : Hp) : Same H H := fun _ _ h => h
theorem Same.trans {H H1 H2 : Hp} (a : Same H H1) (b : Same H1 H2) : Same H H2 := fun c o h => b c o (a c o h)
theorem Same.free {H H' : Hp} (e : Same H H') {l : Addr} (h : H' l = Option.none) : H l = Option.none := by
  cases q : H l with
  | none => rfl
  | some o =>
    rw [e l o q] at h
    cases h
theorem Same.seq {K : PySem.W.Frag} {H H' : Hp} {a : Addr} {xs : List V} (e : Same H H') (h : SqL K H a xs) : SqL K H' a xs := by
  rcases h with (h | ⟨o, h⟩) | h
  · exact .inl (.inl (e _ _ h))
  · exact .inl (.inr ⟨o, e _ _ h⟩)
  · exact .inr h

end L2

namespace L2
open PySem PySem.Spec PyProof.Rows
section
variable {X : Cx} {κ : Type} [DecidableEq κ]
end
end L2
namespace L3
open PySem PySem.Spec PyProof.Rows L2
abbrev St := L2.St

def NoErr (CX : CXT) : Prop := ∀ outer H s e s', ¬ CX outer H s E0 e s'
theorem NoErr.pass {CX : CXT} (n : NoErr CX) {X : Cx} : Passes CX X E0 := fun _ _ H s e s' _ h => (n _ H s e s' h).elim

structure Cal (P : Program) (w : World) (K : PySem.W.Frag) (mg : Str → Option Value) (base : Heap) (CX : CXT) (x : Str) (k : Nat) (ps : List Str) (sp : Sp) : Prop where
  ex : ∃ f fd, FnOk P w K mg base CX k f fd ps sp ∧ Binds K fd ps [] ∧ PySem.W.keepIn K (.ref f) = true ∧ mg x = some (.ref f)
structure Dat (K : PySem.W.Frag) (mg : Str → Option Value) (x qual : Str) (st : Stmt) (ps : List Str) : Prop where
  ex : ∃ f fd, Fun K x qual st f fd ∧ Binds K fd ps [] ∧ mg x = some (.ref f)
section
variable {P : Program} {w : World} {K : PySem.W.Frag} {mg : Str → Option Value} {base : Heap} {CX : CXT} {x qual : Str} {st : Stmt} {N ps : List Str} {k j : Nat} {sp sp' : Sp}
theorem Cal.mono (c : Cal P w K mg base CX x k ps sp) (h : k ≤ j) : Cal P w K mg base CX x j ps sp := by
  obtain ⟨f, fd, F, r⟩ := c.ex
  exact ⟨f, fd, F.mono h, r⟩
theorem Cal.imp (c : Cal P w K mg base CX x k ps sp) (h : ∀ vs H Q E, sp' vs H Q E → sp vs H Q E) : Cal P w K mg base CX x k ps sp' := by
  obtain ⟨f, fd, F, r⟩ := c.ex
  exact ⟨f, fd, F.imp h, r⟩
theorem fun_ok {f : Addr} {fd : FuncData} (F : Fun K x qual st f fd) (S : FnScope N ps (defScope st)) (len : ∀ vs H Q E, sp vs H Q E → vs.length = ps.length)
    (hbody : ∀ (f : Addr) (cdv : Value) (A : Around) (outer : List Env) (s : Shared) (H : Hp) (vs : List V) (Q : VK) (E : XK), Room k (A.deeper (envOfC qual (defScope st) s.heap.objs.size f cdv)) → sp vs H Q E →
      ∃ t, PSs (cxOf CX P w K mg base N qual (defScope st) f cdv A outer s H E).nox (defBody st) t ∧ t { nx := fun _ H' => Q .non H', rt := Q } (start N vs) H) : FnOk P w K mg base CX (k + 1) f fd ps sp := by
  obtain ⟨oc, od, kV, doc, pm, an, cdv, ct, osl, rfl, lk, hcd⟩ := F.ex
  refine fn_of lk hcd S len fun A outer s H vs Q E hr hsp => ?_
  obtain ⟨t, h, q⟩ := hbody f cdv A outer s H vs Q E hr hsp
  exact ⟨t, h.nox, q⟩
theorem Dat.ok (D : Dat K mg x qual st ps) (S : FnScope N ps (defScope st)) (len : ∀ vs H Q E, sp vs H Q E → vs.length = ps.length)
    (hbody : ∀ (f : Addr) (cdv : Value) (A : Around) (outer : List Env) (s : Shared) (H : Hp) (vs : List V) (Q : VK) (E : XK), Room k (A.deeper (envOfC qual (defScope st) s.heap.objs.size f cdv)) → sp vs H Q E →
      ∃ t, PSs (cxOf CX P w K mg base N qual (defScope st) f cdv A outer s H E).nox (defBody st) t ∧ t { nx := fun _ H' => Q .non H', rt := Q } (start N vs) H) : Cal P w K mg base CX x (k + 1) ps sp := by
  obtain ⟨f, fd, F, b, m⟩ := D.ex
  exact ⟨f, fd, fun_ok F S len hbody, b, F.kp, m⟩
theorem Dat.okX (D : Dat K mg x qual st ps) (S : FnScope N ps (defScope st)) (len : ∀ vs H Q E, sp vs H Q E → vs.length = ps.length)
    (hbody : ∀ (f : Addr) (cdv : Value) (A : Around) (outer : List Env) (s : Shared) (H : Hp) (vs : List V) (Q : VK) (E : XK), Room k (A.deeper (envOfC qual (defScope st) s.heap.objs.size f cdv)) → sp vs H Q E →
      ∃ t, PSs (cxOf CX P w K mg base N qual (defScope st) f cdv A outer s H E) (defBody st) t ∧ t { nx := fun _ H' => Q .non H', rt := Q } (start N vs) H) : Cal P w K mg base CX x (k + 1) ps sp := by
  obtain ⟨f, fd, F, b, m⟩ := D.ex
  have kp := F.kp
  obtain ⟨oc, od, kV, doc, pm, an, cdv, ct, osl, rfl, lk, hcd⟩ := F.ex
  refine ⟨f, _, fn_of lk hcd S len fun A outer s H vs Q E hr hsp => ?_, b, kp, m⟩
  exact hbody f cdv A outer s H vs Q E hr hsp
theorem dat_mk {h : Heap} (X : K.In h) (G : h.Ns mainGlobals mg) {f : Addr} {oc : Value} {od an : Option Addr} {osl : Array (Option Value)} {kV doc pm cdv ct : Value} (a : PySem.W.nsIn K mainGlobals x = some (some (.ref f)))
    (l : K.lookup f = some ⟨oc, od, .func (PySem.W.fnOf x qual (defArgs st) (defBody st) (defScope st) .none kV doc pm an cdv ct), osl⟩) (c : PySem.W.codeIn K cdv qual = true) (kp : PySem.W.keepIn K (.ref f) = true)
    (b : ∀ (kV doc pm : Value) (an : Option Addr) (cdv ct : Value) (us : List Value), us.length = ps.length → bindArgs (PySem.W.fnOf x qual (defArgs st) (defBody st) (defScope st) .none kV doc pm an cdv ct) ⟨us, []⟩ = pure (ps.zip us)) : Dat K mg x qual st ps := by
  have F := fun_mk (st := st) l c kp
  exact ⟨f, _, F, F.binds b, PySem.W.mg_of X G a⟩
end
section
variable {X : Cx} {CX : CXT} {k : Nat} {ps : List Str} {sp : Sp} {E : XK} {x : Str} {p pos : Pos} {e : Expr} {es : List Expr} {t : TA}
theorem pe_fn (C : Cal X.prog X.w X.K X.mg X.base CX x k ps sp) (hr : Room k X.A) (hx : Passes CX X E) (ha : PA X (e :: es) t) (hg : Gl X x := by rfl)
    (hdb : (x == ("__debug__" : Str)) = false := by decide) (he : starEach (e :: es) X.env = (false, eval e X.env) :: starEach es X.env := by rfl) (hpl : (backTo pos (starEach es X.env)).any (·.1) = false := by rfl) :
    PE X (.Call (.Name x p) (e :: es) [] pos) (tCall sp [] E t) := by
  obtain ⟨f, fd, F, b, kp, m⟩ := C.ex
  exact pe_call F hr hg m kp b .nil hx ha hdb he hpl
end

def closeL (cells : List (Str × Addr)) : List (Str × NameKind) → List (Str × Addr) → List (Str × Addr)
  | [], acc => acc
  | (n, k) :: r, acc => if k == .free then (match cells.lookup n with | some a => closeL cells r ((n, a) :: acc) | none => closeL cells r acc) else closeL cells r acc
theorem closeL_forIn {env : Env} : ∀ (l : List (Str × NameKind)) (acc : List (Str × Addr)), (∀ y ∈ l, y.2 = .free → ∃ c, env.cells.lookup y.1 = some c) →
    (forIn l acc (fun (y : Str × NameKind) cs => do
      if y.2 == .free then let c ← cellOf env y.1; pure (ForInStep.yield ((y.1, c) :: cs)) else pure (ForInStep.yield cs)) : Sem (List (Str × Addr))) = pure (closeL env.cells l acc)
  | [], acc, _ => rfl
  | (n, k) :: r, acc, h => by
    have ih := fun acc => closeL_forIn (env := env) r acc fun y hy => h y (List.mem_cons_of_mem _ hy)
    rw [List.forIn_cons]
    cases hk : k == NameKind.free with
    | true =>
      have ek : k = .free := by simpa using hk
      obtain ⟨c, hc⟩ := h (n, k) List.mem_cons_self ek
      have e1 : cellOf env n = pure c := by unfold cellOf; rw [hc]
      simp only [hk, if_true, e1, pure_bind]
      rw [ih]
      simp only [closeL, hk, if_true, hc]
    | false =>
      simp only [hk, Bool.false_eq_true, if_false, pure_bind]
      rw [ih]
      simp only [closeL, hk, Bool.false_eq_true, if_false]
theorem closeL_of {scope : Scope} {env : Env} (h : ∀ y ∈ scope.names, y.2 = .free → ∃ c, env.cells.lookup y.1 = some c) : closureFor scope env = pure (closeL env.cells scope.names []) := by
  unfold closureFor
  have e := closeL_forIn (env := env) scope.names [] h
  have : (forIn scope.names ([] : List (Str × Addr)) (fun (y : Str × NameKind) cs => do
      if y.2 == .free then let c ← cellOf env y.1; pure (ForInStep.yield ((y.1, c) :: cs)) else pure (ForInStep.yield cs)) : Sem (List (Str × Addr))) >>= (fun cs => pure cs) = pure (closeL env.cells scope.names []) := by rw [e]; rfl
  exact this
theorem closeL_sub {cells : List (Str × Addr)} : ∀ (l : List (Str × NameKind)) (acc : List (Str × Addr)) {x : Str} {c : Addr}, (closeL cells l acc).lookup x = some c → acc.lookup x = some c ∨ (cells.lookup x = some c ∧ (x, NameKind.free) ∈ l)
  | [], acc, x, c, h => .inl h
  | (n, k) :: r, acc, x, c, h => by
    unfold closeL at h
    cases hk : k == NameKind.free with
    | true =>
      have ek : k = .free := by simpa using hk
      subst ek
      rw [if_pos hk] at h
      cases hc : cells.lookup n with
      | none =>
        rw [hc] at h
        rcases closeL_sub r acc h with z | z
        · exact .inl z
        · exact .inr ⟨z.1, List.mem_cons_of_mem _ z.2⟩
      | some a =>
        rw [hc] at h
        rcases closeL_sub r _ h with z | z
        · rw [List.lookup_cons] at z
          cases hx : x == n with
          | true =>
            rw [hx] at z
            have : x = n := by simpa using hx
            subst this
            cases z
            exact .inr ⟨hc, List.mem_cons_self⟩
          | false => rw [hx] at z; exact .inl z
        · exact .inr ⟨z.1, List.mem_cons_of_mem _ z.2⟩
    | false =>
      rw [if_neg (by rw [hk]; exact Bool.false_ne_true)] at h
      rcases closeL_sub r acc h with z | z
      · exact .inl z
      · exact .inr ⟨z.1, List.mem_cons_of_mem _ z.2⟩
theorem closeL_acc {cells : List (Str × Addr)} : ∀ (l : List (Str × NameKind)) (acc : List (Str × Addr)) {x : Str}, (∃ c, acc.lookup x = some c) → ∃ c, (closeL cells l acc).lookup x = some c
  | [], _, _, h => h
  | (n, k) :: r, acc, x, h => by
    unfold closeL
    split
    · split
      · refine closeL_acc r _ ?_
        rw [List.lookup_cons]
        split
        · exact ⟨_, rfl⟩
        · exact h
      · exact closeL_acc r acc h
    · exact closeL_acc r acc h
theorem closeL_has {cells : List (Str × Addr)} : ∀ (l : List (Str × NameKind)) (acc : List (Str × Addr)) {x : Str}, (x, NameKind.free) ∈ l → (∃ c, cells.lookup x = some c) → ∃ c, (closeL cells l acc).lookup x = some c
  | [], _, _, h, _ => by simp at h
  | (n, k) :: r, acc, x, h, hc => by
    unfold closeL
    rcases List.mem_cons.mp h with e | h
    · cases e
      obtain ⟨c, hc⟩ := hc
      rw [if_pos (by decide), hc]
      exact closeL_acc r _ ⟨c, by rw [List.lookup_cons]; simp⟩
    · split
      · split
        · exact closeL_has r _ h hc
        · exact closeL_has r _ h hc
      · exact closeL_has r _ h hc

def blkN (N own : List Str) (cap : List Nat) : List Str := own ++ cap.map fun j => N.getD j Str.empty
def blkS (own : Nat) (cap : List Nat) (σ : St) : St := List.replicate own none ++ cap.map fun j => (σ[j]?).join
structure Blk (X : Cx) (scope : Scope) (own : List Str) (cap : List Nat) : Prop where
  kind : scope.kind = .function
  nocell : ∀ y ∈ scope.names, y.2 ≠ .cell
  names : ∀ y ∈ scope.names, y.2 = .local → scope.names.lookup y.1 = some .local
  free : ∀ y ∈ scope.names, y.2 = .free → X.env.kindOf y.1 = some .cell
  nd : (blkN X.N own cap).Nodup
  caps : ∀ j ∈ cap, ∃ x, X.N[j]? = some x ∧ (x, NameKind.free) ∈ scope.names ∧ scope.names.lookup x = some .free
def blk (X : Cx) (scope : Scope) (own : List Str) (cap : List Nat) (C : Addr) (s : Shared) (H : Hp) (fp : List Addr) : Cx :=
  { prog := X.prog, w := X.w, K := X.K, mg := X.mg, base := X.base, A := X.A, N := blkN X.N own cap, s₀ := s, H₀ := H, env := compEnvC scope (closeL X.env.cells scope.names []) C X.env, outer := X.stack, stack := X.stack,
    ex := fp, fn := fun _ => false, calm := true, pn := [], xe := fun _ _ => False }
theorem lookup_relabel_free {env : Env} : ∀ {names : List (Str × NameKind)} {x : Str}, env.scope.kind = .function → env.kindOf x = some .cell → names.lookup x = some .free →
    (names.map fun (n, k) => if (k == NameKind.free && env.scope.kind == .function && env.kindOf n == some .cell) then (n, NameKind.cell) else (n, k)).lookup x = some .cell
  | [], _, _, _, h => by simp at h
  | (n, k) :: r, x, hf, hc, h => by
    have ih := @lookup_relabel_free env r x hf hc
    show List.lookup x ((if (k == NameKind.free && env.scope.kind == .function && env.kindOf n == some .cell) = true then (n, NameKind.cell) else (n, k)) :: _) = _
    cases hx : x == n with
    | true =>
      have e : x = n := by simpa using hx
      subst e
      simp only [List.lookup_cons, hx] at h
      cases h
      rw [if_pos (by simp [hf, hc])]
      simp [List.lookup_cons]
    | false =>
      simp only [List.lookup_cons, hx] at h
      split
      · simp only [List.lookup_cons, hx]; exact ih h
      · simp only [List.lookup_cons, hx]; exact ih h
theorem relabel_cell {env : Env} : ∀ {names : List (Str × NameKind)} {x : Str}, (∀ y ∈ names, y.2 ≠ .cell) →
    ((names.map fun (n, k) => if (k == NameKind.free && env.scope.kind == .function && env.kindOf n == some .cell) then (n, NameKind.cell) else (n, k)).lookup x = some .cell ∨
     (names.map fun (n, k) => if (k == NameKind.free && env.scope.kind == .function && env.kindOf n == some .cell) then (n, NameKind.cell) else (n, k)).lookup x = some .free) → (x, NameKind.free) ∈ names
  | [], _, _, h => by simp at h
  | (n, k) :: r, x, hn, h => by
    have ih := @relabel_cell env r x fun y hy => hn y (List.mem_cons_of_mem _ hy)
    have hk : k ≠ .cell := hn (n, k) List.mem_cons_self
    rw [List.map_cons] at h
    cases hx : x == n with
    | true =>
      have e : x = n := by simpa using hx
      subst e
      by_cases hf : k = .free
      · subst hf; exact List.mem_cons_self
      · exfalso
        have hb : (k == NameKind.free) = false := by simpa using hf
        simp only [hb, Bool.false_and, Bool.false_eq_true, if_false, List.lookup_cons, beq_self_eq_true, Option.some.injEq] at h
        rcases h with h | h
        · exact hk h
        · exact hf h
    | false =>
      refine List.mem_cons_of_mem _ (ih ?_)
      by_cases hc : (k == NameKind.free && env.scope.kind == .function && env.kindOf n == some .cell) = true
      · simp only [hc, if_true, List.lookup_cons, hx] at h; exact h
      · simp only [Bool.not_eq_true] at hc
        simp only [hc, Bool.false_eq_true, if_false, List.lookup_cons, hx] at h; exact h

section
variable {X : Cx} {pins : List (Addr × Obj)} {σ : St} {H : Hp} {s : Shared} {scope : Scope} {own : List Str} {cap : List Nat} {fp : List Addr}
theorem Blk.cells (B : Blk X scope own cap) (ok : X.Ok) : ∀ y ∈ scope.names, y.2 = .free → ∃ c, X.env.cells.lookup y.1 = some c := fun y hy hf => ok.has y.1 (.inl (B.free y hy hf))
theorem Inv.enter {C : Addr} {h4 : Heap} {m : Str → Option Value} {t' : Nat} (I : Inv X pins σ H s) (hc : X.calm = true) (B : Blk X scope own cap) (f2 : ∀ b ∈ fp, FpOk X pins H b) (flt : ∀ b ∈ fp, b < s.heap.objs.size)
    (k : ∀ b o, s.heap.get? b = some o → h4.get? b = some o) (hC : s.heap.objs.size ≤ C) (hn : h4.Ns C m) (pl : List (Addr × Obj)) (hpl : ∀ p ∈ pl, h4.get? p.1 = some p.2 ∧ s.heap.objs.size ≤ p.1 ∧ p.1 ≠ C ∧ ∀ v, p.2.data ≠ .cell v) :
    Inv (blk X scope own cap C s H fp) pl (blkS own.length cap σ) H { s with heap := h4, toks := t' } := by
  have cls : ∀ x c, (closeL X.env.cells scope.names []).lookup x = some c → X.env.cells.lookup x = some c ∧ (x, NameKind.free) ∈ scope.names := fun x c e => (closeL_sub _ _ e).elim (fun z => by simp at z) fun z => z
  refine ⟨⟨I.ok.mod, B.kind, I.ok.glob, I.ok.blt, hC, fun x y c e1 e2 => I.ok.inj x y c (cls x c e1).1 (cls y c e2).1, fun x hx => ?_, fun x c hf _ => (Bool.false_ne_true hf).elim, fun _ => I.ok.hd hc, I.ok.frames, .inl rfl,
    fun b hb => ⟨Nat.ne_of_lt (Nat.lt_of_lt_of_le (flt b hb) hC), fun x c e => (f2 b hb).2.2.2.2.1 x c (cls x c e).1⟩, I.bs, Nat.le_trans I.ok.bsz I.sz, fun b o e hb => ?_, fun b hb hfs => ?_, I.stack, I.stkFree⟩,
    rfl, I.bare, Un.kept k, ⟨m, hn, fun i x v e1 e2 e3 => ?_⟩, fun x c e => ?_, I.hok.fresh hC, fun x c e => I.freeC x c (cls x c e).1, fun p hp => ?_, I.hok.kept k, ?_⟩
  · have hx' : ((relabel scope X.env).names.lookup x = some .cell ∨ (relabel scope X.env).names.lookup x = some .free) := hx
    have hf := relabel_cell B.nocell hx'
    exact closeL_has _ _ hf (B.cells I.ok _ hf rfl)
  · rcases (f2 b hb).2.2.2.1 with z | z
    · exact I.ok.noex b o e z
    · exact absurd (Nat.lt_of_lt_of_le (Heap.lt_size e) (Nat.le_trans I.ok.bsz z)) (Nat.lt_irrefl _)
  · rcases List.mem_cons.mp (I.stkSub b hfs) with z | z
    · exact (f2 b hb).2.1 z
    · exact (f2 b hb).2.2.1 z
  · -- the names
    have e2' : (List.replicate own.length (none : Option V) ++ cap.map fun j => (σ[j]?).join)[i]? = some (some v) := e2
    have e1' : (own ++ cap.map fun j => X.N.getD j Str.empty)[i]? = some x := e1
    by_cases hi : i < own.length
    · rw [List.getElem?_append_left (by simpa using hi), List.getElem?_replicate, if_pos hi] at e2'
      cases e2'
    · rw [List.getElem?_append_right (by simpa using hi), List.getElem?_map] at e2'
      rw [List.getElem?_append_right (by simpa using hi), List.getElem?_map] at e1'
      rw [List.length_replicate] at e2'
      cases hj : cap[i - own.length]? with
      | none => rw [hj] at e2'; cases e2'
      | some j =>
        rw [hj] at e1' e2'
        have e1'' : X.N.getD j Str.empty = x := Option.some.inj e1'
        have e2'' : (σ[j]?).join = some v := Option.some.inj e2'
        obtain ⟨y, hy, hm, hl⟩ := B.caps j (List.mem_of_getElem? hj)
        have exy : x = y := by rw [← e1'', List.getD_eq_getElem?_getD, hy]; rfl
        subst exy
        have hσ : σ[j]? = some (some v) := by
          cases q : σ[j]? with
          | none => rw [q] at e2''; cases e2''
          | some z => rw [q] at e2''; rw [show z = some v from e2'']
        have kc := B.free _ hm rfl
        obtain ⟨m0, hn0, hl0⟩ := I.loc
        obtain ⟨u, r, lk⟩ := hl0 j x v hy hσ (.inr (.inl kc))
        refine ⟨u, r, .inr ⟨.inl (lookup_relabel_free I.ok.kind kc hl), ?_⟩⟩
        rcases lk with ⟨k1, _⟩ | ⟨_, c, hc1, o, ho, hd⟩
        · rw [kc] at k1; cases k1
        · obtain ⟨c', hc'⟩ := closeL_has (cells := X.env.cells) scope.names [] hm ⟨c, hc1⟩
          have := (cls x c' hc').1
          rw [hc1] at this; cases this
          exact ⟨c, hc', o, k c o ho, hd⟩
  · obtain ⟨v, o, ho, hd⟩ := I.cell x c (cls x c e).1
    exact ⟨v, o, k c o ho, hd⟩
  · have hp' : p ∈ pl := hp
    obtain ⟨h1, h2, h3, h5⟩ := hpl p hp'
    refine ⟨h1, I.hok.fresh h2, h3, fun hfs => ?_, h5⟩
    rcases List.mem_cons.mp (I.stkSub p.1 hfs) with z | z
    · exact absurd (Nat.lt_of_lt_of_le I.lt h2) (by rw [z]; exact Nat.lt_irrefl _)
    · exact I.nofs h2 z
  · show (List.replicate own.length (none : Option V) ++ cap.map fun j => (σ[j]?).join).length = (own ++ cap.map fun j => X.N.getD j Str.empty).length
    simp
theorem Inv.leave {C D : Addr} {s' : Shared} {h' : Heap} {H' : Hp} {σ' : St} {ys : List V} {its : List Value} {n : Nat} (I : Inv X pins σ H s) (f2 : ∀ b ∈ fp, FpOk X pins H b) (hC : s.heap.objs.size ≤ C) (hD : s.heap.objs.size ≤ D) (hDC : D ≠ C)
    (J : Inv (blk X scope own cap C s H fp) [(D, { cls := .type "list", data := .seq its.toArray n })] σ' H' s') (hs : Heap.SameBut C s'.heap h') (r : Vals ys its) (hz : ys.length ≤ sizeLine) :
    Inv X pins σ (upd H' D (.lst ys)) { s' with heap := h' } := by
  obtain ⟨eD, nD, _, _, _⟩ := J.pin (D, { cls := .type "list", data := .seq its.toArray n }) (List.mem_append_right _ (List.mem_singleton.mpr rfl))
  have HD : H D = none := I.hok.fresh hD
  have nC : H' C = none := J.free
  have neC : ∀ b o, s.heap.get? b = some o → b ≠ C := fun b o e => Nat.ne_of_lt (Nat.lt_of_lt_of_le (Heap.lt_size e) hC)
  have neD : ∀ b o, s.heap.get? b = some o → b ≠ D := fun b o e => Nat.ne_of_lt (Nat.lt_of_lt_of_le (Heap.lt_size e) hD)
  have J0 : Un (frs X.stack) fp H H' s.heap s'.heap := J.base
  have u : Un (frs X.stack) fp H (upd H' D (.lst ys)) s.heap h' := by
    refine ⟨fun b o e n hb hx => ?_, fun b o e n hb hx => ?_, fun b o e n hx => ?_, fun b o e hx => ?_, fun b xs e => ?_, fun b o xs e => ?_, fun b ps e => ?_⟩
    · exact (hs.2 b (neC b o e)).trans (J0.keep b o e n hb hx)
    · obtain ⟨sl, q⟩ := J0.slot b o e n hb hx
      exact ⟨sl, (hs.2 b (neC b o e)).trans q⟩
    · rw [upd_ne (neD b o e)]; exact J0.free b o e n hx
    · obtain ⟨o', q⟩ := J0.there b o e hx
      exact ⟨o', (hs.2 b (neC b o e)).trans q⟩
    · rw [upd_ne (ne_of_none e HD)]; exact J0.tups b xs e
    · rw [upd_ne (ne_of_none e HD)]; exact J0.frzs b o xs e
    · rw [upd_ne (ne_of_none e HD)]; exact J0.tbls b ps e
  have hok : HOk X.prog X.w (upd H' D (.lst ys)) h' := fun b o e => by
    by_cases hb : b = D
    · subst hb
      rw [upd_same] at e; cases e
      exact ⟨hz, its, n, r, (hs.2 b hDC).trans eD⟩
    · rw [upd_ne hb] at e
      refine (J.hok b o e).stay (fun c v hc q => (hs.2 c ?_).trans q) (fun c q => ?_) fun c xs q => ?_
      · rcases hc with rfl | hc
        · exact ne_of_none e nC
        · exact ne_of_none hc nC
      · rw [upd_ne (ne_of_none q nD)]; exact q
      · rw [upd_ne (ne_of_none q nD)]; exact q
  obtain ⟨hh, g, d, t, os⟩ := s'
  have eos : os = s.os := J.os
  subst eos
  exact Inv.call (s := s) (h' := h') (g' := g) (d' := d) (t' := t) (ch := fp) I u hok J.bare fun b hb => ⟨(f2 b hb).2.2.2.1, (f2 b hb).2.1, fun x c e => (f2 b hb).2.2.2.2.1 x c e, (f2 b hb).2.2.2.2.2⟩
end

end L3
namespace L3
open PySem PySem.Spec PyProof.Rows L2
section
variable {X : Cx} {pins : List (Addr × Obj)} {σ : St} {H : Hp} {s : Shared} {scope : Scope} {own : List Str} {cap : List Nat} {fp : List Addr}
theorem Inv.again {C : Addr} {pl : List (Addr × Obj)} {σ2 : St} {H3 : Hp} {s3 : Shared} (I : Inv X pins σ H s) (B : Blk X scope own cap) (f2 : ∀ b ∈ fp, FpOk X pins H b) (J : Inv (blk X scope own cap C s H fp) pl σ2 H3 s3) :
    Inv (blk X scope own cap C s H fp) pl (blkS own.length cap σ) H3 s3 := by
  obtain ⟨m, hn, _⟩ := J.loc
  refine ⟨J.ok, J.os, J.bare, J.base, ⟨m, hn, fun i x v e1 e2 e3 => ?_⟩, J.cell, J.free, J.freeC, J.pin, J.hok, ?_⟩
  · have e2' : (List.replicate own.length (none : Option V) ++ cap.map fun j => (σ[j]?).join)[i]? = some (some v) := e2
    have e1' : (own ++ cap.map fun j => X.N.getD j Str.empty)[i]? = some x := e1
    by_cases hi : i < own.length
    · rw [List.getElem?_append_left (by simpa using hi), List.getElem?_replicate, if_pos hi] at e2'
      cases e2'
    · rw [List.getElem?_append_right (by simpa using hi), List.getElem?_map] at e2'
      rw [List.getElem?_append_right (by simpa using hi), List.getElem?_map] at e1'
      rw [List.length_replicate] at e2'
      cases hj : cap[i - own.length]? with
      | none => rw [hj] at e2'; cases e2'
      | some j =>
        rw [hj] at e1' e2'
        have e1'' : X.N.getD j Str.empty = x := Option.some.inj e1'
        have e2'' : (σ[j]?).join = some v := Option.some.inj e2'
        obtain ⟨y, hy, hm, hl⟩ := B.caps j (List.mem_of_getElem? hj)
        have exy : x = y := by rw [← e1'', List.getD_eq_getElem?_getD, hy]; rfl
        subst exy
        have hσ : σ[j]? = some (some v) := by
          cases q : σ[j]? with
          | none => rw [q] at e2''; cases e2''
          | some z => rw [q] at e2''; rw [show z = some v from e2'']
        have kc := B.free _ hm rfl
        obtain ⟨m0, hn0, hl0⟩ := I.loc
        obtain ⟨u, r, lk⟩ := hl0 j x v hy hσ (.inr (.inl kc))
        refine ⟨u, r, .inr ⟨.inl (lookup_relabel_free I.ok.kind kc hl), ?_⟩⟩
        rcases lk with ⟨k1, _⟩ | ⟨_, c, hc1, o, ho, hd⟩
        · rw [kc] at k1; cases k1
        · obtain ⟨c', hc'⟩ := closeL_has (cells := X.env.cells) scope.names [] hm ⟨c, hc1⟩
          have := ((closeL_sub _ _ hc').elim (fun z => by simp at z) fun z => z.1 : X.env.cells.lookup x = some c')
          rw [hc1] at this; cases this
          have J0 : Un (frs X.stack) fp H H3 s.heap s3.heap := J.base
          obtain ⟨sl, q⟩ := J0.any ho (I.freeC x c hc1) fun z => (f2 c z).2.2.2.2.1 x c hc1 rfl
          exact ⟨c, hc', _, q, hd⟩
  · show (List.replicate own.length (none : Option V) ++ cap.map fun j => (σ[j]?).join).length = (own ++ cap.map fun j => X.N.getD j Str.empty).length
    simp
end

theorem compLoop_ok {prog : Program} {w : World} {A : Around} {R : Result → Shared → Prop} {s : Shared} {elt target iter : Expr} {ifs : List Expr} {scope : Scope} {pos : Pos} {it acc : Value} {env : Env} (I : Nat → Shared → Prop)
    (turn : ∀ n s, I n s → wpAny (model prog w) A (pyNext it) (fun r s₁ => match r with
      | none => R (.ok .next) s₁
      | some v => wpAny (model prog w) A (letOwnedTupleGo target it v) (fun _ s₁' => wpAny (model prog w) A (assign target env v) (fun _ s₂ =>
          wpAny (model prog w) A (forIn ifs true fun c r => if r = true then do let ok ← isTrue c env (eval c env); pure (ForInStep.yield ok) else pure (ForInStep.yield r)) (fun ok s₃ =>
            if ok = true then wpAny (model prog w) A (eval elt env) (fun x s₄ =>
              wpAny (model prog w) A (call (.builtin "list.append") [acc, x]) (fun _ s₅ => ∃ m, m < n ∧ I m s₅) (fun _ _ => False) s₄) (fun _ _ => False) s₃
            else ∃ m, m < n ∧ I m s₃) (fun _ _ => False) s₂) (fun _ _ => False) s₁') (fun _ _ => False) s₁) (fun _ _ => False) s)
    (n : Nat) (h : I n s) :
    codeAny (model prog w) A (.compLoop (.ListComp elt [⟨target, iter, ifs, 0⟩] scope pos) 0 it acc env) R s := by
  refine codeAny_loop rfl I (fun n s hI => ?_) n h
  show wpAny _ A ((compTurn (.ListComp elt [⟨target, iter, ifs, 0⟩] scope pos) 0 it acc env).onRaise (fun x => do noteFrame x env; theTreesLotGoes x)) _ _ s
  refine wpAny_noted ?_
  rw [compTurn_list]
  refine wpAny_bind (wpAny_standAt (wpAny_bind (wpAny_mono (turn n s hI) (fun r s₁ h₁ => ?_) fun _ _ z => z.elim)))
  cases r with
  | none => exact wpAny_pure h₁
  | some v =>
    refine wpAny_bind (wpAny_mono h₁ (fun _ s₁' h₁' => ?_) fun _ _ z => z.elim)
    refine wpAny_bind (wpAny_mono h₁' (fun _ s₂ h₂ => wpAny_bind (wpAny_mono h₂ (fun ok s₃ h₃ => ?_) fun _ _ z => z.elim)) fun _ _ z => z.elim)
    cases ok with
    | false => exact wpAny_pure ⟨rfl, h₃⟩
    | true =>
      exact wpAny_bind (wpAny_bind (wpAny_mono h₃ (fun x s₄ h₄ => wpAny_bind (wpAny_mono h₄ (fun _ s₅ h₅ => wpAny_pure (wpAny_pure ⟨rfl, h₅⟩)) fun _ _ z => z.elim)) fun _ _ z => z.elim))

def PIfs (X : Cx) (ifs : List Expr) (tc : TT) : Prop :=
  ∀ (pins : List (Addr × Obj)) (s : Shared) (σ : St) (H : Hp) (Q : Bool → Hp → Prop), Inv X pins σ H s → tc σ H Q →
    wpAny (model X.prog X.w) X.A (forIn ifs true fun c r => if r = true then do let ok ← isTrue c X.env (eval c X.env); pure (ForInStep.yield ok) else pure (ForInStep.yield r)) (TP X pins σ Q) X.xe s
def tAll : TT := fun _ H Q => Q true H
theorem pifs_nil {X : Cx} : PIfs X [] tAll := fun _ _ _ H _ I h => wpAny_tests_nil ⟨H, I, h⟩
def CompW (J : It) (W : Nat → Nat → List V → Hp → Prop) (D : List V → Hp → Prop) (σb : St) (g : TG) (tc : TT) (te : TE) : Prop :=
  ∀ i m ys H, W i m ys H → ys.length ≤ sizeLine ∧
    ((J.stop i H ∧ D ys H) ∨ (J.go i H ∧ ∃ N : List V → Hp → Prop, (∀ ys' H', N ys' H' → ∃ m', m' < m ∧ W (i + 1) m' ys' H') ∧ ∀ x H', J.yld i H x H' → g x σb H' fun σ2 H2 => tc σ2 H2 fun b H3 =>
      if b = true then te σ2 H3 fun y H4 => N (ys ++ [y]) H4 else N ys H3))
def tComp (wi : TI) (own : Nat) (cap : List Nat) (g : TG) (tc : TT) (te : TE) : TE := fun σ H Q => wi σ H fun J H1 => ∃ W : Nat → Nat → List V → Hp → Prop, (∃ m, W 0 m [] H1) ∧
  CompW J W (fun ys H => ∀ p, H p = none → Q (.ref p) (upd H p (.lst ys))) (blkS own cap σ) g tc te

section
variable {X : Cx} {scope : Scope} {own : List Str} {cap : List Nat} {tg elt iter : Expr} {ifs : List Expr} {pos : Pos} {wi : TI} {g : TG} {tc : TT} {te : TE}
theorem comp_block (B : Blk X scope own cap) (hc : X.calm = true) (hg : ∀ C s H fp, PG (blk X scope own cap C s H fp) tg g) (ht : ∀ C s H fp, PIfs (blk X scope own cap C s H fp) ifs tc) (he : ∀ C s H fp, PE (blk X scope own cap C s H fp) elt te)
    {pins : List (Addr × Obj)} {s2 : Shared} {σ : St} {H2 : Hp} {it : Addr} {fp : List Addr} {tn : Nat → Heap → Prop} {J : It} {W : Nat → Nat → List V → Hp → Prop} {D : List V → Hp → Prop} {m0 : Nat} {E : Value → Shared → Prop} {RR : Value → Addr → Result → Shared → Prop}
    (I2 : Inv X pins σ H2 s2) (T : Turn X.prog X.w X.K tg J fp it tn) (st2 : tn 0 s2.heap) (f2 : ∀ b ∈ fp, FpOk X pins H2 b) (w0 : W 0 m0 [] H2) (turn : CompW J W D (blkS own.length cap σ) g tc te)
    (done : ∀ (C L : Addr) (s' : Shared) (H' : Hp) (σ' : St) (ys : List V) (its : List Value) (n : Nat), s2.heap.objs.size ≤ C → s2.heap.objs.size ≤ L → L ≠ C → Inv (blk X scope own cap C s2 H2 fp) [(L, { cls := .type "list", data := .seq its.toArray n })] σ' H' s' → Vals ys its → ys.length ≤ sizeLine → D ys H' →
      RR (.ref L) C (.ok .next) s') :
    wpAny (model X.prog X.w) X.A (newList []) (fun acc s₃ => wpAny (model X.prog X.w) X.A (newFunctionEnv scope X.env.globals (closeL X.env.cells scope.names []) [] X.env.qual none .none (some X.env)) (fun cenv s₄ =>
      codeAny (model X.prog X.w) X.A (.compStart (.ListComp elt [⟨tg, iter, ifs, 0⟩] scope pos) 0 (.ref it) acc { cenv with scope := relabel scope X.env }) (RR acc cenv.locals) s₄) E s₃) E s2 := by
  refine wpAny_newObj_type (wpAny_newFunctionEnv B.nocell (by intro y hy; simp at hy) (fun h₁ hns₁ hsb₁ => ?_) B.kind)
  dsimp only at hns₁ hsb₁ ⊢
  have flt : ∀ b ∈ fp, b < s2.heap.objs.size := fun b hb => by
    obtain ⟨o, e, _⟩ := T.obj _ _ st2 b hb
    exact Heap.lt_size e
  generalize hH2 : s2.heap.push { cls := .type "list", dict := none, data := .seq ([] : List Value).toArray } = G2 at hns₁ hsb₁ ⊢
  have hCs : G2.objs.size = s2.heap.objs.size + 1 := by rw [← hH2, Heap.size_push]
  have hC : s2.heap.objs.size ≤ G2.objs.size := by rw [hCs]; exact Nat.le_succ _
  have hDC : s2.heap.objs.size ≠ G2.objs.size := by rw [hCs]; exact Nat.ne_of_lt (Nat.lt_succ_self _)
  have old : ∀ b o, s2.heap.get? b = some o → h₁.get? b = some o := fun b o e =>
    hsb₁.extBut b o (Nat.ne_of_lt (Nat.lt_of_lt_of_le (Heap.lt_size e) hC)) (Heap.get?_push_of_some _ (hH2 ▸ Heap.get?_push_of_some _ e))
  have hacc : h₁.get? s2.heap.objs.size = some { cls := .type "list", data := .seq ([] : List Value).toArray 0 } := hsb₁.extBut _ _ hDC (Heap.get?_push_of_some _ (hH2 ▸ Heap.get?_push_size _ rfl))
  have loop : ∀ s₃ : Shared, s₃ = { s2 with heap := h₁, toks := s2.toks + ([] : List (Str × Value)).length } →
      codeAny (model X.prog X.w) X.A (.compLoop (.ListComp elt [⟨tg, iter, ifs, 0⟩] scope pos) 0 (.ref it) (.ref s2.heap.objs.size) (compEnvC scope (closeL X.env.cells scope.names []) G2.objs.size X.env))
        (RR (.ref s2.heap.objs.size) G2.objs.size) s₃ := by
    rintro s₃ rfl
    refine compLoop_ok (fun n s' => ∃ i ys its nn H', Inv (blk X scope own cap G2.objs.size s2 H2 fp) [(s2.heap.objs.size, { cls := .type "list", data := .seq (its : List Value).toArray nn })] (blkS own.length cap σ) H' s' ∧ tn i s'.heap ∧ (∀ b ∈ fp, H' b = none) ∧ Vals ys its ∧ W i n ys H')
      ?_ m0 ⟨0, [], [], 0, H2, L3.Inv.enter I2 hc B f2 flt old hC hns₁ _ (fun p hp => ?_), T.keep _ _ _ st2 (fun b _ o e => old b o e), fun b hb => (f2 b hb).1, .nil, w0⟩
    · rintro n s3 ⟨i, ys, its, nn, H3, J3, st3, fr3, rv, w3⟩
      have fpb : ∀ {pl : List (Addr × Obj)} {H' : Hp}, (∀ b ∈ fp, H' b = none) → (∀ p ∈ pl, ∀ b ∈ fp, p.1 ≠ b) → ∀ b ∈ fp, FpOk (blk X scope own cap G2.objs.size s2 H2 fp) pl H' b := fun {pl H'} hn hp b hb =>
        ⟨hn b hb, Nat.ne_of_lt (Nat.lt_of_lt_of_le (flt b hb) hC), fun z => J3.ok.exfs b hb z, .inl hb, fun x c e => (J3.ok.exf b hb).2 x c e, fun p hp' => by
          rcases List.mem_append.mp hp' with z | z
          · exact absurd (show p ∈ ([] : List (Addr × Obj)) from z) (by simp)
          · exact hp p z b hb⟩
      have nD : ∀ (o : Obj), ∀ p ∈ [(s2.heap.objs.size, o)], ∀ b ∈ fp, p.1 ≠ b := fun o p hp b hb => by
        have e : p = (s2.heap.objs.size, o) := by simpa using hp
        subst e
        exact (Nat.ne_of_lt (flt b hb)).symm
      obtain ⟨hz, tr⟩ := turn i n ys H3 w3
      rcases tr with ⟨stop, qD⟩ | ⟨go, N, hN, step⟩
      · refine thn (T.done (blk X scope own cap G2.objs.size s2 H2 fp) rfl rfl rfl rfl i _ s3 _ H3 (fun _ _ => False) J3 (fpb fr3 (nD _)) st3 stop) fun r s4 ⟨hr, J4⟩ => ?_
        subst hr
        exact done _ _ s4 H3 _ ys its nn hC (Nat.le_refl _) hDC J4 rv hz qD
      · refine thn (T.item (blk X scope own cap G2.objs.size s2 H2 fp) rfl rfl rfl rfl i _ s3 _ H3 (fun _ _ => False) J3 (fpb fr3 (nD _)) st3 go) fun r s4 ⟨u, hr, h4⟩ => ?_
        subst hr
        refine thn h4 fun _ s5 ⟨x, H5, J5, r5, y5, st5, fr5⟩ => ?_
        have J5' := J5.pinned (fpb fr5 (nD _)) (T.obj _ _ st5)
        refine thn (hg _ _ _ _ _ s5 _ H5 x u _ J5' r5 (step x H5 y5)) fun _ s6 ⟨σ6, H6, J6, q6⟩ => ?_
        -- a turn's end, the list at L as it stands
        have again : ∀ {pl : List (Addr × Obj)} {its' : List Value} {nn' : Nat} {ys' : List V} {s8 : Shared} {H8 : Hp} {σ8 : St} {m' : Nat}, Inv (blk X scope own cap G2.objs.size s2 H2 fp) ([(s2.heap.objs.size, { cls := .type "list", data := .seq its'.toArray nn' })] ++ pinsAt fp s5.heap) σ8 H8 s8 → Vals ys' its' → m' < n → W (i + 1) m' ys' H8 →
            ∃ m, m < n ∧ ∃ i ys its nn H', Inv (blk X scope own cap G2.objs.size s2 H2 fp) [(s2.heap.objs.size, { cls := .type "list", data := .seq (its : List Value).toArray nn })] (blkS own.length cap σ) H' s8 ∧ tn i s8.heap ∧ (∀ b ∈ fp, H' b = none) ∧ Vals ys its ∧ W i m ys H' := by
          intro pl its' nn' ys' s8 H8 σ8 m' J8 rv' hm w8
          have pin8 : ∀ b ∈ fp, ∀ o, s5.heap.get? b = some o → s8.heap.get? b = some o ∧ H8 b = none := fun b hb o e => by
            have q := J8.pin (b, o) (List.mem_append_right _ (List.mem_append_right _ (mem_pinsAt hb e)))
            exact ⟨q.1, q.2.1⟩
          refine ⟨m', hm, i + 1, ys', its', nn', H8, Inv.again I2 B f2 J8.unpinned, T.keep _ _ _ st5 fun b hb o e => (pin8 b hb o e).1, fun b hb => ?_, rv', w8⟩
          obtain ⟨o, e, _⟩ := T.obj _ _ st5 b hb
          exact (pin8 b hb o e).2
        refine thn (ht _ _ _ _ _ s6 _ H6 _ J6 q6) fun ok s7 ⟨H7, J7, q7⟩ => ?_
        cases ok with
        | false =>
          rw [if_neg Bool.false_ne_true]
          rw [if_neg Bool.false_ne_true] at q7
          obtain ⟨m', hm, w7⟩ := hN _ _ q7
          exact again (pl := []) J7 rv hm w7
        | true =>
          rw [if_pos rfl]
          rw [if_pos rfl] at q7
          refine thn (he _ _ _ _ _ s7 _ H7 _ J7 q7) fun v s8 ⟨y, H8, J8, ry, q8⟩ => ?_
          obtain ⟨m', hm, w8⟩ := hN _ _ q8
          have pL := J8.pin (s2.heap.objs.size, { cls := .type "list", data := .seq its.toArray nn }) (List.mem_append_right _ (List.mem_append_left _ (List.mem_singleton.mpr rfl)))
          refine wpAny_list_append_plain (l := s2.heap.objs.size) (items := its.toArray) ⟨nn, pL.1⟩ (fun h' hp' hsb => ?_) (by rw [List.size_toArray, ← rv.length]; exact hz)
          obtain ⟨nn', hL'⟩ := hp'
          have J9 : Inv (blk X scope own cap G2.objs.size s2 H2 fp) (pinsAt fp s5.heap) σ6 H8 s8 := J8.pins_of fun p hp => J8.pin p (List.mem_append_right _ (List.mem_append_right _ hp))
          have npin : ∀ p ∈ (blk X scope own cap G2.objs.size s2 H2 fp).pn ++ pinsAt fp s5.heap, p.1 ≠ s2.heap.objs.size := fun p hp => by
            rcases List.mem_append.mp hp with z | z
            · exact absurd (show p ∈ ([] : List (Addr × Obj)) from z) (by simp)
            · exact Nat.ne_of_lt (flt _ (of_pinsAt z).1)
          have J10 : Inv (blk X scope own cap G2.objs.size s2 H2 fp) (pinsAt fp s5.heap) σ6 H8 { s8 with heap := h' } := J9.turned (t' := s8.toks) (it := s2.heap.objs.size) (fun b o hb e => (hsb.2 b hb).trans e) pL.2.1 pL.2.2.1 (.inr (Nat.le_refl _))
            (fun x c e z => by
              obtain ⟨v', o', ho', hd'⟩ := J9.cell x c e
              rw [z, pL.1] at ho'; cases ho'; cases hd') npin
          refine again (pl := []) (its' := its ++ [v]) (nn' := nn') (J10.pins_of fun p hp => ?_) (rv.append (.cons ry .nil)) hm w8
          rcases List.mem_append.mp hp with z | z
          · have e : p = (s2.heap.objs.size, { cls := .type "list", data := .seq (its ++ [v]).toArray nn' }) := by simpa using z
            subst e
            refine ⟨?_, pL.2.1, pL.2.2.1, pL.2.2.2.1, fun v' => by intro q; cases q⟩
            rw [hL']
            simp
          · exact J10.pin p (List.mem_append_right _ z)
    · have e : p = (s2.heap.objs.size, { cls := .type "list", data := .seq ([] : List Value).toArray 0 }) := by simpa using hp
      subst e
      exact ⟨hacc, Nat.le_refl _, hDC, fun v' => by intro q; cases q⟩
  exact codeAny_compStart_list (loop _ rfl) (T.self _ 0 _ _ _ (T.keep _ _ _ st2 fun b _ o e => old b o e) (loop _ rfl))

theorem pe_comp (hc : X.calm = true) (hi : PI X tg iter wi) (B : Blk X scope own cap) (hg : ∀ C s H fp, PG (blk X scope own cap C s H fp) tg g) (ht : ∀ C s H fp, PIfs (blk X scope own cap C s H fp) ifs tc) (he : ∀ C s H fp, PE (blk X scope own cap C s H fp) elt te)
    (hs : ∀ x, foldedSetIterable iter X.env x = pure x := by intro _; rfl) : PE X (.ListComp elt [⟨tg, iter, ifs, 0⟩] scope pos) (tComp wi own.length cap g tc te) := by
  intro pins s σ H Q I h
  rw [eval_ListComp]
  refine wpAny_comprehension_free (use := none) rfl hs (closeL_of (B.cells I.ok)) B.kind B.names (thn (hi pins s σ H _ I h) fun v s1 h1 => thn h1 fun itv s2 h2 => ?_)
  obtain ⟨it, fp, tn, J, H2, e, I2, T, st2, f2, W, ⟨m0, w0⟩, turn⟩ := h2
  subst e
  refine comp_block (RR := fun acc C => compPost (model X.prog X.w) X.A X.xe none (EP X pins σ Q) acc C) B hc hg ht he I2 T st2 f2 w0 turn ?_
  intro C L s' H' σ' ys its n hC hL hLC J' rv hz hD
  obtain ⟨m, hn, _⟩ := J'.loc
  have nL := (J'.pin _ (List.mem_append_right _ (List.mem_singleton.mpr rfl))).2.1
  exact ⟨m, hn, fun h' hs' => ⟨.ref L, _, Inv.leave I2 f2 hC hL hLC J' hs' rv hz, rfl, hD L nL⟩⟩

def tCompS (i : Nat) (wi : TI) (own : Nat) (cap : List Nat) (g : TG) (tc : TT) (te : TE) : TS := fun D σ H => tComp wi own cap g tc te σ H fun v H1 => D.nx (σ.set i (some v)) H1
theorem ps_compS {i : Nat} {x : Str} {px spos : Pos} (hc : X.calm = true) (hN : X.N.Nodup) (hi' : X.N[i]? = some x) (hx : Loc X.env.scope x) (hi : PI X tg iter wi) (B : Blk X scope own cap) (hg : ∀ C s H fp, PG (blk X scope own cap C s H fp) tg g)
    (ht : ∀ C s H fp, PIfs (blk X scope own cap C s H fp) ifs tc) (he : ∀ C s H fp, PE (blk X scope own cap C s H fp) elt te)
    (hsw : swapsWith (.ListComp elt [⟨tg, iter, ifs, 0⟩] scope pos) (some (.Name x px)) spos.line X.env = pure true) (hf : X.fn x = true ∨ X.env.scope.names.lookup x = some .local := by first | exact .inl rfl | exact .inr rfl | assumption)
    (hs : ∀ x, foldedSetIterable iter X.env x = pure x := by intro _; rfl) : PS X (.Assign [.Name x px] (.ListComp elt [⟨tg, iter, ifs, 0⟩] scope pos) spos) (tCompS i wi own.length cap g tc te) := by
  intro pins s σ H D I h
  rw [exec_Assign_Name_used _ _ _ _ hsw]
  refine wpAny_bind (wpAny_standAt (wpAny_bind ?_))
  show wpAny _ X.A (do let _ ← comprehension (.ListComp elt [⟨tg, iter, ifs, 0⟩] scope pos) scope X.env _ (newList []) false (eval iter X.env) (some (assign (.Name x px) X.env))) _ _ s
  refine wpAny_bind (thn (wpAny_comprehension_free (use := some (assign (.Name x px) X.env)) (Q := fun _ s' => SP X pins D .next s') rfl hs (closeL_of (B.cells I.ok)) B.kind B.names
    (thn (hi pins s σ H _ I h) fun v s1 h1 => thn h1 fun itv s2 h2 => ?_)) (fun _ s' hq => wpAny_pure (wpAny_pure hq)))
  obtain ⟨it, fp, tn, J, H2, e, I2, T, st2, f2, W, ⟨m0, w0⟩, turn⟩ := h2
  subst e
  refine comp_block (RR := fun acc C => compPost (model X.prog X.w) X.A X.xe (some (assign (.Name x px) X.env)) (fun _ s' => SP X pins D .next s') acc C) B hc hg ht he I2 T st2 f2 w0 turn ?_
  intro C L s' H' σ' ys its n hC hL hLC J' rv hz hD
  obtain ⟨m, hn, _⟩ := J'.loc
  have nL := (J'.pin _ (List.mem_append_right _ (List.mem_singleton.mpr rfl))).2.1
  have I3 := Inv.leave I2 f2 hC hL hLC J' (.refl ..) rv hz
  show wpAny _ X.A (assign (.Name x px) X.env (.ref L)) _ _ s'
  have cL : C ≠ X.env.locals := Ne.symm (Nat.ne_of_lt (Nat.lt_of_lt_of_le I2.lt hC))
  have cc : ∀ y c, X.env.cells.lookup y = some c → c ≠ C := fun y c e => by
    obtain ⟨v, q⟩ := I2.cell y c e
    exact Nat.ne_of_lt (Nat.lt_of_lt_of_le q.lt hC)
  refine wpAny_assign_Name (store_ok2 I3 hN hi' hx (v := .ref L) rfl (fun s4 I4 ⟨a, hsb, ha⟩ => ?_) hf)
  have aC : C ≠ a := by
    rcases ha with rfl | e
    · exact cL
    · exact Ne.symm (cc _ _ e)
  refine ⟨m, hn.sameBut hsb aC, fun h5 hs5 => ⟨_, _, I4.turned (t' := s4.toks) (it := C) (fun b o hb e => (hs5.2 b hb).trans e) (by rw [upd_ne (Ne.symm hLC)]; exact J'.free) cL (.inr (Nat.le_trans I2.sz hC)) cc (fun p hp => ?_), hD L nL⟩⟩
  exact Nat.ne_of_lt (Nat.lt_of_lt_of_le (Heap.lt_size (I2.pin p hp).1) hC)
end
theorem comp_list {K : PySem.W.Frag} {a : Addr} {xs : List V} {g : TG} {tc : TT} {te : TE} {D : List V → Hp → Prop} {σb : St} {H : Hp} (Pv : Nat → List V → Hp → Prop) (h0 : Pv 0 [] H) (hl : ∀ i ys H, i ≤ xs.length → Pv i ys H → SqL K H a xs ∧ ys.length ≤ sizeLine)
    (hs : ∀ i x ys H, xs[i]? = some x → Pv i ys H → g x σb H fun σ2 H2 => tc σ2 H2 fun b H3 => if b = true then te σ2 H3 fun y H4 => Pv (i + 1) (ys ++ [y]) H4 else Pv (i + 1) ys H3) (hd : ∀ ys H, Pv xs.length ys H → D ys H) :
    ∃ W : Nat → Nat → List V → Hp → Prop, (∃ m, W 0 m [] H) ∧ CompW (Itl K a) W D σb g tc te := by
  refine ⟨fun i m ys H => m = xs.length - i ∧ i ≤ xs.length ∧ Pv i ys H, ⟨xs.length, by simp, Nat.zero_le _, h0⟩, ?_⟩
  rintro i m ys H ⟨rfl, hi, p⟩
  obtain ⟨q, hz⟩ := hl i ys H hi p
  refine ⟨hz, ?_⟩
  by_cases hlt : i < xs.length
  · refine .inr ⟨⟨xs, xs[i], q, by simp [hlt]⟩, Pv (i + 1), fun ys' H' p' => ⟨xs.length - (i + 1), by omega, rfl, hlt, p'⟩, fun x H' y => ?_⟩
    obtain ⟨e, y⟩ := y
    subst e
    exact hs i x ys _ (y xs q) p
  · have e : i = xs.length := by omega
    subst e
    exact .inl ⟨⟨xs, q, Nat.le_refl _⟩, hd ys H p⟩
theorem comp_tup {K : PySem.W.Frag} {a : Addr} {xs : List V} {g : TG} {tc : TT} {te : TE} {D : List V → Hp → Prop} {σb : St} {H : Hp} (Pv : Nat → List V → Hp → Prop) (h0 : Pv 0 [] H) (hl : ∀ i ys H, i ≤ xs.length → Pv i ys H → SqT K H a xs ∧ ys.length ≤ sizeLine)
    (hs : ∀ i x ys H, xs[i]? = some x → Pv i ys H → g x σb H fun σ2 H2 => tc σ2 H2 fun b H3 => if b = true then te σ2 H3 fun y H4 => Pv (i + 1) (ys ++ [y]) H4 else Pv (i + 1) ys H3) (hd : ∀ ys H, Pv xs.length ys H → D ys H) :
    ∃ W : Nat → Nat → List V → Hp → Prop, (∃ m, W 0 m [] H) ∧ CompW (Itt K a) W D σb g tc te := by
  refine ⟨fun i m ys H => m = xs.length - i ∧ i ≤ xs.length ∧ Pv i ys H, ⟨xs.length, by simp, Nat.zero_le _, h0⟩, ?_⟩
  rintro i m ys H ⟨rfl, hi, p⟩
  obtain ⟨q, hz⟩ := hl i ys H hi p
  refine ⟨hz, ?_⟩
  by_cases hlt : i < xs.length
  · refine .inr ⟨⟨xs, xs[i], q, by simp [hlt]⟩, Pv (i + 1), fun ys' H' p' => ⟨xs.length - (i + 1), by omega, rfl, hlt, p'⟩, fun x H' y => ?_⟩
    obtain ⟨e, y⟩ := y
    subst e
    exact hs i x ys _ (y xs q) p
  · have e : i = xs.length := by omega
    subst e
    exact .inl ⟨⟨xs, q, Nat.le_refl _⟩, hd ys H p⟩
theorem comp_range {lo : Int} {n : Nat} {g : TG} {tc : TT} {te : TE} {D : List V → Hp → Prop} {σb : St} {H : Hp} (Pv : Nat → List V → Hp → Prop) (h0 : Pv 0 [] H) (hl : ∀ i ys H, i ≤ n → Pv i ys H → ys.length ≤ sizeLine)
    (hs : ∀ i ys H, i < n → Pv i ys H → g (.int (lo + i)) σb H fun σ2 H2 => tc σ2 H2 fun b H3 => if b = true then te σ2 H3 fun y H4 => Pv (i + 1) (ys ++ [y]) H4 else Pv (i + 1) ys H3) (hd : ∀ ys H, Pv n ys H → D ys H) :
    ∃ W : Nat → Nat → List V → Hp → Prop, (∃ m, W 0 m [] H) ∧ CompW (Itr lo n) W D σb g tc te := by
  refine ⟨fun i m ys H => m = n - i ∧ i ≤ n ∧ Pv i ys H, ⟨n, by simp, Nat.zero_le _, h0⟩, ?_⟩
  rintro i m ys H ⟨rfl, hi, p⟩
  refine ⟨hl i ys H hi p, ?_⟩
  by_cases hlt : i < n
  · refine .inr ⟨hlt, Pv (i + 1), fun ys' H' p' => ⟨n - (i + 1), by omega, rfl, hlt, p'⟩, fun x H' y => ?_⟩
    obtain ⟨e, y⟩ := y
    subst e y
    exact hs i ys _ hlt p
  · have e : i = n := by omega
    subst e
    exact .inl ⟨Nat.le_refl _, hd ys H p⟩
end L3
namespace L3
open PySem PySem.Spec PyProof.Rows L2

structure GlV (mg : Str → Option Value) (x : Str) (v : V) : Prop where
  ex : ∃ u, mg x = some u ∧ RelV v u
theorem pe_g {X : Cx} {x : Str} {v : V} {pos : Pos} (h : GlV X.mg x v) (hg : Gl X x := by rfl) (hd : (x == ("__debug__" : Str)) = false := by decide) : PE X (.Name x pos) (tC v) := by
  obtain ⟨u, m, r⟩ := h.ex
  exact pe_glob hg m r hd
theorem bt_len : bootBuiltins "len" = some (.builtin "len") := by decide +kernel
theorem bt_isinstance : bootBuiltins "isinstance" = some (.builtin "isinstance") := by decide +kernel
theorem bt_max : bootBuiltins "max" = some (.builtin "max") := by decide +kernel
theorem bt_min : bootBuiltins "min" = some (.builtin "min") := by decide +kernel
theorem bt_all : bootBuiltins "all" = some (.builtin "all") := by decide +kernel
theorem bt_str : bootBuiltins "str" = some (.type "str") := by decide +kernel
theorem bt_tuple : bootBuiltins "tuple" = some (.type "tuple") := by decide +kernel
theorem bt_int : bootBuiltins "int" = some (.type "int") := by decide +kernel
theorem bt_bool : bootBuiltins "bool" = some (.type "bool") := by decide +kernel
structure Bt (mg : Str → Option Value) : Prop where
  len : mg "len" = none
  range : mg "range" = none
  isinstance : mg "isinstance" = none
  max : mg "max" = none
  min : mg "min" = none
  all : mg "all" = none
  any : mg "any" = none
  sorted : mg "sorted" = none
  sum : mg "sum" = none
  int_ : mg "int" = none
  bool_ : mg "bool" = none
  str_ : mg "str" = none
  list_ : mg "list" = none
  tuple_ : mg "tuple" = none
  dict_ : mg "dict" = none
  set_ : mg "set" = none
  zip_ : mg "zip" = none
  ValueError_ : mg "ValueError" = none

section
variable {X : Cx}
def CDivB (_ j : Int) : Prop := 0 < j ∧ j < 2 ^ 250
def CMulB (i j : Int) : Prop := (-(2 ^ 250) < i ∧ i < 2 ^ 250) ∧ (-(2 ^ 250) < j ∧ j < 2 ^ 250)
theorem log2_lt {n k : Nat} (h : n < 2 ^ k) (hk : 0 < k) : n.log2 < k := by
  by_cases h0 : n = 0
  · subst h0; simpa using hk
  · exact (Nat.log2_lt h0).mpr h
theorem op_fdivB : OpR X (binaryOp .FloorDiv) (rI CDivB fun i j => .int (i / j)) := opI fun i j t u A s Q hc q => by
  have e : i.fdiv j = i / j := Int.fdiv_eq_ediv_of_nonneg _ (Int.le_of_lt hc.1)
  refine floordiv_int (by have := hc.1; omega) (by rw [e]; exact q) (.inl (PyProof.noPylong_of_log2 ?_))
  refine Nat.lt_of_lt_of_le (log2_lt (k := 250) ?_ (by decide)) (by decide)
  have h1 := hc.1
  have h2 := hc.2
  have e2 : ((2 : Int) ^ 250) = ((2 ^ 250 : Nat) : Int) := by norm_cast
  rw [e2] at h2
  omega
theorem op_mulB : OpR X (binaryOp .Mult) (rI CMulB fun i j => .int (i * j)) := opI fun i j t u A s Q hc q => by
  have bits : ∀ {k : Int}, -(2 ^ 250) < k → k < 2 ^ 250 → Builtin.Int.intBits k ≤ 2 ^ 20 := fun {k} h1 h2 => by
    have e2 : ((2 : Int) ^ 250) = ((2 ^ 250 : Nat) : Int) := by norm_cast
    rw [e2] at h1 h2
    have h3 : k.natAbs < 2 ^ 250 := by omega
    have h4 := log2_lt h3 (by decide)
    unfold Builtin.Int.intBits
    split
    · exact Nat.zero_le _
    · exact Nat.le_trans (Nat.succ_le_succ (Nat.le_of_lt h4)) (by decide)
  exact mul_int q (IntMulOk.of_bits (bits hc.1.1 hc.1.2) (bits hc.2.1 hc.2.2))

theorem op_mulStr : OpR X (binaryOp .Mult) (fun x y H Q => ∃ z n, x = .str z ∧ y = .int n ∧ z.length ≤ 1000 ∧ -1000 ≤ n ∧ n ≤ 10000 ∧ Q (.str (Txt.mul z n)) H) := by
  intro pins s σ H x y v u Q I rx ry h
  obtain ⟨z, n, rfl, rfl, h1, h2, h3, q⟩ := h
  obtain ⟨t, rfl⟩ := rx
  obtain ⟨t', rfl⟩ := ry
  exact SB.mul (mulOk_of 1000 10000 h1 (by omega) (by omega) (by decide) (by decide)) fun t' k => ⟨.str _, H, I.tok _, ⟨_, rfl⟩, q⟩
theorem strs_of : ∀ {ys : List Str} {us : List Value}, Vals (ys.map V.str) us → StrsAre us ys
  | [], _, .nil => .nil
  | y :: ys, _, .cons r t => by
    obtain ⟨tk, rfl⟩ := r
    exact .cons y tk (strs_of t)
theorem mt_str_join : MtR X "str.join" (fun x xs H Q => ∃ z p ys, x = .str z ∧ xs = [.ref p] ∧ SqL X.K H p (ys.map V.str) ∧ (ys.map (·.length)).sum + ys.length * z.length ≤ 16777216 ∧ Q (.str (Txt.join z ys)) H) := by
  intro pins s σ H x xs v us Q I rx rs h
  obtain ⟨z, p, ys, rfl, rfl, hq, hz, q⟩ := h
  obtain ⟨t, rfl⟩ := rx
  obtain ⟨u, rfl, ru⟩ := vals1 rs
  cases ru
  obtain ⟨its, r, pl, _⟩ := I.list hq
  exact join_list pl.isList (by simpa using strs_of r) hz fun t' k => ⟨.str _, H, I.tok _, ⟨_, rfl⟩, q⟩

def rIsi (K : PySem.W.Frag) : List V → Hp → VK → Prop := fun xs H Q => ∃ x c t b, xs = [x, c] ∧ TyOf K H x t ∧ ((∃ T, c = .ty T ∧ PySem.W.kitOne K t (.type T) = some b) ∨ ∃ C, c = .ref C ∧ PySem.W.kitOne K t (.ref C) = some b) ∧ Q (.bl b) H
theorem call_isi : CallR X (.builtin "isinstance") (rIsi X.K) := by
  intro pins s σ H xs us Q I r h
  obtain ⟨x, c, t, b, rfl, ty, e, q⟩ := h
  obtain ⟨u, w', rfl, rx, rc⟩ := vals2 r
  rcases e with ⟨T, rfl, e⟩ | ⟨C, rfl, e⟩
  · cases (show w' = Value.type T from rc)
    exact isinst_ok I rx ty e fun tk => ⟨.bl b, H, I.tok _, rfl, q⟩
  · cases (show w' = Value.ref C from rc)
    exact isinst_ok I rx ty e fun tk => ⟨.bl b, H, I.tok _, rfl, q⟩
theorem pe_isi {e : Expr} {te : TE} {c : Str} {T : String} {p p' pos : Pos} (hm : X.mg "isinstance" = none) (hc : X.mg c = none) (hv : bootBuiltins c = some (.type T)) (he : PE X e te) (hg : Gl X "isinstance" := by rfl) (hg' : Gl X c := by rfl) (hn : c ≠ "__name__" := by decide) (hd : (c == ("__debug__" : Str)) = false := by decide)
    (hs : starEach [e, .Name c p'] X.env = (false, eval e X.env) :: starEach [.Name c p'] X.env := by rfl) (hs2 : starEach [.Name c p'] X.env = (false, eval (.Name c p') X.env) :: starEach [] X.env := by rfl) (hpl : (backTo pos (starEach [.Name c p'] X.env)).any (·.1) = false := by rfl) :
    PE X (.Call (.Name "isinstance" p) [e, .Name c p'] [] pos) (tCB (rIsi X.K) (tCons te (tCons (tC (.ty T)) tNil))) :=
  pe_callB call_isi hg hm bt_isinstance (pa_cons he (pa_cons (pe_bltn hg' hc hv rfl hn hd) pa_nil hs2) hs) (by decide) (by decide) hs hpl
end

def blkOk (names : List (Str × NameKind)) (N : List Str) (scope : Scope) (own : List Str) (cap : List Nat) : Bool :=
  scope.names.all (fun y => y.2 != .cell && (y.2 != .local || scope.names.lookup y.1 == some .local) && (y.2 != .free || names.lookup y.1 == some .cell)) &&
  decide (blkN N own cap).Nodup &&
  cap.all (fun j => match N[j]? with | some x => scope.names.any (fun y => y.1 == x && y.2 == .free) && scope.names.lookup x == some .free | none => false)
theorem blk_of {X : Cx} {scope : Scope} {own : List Str} {cap : List Nat} (names : List (Str × NameKind)) (N : List Str) (hn : X.env.scope.names = names) (hN : X.N = N) (hk : scope.kind = .function) (h : blkOk names N scope own cap = true) : Blk X scope own cap := by
  unfold blkOk at h
  simp only [Bool.and_eq_true, List.all_eq_true, decide_eq_true_eq] at h
  obtain ⟨⟨h1, h2⟩, h3⟩ := h
  refine ⟨hk, fun y hy e => ?_, fun y hy e => ?_, fun y hy e => ?_, by rw [hN]; exact h2, fun j hj => ?_⟩
  · have := (h1 y hy).1.1
    rw [e] at this; exact absurd this (by decide)
  · have := (h1 y hy).1.2
    rw [e] at this; simpa using this
  · have := (h1 y hy).2
    rw [e] at this
    show X.env.scope.names.lookup y.1 = some .cell
    rw [hn]
    simpa using this
  · have := h3 j hj
    rw [hN]
    split at this
    · rename_i x e
      simp only [Bool.and_eq_true, List.any_eq_true, beq_iff_eq] at this
      obtain ⟨⟨y, hy, e1, e2⟩, e3⟩ := this
      obtain ⟨y1, y2⟩ := y
      dsimp only at e1 e2
      subst e1 e2
      exact ⟨_, e, hy, e3⟩
    · cases this
structure Mak (P : Program) (w : World) (K : PySem.W.Frag) (mg : Str → Option Value) (base : Heap) (CX : CXT) (x : Str) (C : Addr) (k : Nat) (ps : List Str) (sp : Sp) : Prop where
  ex : ∃ f fd, Mk K C f ∧ FnOk P w K mg base CX k f fd ps sp ∧ Binds K fd ps [] ∧ mg x = some (.ref C)
structure CDat (K : PySem.W.Frag) (mg : Str → Option Value) (x qual : Str) (C : Addr) (st : Stmt) (ps : List Str) : Prop where
  ex : ∃ f fd, Fun K "__init__" qual st f fd ∧ Binds K fd ps [] ∧ mg x = some (.ref C) ∧ Mk K C f ∧ Cls K C
structure MDat (K : PySem.W.Frag) (C : Addr) (x qual : Str) (st : Stmt) (ps : List Str) : Prop where
  ex : ∃ f fd, Fun K x qual st f fd ∧ Binds K fd ps [] ∧ Meth K C x f ∧ Cls K C
section
variable {P : Program} {w : World} {K : PySem.W.Frag} {mg : Str → Option Value} {base : Heap} {CX : CXT} {x qual : Str} {C : Addr} {st : Stmt} {N ps : List Str} {k j : Nat} {sp sp' : Sp}
theorem Mak.mono (c : Mak P w K mg base CX x C k ps sp) (h : k ≤ j) : Mak P w K mg base CX x C j ps sp := by
  obtain ⟨f, fd, m, F, r⟩ := c.ex
  exact ⟨f, fd, m, F.mono h, r⟩
theorem CDat.ok (D : CDat K mg x qual C st ps) (S : FnScope N ps (defScope st)) (len : ∀ vs H Q E, sp vs H Q E → vs.length = ps.length)
    (hbody : ∀ (f : Addr) (cdv : Value) (A : Around) (outer : List Env) (s : Shared) (H : Hp) (vs : List V) (Q : VK) (E : XK), Room k (A.deeper (envOfC qual (defScope st) s.heap.objs.size f cdv)) → sp vs H Q E →
      ∃ t, PSs (cxOf CX P w K mg base N qual (defScope st) f cdv A outer s H E).nox (defBody st) t ∧ t { nx := fun _ H' => Q .non H', rt := Q } (start N vs) H) : Mak P w K mg base CX x C (k + 1) ps sp := by
  obtain ⟨f, fd, F, b, m, M, _⟩ := D.ex
  exact ⟨f, fd, M, fun_ok F S len hbody, b, m⟩
theorem CDat.cls (D : CDat K mg x qual C st ps) : Cls K C := D.ex.elim fun _ h => h.elim fun _ h => h.2.2.2.2
end
section
variable {X : Cx} {CX : CXT} {k : Nat} {ps : List Str} {sp : Sp} {E : XK} {x : Str} {C : Addr} {p pos : Pos} {e : Expr} {es : List Expr} {t : TA}
end
end L3
namespace L4
open PySem PySem.Spec PyProof.Rows L2 L3

def TSame (H H' : Hp) : Prop := ∀ q xs, H q = some (.tup xs) → H' q = some (.tup xs)
theorem TSame.refl (H : Hp) : TSame H H := fun _ _ h => h
theorem TSame.trans {H H1 H2 : Hp} (a : TSame H H1) (b : TSame H1 H2) : TSame H H2 := fun q xs h => b q xs (a q xs h)
theorem ts_of_same {H H' : Hp} (s : Same H H') : TSame H H' := fun q _ h => s q _ h
theorem ts_upd {H : Hp} {p : Addr} {o u : HO} (h : H p = some u) (n : ∀ xs, u ≠ .tup xs) : TSame H (upd H p o) := fun q xs e => by
  have : q ≠ p := fun z => by subst z; rw [h] at e; exact n xs (Option.some.inj e)
  rw [upd_ne this]; exact e
structure Ob where
  p : Hp → HO → Prop
  mono : ∀ {H H' : Hp} {o : HO}, TSame H H' → p H o → p H' o
def Eo (o : HO) : Ob := ⟨fun _ u => u = o, fun _ h => h⟩
structure Pr where
  p : Hp → Prop
  mono : ∀ {H H' : Hp}, TSame H H' → p H → p H'
def tupAt (r : Addr) (xs : List V) : Pr := ⟨fun H => H r = some (.tup xs), fun t h => t _ _ h⟩

structure Led (P : Addr → Prop) (H0 H : Hp) (l : List (Addr × Ob)) (fs : List Pr) : Prop where
  at_ : ∀ x ∈ l, ∃ o, H x.1 = some o ∧ x.2.p H o
  nd : (l.map (·.1)).Nodup
  own : ∀ x ∈ l, P x.1 ∨ H0 x.1 = none
  fr : ∀ q o, H0 q = some o → ¬ P q → H q = some o
  st : ∀ f ∈ fs, f.p H
inductive Put (p : Addr) (a b : Ob) : List (Addr × Ob) → List (Addr × Ob) → Prop
  | head {l} : Put p a b ((p, a) :: l) ((p, b) :: l)
  | tail {x l l'} : Put p a b l l' → Put p a b (x :: l) (x :: l')
section
variable {P : Addr → Prop} {H0 H H' : Hp} {l l' : List (Addr × Ob)} {fs : List Pr} {p : Addr} {a b : Ob} {o : HO}
theorem Put.mem (h : Put p a b l l') : (p, a) ∈ l := by
  induction h with
  | head => exact List.mem_cons_self
  | tail _ ih => exact List.mem_cons_of_mem _ ih
theorem Put.keys (h : Put p a b l l') : l'.map (·.1) = l.map (·.1) := by
  induction h with
  | head => rfl
  | tail _ ih => rw [List.map_cons, List.map_cons, ih]
theorem Put.or (h : Put p a b l l') : ∀ x ∈ l', x = (p, b) ∨ x ∈ l := by
  induction h with
  | head =>
    intro x hx
    rcases List.mem_cons.mp hx with e | e
    · exact .inl e
    · exact .inr (List.mem_cons_of_mem _ e)
  | tail _ ih =>
    intro x hx
    rcases List.mem_cons.mp hx with e | e
    · exact .inr (by rw [e]; exact List.mem_cons_self)
    · exact (ih x e).imp_right (List.mem_cons_of_mem _)
theorem nd_one : ∀ {l : List (Addr × Ob)}, (l.map (·.1)).Nodup → ∀ {x y}, x ∈ l → y ∈ l → x.1 = y.1 → x = y
  | [], _, _, _, hx, _, _ => by simp at hx
  | z :: l, hn, x, y, hx, hy, e => by
    rw [List.map_cons, List.nodup_cons] at hn
    rcases List.mem_cons.mp hx with e1 | h1
    · rcases List.mem_cons.mp hy with e2 | h2
      · rw [e1, e2]
      · exact absurd (show z.1 ∈ l.map (·.1) from List.mem_map.mpr ⟨y, h2, by rw [← e1]; exact e.symm⟩) hn.1
    · rcases List.mem_cons.mp hy with e2 | h2
      · exact absurd (show z.1 ∈ l.map (·.1) from List.mem_map.mpr ⟨x, h1, by rw [← e2]; exact e⟩) hn.1
      · exact nd_one hn.2 h1 h2 e
theorem Put.or' (h : Put p a b l l') (nd : (l.map (·.1)).Nodup) : ∀ x ∈ l', x = (p, b) ∨ (x ∈ l ∧ x.1 ≠ p) := by
  intro x hx
  have nd' : (l'.map (·.1)).Nodup := by rw [h.keys]; exact nd
  have hb : (p, b) ∈ l' := by
    clear nd nd' hx
    induction h with
    | head => exact List.mem_cons_self
    | tail _ ih => exact List.mem_cons_of_mem _ ih
  by_cases e : x.1 = p
  · exact .inl (nd_one nd' hx hb e)
  · rcases h.or x hx with z | z
    · exact .inl z
    · exact .inr ⟨z, e⟩
theorem Led.get (L : Led P H0 H l fs) (m : Put p a a l l') : ∃ o, H p = some o ∧ a.p H o := L.at_ _ m.mem
theorem Led.eo (L : Led P H0 H l fs) (m : Put p (Eo o) (Eo o) l l') : H p = some o := by
  obtain ⟨u, e, h⟩ := L.get m
  have : u = o := h
  rw [← this]; exact e
theorem Led.tup (L : Led P H0 H l fs) {r : Addr} {xs : List V} (m : tupAt r xs ∈ fs) : H r = some (.tup xs) := L.st _ m
theorem Led.more (L : Led P H0 H l fs) (f : Pr) (h : f.p H) : Led P H0 H l (f :: fs) :=
  ⟨L.at_, L.nd, L.own, L.fr, fun g hg => (List.mem_cons.mp hg).elim (fun e => e ▸ h) (L.st g)⟩
theorem Led.less (L : Led P H0 H l fs) (gs : List Pr) (h : ∀ f ∈ gs, f ∈ fs) : Led P H0 H l gs := ⟨L.at_, L.nd, L.own, L.fr, fun g hg => L.st g (h g hg)⟩
theorem Led.start (H : Hp) (P : Addr → Prop) : Led P H H [] [] := ⟨fun _ h => by simp at h, List.nodup_nil, fun _ h => by simp at h, fun _ _ h _ => h, fun _ h => by simp at h⟩
theorem Led.same (L : Led (fun _ => False) H0 H l fs) : Same H0 H := fun q o h => L.fr q o h id
theorem Led.oth (L : Led (· = p) H0 H l fs) : ∀ q o, H0 q = some o → q ≠ p → H q = some o := L.fr
theorem Led.keep (L : Led P H0 H l fs) (s : Same H H') : Led P H0 H' l fs :=
  ⟨fun x hx => let ⟨o, e, h⟩ := L.at_ x hx; ⟨o, s _ _ e, x.2.mono (ts_of_same s) h⟩, L.nd, L.own, fun q o h n => s _ _ (L.fr q o h n), fun f hf => f.mono (ts_of_same s) (L.st f hf)⟩
theorem Led.fresh (L : Led P H0 H l fs) (h : H p = none) : (∀ x ∈ l, x.1 ≠ p) ∧ (P p ∨ H0 p = none) := by
  refine ⟨fun x hx e => ?_, ?_⟩
  · obtain ⟨o, q, _⟩ := L.at_ x hx
    rw [e, h] at q; cases q
  · by_cases hp : P p
    · exact .inl hp
    · cases q : H0 p with
      | none => exact .inr rfl
      | some o => rw [L.fr p o q hp] at h; cases h
theorem same_upd0 (h : H p = none) : Same H (upd H p o) := fun b u q => by rw [upd_ne (ne_of_none q h)]; exact q
theorem Led.newT (L : Led P H0 H l fs) {xs : List V} (h : H p = none) : Led P H0 (upd H p (.tup xs)) l (tupAt p xs :: fs) := (L.keep (same_upd0 h)).more _ upd_same
theorem Led.newO (L : Led P H0 H l fs) (h : H p = none) (ho : a.p (upd H p o) o) : Led P H0 (upd H p o) ((p, a) :: l) fs := by
  have K := L.keep (same_upd0 (o := o) h)
  obtain ⟨f1, f2⟩ := L.fresh h
  refine ⟨fun x hx => ?_, ?_, fun x hx => ?_, K.fr, K.st⟩
  · rcases List.mem_cons.mp hx with rfl | hx
    · exact ⟨o, upd_same, ho⟩
    · exact K.at_ x hx
  · rw [List.map_cons, List.nodup_cons]
    refine ⟨fun z => ?_, L.nd⟩
    obtain ⟨x, hx, e⟩ := List.mem_map.mp z
    exact f1 x hx e
  · rcases List.mem_cons.mp hx with rfl | hx
    · exact f2
    · exact L.own x hx
structure Chg (p : Addr) (H H' : Hp) : Prop where
  oth : ∀ q o, H q = some o → q ≠ p → H' q = some o
  ts : TSame H H'
theorem Chg.upd {u : HO} (h : H p = some u) (n : ∀ xs, u ≠ .tup xs) : Chg p H (upd H p o) := ⟨fun q o e z => by rw [upd_ne z]; exact e, ts_upd h n⟩
theorem Chg.trans {H1 : Hp} (x : Chg p H H1) (y : Chg p H1 H') : Chg p H H' := ⟨fun q o e n => y.oth q o (x.oth q o e n) n, x.ts.trans y.ts⟩
theorem Chg.same {H1 : Hp} (x : Chg p H H1) (y : Same H1 H') : Chg p H H' := ⟨fun q o e n => y _ _ (x.oth q o e n), x.ts.trans (ts_of_same y)⟩
theorem Led.set (L : Led P H0 H l fs) (m : Put p a b l l') (c : Chg p H H') (ho : ∃ o, H' p = some o ∧ b.p H' o) : Led P H0 H' l' fs := by
  have own := L.own _ m.mem
  refine ⟨fun x hx => ?_, by rw [m.keys]; exact L.nd, fun x hx => ?_, fun q o h n => ?_, fun f hf => f.mono c.ts (L.st f hf)⟩
  · rcases m.or' L.nd x hx with rfl | ⟨hx, n⟩
    · exact ho
    · obtain ⟨u, e, h⟩ := L.at_ x hx
      exact ⟨u, c.oth _ _ e n, x.2.mono c.ts h⟩
  · rcases m.or x hx with rfl | hx
    · exact own
    · exact L.own x hx
  · have : q ≠ p := fun z => by
      subst z
      rcases own with h1 | h1
      · exact n h1
      · rw [h] at h1; cases h1
    exact c.oth _ _ (L.fr q o h n) this
theorem Chg.refl (p : Addr) (H : Hp) : Chg p H H := ⟨fun _ _ h _ => h, TSame.refl H⟩
theorem Led.drop (L : Led P H0 H (x :: l) fs) : Led P H0 H l fs := ⟨fun y hy => L.at_ y (List.mem_cons_of_mem _ hy), (List.nodup_cons.mp L.nd).2, fun y hy => L.own y (List.mem_cons_of_mem _ hy), L.fr, L.st⟩
end
end L4
namespace L4
open PySem PySem.Spec PyProof.Rows L2 L3
abbrev St := L2.St

def rAddS : R2 := fun x y H Q => ∃ i j : Str, x = .str i ∧ y = .str j ∧ i.length + j.length ≤ sizeLine ∧ Q (.str (i ++ j)) H
def rMulS : R2 := fun x y H Q => ∃ z n, x = .str z ∧ y = .int n ∧ z.length ≤ 1000 ∧ -1000 ≤ n ∧ n ≤ 10000 ∧ Q (.str (Txt.mul z n)) H
def rInS : R2 := fun x y H Q => ∃ i j, x = .str i ∧ y = .str j ∧ Q (.bl (!(Builtin.Str.occurrences j i 0 j.length 1).isEmpty)) H
abbrev RL := List V → Hp → VK → Prop
def rMax : RL := fun xs H Q => ∃ i j, xs = [.int i, .int j] ∧ Q (.int (if j > i then j else i)) H
def rMin : RL := fun xs H Q => ∃ i j, xs = [.int i, .int j] ∧ Q (.int (if j < i then j else i)) H
def rLen (K : PySem.W.Frag) : RL := fun xs H Q => ∃ p ys, xs = [.ref p] ∧ (SqL K H p ys ∨ SqT K H p ys) ∧ Q (.int ys.length) H
def rLenS : RL := fun xs H Q => ∃ z : Str, xs = [.str z] ∧ z.length ≤ sizeLine ∧ Q (.int z.length) H
def rStrI : RL := fun xs H Q => ∃ i, xs = [.int i] ∧ i.natAbs.log2 < 1920 ∧ Q (.str (toString i)) H
def rTupOf (K : PySem.W.Frag) : RL := fun xs H Q => ∃ p ys, xs = [.ref p] ∧ ((SqL K H p ys ∧ ∀ l, H l = none → Q (.ref l) (upd H l (.tup ys))) ∨ (SqT K H p ys ∧ Q (.ref p) H))
def rJoin (K : PySem.W.Frag) : V → List V → Hp → VK → Prop := fun x xs H Q => ∃ z p ys, x = .str z ∧ xs = [.ref p] ∧ SqL K H p (ys.map V.str) ∧ (ys.map (·.length)).sum + ys.length * z.length ≤ 16777216 ∧ Q (.str (Txt.join z ys)) H
def Tru (K : PySem.W.Frag) (x : V) (H : Hp) (B : Bool → Hp → Prop) : Prop := ∃ k, TruV K x H k ∧ B k H
def tTru (K : PySem.W.Frag) (ta : TE) : TT := fun σ H B => ta σ H fun x H1 => Tru K x H1 B
section
variable {X : Cx}
theorem o_addS : OpR X (binaryOp .Add) rAddS := op_add_str
theorem o_mulS : OpR X (binaryOp .Mult) rMulS := op_mulStr
theorem o_inS : OpR X (compareOp .In) rInS := op_in_str
theorem c_max (hc : X.calm = true) : CallR X (.builtin "max") rMax := call_max2 hc
theorem c_min (hc : X.calm = true) : CallR X (.builtin "min") rMin := call_min2 hc
theorem c_len : CallR X (.builtin "len") (rLen X.K) := call_len_seq
theorem c_lenS : CallR X (.builtin "len") rLenS := call_len_str
theorem c_strI : CallR X (.type "str") rStrI := call_str_int
theorem c_tupOf : CallR X (.type "tuple") (rTupOf X.K) := call_tuple_of
theorem m_join : MtR X "str.join" (rJoin X.K) := mt_str_join
end
def NewT (xs : List V) (H : Hp) (Q : VK) : Prop := xs.length ≤ sizeLine ∧ ∀ p, H p = none → Q (.ref p) (upd H p (.tup xs))
def NewL (xs : List V) (H : Hp) (Q : VK) : Prop := xs.length ≤ sizeLine ∧ ∀ p, H p = none → Q (.ref p) (upd H p (.lst xs))
def IsB (x : V) (H : Hp) (Q : Bool → Hp → Prop) : Prop := ∃ k, x = .bl k ∧ Q k H
def Fld (K : PySem.W.Frag) (f : Str) (x : V) (H : Hp) (Q : VK) : Prop := ∃ a C dx fs v, x = .ref a ∧ H a = some (.ins C dx fs) ∧ Cls K C ∧ NoAttr K C f ∧ fs.lookup f = some v ∧ Q v H
section
variable {K : PySem.W.Frag} {σ : St} {H : Hp} {Q : VK} {D : Ends} {t u : TS} {ta tb te : TE} {tt tt' : TT} {tl : TA} {v x y : V} {i : Nat} {B : Bool → Hp → Prop}
-- statements
theorem g_seq (h : t { D with nx := u D } σ H) : tSeq t u D σ H := h
theorem g_next (h : D.nx σ H) : tNext D σ H := h
theorem g_asg {g : TG} (h : te σ H fun x H1 => g x σ H1 D.nx) : tAsg te g D σ H := h
theorem g_drop (h : te σ H fun _ H1 => D.nx σ H1) : tDrop te D σ H := h
theorem g_ret (h : te σ H D.rt) : tRet te D σ H := h
theorem g_retN (h : D.rt .non H) : tRetN D σ H := h
theorem g_if (h : tt σ H fun b H1 => if b = true then t D σ H1 else u D σ H1) : tIfS tt t u D σ H := h
theorem g_break (h : D.bk σ H) : tBreak D σ H := h
theorem g_cont (h : D.ct σ H) : tCont D σ H := h
-- expressions
theorem g_var (e : σ[i]? = some (some v)) (h : Q v H) : tVar i σ H Q := ⟨v, e, h⟩
theorem g_c (h : Q v H) : tC v σ H Q := h
theorem g_op {r : R2} (h : ta σ H fun x H1 => tb σ H1 fun y H2 => r x y H2 Q) : tOp r ta tb σ H Q := h
theorem g_un {r : V → Hp → VK → Prop} (h : ta σ H fun x H1 => r x H1 Q) : tUn r ta σ H Q := h
theorem g_ifE (h : tt σ H fun c H1 => if c = true then ta σ H1 Q else tb σ H1 Q) : tIf tt ta tb σ H Q := h
theorem g_andV (h : ta σ H fun x H1 => IsB x H1 fun c H1 => if c = true then tb σ H1 Q else Q (.bl false) H1) : tAndV ta tb σ H Q := h
theorem g_orV (h : ta σ H fun x H1 => IsB x H1 fun c H1 => if c = true then Q (.bl true) H1 else tb σ H1 Q) : tOrV ta tb σ H Q := h
theorem g_notV (h : ta σ H fun x H1 => IsB x H1 fun c H1 => Q (.bl (!c)) H1) : tNotV ta σ H Q := h
theorem g_isN (h : ta σ H fun x H1 => Q (.bl (decide (x = .non))) H1) : tIsN ta σ H Q := h
theorem g_notN (h : ta σ H fun x H1 => Q (.bl (!decide (x = .non))) H1) : tNotN ta σ H Q := h
theorem g_tup (h : tl σ H fun xs H1 => NewT xs H1 Q) : tTup tl σ H Q := h
theorem g_lst (h : tl σ H fun xs H1 => NewL xs H1 Q) : tLst tl σ H Q := h
theorem g_nil {W : List V → Hp → Prop} (h : W [] H) : tNil σ H W := h
theorem g_cons {W : List V → Hp → Prop} (h : te σ H fun x H1 => tl σ H1 fun xs H2 => W (x :: xs) H2) : tCons te tl σ H W := h
theorem g_cb {r : List V → Hp → VK → Prop} (h : tl σ H fun vs H1 => r vs H1 Q) : tCB r tl σ H Q := h
theorem g_call {sp : Sp} {E : XK} (h : tl σ H fun vs H1 => sp vs H1 Q E) : tCall sp [] E tl σ H Q := by
  have e : (fun (vs : List V) H1 => sp (vs ++ []) H1 Q E) = fun vs H1 => sp vs H1 Q E := by funext vs H1; rw [List.append_nil]
  show tl σ H (fun vs H1 => sp (vs ++ []) H1 Q E)
  rw [e]; exact h
def Made (C : Addr) (sp : Sp) (E : XK) (vs : List V) (H : Hp) (Q : VK) : Prop := ∀ x dx, H x = none → H dx = none → dx ≠ x → sp (.ref x :: vs) (upd (upd H dx (.own x)) x (.ins C dx [])) (fun v H2 => v = .non ∧ Q (.ref x) H2) E
theorem g_make {C : Addr} {sp : Sp} {E : XK} (h : tl σ H fun vs H1 => Made C sp E vs H1 Q) : tMake C sp [] E tl σ H Q := by
  have e : (fun (vs : List V) H1 => ∀ x dx, H1 x = none → H1 dx = none → dx ≠ x → sp (.ref x :: (vs ++ [])) (upd (upd H1 dx (.own x)) x (.ins C dx [])) (fun v H2 => v = .non ∧ Q (.ref x) H2) E) = fun vs H1 => Made C sp E vs H1 Q := by
    funext vs H1; rw [List.append_nil]; rfl
  show tl σ H (fun vs H1 => ∀ x dx, H1 x = none → H1 dx = none → dx ≠ x → sp (.ref x :: (vs ++ [])) (upd (upd H1 dx (.own x)) x (.ins C dx [])) (fun v H2 => v = .non ∧ Q (.ref x) H2) E)
  rw [e]; exact h
def SFld (K : PySem.W.Frag) (f : Str) (y x : V) (H : Hp) (R : Hp → Prop) : Prop := ∃ a C dx fs, x = .ref a ∧ H a = some (.ins C dx fs) ∧ Cls K C ∧ NoAttr K C f ∧ fs.length < 1000 ∧ R (upd H a (.ins C dx (putF f y fs)))
theorem g_sfld {f : Str} (h : tb σ H fun y H1 => ta σ H1 fun x H2 => SFld K f y x H2 fun H3 => D.nx σ H3) : sFld K ta tb f D σ H := h
theorem g_fld {f : Str} (h : ta σ H fun x H1 => Fld K f x H1 Q) : tFld K ta f σ H Q := h
theorem g_bm {T : String} {r : V → List V → Hp → VK → Prop} (h : ta σ H fun x H1 => tyV K T x H1 ∧ tl σ H1 fun xs H2 => r x xs H2 Q) : tBM K T r ta tl σ H Q := h
theorem g_bm0 {T : String} {r : V → List V → Hp → VK → Prop} (h : ta σ H fun x H1 => tyV K T x H1 ∧ r x [] H1 Q) : tBM0 K T r ta σ H Q := h
theorem g_sl {r : V → Option Int → Option Int → Hp → VK → Prop} {a b : TO} (h : te σ H fun x H1 => a σ H1 fun l H2 => b σ H2 fun u H3 => r x l u H3 Q) : tSl r te a b σ H Q := h
theorem g_noPart {W : Option Int → Hp → Prop} (h : W none H) : tNoPart σ H W := h
def Prt (x : V) (H : Hp) (W : Option Int → Hp → Prop) : Prop := ∃ i, x = .int i ∧ W (some i) H
theorem g_part {W : Option Int → Hp → Prop} (h : te σ H fun x H1 => Prt x H1 W) : tPart te σ H W := h
-- tests
theorem g_b (h : te σ H fun x H1 => IsB x H1 B) : tB te σ H B := h
theorem g_test (h : te σ H fun x H1 => IsB x H1 B) : tTest te σ H B := h
theorem g_and (h : tt σ H fun c H1 => if c = true then tt' σ H1 B else B false H1) : tAnd tt tt' σ H B := h
theorem g_or (h : tt σ H fun c H1 => if c = true then B true H1 else tt' σ H1 B) : tOr tt tt' σ H B := h
theorem g_not (h : tt σ H fun c H1 => B (!c) H1) : tNot tt σ H B := h
theorem g_isB {k : Bool} (h : B k H) : IsB (.bl k) H B := ⟨k, rfl, h⟩
-- values
theorem g_rI0 {g : Int → Int → V} {i j : Int} (h : Q (g i j) H) : rI0 g (.int i) (.int j) H Q := ⟨i, j, rfl, rfl, h⟩
theorem g_rI {C : Int → Int → Prop} {g : Int → Int → V} {i j : Int} (c : C i j) (h : Q (g i j) H) : rI C g (.int i) (.int j) H Q := ⟨i, j, rfl, rfl, c, h⟩
theorem g_rU {g : Int → V} {i : Int} (h : Q (g i) H) : rU g (.int i) H Q := ⟨i, rfl, h⟩
theorem g_eqI {i j : Int} (h : Q (.bl (decide (i = j))) H) : rEq (.int i) (.int j) H Q := ⟨rfl, by
  have e : decide (V.int i = V.int j) = decide (i = j) := by
    by_cases z : i = j
    · subst z; simp
    · rw [decide_eq_false z, decide_eq_false fun w => z (V.int.inj w)]
  rw [e]; exact h⟩
theorem g_eqS {i j : Str} (h : Q (.bl (decide (i = j))) H) : rEq (.str i) (.str j) H Q := ⟨rfl, by
  have e : decide (V.str i = V.str j) = decide (i = j) := by
    by_cases z : i = j
    · subst z; simp
    · rw [decide_eq_false z, decide_eq_false fun w => z (V.str.inj w)]
  rw [e]; exact h⟩
theorem g_eqB {i j : Bool} (h : Q (.bl (decide (i = j))) H) : rEq (.bl i) (.bl j) H Q := ⟨rfl, by
  have e : decide (V.bl i = V.bl j) = decide (i = j) := by
    by_cases z : i = j
    · subst z; simp
    · rw [decide_eq_false z, decide_eq_false fun w => z (V.bl.inj w)]
  rw [e]; exact h⟩
theorem g_neI {i j : Int} (h : Q (.bl (!decide (i = j))) H) : rNe (.int i) (.int j) H Q := ⟨rfl, by
  have e : decide (V.int i = V.int j) = decide (i = j) := by
    by_cases z : i = j
    · subst z; simp
    · rw [decide_eq_false z, decide_eq_false fun w => z (V.int.inj w)]
  rw [e]; exact h⟩
theorem g_neS {i j : Str} (h : Q (.bl (!decide (i = j))) H) : rNe (.str i) (.str j) H Q := ⟨rfl, by
  have e : decide (V.str i = V.str j) = decide (i = j) := by
    by_cases z : i = j
    · subst z; simp
    · rw [decide_eq_false z, decide_eq_false fun w => z (V.str.inj w)]
  rw [e]; exact h⟩
-- branches
theorem g_ifT {A B : Prop} (h : A) : if true = true then A else B := by rw [if_pos rfl]; exact h
theorem g_ifF {A B : Prop} (h : B) : if false = true then A else B := by rw [if_neg Bool.false_ne_true]; exact h
theorem g_ifD {p A B : Prop} [Decidable p] (h1 : p → A) (h2 : ¬ p → B) : if decide p = true then A else B := by
  by_cases h : p
  · rw [if_pos (decide_eq_true h)]; exact h1 h
  · rw [if_neg (by rw [decide_eq_false h]; exact Bool.false_ne_true)]; exact h2 h
theorem g_ifDT {p A B : Prop} [Decidable p] (h : p) (a : A) : if decide p = true then A else B := by rw [if_pos (decide_eq_true h)]; exact a
theorem g_ifDF {p A B : Prop} [Decidable p] (h : ¬ p) (b : B) : if decide p = true then A else B := by rw [if_neg (by rw [decide_eq_false h]; exact Bool.false_ne_true)]; exact b
theorem g_ifN {p A B : Prop} [Decidable p] (h1 : p → B) (h2 : ¬ p → A) : if (!decide p) = true then A else B := by
  by_cases h : p
  · rw [if_neg (by rw [decide_eq_true h]; exact Bool.false_ne_true)]; exact h1 h
  · rw [if_pos (by rw [decide_eq_false h]; rfl)]; exact h2 h
theorem g_ifNT {p A B : Prop} [Decidable p] (h : ¬ p) (a : A) : if (!decide p) = true then A else B := by rw [if_pos (by rw [decide_eq_false h]; rfl)]; exact a
theorem g_ifNF {p A B : Prop} [Decidable p] (h : p) (b : B) : if (!decide p) = true then A else B := by rw [if_neg (by rw [decide_eq_true h]; exact Bool.false_ne_true)]; exact b
theorem g_ifNbT {A B : Prop} (h : B) : if (!true) = true then A else B := g_ifF h
theorem g_ifNbF {A B : Prop} (h : A) : if (!false) = true then A else B := g_ifT h
-- sizes of things, text
theorem g_part1 {W : Option Int → Hp → Prop} {j : Int} (h : W (some j) H) : Prt (.int j) H W := ⟨j, rfl, h⟩
end
theorem lk_hit {f : Str} {v : V} {r : List (Str × V)} : List.lookup f ((f, v) :: r) = some v := by simp
theorem lk_miss {f g : Str} {v : V} {r : List (Str × V)} (h : (f == g) = false) : List.lookup f ((g, v) :: r) = List.lookup f r := by simp only [List.lookup_cons, h]
section
variable {K : PySem.W.Frag} {P : Addr → Prop} {H0 H H' : Hp} {l l' : List (Addr × Ob)} {fs : List Pr} {p : Addr} {a b : Ob} {o : HO} {Q : VK} {xs : List V} {v : V} {i : Int}
-- what the ledger knows
theorem g_newT (L : Led P H0 H l fs) (hz : xs.length ≤ sizeLine) (h : ∀ p H', H p = none → Led P H0 H' l (tupAt p xs :: fs) → Same H H' → Q (.ref p) H') : NewT xs H Q :=
  ⟨hz, fun p hp => h p _ hp (L.newT hp) (same_upd0 hp)⟩
theorem g_newL (L : Led P H0 H l fs) (hz : xs.length ≤ sizeLine) (h : ∀ p H', H p = none → Led P H0 H' ((p, Eo (.lst xs)) :: l) fs → Same H H' → Q (.ref p) H') : NewL xs H Q :=
  ⟨hz, fun p hp => h p _ hp (L.newO hp rfl) (same_upd0 hp)⟩
theorem g_ixL (L : Led P H0 H l fs) (m : Put p (Eo (.lst xs)) (Eo (.lst xs)) l l') (e : atI xs i = some v) (h : Q v H) : rIxL K (.ref p) (.int i) H Q := ⟨p, xs, i, v, rfl, rfl, SqL.of (L.eo m), e, h⟩
theorem g_ixT (L : Led P H0 H l fs) (m : tupAt p xs ∈ fs) (e : atI xs i = some v) (h : Q v H) : rIxT K (.ref p) (.int i) H Q := ⟨p, xs, i, v, rfl, rfl, SqT.of (L.tup m), e, h⟩
theorem g_ixSq (hs : SqL K H p xs) (e : atI xs i = some v) (h : Q v H) : rIxL K (.ref p) (.int i) H Q := ⟨p, xs, i, v, rfl, rfl, hs, e, h⟩
theorem g_fldL {f : Str} {C dx : Addr} {gs : List (Str × V)} (L : Led P H0 H l fs) (m : Put p (Eo (.ins C dx gs)) (Eo (.ins C dx gs)) l l') (c : Cls K C) (n : NoAttr K C f) (e : gs.lookup f = some v) (h : Q v H) : Fld K f (.ref p) H Q :=
  ⟨p, C, dx, gs, v, rfl, L.eo m, c, n, e, h⟩
theorem g_append (L : Led P H0 H l fs) (m : Put p (Eo (.lst xs)) (Eo (.lst (xs ++ [v]))) l l') (hz : xs.length < sizeLine) (h : ∀ H', Led P H0 H' l' fs → Chg p H H' → Q .non H') : rAppend (.ref p) [v] H Q := by
  obtain ⟨o, ho, hp⟩ := L.at_ _ m.mem
  have hp' : o = .lst xs := hp
  subst hp'
  have c : Chg p H (upd H p (.lst (xs ++ [v]))) := Chg.upd ho fun _ z => by cases z
  exact ⟨p, xs, v, rfl, rfl, ho, hz, h _ (L.set m c ⟨_, upd_same, rfl⟩) c⟩
theorem g_tyL {R : Prop} (hs : SqL K H p xs) (h : R) : tyV K "list" (.ref p) H ∧ R := ⟨.inl ⟨rfl, _, hs⟩, h⟩
theorem g_tyS {R : Prop} {z : Str} (h : R) : tyV K "str" (.str z) H ∧ R := ⟨rfl, h⟩
theorem g_gTup {n : Nat} {t : TGs} {σ : St} {R : St → Hp → Prop} (L : Led P H0 H l fs) (m : tupAt p xs ∈ fs) (e : xs.length = n) (h : t xs σ H R) : gTup K n t (.ref p) σ H R := ⟨p, xs, rfl, SqT.of (L.tup m), e, h⟩
theorem g_gCons {t : TG} {u : TGs} {σ : St} {R : St → Hp → Prop} (h : t v σ H fun σ' H' => u xs σ' H' R) : gCons t u (v :: xs) σ H R := ⟨v, xs, rfl, h⟩
theorem g_gNil {σ : St} {R : St → Hp → Prop} (h : R σ H) : gNil [] σ H R := ⟨rfl, h⟩
theorem g_gSub {to ti : TE} {t : TSet} {σ : St} {R : St → Hp → Prop} (h : to σ H fun o H1 => ti σ H1 fun i H2 => t o i v H2 fun H3 => R σ H3) : gSub to ti t v σ H R := h
end
def ForW (J : It) (g : TG) (tb : TS) (D : Ends) (σ : St) (H : Hp) : Prop := ∃ W : Nat → Nat → St → Hp → Prop, (∃ m, W 0 m σ H) ∧ ∀ i m σ H, W i m σ H →
  (J.stop i H ∧ D.nx σ H) ∨ (J.go i H ∧ ∃ N : St → Hp → Prop, (∀ σ' H', N σ' H' → ∃ m', m' < m ∧ W (i + 1) m' σ' H') ∧ ∀ x H', J.yld i H x H' → g x σ H' fun σ2 H2 => tb { D with nx := N, ct := N, bk := D.nx } σ2 H2)
def Rng1 (vs : List V) (H : Hp) (R : It → Hp → Prop) : Prop := ∃ j : Int, vs = [.int j] ∧ -(2 ^ 62) ≤ j ∧ j < 2 ^ 62 ∧ R (Itr 0 j.toNat) H
def Rng2 (vs : List V) (H : Hp) (R : It → Hp → Prop) : Prop := ∃ i j : Int, vs = [.int i, .int j] ∧ (-(2 ^ 62) ≤ i ∧ i < 2 ^ 62 ∧ -(2 ^ 62) ≤ j ∧ j < 2 ^ 62) ∧ R (Itr i (j - i).toNat) H
def WkL (K : PySem.W.Frag) (x : V) (H : Hp) (R : It → Hp → Prop) : Prop := ∃ a, x = .ref a ∧ (∃ xs, SqL K H a xs) ∧ R (Itl K a) H
def WkT (K : PySem.W.Frag) (x : V) (H : Hp) (R : It → Hp → Prop) : Prop := ∃ a, x = .ref a ∧ (∃ xs, SqT K H a xs) ∧ R (Itt K a) H
def CompG (J : It) (Q : VK) (σb : St) (g : TG) (tc : TT) (te : TE) (H : Hp) : Prop := ∃ W : Nat → Nat → List V → Hp → Prop, (∃ m, W 0 m [] H) ∧ CompW J W (fun ys H => ∀ p, H p = none → Q (.ref p) (upd H p (.lst ys))) σb g tc te
section
variable {K : PySem.W.Frag} {σ : St} {H : Hp} {Q : VK} {D : Ends} {wi : TI} {g : TG} {tb : TS} {ta : TE} {tl : TA} {R : It → Hp → Prop} {tc : TT} {te : TE}
theorem g_for (h : wi σ H fun J H1 => ForW J g tb D σ H1) : tFor wi g tb D σ H := h
theorem g_rng1 (h : tl σ H fun vs H1 => Rng1 vs H1 R) : iRng1 tl σ H R := h
theorem g_rng2 (h : tl σ H fun vs H1 => Rng2 vs H1 R) : iRng2 tl σ H R := h
theorem g_wkL (h : ta σ H fun x H1 => WkL K x H1 R) : iList K ta σ H R := h
theorem g_wkT (h : ta σ H fun x H1 => WkT K x H1 R) : iTup K ta σ H R := h
theorem g_rng1v {j : Int} (b : -(2 ^ 62) ≤ j ∧ j < 2 ^ 62) (h : R (Itr 0 j.toNat) H) : Rng1 [.int j] H R := ⟨j, rfl, b.1, b.2, h⟩
theorem g_rng2v {i j : Int} (b : (-(2 ^ 62) ≤ i ∧ i < 2 ^ 62) ∧ -(2 ^ 62) ≤ j ∧ j < 2 ^ 62) (h : R (Itr i (j - i).toNat) H) : Rng2 [.int i, .int j] H R := ⟨i, j, rfl, ⟨b.1.1, b.1.2, b.2.1, b.2.2⟩, h⟩
theorem g_wkLv {a : Addr} {xs : List V} (s : SqL K H a xs) (h : R (Itl K a) H) : WkL K (.ref a) H R := ⟨a, rfl, ⟨xs, s⟩, h⟩
theorem g_wkTv {a : Addr} {xs : List V} (s : SqT K H a xs) (h : R (Itt K a) H) : WkT K (.ref a) H R := ⟨a, rfl, ⟨xs, s⟩, h⟩
theorem g_forR {lo : Int} {n : Nat} (Pv : Nat → St → Hp → Prop) (h0 : Pv 0 σ H) (hs : ∀ i σ H, i < n → Pv i σ H → g (.int (lo + i)) σ H fun σ2 H2 => tb { D with nx := Pv (i + 1), ct := Pv (i + 1), bk := D.nx } σ2 H2)
    (hd : ∀ σ H, Pv n σ H → D.nx σ H) : ForW (Itr lo n) g tb D σ H := for_range Pv h0 hs hd
theorem g_comp {own : Nat} {cap : List Nat} (h : wi σ H fun J H1 => CompG J Q (blkS own cap σ) g tc te H1) : tComp wi own cap g tc te σ H Q := h
theorem g_compS {i own : Nat} {cap : List Nat} (h : tComp wi own cap g tc te σ H fun v H1 => D.nx (σ.set i (some v)) H1) : tCompS i wi own cap g tc te D σ H := h
theorem g_compL {a : Addr} (xs : List V) {σb : St} (Pv : Nat → List V → Hp → Prop) (h0 : Pv 0 [] H) (hl : ∀ i ys H, i ≤ xs.length → Pv i ys H → SqL K H a xs ∧ ys.length ≤ sizeLine)
    (hs : ∀ i x ys H, xs[i]? = some x → Pv i ys H → g x σb H fun σ2 H2 => tc σ2 H2 fun b H3 => if b = true then te σ2 H3 fun y H4 => Pv (i + 1) (ys ++ [y]) H4 else Pv (i + 1) ys H3) (hd : ∀ ys H, Pv xs.length ys H → ∀ p, H p = none → Q (.ref p) (upd H p (.lst ys))) :
    CompG (Itl K a) Q σb g tc te H := comp_list (xs := xs) Pv h0 hl hs hd
theorem g_compT {a : Addr} (xs : List V) {σb : St} (Pv : Nat → List V → Hp → Prop) (h0 : Pv 0 [] H) (hl : ∀ i ys H, i ≤ xs.length → Pv i ys H → SqT K H a xs ∧ ys.length ≤ sizeLine)
    (hs : ∀ i x ys H, xs[i]? = some x → Pv i ys H → g x σb H fun σ2 H2 => tc σ2 H2 fun b H3 => if b = true then te σ2 H3 fun y H4 => Pv (i + 1) (ys ++ [y]) H4 else Pv (i + 1) ys H3) (hd : ∀ ys H, Pv xs.length ys H → ∀ p, H p = none → Q (.ref p) (upd H p (.lst ys))) :
    CompG (Itt K a) Q σb g tc te H := comp_tup (xs := xs) Pv h0 hl hs hd
theorem g_compR {lo : Int} {n : Nat} {σb : St} (Pv : Nat → List V → Hp → Prop) (h0 : Pv 0 [] H) (hl : ∀ i ys H, i ≤ n → Pv i ys H → ys.length ≤ sizeLine)
    (hs : ∀ i ys H, i < n → Pv i ys H → g (.int (lo + i)) σb H fun σ2 H2 => tc σ2 H2 fun b H3 => if b = true then te σ2 H3 fun y H4 => Pv (i + 1) (ys ++ [y]) H4 else Pv (i + 1) ys H3) (hd : ∀ ys H, Pv n ys H → ∀ p, H p = none → Q (.ref p) (upd H p (.lst ys))) :
    CompG (Itr lo n) Q σb g tc te H := comp_range Pv h0 hl hs hd
theorem g_tAll {B : Bool → Hp → Prop} (h : B true H) : tAll σ H B := h
-- builtins
theorem g_max {a b : Int} (h : Q (.int (max a b)) H) : rMax [V.int a, V.int b] H Q := ⟨a, b, rfl, by
  have e : (if b > a then b else a) = max a b := by omega
  rw [e]; exact h⟩
theorem g_min {a b : Int} (h : Q (.int (min a b)) H) : rMin [V.int a, V.int b] H Q := ⟨a, b, rfl, by
  have e : (if b < a then b else a) = min a b := by omega
  rw [e]; exact h⟩
theorem g_lenSq {a : Addr} {ys : List V} (s : SqL K H a ys) (h : Q (.int ys.length) H) : rLen K [V.ref a] H Q := ⟨a, ys, rfl, .inl s, h⟩
theorem g_lenTu {a : Addr} {ys : List V} (s : SqT K H a ys) (h : Q (.int ys.length) H) : rLen K [V.ref a] H Q := ⟨a, ys, rfl, .inr s, h⟩
theorem g_lenStr {z : Str} (hz : z.length ≤ sizeLine) (h : Q (.int z.length) H) : rLenS [V.str z] H Q := ⟨z, rfl, hz, h⟩
theorem g_lenI {P : Addr → Prop} {H0 : Hp} {l : List (Addr × Ob)} {fs : List Pr} {a : Addr} {ns : List Int} (L : Led P H0 H l fs) (s : SqL K H0 a (ns.map V.int)) (n : ¬ P a) (h : Q (.int ns.length) H) : rLen K [V.ref a] H Q :=
  ⟨a, ns.map V.int, rfl, .inl (by
    rcases s with (s | ⟨o, s⟩) | s
    · exact .inl (.inl (L.fr _ _ s n))
    · exact .inl (.inr ⟨o, L.fr _ _ s n⟩)
    · exact .inr s), by rw [List.length_map]; exact h⟩
theorem Led.seq {P : Addr → Prop} {H0 : Hp} {l : List (Addr × Ob)} {fs : List Pr} {a : Addr} {xs : List V} (L : Led P H0 H l fs) (s : SqL K H0 a xs) (n : ¬ P a) : SqL K H a xs := by
  rcases s with (s | ⟨o, s⟩) | s
  · exact .inl (.inl (L.fr _ _ s n))
  · exact .inl (.inr ⟨o, L.fr _ _ s n⟩)
  · exact .inr s
theorem g_addS {x y : Str} (hz : x.length + y.length ≤ sizeLine) (h : Q (.str (x ++ y)) H) : rAddS (V.str x) (V.str y) H Q := ⟨x, y, rfl, rfl, hz, h⟩
theorem g_mulS {z : Str} {n : Int} (b : z.length ≤ 1000 ∧ -1000 ≤ n ∧ n ≤ 10000) (h : Q (.str (Txt.mul z n)) H) : rMulS (V.str z) (V.int n) H Q := ⟨z, n, rfl, rfl, b.1, b.2.1, b.2.2, h⟩
theorem g_strI {n : Int} (b : n.natAbs.log2 < 1920) (h : Q (.str (toString n)) H) : rStrI [V.int n] H Q := ⟨n, rfl, b, h⟩
theorem g_join {z : Str} {p : Addr} {ys : List Str} (s : SqL K H p (ys.map V.str)) (b : (ys.map (·.length)).sum + ys.length * z.length ≤ 16777216) (h : Q (.str (Txt.join z ys)) H) : rJoin K (.str z) [.ref p] H Q := ⟨z, p, ys, rfl, rfl, s, b, h⟩
theorem g_tTru {B : Bool → Hp → Prop} (h : ta σ H fun x H1 => Tru K x H1 B) : tTru K ta σ H B := h
theorem g_ixS {z : Str} {i : Int} {c : Nat} (hz : z.length ≤ sizeLine) (e : atI z.cps.toList i = some c) (h : Q (.str ⟨#[c]⟩) H) : rIxS (.str z) (.int i) H Q := ⟨z, i, c, rfl, rfl, hz, e, h⟩
end
end L4
namespace L4
open PySem PySem.Spec PyProof.Rows L2 L3
inductive Dt where
  | non | bl (b : Bool) | int (i : Int) | str (x : Str) | tup (ds : List Dt) | lst (ds : List Dt)
mutual
def eqD : Dt → Dt → Bool
  | .non, .non => true
  | .bl a, .bl b => a == b
  | .bl a, .int b => (if a then 1 else 0) == b
  | .int a, .bl b => a == (if b then 1 else 0)
  | .int a, .int b => a == b
  | .str a, .str b => a == b
  | .tup a, .tup b => eqDs a b
  | .lst a, .lst b => eqDs a b
  | _, _ => false
def eqDs : List Dt → List Dt → Bool
  | [], [] => true
  | x :: xs, y :: ys => eqD x y && eqDs xs ys
  | _, _ => false
end
mutual
def dep : Dt → Nat
  | .tup ds => deps ds + 1
  | .lst ds => deps ds + 1
  | _ => 0
def deps : List Dt → Nat
  | [] => 0
  | d :: ds => max (dep d) (deps ds)
end
theorem dep_mem : ∀ {ds : List Dt} {d : Dt}, d ∈ ds → dep d ≤ deps ds
  | [], _, h => by simp at h
  | x :: ds, d, h => by
    rw [deps]
    rcases List.mem_cons.mp h with rfl | h
    · exact Nat.le_max_left _ _
    · exact Nat.le_trans (dep_mem h) (Nat.le_max_right _ _)
mutual
theorem eqD_refl : ∀ d : Dt, eqD d d = true
  | .non => by rw [eqD]
  | .bl b => by rw [eqD]; exact beq_self_eq_true b
  | .int i => by rw [eqD]; exact beq_self_eq_true i
  | .str x => by rw [eqD]; exact beq_self_eq_true x
  | .tup ds => by rw [eqD]; exact eqDs_refl ds
  | .lst ds => by rw [eqD]; exact eqDs_refl ds
theorem eqDs_refl : ∀ ds : List Dt, eqDs ds ds = true
  | [] => by rw [eqDs]
  | d :: ds => by rw [eqDs, eqD_refl d, eqDs_refl ds]; rfl
end
theorem eqDs_all : ∀ (ds es : List Dt), ((List.range (min ds.length es.length)).all (fun j => eqD (ds.getD j .non) (es.getD j .non)) && ds.length == es.length) = eqDs ds es
  | [], [] => by rw [eqDs]; rfl
  | [], _ :: _ => by simp [eqDs]
  | _ :: _, [] => by simp [eqDs]
  | d :: ds, e :: es => by
    have ih := eqDs_all ds es
    rw [eqDs, ← ih]
    have h1 : min (d :: ds).length (e :: es).length = min ds.length es.length + 1 := by simp only [List.length_cons]; omega
    rw [h1, List.range_succ_eq_map, List.all_cons, List.all_map]
    have h2 : ((d :: ds).length == (e :: es).length) = (ds.length == es.length) := by
      rw [Bool.eq_iff_iff]; simp
    rw [h2, Bool.and_assoc]
    rfl
theorem eqDs_lens : ∀ {ds es : List Dt}, ds.length ≠ es.length → eqDs ds es = false := fun {ds es} h => by
  rw [← eqDs_all, show (ds.length == es.length) = false from by simpa using h, Bool.and_false]

mutual
inductive At (K : PySem.W.Frag) (H : Hp) : V → Dt → Prop
  | non : At K H .non .non
  | bl (b : Bool) : At K H (.bl b) (.bl b)
  | int (i : Int) : At K H (.int i) (.int i)
  | str (x : Str) : At K H (.str x) (.str x)
  | tup {a : Addr} {xs : List V} {ds : List Dt} (h : SqT K H a xs) (r : Ats K H xs ds) : At K H (.ref a) (.tup ds)
  | lst {a : Addr} {xs : List V} {ds : List Dt} (h : SqL K H a xs) (r : Ats K H xs ds) : At K H (.ref a) (.lst ds)
inductive Ats (K : PySem.W.Frag) (H : Hp) : List V → List Dt → Prop
  | nil : Ats K H [] []
  | cons {x : V} {d : Dt} {xs : List V} {ds : List Dt} (h : At K H x d) (r : Ats K H xs ds) : Ats K H (x :: xs) (d :: ds)
end
theorem Ats.len {K : PySem.W.Frag} {H : Hp} : ∀ {xs : List V} {ds : List Dt}, Ats K H xs ds → xs.length = ds.length
  | _, _, .nil => rfl
  | _, _, .cons _ r => by rw [List.length_cons, List.length_cons, r.len]
theorem Ats.get {K : PySem.W.Frag} {H : Hp} : ∀ {xs : List V} {ds : List Dt} {j : Nat} {x : V}, Ats K H xs ds → xs[j]? = some x → ∃ d, ds[j]? = some d ∧ At K H x d
  | _, _, _, _, .nil, e => by simp at e
  | _, _, 0, _, .cons h _, e => by simp at e; subst e; exact ⟨_, rfl, h⟩
  | _, _, j + 1, x, .cons _ r, e => by
    obtain ⟨d, h1, h2⟩ := Ats.get (j := j) (x := x) r (by simpa using e)
    exact ⟨d, by simpa using h1, h2⟩
theorem Ats.mem {K : PySem.W.Frag} {H : Hp} {xs : List V} {ds : List Dt} {x : V} (r : Ats K H xs ds) (h : x ∈ xs) : ∃ d ∈ ds, At K H x d := by
  obtain ⟨j, hj⟩ := List.getElem?_of_mem h
  obtain ⟨d, h1, h2⟩ := r.get hj
  exact ⟨d, List.mem_of_getElem? h1, h2⟩
section
variable {X : Cx} {pins : List (Addr × Obj)} {σ : St} {H : Hp} {s : Shared}
mutual
theorem At.inj (I : Inv X pins σ H s) {x : V} : ∀ {d e : Dt}, At X.K H x d → At X.K H x e → d = e
  | _, _, .non, h => by cases h; rfl
  | _, _, .bl _, h => by cases h; rfl
  | _, _, .int _, h => by cases h; rfl
  | _, _, .str _, h => by cases h; rfl
  | _, _, .tup h r, g => by
    cases g with
    | tup h' r' =>
      have e := I.tuple_inj h h'
      subst e
      rw [Ats.inj I r r']
    | lst h' r' =>
      obtain ⟨_, _, ⟨o, e, c, _⟩, _⟩ := I.tuple h
      obtain ⟨_, _, ⟨o', n', e', c', _⟩, _⟩ := I.list h'
      rw [e] at e'; cases e'
      rw [c] at c'; injection c' with z; exact absurd z (by decide)
  | _, _, .lst h r, g => by
    cases g with
    | lst h' r' =>
      have e := I.list_inj h h'
      subst e
      rw [Ats.inj I r r']
    | tup h' r' =>
      obtain ⟨_, _, ⟨o, e, c, _⟩, _⟩ := I.tuple h'
      obtain ⟨_, _, ⟨o', n', e', c', _⟩, _⟩ := I.list h
      rw [e] at e'; cases e'
      rw [c] at c'; injection c' with z; exact absurd z (by decide)
theorem Ats.inj (I : Inv X pins σ H s) {xs : List V} : ∀ {ds es : List Dt}, Ats X.K H xs ds → Ats X.K H xs es → ds = es
  | _, _, .nil, h => by cases h; rfl
  | _, _, .cons h r, g => by
    cases g with
    | cons h' r' => rw [At.inj I h h', Ats.inj I r r']
end
end
theorem rcne_V {A : Around} {s : Shared} {y x : V} {u v : Value} (ry : RelV y u) (rx : RelV x v) (fy : flatV y = true) (fx : flatV x = true) : SeqAt.RcNeAt A s u v (!eqV y x) := by
  cases y with
  | non =>
    cases ry
    cases x with
    | non => cases rx; exact SeqAt.RcNeAt.none_none
    | bl b => cases rx; exact SeqAt.RcNeAt.none_bool b
    | int b => obtain ⟨t, rfl⟩ := rx; exact SeqAt.RcNeAt.none_int b t
    | str b => obtain ⟨t, rfl⟩ := rx; exact SeqAt.RcNeAt.none_str b t
    | _ => exact absurd (show false = true from fx) Bool.false_ne_true
  | bl a =>
    cases ry
    cases x with
    | non => cases rx; exact SeqAt.RcNeAt.bool_none a
    | bl b => cases rx; exact SeqAt.RcNeAt.bool_bool a b
    | int b => obtain ⟨t, rfl⟩ := rx; exact SeqAt.RcNeAt.bool_int a b t
    | str b => obtain ⟨t, rfl⟩ := rx; exact SeqAt.RcNeAt.bool_str a b t
    | _ => exact absurd (show false = true from fx) Bool.false_ne_true
  | int a =>
    obtain ⟨t', rfl⟩ := ry
    cases x with
    | non => cases rx; exact SeqAt.RcNeAt.int_none a t'
    | bl b => cases rx; exact SeqAt.RcNeAt.int_bool a t' b
    | int b => obtain ⟨t, rfl⟩ := rx; exact SeqAt.RcNeAt.int_int a t' b t
    | str b => obtain ⟨t, rfl⟩ := rx; exact SeqAt.RcNeAt.int_str a t' b t
    | _ => exact absurd (show false = true from fx) Bool.false_ne_true
  | str a =>
    obtain ⟨t', rfl⟩ := ry
    cases x with
    | non => cases rx; exact SeqAt.RcNeAt.str_none a t'
    | bl b => cases rx; exact SeqAt.RcNeAt.str_bool a t' b
    | int b => obtain ⟨t, rfl⟩ := rx; exact SeqAt.RcNeAt.str_int a t' b t
    | str b => obtain ⟨t, rfl⟩ := rx; exact SeqAt.RcNeAt.str_str a t' b t
    | _ => exact absurd (show false = true from fx) Bool.false_ne_true
  | _ => exact absurd (show false = true from fy) Bool.false_ne_true
theorem eq_flat_tuple {A : Around} {s : Shared} {x : V} {u : Value} {a : Addr} {its : Array Value} (rx : RelV x u) (fx : flatV x = true) (h : s.heap.IsTuple a its) (hu : A.units < cLine) : SeqAt.EqAt A s u (.ref a) false := by
  cases x with
  | non => cases rx; exact SeqAt.EqAt.none_tuple h hu
  | bl b => cases rx; exact SeqAt.EqAt.bool_tuple b h hu
  | int b => obtain ⟨t, rfl⟩ := rx; exact SeqAt.EqAt.int_tuple b t h hu
  | str b => obtain ⟨t, rfl⟩ := rx; exact SeqAt.EqAt.str_tuple b t h hu
  | _ => exact absurd (show false = true from fx) Bool.false_ne_true
theorem eq_tuple_flat {A : Around} {s : Shared} {x : V} {u : Value} {a : Addr} {its : Array Value} (rx : RelV x u) (fx : flatV x = true) (h : s.heap.IsTuple a its) (hu : A.units < cLine) : SeqAt.EqAt A s (.ref a) u false := by
  cases x with
  | non => cases rx; exact SeqAt.EqAt.tuple_none h hu
  | bl b => cases rx; exact SeqAt.EqAt.tuple_bool b h hu
  | int b => obtain ⟨t, rfl⟩ := rx; exact SeqAt.EqAt.tuple_int b t h hu
  | str b => obtain ⟨t, rfl⟩ := rx; exact SeqAt.EqAt.tuple_str b t h hu
  | _ => exact absurd (show false = true from fx) Bool.false_ne_true
theorem eq_flat_list {A : Around} {s : Shared} {x : V} {u : Value} {a : Addr} {its : Array Value} (rx : RelV x u) (fx : flatV x = true) (h : s.heap.IsList a its) (hu : A.units < cLine) : SeqAt.EqAt A s u (.ref a) false := by
  cases x with
  | non => cases rx; exact SeqAt.EqAt.none_list h hu
  | bl b => cases rx; exact SeqAt.EqAt.bool_list b h hu
  | int b => obtain ⟨t, rfl⟩ := rx; exact SeqAt.EqAt.int_list b t h hu
  | str b => obtain ⟨t, rfl⟩ := rx; exact SeqAt.EqAt.str_list b t h hu
  | _ => exact absurd (show false = true from fx) Bool.false_ne_true
theorem eq_list_flat {A : Around} {s : Shared} {x : V} {u : Value} {a : Addr} {its : Array Value} (rx : RelV x u) (fx : flatV x = true) (h : s.heap.IsList a its) (hu : A.units < cLine) : SeqAt.EqAt A s (.ref a) u false := by
  cases x with
  | non => cases rx; exact SeqAt.EqAt.list_none h hu
  | bl b => cases rx; exact SeqAt.EqAt.list_bool b h hu
  | int b => obtain ⟨t, rfl⟩ := rx; exact SeqAt.EqAt.list_int b t h hu
  | str b => obtain ⟨t, rfl⟩ := rx; exact SeqAt.EqAt.list_str b t h hu
  | _ => exact absurd (show false = true from fx) Bool.false_ne_true
theorem rn_flat_tuple {A : Around} {s : Shared} {x : V} {u : Value} {a : Addr} {its : Array Value} (rx : RelV x u) (fx : flatV x = true) (h : s.heap.IsTuple a its) (hu : A.units < cLine) : SeqAt.RcNeAt A s u (.ref a) true := by
  cases x with
  | non => cases rx; exact SeqAt.RcNeAt.none_tuple h hu
  | bl b => cases rx; exact SeqAt.RcNeAt.bool_tuple b h hu
  | int b => obtain ⟨t, rfl⟩ := rx; exact SeqAt.RcNeAt.int_tuple b t h hu
  | str b => obtain ⟨t, rfl⟩ := rx; exact SeqAt.RcNeAt.str_tuple b t h hu
  | _ => exact absurd (show false = true from fx) Bool.false_ne_true
theorem rn_tuple_flat {A : Around} {s : Shared} {x : V} {u : Value} {a : Addr} {its : Array Value} (rx : RelV x u) (fx : flatV x = true) (h : s.heap.IsTuple a its) (hu : A.units < cLine) : SeqAt.RcNeAt A s (.ref a) u true := by
  cases x with
  | non => cases rx; exact SeqAt.RcNeAt.tuple_none h hu
  | bl b => cases rx; exact SeqAt.RcNeAt.tuple_bool b h hu
  | int b => obtain ⟨t, rfl⟩ := rx; exact SeqAt.RcNeAt.tuple_int b t h hu
  | str b => obtain ⟨t, rfl⟩ := rx; exact SeqAt.RcNeAt.tuple_str b t h hu
  | _ => exact absurd (show false = true from fx) Bool.false_ne_true
theorem rn_flat_list {A : Around} {s : Shared} {x : V} {u : Value} {a : Addr} {its : Array Value} (rx : RelV x u) (fx : flatV x = true) (h : s.heap.IsList a its) (hu : A.units < cLine) : SeqAt.RcNeAt A s u (.ref a) true := by
  cases x with
  | non => cases rx; exact SeqAt.RcNeAt.none_list h hu
  | bl b => cases rx; exact SeqAt.RcNeAt.bool_list b h hu
  | int b => obtain ⟨t, rfl⟩ := rx; exact SeqAt.RcNeAt.int_list b t h hu
  | str b => obtain ⟨t, rfl⟩ := rx; exact SeqAt.RcNeAt.str_list b t h hu
  | _ => exact absurd (show false = true from fx) Bool.false_ne_true
theorem rn_list_flat {A : Around} {s : Shared} {x : V} {u : Value} {a : Addr} {its : Array Value} (rx : RelV x u) (fx : flatV x = true) (h : s.heap.IsList a its) (hu : A.units < cLine) : SeqAt.RcNeAt A s (.ref a) u true := by
  cases x with
  | non => cases rx; exact SeqAt.RcNeAt.list_none h hu
  | bl b => cases rx; exact SeqAt.RcNeAt.list_bool b h hu
  | int b => obtain ⟨t, rfl⟩ := rx; exact SeqAt.RcNeAt.list_int b t h hu
  | str b => obtain ⟨t, rfl⟩ := rx; exact SeqAt.RcNeAt.list_str b t h hu
  | _ => exact absurd (show false = true from fx) Bool.false_ne_true
inductive Top (K : PySem.W.Frag) (H : Hp) (x : V) (d : Dt) : Prop
  | flat (f : flatV x = true) (h : ∀ y e, At K H y e → flatV y = true → eqV x y = eqD d e) (h1 : ∀ es, eqD d (.tup es) = false ∧ eqD (.tup es) d = false ∧ eqD d (.lst es) = false ∧ eqD (.lst es) d = false)
  | tup (a : Addr) (xs : List V) (ds : List Dt) (e1 : x = .ref a) (e2 : d = .tup ds) (h : SqT K H a xs) (r : Ats K H xs ds)
  | lst (a : Addr) (xs : List V) (ds : List Dt) (e1 : x = .ref a) (e2 : d = .lst ds) (h : SqL K H a xs) (r : Ats K H xs ds)
theorem At.top {K : PySem.W.Frag} {H : Hp} {x : V} {d : Dt} (h : At K H x d) : Top K H x d := by
  cases h with
  | tup h r => exact .tup _ _ _ rfl rfl h r
  | lst h r => exact .lst _ _ _ rfl rfl h r
  | _ => exact .flat rfl (fun y e g f => by cases g <;> first | (exact absurd f Bool.false_ne_true) | (simp only [eqV, eqD])) (fun es => by simp [eqD])
theorem items_at {X : Cx} {H : Hp} {xs ys : List V} {ds es : List Dt} {us vs : List Value} {C : Value → Value → Bool → Prop} (h : ∀ x y d e u v, d ∈ ds → At X.K H x d → At X.K H y e → RelV x u → RelV y v → C u v (eqD d e))
    (r : Ats X.K H xs ds) (r' : Ats X.K H ys es) (rv : Vals xs us) (rv' : Vals ys vs) : ∀ j (h1 : j < us.toArray.size) (h2 : j < vs.toArray.size), C us.toArray[j] vs.toArray[j] (eqD (ds.getD j .non) (es.getD j .non)) := fun j h1 h2 => by
  have l1 : j < xs.length := by rw [rv.length]; simpa using h1
  have l2 : j < ys.length := by rw [rv'.length]; simpa using h2
  obtain ⟨u, e1, q1⟩ := rv.get (List.getElem?_eq_getElem l1)
  obtain ⟨v, e2, q2⟩ := rv'.get (List.getElem?_eq_getElem l2)
  obtain ⟨d, e3, q3⟩ := r.get (List.getElem?_eq_getElem l1)
  obtain ⟨e, e4, q4⟩ := r'.get (List.getElem?_eq_getElem l2)
  have a1 : us.toArray[j] = u := by
    have := List.getElem?_eq_some_iff.mp e1
    obtain ⟨_, z⟩ := this
    simpa using z
  have a2 : vs.toArray[j] = v := by
    obtain ⟨_, z⟩ := List.getElem?_eq_some_iff.mp e2
    simpa using z
  rw [a1, a2, List.getD_eq_getElem?_getD, List.getD_eq_getElem?_getD, e3, e4]
  exact h _ _ _ _ _ _ (List.mem_of_getElem? e3) q3 q4 q1 q2
theorem eq_at {X : Cx} {pins : List (Addr × Obj)} {σ : St} {H : Hp} {s : Shared} (I : Inv X pins σ H s) : ∀ (n : Nat) {x y : V} {d e : Dt} {u v : Value}, dep d ≤ n → At X.K H x d → At X.K H y e → RelV x u → RelV y v → ∀ A : Around, A.units + n < cLine → SeqAt.EqAt A s u v (eqD d e) := by
  intro n
  induction n with
  | zero =>
    intro x y d e u v hd hx hy rx ry A hA
    rcases hx.top with ⟨f, h, h1⟩ | ⟨a, xs, ds, rfl, rfl, h, r⟩ | ⟨a, xs, ds, rfl, rfl, h, r⟩
    · rcases hy.top with ⟨f', h', h1'⟩ | ⟨b, ys, es, rfl, rfl, h', r'⟩ | ⟨b, ys, es, rfl, rfl, h', r'⟩
      · rw [← h y e hy f']; exact eqAt_V rx ry f f'
      · obtain ⟨its, rv, ht, _⟩ := I.tuple h'
        cases ry; rw [(h1 es).1]; exact eq_flat_tuple rx f ht (by omega)
      · obtain ⟨its, rv, ht, _⟩ := I.list h'
        cases ry; rw [(h1 es).2.2.1]; exact eq_flat_list rx f ht.isList (by omega)
    · simp [dep] at hd
    · simp [dep] at hd
  | succ n ih =>
    intro x y d e u v hd hx hy rx ry A hA
    have hu : A.units < cLine := by omega
    rcases hx.top with ⟨f, h, h1⟩ | ⟨a, xs, ds, rfl, rfl, h, r⟩ | ⟨a, xs, ds, rfl, rfl, h, r⟩
    · rcases hy.top with ⟨f', h', h1'⟩ | ⟨b, ys, es, rfl, rfl, h', r'⟩ | ⟨b, ys, es, rfl, rfl, h', r'⟩
      · rw [← h y e hy f']; exact eqAt_V rx ry f f'
      · obtain ⟨its, rv, ht, _⟩ := I.tuple h'
        cases ry; rw [(h1 es).1]; exact eq_flat_tuple rx f ht hu
      · obtain ⟨its, rv, ht, _⟩ := I.list h'
        cases ry; rw [(h1 es).2.2.1]; exact eq_flat_list rx f ht.isList hu
    · obtain ⟨its, rv, ht, _⟩ := I.tuple h
      cases rx
      rw [dep] at hd
      rcases hy.top with ⟨f', h', h1'⟩ | ⟨b, ys, es, rfl, rfl, h', r'⟩ | ⟨b, ys, es, rfl, rfl, h', r'⟩
      · rw [(h1' ds).2.1]; exact eq_tuple_flat ry f' ht hu
      · cases ry
        obtain ⟨its', rv', ht', _⟩ := I.tuple h'
        by_cases hab : a = b
        · subst hab
          have e := I.tuple_inj h h'
          subst e
          rw [Ats.inj I r r', eqD_refl]
          exact SeqAt.EqAt.same _
        · have q := SeqAt.RcAt.tuples (A := A) (e := fun j => eqD (ds.getD j .non) (es.getD j .non)) ht ht' hu (items_at (C := fun u v k => SeqAt.EqAt A.in1 s u v k) (fun x y d e u v hm hx hy rx ry => ih (Nat.le_trans (dep_mem hm) (by omega)) hx hy rx ry A.in1 (by show A.units + 1 + n < _; omega)) r r' rv rv')
          have l1 : its.toArray.size = ds.length := by rw [List.size_toArray, ← rv.length, r.len]
          have l2 : its'.toArray.size = es.length := by rw [List.size_toArray, ← rv'.length, r'.len]
          rw [l1, l2, eqDs_all] at q
          rw [eqD]
          exact SeqAt.EqAt.of_refs hab q
      · cases ry
        obtain ⟨its', rv', ht', _⟩ := I.list h'
        rw [show eqD (.tup ds) (.lst es) = false by simp [eqD]]
        exact SeqAt.EqAt.tuple_list ht ht'.isList hu
    · obtain ⟨its, rv, ht, _⟩ := I.list h
      cases rx
      rw [dep] at hd
      rcases hy.top with ⟨f', h', h1'⟩ | ⟨b, ys, es, rfl, rfl, h', r'⟩ | ⟨b, ys, es, rfl, rfl, h', r'⟩
      · rw [(h1' ds).2.2.2]; exact eq_list_flat ry f' ht.isList hu
      · cases ry
        obtain ⟨its', rv', ht', _⟩ := I.tuple h'
        rw [show eqD (.lst ds) (.tup es) = false by simp [eqD]]
        exact SeqAt.EqAt.list_tuple ht.isList ht' hu
      · cases ry
        obtain ⟨its', rv', ht', _⟩ := I.list h'
        by_cases hab : a = b
        · subst hab
          have e := I.list_inj h h'
          subst e
          rw [Ats.inj I r r', eqD_refl]
          exact SeqAt.EqAt.same _
        · refine SeqAt.EqAt.of_refs hab ?_
          have l1 : its.toArray.size = ds.length := by rw [List.size_toArray, ← rv.length, r.len]
          have l2 : its'.toArray.size = es.length := by rw [List.size_toArray, ← rv'.length, r'.len]
          rw [eqD]
          by_cases hl : ds.length = es.length
          · have q := SeqAt.RcAt.lists (A := A) (e := fun j => eqD (ds.getD j .non) (es.getD j .non)) ht.isList ht'.isList (by rw [l1, l2, hl]) hu (items_at (C := fun u v k => SeqAt.EqAt A.in1 s u v k) (fun x y d e u v hm hx hy rx ry => ih (Nat.le_trans (dep_mem hm) (by omega)) hx hy rx ry A.in1 (by show A.units + 1 + n < _; omega)) r r' rv rv')
            have z := eqDs_all ds es
            rw [hl, Nat.min_self, beq_self_eq_true, Bool.and_true] at z
            rw [l1, hl, z] at q
            exact q
          · rw [eqDs_lens hl]
            exact SeqAt.RcAt.lists_lengths ht.isList ht'.isList (by rw [l1, l2]; simpa using hl) hu
theorem rcne_at {X : Cx} {pins : List (Addr × Obj)} {σ : St} {H : Hp} {s : Shared} (I : Inv X pins σ H s) {n : Nat} {x y : V} {d e : Dt} {u v : Value} (hd : dep d ≤ n) (hx : At X.K H x d) (hy : At X.K H y e) (rx : RelV x u) (ry : RelV y v) (A : Around) (hA : A.units + 1 + n < cLine) : SeqAt.RcNeAt A s u v (!eqD d e) := by
  have hu : A.units < cLine := by omega
  rcases hx.top with ⟨f, h, h1⟩ | ⟨a, xs, ds, rfl, rfl, h, r⟩ | ⟨a, xs, ds, rfl, rfl, h, r⟩
  · rcases hy.top with ⟨f', h', h1'⟩ | ⟨b, ys, es, rfl, rfl, h', r'⟩ | ⟨b, ys, es, rfl, rfl, h', r'⟩
    · rw [← h y e hy f']; exact rcne_V rx ry f f'
    · obtain ⟨its, rv, ht, _⟩ := I.tuple h'
      cases ry; rw [(h1 es).1]; exact rn_flat_tuple rx f ht hu
    · obtain ⟨its, rv, ht, _⟩ := I.list h'
      cases ry; rw [(h1 es).2.2.1]; exact rn_flat_list rx f ht.isList hu
  · obtain ⟨its, rv, ht, _⟩ := I.tuple h
    cases rx
    rw [dep] at hd
    rcases hy.top with ⟨f', h', h1'⟩ | ⟨b, ys, es, rfl, rfl, h', r'⟩ | ⟨b, ys, es, rfl, rfl, h', r'⟩
    · rw [(h1' ds).2.1]; exact rn_tuple_flat ry f' ht hu
    · cases ry
      obtain ⟨its', rv', ht', _⟩ := I.tuple h'
      have q := SeqAt.RcNeAt.tuples (A := A) (e := fun j => eqD (ds.getD j .non) (es.getD j .non)) ht ht' hu (items_at (C := fun u v k => SeqAt.EqAt A.in1 s u v k) (fun x y d e u v hm hx hy rx ry => eq_at I n (Nat.le_trans (dep_mem hm) (by omega)) hx hy rx ry A.in1 (by show A.units + 1 + n < _; omega)) r r' rv rv')
      have l1 : its.toArray.size = ds.length := by rw [List.size_toArray, ← rv.length, r.len]
      have l2 : its'.toArray.size = es.length := by rw [List.size_toArray, ← rv'.length, r'.len]
      rw [l1, l2, eqDs_all] at q
      rw [eqD]
      exact q
    · cases ry
      obtain ⟨its', rv', ht', _⟩ := I.list h'
      rw [show eqD (.tup ds) (.lst es) = false by simp [eqD]]
      exact SeqAt.RcNeAt.tuple_list ht ht'.isList hu
  · obtain ⟨its, rv, ht, _⟩ := I.list h
    cases rx
    rw [dep] at hd
    rcases hy.top with ⟨f', h', h1'⟩ | ⟨b, ys, es, rfl, rfl, h', r'⟩ | ⟨b, ys, es, rfl, rfl, h', r'⟩
    · rw [(h1' ds).2.2.2]; exact rn_list_flat ry f' ht.isList hu
    · cases ry
      obtain ⟨its', rv', ht', _⟩ := I.tuple h'
      rw [show eqD (.lst ds) (.tup es) = false by simp [eqD]]
      exact SeqAt.RcNeAt.list_tuple ht.isList ht' hu
    · cases ry
      obtain ⟨its', rv', ht', _⟩ := I.list h'
      have l1 : its.toArray.size = ds.length := by rw [List.size_toArray, ← rv.length, r.len]
      have l2 : its'.toArray.size = es.length := by rw [List.size_toArray, ← rv'.length, r'.len]
      rw [eqD]
      by_cases hl : ds.length = es.length
      · have q := SeqAt.RcNeAt.lists (A := A) (e := fun j => eqD (ds.getD j .non) (es.getD j .non)) ht.isList ht'.isList (by rw [l1, l2, hl]) hu (items_at (C := fun u v k => SeqAt.EqAt A.in1 s u v k) (fun x y d e u v hm hx hy rx ry => eq_at I n (Nat.le_trans (dep_mem hm) (by omega)) hx hy rx ry A.in1 (by show A.units + 1 + n < _; omega)) r r' rv rv')
        have z := eqDs_all ds es
        rw [hl, Nat.min_self, beq_self_eq_true, Bool.and_true] at z
        rw [l1, hl, z] at q
        exact q
      · rw [eqDs_lens hl]
        exact SeqAt.RcNeAt.lists_lengths ht.isList ht'.isList (by rw [l1, l2]; simpa using hl) hu
def rNeD (K : PySem.W.Frag) : R2 := fun x y H Q => ∃ d e, At K H x d ∧ At K H y e ∧ dep d ≤ 100 ∧ Q (.bl (!eqD d e)) H
theorem op_neD {X : Cx} (hr : Room 0 X.A) : OpR X (compareOp .NotEq) (rNeD X.K) := by
  intro pins s σ H x y v u Q I rx ry h
  obtain ⟨d, e, hx, hy, hd, q⟩ := h
  exact rcne_at I hd hx hy rx ry X.A (by have := hr.un; omega) _ _ _ _ ⟨.bl _, H, I, rfl, q⟩
theorem g_neDF {K : PySem.W.Frag} {x y : V} {H : Hp} {Q : VK} {d : Dt} (hx : At K H x d) (hy : At K H y d) (hd : dep d ≤ 100) (h : Q (.bl false) H) : rNeD K x y H Q := ⟨d, d, hx, hy, hd, by rw [eqD_refl]; exact h⟩
end L4
namespace L4
open PySem PySem.Spec PyProof.Rows L2 L3
theorem vals_ints : ∀ {ns : List Int} {us : List Value}, IntsAre us ns → Vals (ns.map V.int) us
  | _, _, .nil => .nil
  | _, _, .cons n t r => .cons ⟨t, rfl⟩ (vals_ints r)
section
variable {X : Cx}
end
end L4
namespace L4
open PySem PySem.Spec PyProof.Rows L2 L3
def ZIt (k : Bool) (h : Heap) (i a : Addr) (n : Nat) : Prop := match k with | true => h.IsListIter i a n | false => h.IsTupleIter i a n
def ZSr (k : Bool) (h : Heap) (a : Addr) (xs : Array Value) : Prop := match k with | true => h.IsList a xs | false => h.IsTuple a xs
theorem ZIt.keep {k : Bool} {h h' : Heap} {i a : Addr} {n : Nat} (x : ZIt k h i a n) (e : ∀ o, h.get? i = some o → h'.get? i = some o) : ZIt k h' i a n := by
  cases k <;> (obtain ⟨o, ho, r⟩ := x; exact ⟨o, e o ho, r⟩)
theorem ZSr.keep {k : Bool} {h h' : Heap} {a : Addr} {xs : Array Value} (x : ZSr k h a xs) (e : ∀ o, h.get? a = some o → h'.get? a = some o) : ZSr k h' a xs := by
  cases k <;> (obtain ⟨o, ho, r⟩ := x; exact ⟨o, e o ho, r⟩)
theorem ZIt.ob {k : Bool} {h : Heap} {i a : Addr} {n : Nat} (x : ZIt k h i a n) : ∃ o vs, h.get? i = some o ∧ o.data = .fields vs ∧ (o.cls = .type "list_iterator" ∨ o.cls = .type "tuple_iterator") := by
  cases k
  · obtain ⟨o, ho, c, d⟩ := x; exact ⟨o, _, ho, d, .inr c⟩
  · obtain ⟨o, ho, c, d⟩ := x; exact ⟨o, _, ho, d, .inl c⟩
section
variable {prog : Program} {w : World} {A : Around} {E : Value → Shared → Prop} {s : Shared}
theorem nx_tup {i a : Addr} {n : Nat} {xs : Array Value} {x : Value} {Q : Value → Shared → Prop} (hi : s.heap.IsTupleIter i a n) (ha : s.heap.IsTuple a xs) (e : xs[n]? = some x)
    (q : ∀ h', h'.IsTupleIter i a (n + 1) → Heap.SameBut i s.heap h' → Q x { s with heap := h' }) : wpAny (model prog w) A (Builtin.SmallTypes.nextOf (.ref i)) Q E s := by
  obtain ⟨o, ho, c, d⟩ := id hi
  obtain ⟨oa, hoa, _, m, da⟩ := ha
  unfold Builtin.SmallTypes.nextOf
  refine wpAny_bind (wpAny_callSpecial?_slot (name := Str.ofString "__next__") hi.typeIs F.slot_tuple_iterator_next (wpAny_call_entry F.slot_tuple_iterator_next hi.typeIs F.entry_tuple_iterator_next ?_ (F.args_tuple_iterator_next_1 _)))
  show wpAny _ _ (field (.ref i) 0 >>= _) _ _ s
  refine wpAny_bind (wpAny_field ho d (x := .ref a) rfl ?_)
  show wpAny _ _ (if (Value.ref a == Value.none) = true then _ else _) _ _ s
  rw [if_neg (show ¬ ((Value.ref a == Value.none) = true) from Bool.false_ne_true)]
  show wpAny _ _ (field (.ref i) 1 >>= _) _ _ s
  refine wpAny_bind (wpAny_field ho d (x := .int n 0) rfl ?_)
  show wpAny _ _ (seqItems? (.ref a) >>= _) _ _ s
  refine wpAny_bind (wpAny_seqItems hoa da ?_)
  simp only [Int.toNat_natCast, e]
  refine wpAny_bind (wpAny_setField ho d (by simp) (wpAny_pure ⟨x, rfl, wpAny_pure (q _ ⟨_, Heap.get?_update_self _ ho (Obj.isFreed_of_fields (Obj.data_mapFields d _)), (Obj.cls_mapFields ..).trans c, by rw [Obj.data_mapFields d]; simp [rawInt]⟩ (Heap.SameBut.update ..))⟩))
theorem nx_tup_end {i a : Addr} {n : Nat} {xs : Array Value} {Q : Value → Shared → Prop} (hh : A.handled = none) (hi : s.heap.IsTupleIter i a n) (ha : s.heap.IsTuple a xs) (e : xs[n]? = none)
    (q : ∀ h' x, Heap.ExtBut i s.heap h' → (∃ o, h'.get? x = some o ∧ o.cls = .type "StopIteration") → E (.ref x) { s with heap := h' }) : wpAny (model prog w) A (Builtin.SmallTypes.nextOf (.ref i)) Q E s := by
  obtain ⟨o, ho, c, d⟩ := id hi
  obtain ⟨oa, hoa, _, m, da⟩ := ha
  unfold Builtin.SmallTypes.nextOf
  refine wpAny_bind (wpAny_callSpecial?_slot (name := Str.ofString "__next__") hi.typeIs F.slot_tuple_iterator_next (wpAny_call_entry F.slot_tuple_iterator_next hi.typeIs F.entry_tuple_iterator_next ?_ (F.args_tuple_iterator_next_1 _)))
  show wpAny _ _ (field (.ref i) 0 >>= _) _ _ s
  refine wpAny_bind (wpAny_field ho d (x := .ref a) rfl ?_)
  show wpAny _ _ (if (Value.ref a == Value.none) = true then _ else _) _ _ s
  rw [if_neg (show ¬ ((Value.ref a == Value.none) = true) from Bool.false_ne_true)]
  show wpAny _ _ (field (.ref i) 1 >>= _) _ _ s
  refine wpAny_bind (wpAny_field ho d (x := .int n 0) rfl ?_)
  show wpAny _ _ (seqItems? (.ref a) >>= _) _ _ s
  refine wpAny_bind (wpAny_seqItems hoa da ?_)
  simp only [Int.toNat_natCast, e]
  refine wpAny_bind (wpAny_rule (wpAny_bind (wpAny_setField ho d (by simp) ?_)))
  show wpAny _ _ (newExc (.type "StopIteration") [] >>= _) _ _ _
  refine wpAny_bind ?_; simp only [newExc, newTuple]
  refine wpAny_bind (wpAny_newObj_type ?_ (by size_fits)); refine wpAny_bind (m := firstArgMember _ _) (wpAny_of_eq (a := Value.none) (by first | rfl | (simp only [firstArgMember]; rfl)) ?_)
  refine wpAny_newObj_type ?_ (by size_fits); simp only [raiseNew]; refine wpAny_bind (wpAny_handled ?_)
  first | rw [show A.in1.handled = none from hh] | rw [hh]
  refine wpAny_bind (wpAny_pure (wpAny_throw (q _ _ (((Heap.SameBut.update ..).extBut.push _).push _) ⟨_, Heap.get?_push_size _ rfl, rfl⟩)))
theorem nx_item {k : Bool} {i a : Addr} {n : Nat} {xs : Array Value} {x : Value} {Q : Value → Shared → Prop} (hi : ZIt k s.heap i a n) (ha : ZSr k s.heap a xs) (e : xs[n]? = some x)
    (q : ∀ h', ZIt k h' i a (n + 1) → Heap.SameBut i s.heap h' → Q x { s with heap := h' }) : wpAny (model prog w) A (Builtin.SmallTypes.nextOf (.ref i)) Q E s := by
  cases k with
  | true => exact wpAny_nextOf_list_item hi ha e q
  | false => exact nx_tup hi ha e q
theorem nx_end {k : Bool} {i a : Addr} {n : Nat} {xs : Array Value} {Q : Value → Shared → Prop} (hh : A.handled = none) (hi : ZIt k s.heap i a n) (ha : ZSr k s.heap a xs) (e : xs[n]? = none)
    (q : ∀ h' x, Heap.ExtBut i s.heap h' → (∃ o, h'.get? x = some o ∧ o.cls = .type "StopIteration") → E (.ref x) { s with heap := h' }) : wpAny (model prog w) A (Builtin.SmallTypes.nextOf (.ref i)) Q E s := by
  cases k with
  | true => exact wpAny_nextOf_list_end hh hi ha e q
  | false => exact nx_tup_end hh hi ha e q
structure ZAp (z T O i j : Addr) : Prop where
  nd : [z, T, O, i, j].Nodup
theorem ZAp.ne {z T O i j : Addr} (D : ZAp z T O i j) : T ≠ z ∧ O ≠ z ∧ i ≠ z ∧ j ≠ z ∧ T ≠ O ∧ T ≠ i ∧ T ≠ j ∧ O ≠ i ∧ O ≠ j ∧ i ≠ j := by
  have := D.nd
  simp only [List.nodup_cons, List.mem_cons, List.not_mem_nil, or_false, not_or, List.nodup_nil, and_true, not_false_eq_true] at this
  obtain ⟨⟨a1, a2, a3, a4⟩, ⟨b1, b2, b3⟩, ⟨c1, c2⟩, d1⟩ := this
  exact ⟨Ne.symm a1, Ne.symm a2, Ne.symm a3, Ne.symm a4, b1, b2, b3, c1, c2, d1⟩
structure ZAt (k1 k2 : Bool) (h : Heap) (z T O i j a b : Addr) (f : Value) (n : Nat) : Prop where
  z : IsZip h z T O f
  t : IsPair h T (.ref i) (.ref j)
  o : ∃ x y, IsPair h O x y
  i : ZIt k1 h i a n
  j : ZIt k2 h j b n
theorem zip_item {k1 k2 : Bool} {z T O i j a b : Addr} {n : Nat} {xs ys : Array Value} {x y : Value} {Q : Option Value → Shared → Prop} (D : ZAp z T O i j) (Z : ZAt k1 k2 s.heap z T O i j a b .none n)
    (ha : ∀ h', (∀ o, s.heap.get? a = some o → h'.get? a = some o) → ZSr k1 h' a xs) (na : a ∉ [z, O, i, j]) (hb : ∀ h', (∀ o, s.heap.get? b = some o → h'.get? b = some o) → ZSr k2 h' b ys) (nb : b ∉ [z, O, i, j]) (hx : xs[n]? = some x) (hy : ys[n]? = some y)
    (q : ∀ h', ZAt k1 k2 h' z T O i j a b (rawInt s.heap.objs.size) (n + 1) → IsPair h' s.heap.objs.size x y → (∀ c o, c ∉ [z, O, i, j] → s.heap.get? c = some o → h'.get? c = some o) → Q (some (.ref s.heap.objs.size)) { s with heap := h' }) :
    wpAny (model prog w) A (pyNext (.ref z)) Q E s := by
  obtain ⟨hz, hT, ⟨u, v, hO⟩, hi, hj⟩ := Z
  obtain ⟨d1, d2, d3, d4, d5, d6, d7, d8, d9, d10⟩ := D.ne
  simp only [List.mem_cons, List.not_mem_nil, or_false, not_or] at na nb
  have ty : s.TypeIs (.ref z) "zip" := ⟨_, hz, rfl⟩
  unfold pyNext
  refine wpAny_bind (wpAny_attempt (wpAny_callSpecial?_slot (name := Str.ofString "__next__") ty F.slot_zip_next (wpAny_call_entry F.slot_zip_next ty F.entry_zip_next ?_ (F.args_zip_next_1 _))))
  show wpAny _ _ (field (.ref z) 2 >>= _) _ _ _
  refine wpAny_bind (wpAny_field hz rfl (x := .bool false) rfl ?_); show wpAny _ _ (field (.ref z) 3 >>= _) _ _ _
  refine wpAny_bind (wpAny_field hz rfl (x := .ref T) rfl (wpAny_bind (wpAny_seqItems hT rfl ?_)))
  show wpAny _ _ (Builtin.SmallTypes.ownedTupleIsFree (.ref z) >>= _) _ _ _
  refine wpAny_bind ?_; unfold Builtin.SmallTypes.ownedTupleIsFree
  refine wpAny_bind (wpAny_field hz rfl (x := .none) rfl (wpAny_pure ?_)); simp only [if_true]
  refine wpAny_bind (wpAny_rule (wpAny_bind (wpAny_field hz rfl (x := .ref O) rfl (wpAny_bind (wpAny_setField_rec hz (by simp) fun g1 z1 e1 => ?_)))))
  replace z1 : IsZip g1 z T O .ellipsis := z1
  refine wpAny_bind ?_; simp only [List.zipIdx_cons, List.zipIdx_nil, List.forIn_cons, List.forIn_nil]
  refine wpAny_bind (wpAny_bind (wpAny_onRaise ?_)); show wpAny _ _ (Builtin.SmallTypes.nextOf (.ref i) >>= _) _ _ _
  refine wpAny_bind (nx_item (hi.keep fun o h => e1.extBut _ _ d3 h) (ha _ fun o h => e1.extBut _ _ na.1 h) hx fun g2 i2 e2 => wpAny_pure ?_)
  have O2 : IsPair g2 O u v := e2.extBut _ _ d8 (e1.extBut _ _ d2 hO)
  refine wpAny_bind (wpAny_seqItems O2 rfl (wpAny_bind (wpAny_updateSeq_pair O2 fun g3 O3 e3 => ?_)))
  replace O3 : IsPair g3 O x v := O3
  refine wpAny_bind (wpAny_letGo (wpAny_pure ?_)); refine wpAny_bind (wpAny_bind (wpAny_onRaise ?_))
  show wpAny _ _ (Builtin.SmallTypes.nextOf (.ref j) >>= _) _ _ _
  refine wpAny_bind (nx_item (hj.keep fun o h => e3.extBut _ _ (Ne.symm d9) (e2.extBut _ _ (Ne.symm d10) (e1.extBut _ _ d4 h))) (hb _ fun o h => e3.extBut _ _ nb.2.1 (e2.extBut _ _ nb.2.2.1 (e1.extBut _ _ nb.1 h))) hy fun g4 j4 e4 => wpAny_pure ?_)
  have O4 : IsPair g4 O x v := e4.extBut _ _ d9 O3
  refine wpAny_bind (wpAny_seqItems O4 rfl (wpAny_bind (wpAny_updateSeq_pair O4 fun g5 O5 e5 => ?_)))
  replace O5 : IsPair g5 O x y := O5
  refine wpAny_bind (wpAny_letGo (wpAny_pure (wpAny_pure ?_))); refine wpAny_bind (wpAny_seqItems O5 rfl (wpAny_bind (wpAny_newTuple ?_)))
  have sz : g5.objs.size = s.heap.objs.size := by rw [e5.1, e4.1, e3.1, e2.1, e1.1]
  have z5 : IsZip g5 z T O .ellipsis := e5.extBut _ _ (Ne.symm d2) (e4.extBut _ _ (Ne.symm d4) (e3.extBut _ _ (Ne.symm d2) (e2.extBut _ _ (Ne.symm d3) z1)))
  have k5 : ∀ c o, c ∉ [z, O, i, j] → s.heap.get? c = some o → g5.get? c = some o := fun c o hc h => by
    simp only [List.mem_cons, List.not_mem_nil, or_false, not_or] at hc
    exact e5.extBut _ _ hc.2.1 (e4.extBut _ _ hc.2.2.2 (e3.extBut _ _ hc.2.1 (e2.extBut _ _ hc.2.2.1 (e1.extBut _ _ hc.1 h))))
  show wpAny _ _ (Builtin.SmallTypes.ownedTupleHandOut (.ref z) (.ref g5.objs.size) >>= _) _ _ _
  refine wpAny_bind ?_; unfold Builtin.SmallTypes.ownedTupleHandOut
  have z6 : IsZip (g5.push { cls := .type "tuple", data := .seq #[x, y] }) z T O .ellipsis := Heap.get?_push_of_some _ z5
  refine wpAny_bind (wpAny_setField_rec z6 (by simp) fun g7 z7 e7 => ?_)
  replace z7 : IsZip g7 z T O (rawInt g5.objs.size) := z7
  refine wpAny_setField_rec z7 (by simp) fun g8 z8 e8 => ?_
  replace z8 : IsZip g8 z T O (rawInt g5.objs.size) := z8
  have up : ∀ c o, c ≠ z → g5.get? c = some o → g8.get? c = some o := fun c o hc h => e8.extBut _ _ hc (e7.extBut _ _ hc (Heap.get?_push_of_some _ h))
  have zlt : g5.objs.size ≠ z := Nat.ne_of_gt (Heap.lt_size z5)
  have p8 : IsPair g8 g5.objs.size x y := e8.extBut _ _ zlt (e7.extBut _ _ zlt (Heap.get?_push_size _ rfl))
  rw [sz] at z8 p8
  refine wpAny_pure ⟨_, rfl, wpAny_pure ?_⟩
  show Q (some (.ref g5.objs.size)) _
  rw [sz]
  refine q g8 ⟨z8, up _ _ d1 (k5 _ _ (by simp [d1, d5, d6, d7]) hT), ⟨x, y, up _ _ d2 O5⟩, i2.keep fun o h => up _ _ d3 (e5.extBut _ _ (Ne.symm d8) (e4.extBut _ _ d10 (e3.extBut _ _ (Ne.symm d8) h))), j4.keep fun o h => up _ _ d4 (e5.extBut _ _ (Ne.symm d9) h)⟩ p8 fun c o hc h => up c o (fun e => hc (by simp [e])) (k5 c o hc h)
theorem zip_end {k1 k2 : Bool} {z T O i j a b : Addr} {n : Nat} {xs ys : Array Value} {Q : Option Value → Shared → Prop} (hh : A.handled = none) (D : ZAp z T O i j) (Z : ZAt k1 k2 s.heap z T O i j a b .none n)
    (ha : ∀ h', (∀ o, s.heap.get? a = some o → h'.get? a = some o) → ZSr k1 h' a xs) (na : a ∉ [z, O, i, j]) (hb : ∀ h', (∀ o, s.heap.get? b = some o → h'.get? b = some o) → ZSr k2 h' b ys) (nb : b ∉ [z, O, i, j]) (he : xs[n]? = none ∨ ys[n]? = none)
    (q : ∀ h', (∀ c o, c ∉ [z, O, i, j] → s.heap.get? c = some o → h'.get? c = some o) → Q none { s with heap := h' }) : wpAny (model prog w) A (pyNext (.ref z)) Q E s := by
  obtain ⟨hz, hT, ⟨u, v, hO⟩, hi, hj⟩ := Z
  obtain ⟨d1, d2, d3, d4, d5, d6, d7, d8, d9, d10⟩ := D.ne
  simp only [List.mem_cons, List.not_mem_nil, or_false, not_or] at na nb
  have ty : s.TypeIs (.ref z) "zip" := ⟨_, hz, rfl⟩
  have fin : ∀ (h' : Heap) (e : Addr), (∀ c o, c ∉ [z, O, i, j] → s.heap.get? c = some o → h'.get? c = some o) → (∃ o, h'.get? e = some o ∧ o.cls = .type "StopIteration") →
      wpAny (model prog w) A (do if ← isInstance (.ref e) (.type "StopIteration") then pure none else throw (.ref e)) Q E { s with heap := h' } := fun h' e k ⟨o, ho, hc⟩ =>
    wpAny_bind (wpAny_isInstance (T := "StopIteration") (b := true) ⟨o, ho, hc⟩ isSubtype_stop (wpAny_pure (q h' k)))
  unfold pyNext
  refine wpAny_bind (wpAny_attempt (wpAny_callSpecial?_slot (name := Str.ofString "__next__") ty F.slot_zip_next (wpAny_call_entry F.slot_zip_next ty F.entry_zip_next ?_ (F.args_zip_next_1 _))))
  show wpAny _ _ (field (.ref z) 2 >>= _) _ _ _
  refine wpAny_bind (wpAny_field hz rfl (x := .bool false) rfl ?_); show wpAny _ _ (field (.ref z) 3 >>= _) _ _ _
  refine wpAny_bind (wpAny_field hz rfl (x := .ref T) rfl (wpAny_bind (wpAny_seqItems hT rfl ?_)))
  show wpAny _ _ (Builtin.SmallTypes.ownedTupleIsFree (.ref z) >>= _) _ _ _
  refine wpAny_bind ?_; unfold Builtin.SmallTypes.ownedTupleIsFree
  refine wpAny_bind (wpAny_field hz rfl (x := .none) rfl (wpAny_pure ?_)); simp only [if_true]
  refine wpAny_bind (wpAny_rule (wpAny_bind (wpAny_field hz rfl (x := .ref O) rfl (wpAny_bind (wpAny_setField_rec hz (by simp) fun g1 z1 e1 => ?_)))))
  replace z1 : IsZip g1 z T O .ellipsis := z1
  refine wpAny_bind ?_; simp only [List.zipIdx_cons, List.zipIdx_nil, List.forIn_cons, List.forIn_nil]
  refine wpAny_bind (wpAny_bind (wpAny_onRaise ?_)); show wpAny _ _ (Builtin.SmallTypes.nextOf (.ref i) >>= _) _ _ _
  cases hx : xs[n]? with
  | none =>
    refine wpAny_bind (nx_end hh (hi.keep fun o h => e1.extBut _ _ d3 h) (ha _ fun o h => e1.extBut _ _ na.1 h) hx fun g2 e e2 he2 => ?_)
    obtain ⟨oe, hoe, hce⟩ := he2
    have z2 : IsZip g2 z T O .ellipsis := e2 _ _ (Ne.symm d3) z1
    have ez : e ≠ z := fun r => by subst r; rw [z2] at hoe; cases hoe; simp at hce
    refine wpAny_setField_rec z2 (by simp) fun g3 _ e3 => fin g3 e (fun c o hc h => ?_) ⟨oe, e3.extBut _ _ ez hoe, hce⟩
    simp only [List.mem_cons, List.not_mem_nil, or_false, not_or] at hc
    exact e3.extBut _ _ hc.1 (e2 _ _ hc.2.2.1 (e1.extBut _ _ hc.1 h))
  | some x =>
    have hy : ys[n]? = none := he.resolve_left (by rw [hx]; exact fun r => nomatch r)
    refine wpAny_bind (nx_item (hi.keep fun o h => e1.extBut _ _ d3 h) (ha _ fun o h => e1.extBut _ _ na.1 h) hx fun g2 i2 e2 => wpAny_pure ?_)
    have O2 : IsPair g2 O u v := e2.extBut _ _ d8 (e1.extBut _ _ d2 hO)
    refine wpAny_bind (wpAny_seqItems O2 rfl (wpAny_bind (wpAny_updateSeq_pair O2 fun g3 O3 e3 => ?_)))
    refine wpAny_bind (wpAny_letGo (wpAny_pure ?_)); refine wpAny_bind (wpAny_bind (wpAny_onRaise ?_))
    show wpAny _ _ (Builtin.SmallTypes.nextOf (.ref j) >>= _) _ _ _
    refine wpAny_bind (nx_end hh (hj.keep fun o h => e3.extBut _ _ (Ne.symm d9) (e2.extBut _ _ (Ne.symm d10) (e1.extBut _ _ d4 h))) (hb _ fun o h => e3.extBut _ _ nb.2.1 (e2.extBut _ _ nb.2.2.1 (e1.extBut _ _ nb.1 h))) hy fun g4 e e4 he4 => ?_)
    obtain ⟨oe, hoe, hce⟩ := he4
    have z4 : IsZip g4 z T O .ellipsis := e4 _ _ (Ne.symm d4) (e3.extBut _ _ (Ne.symm d2) (e2.extBut _ _ (Ne.symm d3) z1))
    have ez : e ≠ z := fun r => by subst r; rw [z4] at hoe; cases hoe; simp at hce
    refine wpAny_setField_rec z4 (by simp) fun g5 _ e5 => fin g5 e (fun c o hc h => ?_) ⟨oe, e5.extBut _ _ ez hoe, hce⟩
    simp only [List.mem_cons, List.not_mem_nil, or_false, not_or] at hc
    exact e5.extBut _ _ hc.1 (e4 _ _ hc.2.2.2 (e3.extBut _ _ hc.2.1 (e2.extBut _ _ hc.2.2.1 (e1.extBut _ _ hc.1 h))))
def zClass (k : Bool) : String := match k with | true => "list_iterator" | false => "tuple_iterator"
theorem it_new {k : Bool} {a : Addr} {xs : Array Value} {Q : Value → Shared → Prop} (ha : ZSr k s.heap a xs) (q : Q (.ref s.heap.objs.size) { s with heap := s.heap.push { cls := .type (zClass k), data := .fields #[.ref a, .int 0 0] } }) :
    wpAny (model prog w) A (pyIter (.ref a)) Q E s := by
  cases k with
  | true => exact wpAny_pyIter_list ha q
  | false => exact wpAny_pyIter_tuple ha q
theorem zit_new {k : Bool} {h : Heap} {i a : Addr} (e : h.get? i = some { cls := .type (zClass k), data := .fields #[.ref a, .int 0 0] }) : ZIt k h i a 0 := by
  cases k <;> exact ⟨_, e, rfl, rfl⟩
def zHp (k1 k2 : Bool) (h : Heap) (a b : Addr) : Heap :=
  ((((h.push { cls := .type (zClass k1), data := .fields #[.ref a, .int 0 0] }).push { cls := .type (zClass k2), data := .fields #[.ref b, .int 0 0] }).push { cls := .type "tuple", data := .seq #[.ref h.objs.size, .ref (h.objs.size + 1)] }).push
    { cls := .type "tuple", data := .seq #[.none, .none] }).push { cls := .type "zip", data := .fields #[.none, .bool false, .bool false, .ref (h.objs.size + 2), .ref (h.objs.size + 3)] }
theorem zip_new (k1 k2 : Bool) (a b : Addr) (xs ys : Array Value) : Meets (Builtin.«zip.__new__» ⟨[.type "zip", .ref a, .ref b], []⟩) (fun _ R s => ZSr k1 s.heap a xs ∧ ZSr k2 s.heap b ys ∧ R (.ok (.ret (.ref (s.heap.objs.size + 4)))) { s with heap := zHp k1 k2 s.heap a b }) :=
  .of_wp fun prog w A R s h => by
    obtain ⟨hp, g, d, tk, os⟩ := s; obtain ⟨h1, h2, h⟩ := h
    have hsub := sub_zip
    have s1 : ZSr k1 (Shared.heap ⟨hp, g, d, tk, os⟩) a xs := h1
    have s2 : ZSr k2 (Shared.heap ⟨hp.push { cls := .type (zClass k1), data := .fields #[.ref a, .int 0 0] }, g, d, tk, os⟩) b ys := h2.keep fun o e => Heap.get?_push_of_some _ e
    wp_walk using it_new s1, it_new s2
    refine ⟨_, rfl, ?_⟩
    unfold zHp at h
    simp only [Heap.size_push]
    exact h
end
section
variable {X : Cx} {pins : List (Addr × Obj)} {σ : St} {H : Hp} {s : Shared} {h' : Heap} {ch : List Addr}
theorem turnL {t' : Nat} (I : Inv X pins σ H s) (hf : ∀ b ∈ ch, FpOk X pins H b) (k : ∀ b o, b ∉ ch → s.heap.get? b = some o → h'.get? b = some o) : Inv X pins σ H { s with heap := h', toks := t' } := by
  have nit : ∀ b u, H b = some u → b ∉ ch := fun b u e z => by rw [(hf b z).1] at e; cases e
  refine I.step (g' := s.gens) (d' := s.drawn) (ch := ch) (fun b hb => ⟨(hf b hb).2.2.2.1, (hf b hb).2.1, (hf b hb).2.2.2.2.1, (hf b hb).2.2.2.2.2⟩) (fun b o _ _ hc e _ => k b o hc e) (fun b o _ _ hc e _ => ⟨o.slots, k b o hc e⟩) (fun _ _ _ _ n => n)
    (fun b o hc e => ⟨o, k b o hc e⟩) (fun _ _ e => e) (fun _ _ _ e => e) (fun b ps e => ⟨#[], by rw [e]; simp⟩) (fun m hm => ?_) (fun b u e => ?_) I.bare
  · obtain ⟨o, es, ep, ho, r⟩ := hm
    exact ⟨o, es, ep, k _ o (fun z => (hf _ z).2.1 rfl) ho, r⟩
  · exact (I.hok b u e).stay (fun c v hc q => k c v (hc.elim (fun z => z ▸ nit b u e) fun z => nit c _ z) q) (fun _ q => q) fun _ _ q => q
theorem turnT {t' : Nat} {T : Addr} {xs : List V} (I : Inv X pins σ H s) (hf : ∀ b ∈ ch, FpOk X pins H b) (k : ∀ b o, b ∉ ch → s.heap.get? b = some o → h'.get? b = some o) (hT : s.heap.objs.size ≤ T) (new : ObjOk X.prog X.w (upd H T (.tup xs)) h' T (.tup xs)) :
    Inv X pins σ (upd H T (.tup xs)) { s with heap := h', toks := t' } := by
  have nT := I.hok.fresh hT
  have neT : ∀ b o, s.heap.get? b = some o → b ≠ T := fun b o e => Nat.ne_of_lt (Nat.lt_of_lt_of_le (Heap.lt_size e) hT)
  have nit : ∀ b u, H b = some u → b ∉ ch := fun b u e z => by rw [(hf b z).1] at e; cases e
  refine I.step (g' := s.gens) (d' := s.drawn) (ch := ch) (fun b hb => ⟨(hf b hb).2.2.2.1, (hf b hb).2.1, (hf b hb).2.2.2.2.1, (hf b hb).2.2.2.2.2⟩) (fun b o _ _ hc e _ => k b o hc e) (fun b o _ _ hc e _ => ⟨o.slots, k b o hc e⟩) (fun b o _ e n => by rw [upd_ne (neT b o e)]; exact n)
    (fun b o hc e => ⟨o, k b o hc e⟩) (fun b ys e => by rw [upd_ne (ne_of_none e nT)]; exact e) (fun b o u e => by rw [upd_ne (ne_of_none e nT)]; exact e) (fun b ps e => ⟨#[], by rw [upd_ne (ne_of_none e nT), e]; simp⟩) (fun m hm => ?_) (fun b u e => ?_) I.bare
  · obtain ⟨o, es, ep, ho, r⟩ := hm
    exact ⟨o, es, ep, k _ o (fun z => (hf _ z).2.1 rfl) ho, r⟩
  · by_cases hb : b = T
    · subst hb; rw [upd_same] at e; cases e; exact new
    · rw [upd_ne hb] at e
      exact (I.hok b u e).stay (fun c v hc q => k c v (hc.elim (fun z => z ▸ nit b u e) fun z => nit c _ z) q) (fun c q => by rw [upd_ne (ne_of_none q nT)]; exact q) fun c ys q => by rw [upd_ne (ne_of_none q nT)]; exact q
def SqK (k : Bool) (K : PySem.W.Frag) (H : Hp) (a : Addr) (xs : List V) : Prop := match k with | true => SqL K H a xs | false => SqT K H a xs
theorem SqK.get {k : Bool} {a : Addr} {xs : List V} (I : Inv X pins σ H s) (q : SqK k X.K H a xs) : ∃ its : List Value, Vals xs its ∧ ZSr k s.heap a its.toArray := by
  cases k with
  | true => obtain ⟨its, r, p, _⟩ := I.list q; exact ⟨its, r, p.isList⟩
  | false => obtain ⟨its, r, p, _⟩ := I.tuple q; exact ⟨its, r, p⟩
theorem SqK.inj {k : Bool} {a : Addr} {xs ys : List V} (I : Inv X pins σ H s) (q : SqK k X.K H a xs) (q' : SqK k X.K H a ys) : xs = ys := by
  cases k with
  | true => exact I.list_inj q q'
  | false => exact I.tuple_inj q q'
theorem fp_ne {a b : Addr} {o : Obj} (I : Inv X pins σ H s) (hk : X.K.lookup a = some o) (f : FpOk X pins H b) : a ≠ b := fun e => by
  subst e
  have hb := I.ok.mod.kin a o hk
  rcases f.2.2.2.1 with z | z
  · exact I.ok.noex a o hb z
  · exact absurd (Nat.lt_of_lt_of_le (Heap.lt_size hb) (Nat.le_trans I.ok.bsz z)) (Nat.lt_irrefl _)
theorem SqK.ne {k : Bool} {a b : Addr} {xs : List V} (I : Inv X pins σ H s) (q : SqK k X.K H a xs) (f : FpOk X pins H b) : a ≠ b := by
  have nn : ∀ {u : HO}, H a = some u → a ≠ b := fun h z => by rw [z, f.1] at h; cases h
  cases k with
  | true =>
    rcases q with (h | ⟨o, h⟩) | ⟨o, _, _, hk, _⟩
    · exact nn h
    · exact nn h
    · exact fp_ne I hk f
  | false =>
    rcases q with (h | ⟨o, h⟩) | ⟨o, _, _, hk, _⟩
    · exact nn h
    · exact nn h
    · exact fp_ne I hk f
end
def Itz (K : PySem.W.Frag) (k1 : Bool) (a : Addr) (k2 : Bool) (b : Addr) : It :=
  ⟨fun i H => ∃ xs ys x y, SqK k1 K H a xs ∧ SqK k2 K H b ys ∧ xs[i]? = some x ∧ ys[i]? = some y,
   fun i H v H' => ∃ T, H T = none ∧ v = .ref T ∧ ∀ xs ys x y, SqK k1 K H a xs → SqK k2 K H b ys → xs[i]? = some x → ys[i]? = some y → H' = upd H T (.tup [x, y]),
   fun i H => ∃ xs ys, SqK k1 K H a xs ∧ SqK k2 K H b ys ∧ (xs.length ≤ i ∨ ys.length ≤ i)⟩
theorem turn_zip {P : Program} {w : World} {K : PySem.W.Frag} {es : List Expr} {x1 : Nat} {tp : Pos} (k1 k2 : Bool) {z T O i j a b : Addr} (D : ZAp z T O i j) : Turn P w K (.Tuple es x1 tp) (Itz K k1 a k2 b) [z, T, O, i, j] z (fun n h => ZAt k1 k2 h z T O i j a b .none n) where
  mem := by simp
  obj := fun n h Z c hc => by
    obtain ⟨o1, v1, g1, e1, _⟩ := Z.i.ob
    obtain ⟨o2, v2, g2, e2, _⟩ := Z.j.ob
    obtain ⟨x, y, g3⟩ := Z.o
    simp only [List.mem_cons, List.not_mem_nil, or_false] at hc
    rcases hc with rfl | rfl | rfl | rfl | rfl
    · exact ⟨_, Z.z, fun v r => by cases r⟩
    · exact ⟨_, Z.t, fun v r => by cases r⟩
    · exact ⟨_, g3, fun v r => by cases r⟩
    · exact ⟨_, g1, fun v r => by rw [e1] at r; cases r⟩
    · exact ⟨_, g2, fun v r => by rw [e2] at r; cases r⟩
  keep := fun n h h' Z kk => ⟨kk z (by simp) _ Z.z, kk T (by simp) _ Z.t, Z.o.elim fun x r => r.elim fun y r => ⟨x, y, kk O (by simp) _ r⟩, Z.i.keep fun o e => kk i (by simp) o e, Z.j.keep fun o e => kk j (by simp) o e⟩
  item := by
    intro X hP hw hK hc n pins s σ H E I hf Z hg
    subst hP hw hK
    obtain ⟨xs, ys, x, y, q1, q2, e1, e2⟩ := hg
    obtain ⟨its, rv, sr⟩ := q1.get I
    obtain ⟨jts, rw', sr'⟩ := q2.get I
    obtain ⟨u, hu, ru⟩ := rv.get e1
    obtain ⟨v, hv, rv2⟩ := rw'.get e2
    have f4 : ∀ c ∈ [z, O, i, j], FpOk X pins H c := fun c hc => hf c (by simp only [List.mem_cons, List.not_mem_nil, or_false] at hc ⊢; rcases hc with h | h | h | h <;> simp [h])
    refine zip_item D Z (fun h' kk => sr.keep kk) (fun hc => q1.ne I (f4 a hc) rfl) (fun h' kk => sr'.keep kk) (fun hc => q2.ne I (f4 b hc) rfl) (by simpa using hu) (by simpa using hv) fun h' Z' p' kk => ?_
    have sz : s.heap.objs.size ≤ s.heap.objs.size := Nat.le_refl _
    have I1 : Inv X pins σ (upd H s.heap.objs.size (.tup [x, y])) { s with heap := h' } := turnT (t' := s.toks) I f4 kk sz ⟨by show 2 ≤ sizeLine; decide, [u, v], .cons ru (.cons rv2 .nil), ⟨_, p', rfl, _, rfl⟩⟩
    refine ⟨_, rfl, wpAny_letOwnedTupleGo_zip (s := { s with heap := h' }) Z'.z fun h2 z2 e3 => ?_⟩
    have nz : ∀ c ∈ [z, T, O, i, j], (upd H s.heap.objs.size (.tup [x, y])) c = none := fun c hc => by
      obtain ⟨o, ho, _⟩ : ∃ o, s.heap.get? c = some o ∧ True := by
        obtain ⟨o1, v1, g1, _⟩ := Z.i.ob
        obtain ⟨o2, v2, g2, _⟩ := Z.j.ob
        obtain ⟨p1, p2, g3⟩ := Z.o
        have hc' := hc
        simp only [List.mem_cons, List.not_mem_nil, or_false] at hc'
        rcases hc' with rfl | rfl | rfl | rfl | rfl
        · exact ⟨_, Z.z, trivial⟩
        · exact ⟨_, Z.t, trivial⟩
        · exact ⟨_, g3, trivial⟩
        · exact ⟨_, g1, trivial⟩
        · exact ⟨_, g2, trivial⟩
      rw [upd_ne (Nat.ne_of_lt (Heap.lt_size ho))]
      exact (hf c hc).1
    obtain ⟨d1, d2, d3, d4, _⟩ := D.ne
    have I2 : Inv X pins σ (upd H s.heap.objs.size (.tup [x, y])) { s with heap := h2 } := turnL (s := { s with heap := h' }) (t' := s.toks) (ch := [z]) I1 (fun c hc => by
      obtain rfl := List.mem_singleton.mp hc
      exact ⟨nz _ (by simp), (hf _ (by simp)).2⟩) fun c o hc e => e3.extBut _ _ (fun r => hc (by simp [r])) e
    refine ⟨.ref s.heap.objs.size, _, I2, rfl, ⟨_, I.hok.fresh sz, rfl, fun xs' ys' x' y' r1 r2 r3 r4 => ?_⟩, ⟨z2, e3.extBut _ _ d1 Z'.t, Z'.o.elim fun p1 r => r.elim fun p2 r => ⟨p1, p2, e3.extBut _ _ d2 r⟩, Z'.i.keep fun o e => e3.extBut _ _ d3 e, Z'.j.keep fun o e => e3.extBut _ _ d4 e⟩, nz⟩
    rw [r1.inj I q1] at r3
    rw [r2.inj I q2] at r4
    rw [e1] at r3; rw [e2] at r4; cases r3; cases r4
    rfl
  done := by
    intro X hP hw hK hc n pins s σ H E I hf Z hg
    subst hP hw hK
    obtain ⟨xs, ys, q1, q2, he⟩ := hg
    obtain ⟨its, rv, sr⟩ := q1.get I
    obtain ⟨jts, rw', sr'⟩ := q2.get I
    have l1 := rv.length
    have l2 := rw'.length
    have f4 : ∀ c ∈ [z, O, i, j], FpOk X pins H c := fun c hc => hf c (by simp only [List.mem_cons, List.not_mem_nil, or_false] at hc ⊢; rcases hc with h | h | h | h <;> simp [h])
    refine zip_end (I.ok.hd hc) D Z (fun h' kk => sr.keep kk) (fun hc => q1.ne I (f4 a hc) rfl) (fun h' kk => sr'.keep kk) (fun hc => q2.ne I (f4 b hc) rfl) ?_ fun h' kk => ⟨rfl, turnL (t' := s.toks) I f4 kk⟩
    rcases he with h | h
    · exact .inl (by simp; omega)
    · exact .inr (by simp; omega)
  self := fun _ _ _ _ _ Z h => wpAny_pyIter_zip Z.z h
def iZip (K : PySem.W.Frag) (k1 k2 : Bool) (ta : TA) : TI := fun σ H R => ta σ H fun vs H1 => ∃ a b xs ys, vs = [.ref a, .ref b] ∧ SqK k1 K H1 a xs ∧ SqK k2 K H1 b ys ∧ R (Itz K k1 a k2 b) H1
theorem zip_call {X : Cx} {pins : List (Addr × Obj)} {σ : St} {H : Hp} {s : Shared} {k1 k2 : Bool} {a b : Addr} {xs ys : List V} {R : It → Hp → Prop} {E : Value → Shared → Prop} {es : List Expr} {x1 : Nat} {tp : Pos} (I : Inv X pins σ H s) (q1 : SqK k1 X.K H a xs) (q2 : SqK k2 X.K H b ys) (q : R (Itz X.K k1 a k2 b) H) :
    wpAny (model X.prog X.w) X.A (call (.type "zip") [.ref a, .ref b]) (fun v s1 => wpAny (model X.prog X.w) X.A (pyIter v) (PIE X pins σ (.Tuple es x1 tp) R) E s1) E s := by
  obtain ⟨its, rv, sr⟩ := q1.get I
  obtain ⟨jts, rw', sr'⟩ := q2.get I
  have n1 : (s.heap.push { cls := .type (zClass k1), data := .fields #[.ref a, .int 0 0] }).objs.size = s.heap.objs.size + 1 := Heap.size_push ..
  have n2 := (Heap.size_push (s.heap.push { cls := .type (zClass k1), data := .fields #[.ref a, .int 0 0] }) { cls := .type (zClass k2), data := .fields #[.ref b, .int 0 0] }).trans (congrArg (· + 1) n1)
  have up5 : ∀ c o, s.heap.get? c = some o → (zHp k1 k2 s.heap a b).get? c = some o := fun c o e => by
    unfold zHp
    exact Heap.get?_push_of_some _ (Heap.get?_push_of_some _ (Heap.get?_push_of_some _ (Heap.get?_push_of_some _ (Heap.get?_push_of_some _ e))))
  have Z : ZAt k1 k2 (zHp k1 k2 s.heap a b) (s.heap.objs.size + 4) (s.heap.objs.size + 2) (s.heap.objs.size + 3) s.heap.objs.size (s.heap.objs.size + 1) a b .none 0 := by
    unfold zHp
    refine ⟨?_, ?_, ⟨.none, .none, ?_⟩, zit_new ?_, zit_new ?_⟩
    · exact Heap.get?_push_at (by simp only [Heap.size_push]) rfl
    · exact Heap.get?_push_of_some _ (Heap.get?_push_of_some _ (Heap.get?_push_at (by simp only [Heap.size_push]) rfl))
    · exact Heap.get?_push_of_some _ (Heap.get?_push_at (by simp only [Heap.size_push]) rfl)
    · exact Heap.get?_push_of_some _ (Heap.get?_push_of_some _ (Heap.get?_push_of_some _ (Heap.get?_push_of_some _ (Heap.get?_push_at rfl rfl))))
    · exact Heap.get?_push_of_some _ (Heap.get?_push_of_some _ (Heap.get?_push_of_some _ (Heap.get?_push_at (by simp only [Heap.size_push]) rfl)))
  have D : ZAp (s.heap.objs.size + 4) (s.heap.objs.size + 2) (s.heap.objs.size + 3) s.heap.objs.size (s.heap.objs.size + 1) := ⟨by simp⟩
  refine callType_new F.called_zip (by decide) (F.typeCall_zip_2 _ _) (F.newCall_zip_2 _ _) (fun obj => F.args_object_init_3 obj _ _) F.entry_zip_new (zip_new k1 k2 a b its.toArray jts.toArray) ⟨sr, sr', ?_⟩
  have I1 : Inv X pins σ H { s with heap := zHp k1 k2 s.heap a b } := I.kept (t' := s.toks) up5
  refine ⟨⟨_, Z.z, rfl⟩, wpAny_pyIter_zip (s := { s with heap := zHp k1 k2 s.heap a b }) Z.z ⟨_, _, _, _, H, rfl, I1, turn_zip k1 k2 D, Z, fun c hc => ?_, q⟩⟩
  have ge : s.heap.objs.size ≤ c := by
    simp only [List.mem_cons, List.not_mem_nil, or_false] at hc
    rcases hc with rfl | rfl | rfl | rfl | rfl <;> first | exact Nat.le_add_right _ _ | exact Nat.le_refl _
  exact I.fpOk ge (I.hok.fresh ge)
theorem boot_zip : bootBuiltins "zip" = some (.type "zip") := by decide +kernel
theorem pi_zip {X : Cx} {es : List Expr} {x1 : Nat} {tp p pos : Pos} {e1 e2 : Expr} {ta : TA} (k1 k2 : Bool) (hg : Gl X "zip") (hm : X.mg "zip" = none) (ha : PA X [e1, e2] ta) (hs : starEach [e1, e2] X.env = [(false, eval e1 X.env), (false, eval e2 X.env)] := by rfl) (hs2 : starEach [e2] X.env = [(false, eval e2 X.env)] := by rfl) :
    PI X (.Tuple es x1 tp) (.Call (.Name "zip" p) [e1, e2] [] pos) (iZip X.K k1 k2 ta) := by
  intro pins s σ H R I h
  refine Call_ (ld_blt I hg hm boot_zip (PyProof.Rows.callWith_type1 (thn (ha pos pins s σ H _ I h) fun us s1 ⟨vs, H1, I1, r1, q1⟩ => ?_) (by rw [hs, hs2]) (by rw [hs2]; rfl)))
  obtain ⟨a, b, xs, ys, rfl, w1, w2, q⟩ := q1
  obtain ⟨u, v, rfl, ru, rv⟩ := vals2 r1
  cases ru; cases rv
  exact zip_call I1 w1 w2 q
def Zp (K : PySem.W.Frag) (k1 k2 : Bool) (vs : List V) (H : Hp) (R : It → Hp → Prop) : Prop := ∃ a b xs ys, vs = [.ref a, .ref b] ∧ SqK k1 K H a xs ∧ SqK k2 K H b ys ∧ R (Itz K k1 a k2 b) H
theorem g_zip {K : PySem.W.Frag} {k1 k2 : Bool} {tl : TA} {σ : St} {H : Hp} {R : It → Hp → Prop} (h : tl σ H fun vs H1 => Zp K k1 k2 vs H1 R) : iZip K k1 k2 tl σ H R := h
theorem g_zipv {K : PySem.W.Frag} {k1 k2 : Bool} {H : Hp} {R : It → Hp → Prop} {a b : Addr} {xs ys : List V} (h1 : SqK k1 K H a xs) (h2 : SqK k2 K H b ys) (h : R (Itz K k1 a k2 b) H) : Zp K k1 k2 [.ref a, .ref b] H R := ⟨a, b, xs, ys, rfl, h1, h2, h⟩
end L4
namespace HT2
open PySem PyProof.Rows HT
section
open PySem.SeqAt
open PySem.AutoSeq1 (wpAny_loadPart')
open PySem.MeetsSeq PySem.MeetsSeq2 PySem.MeetsSeq3
end
section
variable {prog : Program} {w : World} {A : Around} {E : Value → Shared → Prop} {s : Shared}
end
end HT2
namespace L4
open PySem PySem.Spec PyProof.Rows L2 L3
section
variable {prog : Program} {w : World} {A : Around} {R : Result → Shared → Prop} {I S : Addr} {fp wr : List Addr} {n : Nat} {P : Nat → Value → Prop} {St : Nat → Heap → Prop} {bt : Nat → Nat → Bool} {h0 : Heap} {kw : List (Str × Value)}
end
section
variable {prog : Program} {w : World} {A : Around} {E : Value → Shared → Prop} {s : Shared}
end
section
variable {prog : Program} {w : World} {A : Around} {R : Result → Shared → Prop} {I S : Addr} {fp wr : List Addr} {n : Nat} {P : Nat → Value → Prop} {St : Nat → Heap → Prop} {bt : Nat → Nat → Bool} {h0 : Heap} {kw : List (Str × Value)}
end
section
variable {prog : Program} {w : World} {A : Around} {E : Value → Shared → Prop} {s : Shared}
end

def rMax3 : RL := fun xs H Q => ∃ i j k, xs = [.int i, .int j, .int k] ∧ Q (.int (max (max i j) k)) H
def rIsBl : R2 := fun x y H Q => ∃ b, y = .bl b ∧ Q (.bl (decide (x = .bl b))) H
def rIsNotBl : R2 := fun x y H Q => ∃ b, y = .bl b ∧ Q (.bl (!decide (x = .bl b))) H
def rIntB : RL := fun xs H Q => ∃ k : Bool, xs = [.bl k] ∧ Q (.int (if k then 1 else 0)) H
section
variable {X : Cx}
theorem c_intB : CallR X (.type "int") rIntB := by
  intro pins s σ H xs us Q I r h
  obtain ⟨k, rfl, q⟩ := h
  exact call_int1 pins s σ H _ us Q I r (.inr ⟨k, rfl, q⟩)
end
section
variable {H : Hp} {Q : VK}
theorem g_max3 {a b c : Int} (h : Q (.int (max (max a b) c)) H) : rMax3 [V.int a, V.int b, V.int c] H Q := ⟨a, b, c, rfl, h⟩
theorem g_isBlB {a b : Bool} (h : Q (.bl (decide (a = b))) H) : rIsBl (.bl a) (.bl b) H Q := ⟨b, rfl, by
  have e : decide (V.bl a = V.bl b) = decide (a = b) := by
    by_cases z : a = b
    · subst z; simp
    · rw [decide_eq_false z, decide_eq_false fun w => z (V.bl.inj w)]
  rw [e]; exact h⟩
theorem g_isNotBlB {a b : Bool} (h : Q (.bl (!decide (a = b))) H) : rIsNotBl (.bl a) (.bl b) H Q := ⟨b, rfl, by
  have e : decide (V.bl a = V.bl b) = decide (a = b) := by
    by_cases z : a = b
    · subst z; simp
    · rw [decide_eq_false z, decide_eq_false fun w => z (V.bl.inj w)]
  rw [e]; exact h⟩
theorem g_neB {i j : Bool} (h : Q (.bl (!decide (i = j))) H) : rNe (.bl i) (.bl j) H Q := ⟨rfl, by
  have e : decide (V.bl i = V.bl j) = decide (i = j) := by
    by_cases z : i = j
    · subst z; simp
    · rw [decide_eq_false z, decide_eq_false fun w => z (V.bl.inj w)]
  rw [e]; exact h⟩
theorem g_intB {k : Bool} (h : Q (.int (if k then 1 else 0)) H) : rIntB [.bl k] H Q := ⟨k, rfl, h⟩
end
def cutI (xs : List Int) (lo hi : Option Int) : List Int := (xs.drop (HT.sIx xs.length 0 lo)).take (HT.sIx xs.length xs.length hi - HT.sIx xs.length 0 lo)
theorem cutV_ints {ns : List Int} {lo hi : Option Int} : cutV (ns.map V.int) lo hi = (cutI ns lo hi).map V.int := by
  unfold cutV cutI
  rw [List.length_map, List.map_take, List.map_drop]
section
variable {K : PySem.W.Frag} {P : Addr → Prop} {H0 H H' : Hp} {l l' l2 : List (Addr × Ob)} {fs : List Pr} {p r : Addr} {Q : VK} {xs ys : List V} {lo hi : Option Int}
theorem g_slSq (L : Led P H0 H l fs) (s : SqL K H p xs) (h : ∀ b H', H b = none → Led P H0 H' ((b, Eo (.lst (cutV xs lo hi))) :: l) fs → Same H H' → Q (.ref b) H') : rSlL K (.ref p) lo hi H Q :=
  ⟨p, xs, rfl, s, fun b nb => h b _ nb (L.newO nb rfl) (same_upd0 nb)⟩
theorem g_slI {ns : List Int} (L : Led P H0 H l fs) (s : SqL K H0 p (ns.map V.int)) (n : ¬ P p) (h : ∀ b H', H b = none → Led P H0 H' ((b, Eo (.lst ((cutI ns lo hi).map V.int))) :: l) fs → Same H H' → Q (.ref b) H') : rSlL K (.ref p) lo hi H Q := by
  refine g_slSq L (L.seq s n) ?_
  rw [cutV_ints]
  exact h
theorem g_cat (L : Led P H0 H l fs) (m1 : Put p (Eo (.lst xs)) (Eo (.lst xs)) l l') (m2 : Put r (Eo (.lst ys)) (Eo (.lst ys)) l l2) (hz : xs.length + ys.length ≤ sizeLine)
    (h : ∀ b H', H b = none → Led P H0 H' ((b, Eo (.lst (xs ++ ys))) :: l) fs → Same H H' → Q (.ref b) H') : rCat (.ref p) (.ref r) H Q :=
  ⟨p, r, xs, ys, rfl, rfl, L.eo m1, L.eo m2, hz, fun b nb => h b _ nb (L.newO nb rfl) (same_upd0 nb)⟩
end
end L4
namespace L4
open PySem PySem.Spec PyProof.Rows
def ExcAt (h : Heap) (x : Addr) (C : Value) (dx T : Option Addr) (fl : Value) : Prop :=
  ∃ oe vs, h.get? x = some oe ∧ oe.cls = C ∧ oe.dict = dx ∧ oe.data = .fields vs ∧ vs[1]? = some (T.elim .none .ref) ∧ ∀ t, T = some t → t ≠ x ∧ ∃ oT ts, h.get? t = some oT ∧ oT.data = .fields ts ∧ ts[3]? = some fl
def frsE (l : List Env) : List Addr := l.filterMap (·.frame)
structure But (x : Addr) (T : Option Addr) (fs : List Addr) (h h' : Heap) : Prop where
  keep : ∀ b o, h.get? b = some o → b ≠ x → some b ≠ T → b ∉ fs → h'.get? b = some o
  slot : ∀ b o, h.get? b = some o → b ≠ x → some b ≠ T → ∃ sl, h'.get? b = some { o with slots := sl }
  there : ∀ b o, h.get? b = some o → ∃ o', h'.get? b = some o'
theorem But.refl {x : Addr} {T : Option Addr} {fs : List Addr} {h : Heap} : But x T fs h h := ⟨fun _ _ e _ _ _ => e, fun _ o e _ _ => ⟨o.slots, e⟩, fun _ o e => ⟨o, e⟩⟩
theorem ExcAt.there {h : Heap} {x : Addr} {C : Value} {dx T : Option Addr} {fl : Value} (e : ExcAt h x C dx T fl) : ∃ o, h.get? x = some o := let ⟨o, _, q, _⟩ := e; ⟨o, q⟩
section
variable {M : Model} {A : Around} {E : Value → Shared → Prop} {s : Shared} {base : Heap} {env : Env} {outer : List Env} {L x t : Addr} {C fl : Value} {dx T : Option Addr} {Q : Unit → Shared → Prop}
theorem set_flight {fr : Option Addr} (he : ExcAt s.heap x C dx (some t) fl) (h : ∀ h', ExcAt h' x C dx (some t) (fr.elim .none fun f => rawInt f) → But x (some t) [] s.heap h' → Q () { s with heap := h' }) : wpAny M A (setFlight (.ref x) fr) Q E s := by
  obtain ⟨oe, vs, e1, e2, e3, e4, e5, e6⟩ := he
  obtain ⟨ne, oT, ts, f1, f2, f3⟩ := e6 t rfl
  have hz : 3 < ts.size := (Array.getElem?_eq_some_iff.mp f3).1
  have oth : ∀ b, b ≠ t → (s.heap.update t (Obj.mapFields (·.setIfInBounds 3 (fr.elim .none fun f => rawInt f)))).get? b = s.heap.get? b := fun b hb => Heap.get?_update_other _ _ (Ne.symm hb)
  have d3 := Obj.data_mapFields f2 (·.setIfInBounds 3 (fr.elim .none fun f => rawInt f))
  have self := Heap.get?_update_self (Obj.mapFields (·.setIfInBounds 3 (fr.elim .none fun f => rawInt f))) f1 (Obj.isFreed_of_fields d3)
  unfold setFlight
  refine wpAny_bind (wpAny_field e1 e4 e5 ?_)
  rw [if_pos (show (((some t).elim Value.none Value.ref) != Value.none) = true from by simp)]
  refine wpAny_setField f1 f2 hz (h _ ⟨oe, vs, (oth x (Ne.symm ne)).trans e1, e2, e3, e4, e5, fun t' ht => ?_⟩ ⟨fun b o q _ n _ => ?_, fun b o q _ n => ?_, fun b o q => ?_⟩)
  · cases ht
    exact ⟨ne, _, _, self, d3, by simp [hz]⟩
  · exact (oth b fun z => n (by rw [z])).trans q
  · exact ⟨o.slots, (oth b fun z => n (by rw [z])).trans q⟩
  · by_cases z : b = t
    · exact ⟨_, by rw [z]; exact self⟩
    · exact ⟨o, (oth b z).trans q⟩
theorem new_entry {head : Value} {hadNext : Bool} {oe : Obj} {vs : Array Value} (hfr : A.frames = some (env :: outer)) (hl : s.heap.FunFrames base (env :: outer)) (hf : env.frame = some L)
    (e1 : s.heap.get? x = some oe) (e4 : oe.data = .fields vs) (hz : 1 < vs.size)
    (h : ∀ h' t', ExcAt h' x oe.cls oe.dict (some t') (rawInt L) → But x none (frsE (env :: outer)) s.heap h' → s.heap.objs.size ≤ t' → Q () { s with heap := h' }) :
    wpAny M A (do let a ← frameOf env; let pl ← entryPlaceOf L hadNext; let b ← EntryCells.newEntry head a .none (rawInt L) .none pl; setField (.ref x) 1 b) Q E s := by
  have nfr : x ∉ (env :: outer).filterMap (·.frame) := fun hm => by
    obtain ⟨_, o, ho, hn⟩ := hl.mem hm
    rw [e1] at ho; cases ho; exact hn vs e4
  refine wpAny_bind (wpAny_frameOf_fun hfr hl hf fun h1 s1 => ?_)
  refine wpAny_bind (wpAny_entryPlaceOf fun pl hpl => ?_)
  unfold EntryCells.newEntry newFields
  refine wpAny_bind (wpAny_newObj_type ?_ (hpl.sizeOk5 _ _ _ _ _))
  have x1 : h1.get? x = some oe := (s1.2.1 x nfr).trans e1
  generalize hnew : ({ cls := .type "traceback", dict := none, data := .fields ([head, .ref L, .none, rawInt L, .none] ++ (if pl.isEmpty then List.replicate 6 Value.none else pl)).toArray } : Obj) = new
  have x2 := Heap.get?_push_of_some (h := h1) new x1
  have x3 : h1.objs.size ≠ x := Nat.ne_of_gt (Heap.lt_size x1)
  have d3 := Obj.data_mapFields e4 (·.setIfInBounds 1 (Value.ref h1.objs.size))
  have x4 := Heap.get?_update_self (Obj.mapFields (·.setIfInBounds 1 (Value.ref h1.objs.size))) x2 (Obj.isFreed_of_fields d3)
  have x5 := (Heap.get?_update_other (h1.push new) (Obj.mapFields (·.setIfInBounds 1 (Value.ref h1.objs.size))) (Ne.symm x3)).trans (Heap.get?_push_size h1 (by subst hnew; rfl))
  have up : ∀ b o, b ≠ x → h1.get? b = some o → ((h1.push new).update x (Obj.mapFields (·.setIfInBounds 1 (Value.ref h1.objs.size)))).get? b = some o := fun b o n q => by
    rw [Heap.get?_update_other _ _ (Ne.symm n)]; exact Heap.get?_push_of_some _ q
  refine wpAny_setField x2 e4 hz (h _ h1.objs.size ⟨_, _, x4, Obj.cls_mapFields _ _, ?_, d3, by simp [hz], fun t' ht => ?_⟩ ⟨fun b o q n _ nf => ?_, fun b o q n _ => ?_, fun b o q => ?_⟩ ?_)
  · cases oe with | mk c d da sl => cases da <;> rfl
  · cases ht
    refine ⟨x3, new, _, x5, by subst hnew; rfl, ?_⟩
    first | (simp; done) | (rcases hpl with rfl | ⟨_, _, _, _, _, _, _, rfl⟩ <;> simp)
  · exact up b o n ((s1.2.1 b nf).trans q)
  · obtain ⟨sl, e⟩ := s1.2.2 b o q
    exact ⟨sl, up b _ n e⟩
  · by_cases z : b = x
    · exact ⟨_, by rw [z]; exact x4⟩
    · obtain ⟨sl, e⟩ := s1.2.2 b o q
      exact ⟨_, up b _ z e⟩
  · exact s1.1 ▸ Nat.le_refl _
theorem note_frame (hfr : A.frames = some (env :: outer)) (hl : s.heap.FunFrames base (env :: outer)) (hf : env.frame = some L) (he : ExcAt s.heap x C dx T fl) (hfl : fl = .none ∨ fl = rawInt L)
    (h : ∀ h' t', ExcAt h' x C dx (some t') (rawInt L) → But x T (frsE (env :: outer)) s.heap h' → (some t' = T ∨ s.heap.objs.size ≤ t') → Q () { s with heap := h' }) : wpAny M A (noteFrame (.ref x) env) Q E s := by
  obtain ⟨oe, vs, e1, rfl, rfl, e4, e5, e6⟩ := he
  have hz : 1 < vs.size := (Array.getElem?_eq_some_iff.mp e5).1
  unfold noteFrame
  simp only [hf]
  refine wpAny_bind (wpAny_field e1 e4 e5 ?_)
  cases T with
  | none =>
    rw [if_neg (by decide)]
    exact new_entry hfr hl hf e1 e4 hz fun h' t' a b c => h h' t' a b (.inr c)
  | some t =>
    obtain ⟨ne, oT, ts, f1, f2, f3⟩ := e6 t rfl
    rw [if_pos (show (((some t).elim Value.none Value.ref) != Value.none) = true from by simp)]
    refine wpAny_bind (wpAny_field f1 f2 f3 ?_)
    by_cases z : fl = rawInt L
    · subst z
      rw [if_pos (by simp)]
      exact wpAny_pure (h _ t ⟨oe, vs, e1, rfl, rfl, e4, e5, fun t' ht => by cases ht; exact ⟨ne, oT, ts, f1, f2, f3⟩⟩ But.refl (.inl rfl))
    · obtain rfl : fl = .none := hfl.resolve_right z
      rw [if_neg (show ¬ ((Value.none == rawInt L) = true) from by simp [rawInt])]
      refine wpAny_bind (wpAny_setField f1 f2 (Array.getElem?_eq_some_iff.mp f3).1 ?_)
      have oth : ∀ b, b ≠ t → (s.heap.update t (Obj.mapFields (·.setIfInBounds 3 Value.none))).get? b = s.heap.get? b := fun b hb => Heap.get?_update_other _ _ (Ne.symm hb)
      have self := Heap.get?_update_self (Obj.mapFields (·.setIfInBounds 3 Value.none)) f1 (Obj.isFreed_of_fields (Obj.data_mapFields f2 _))
      refine new_entry (base := base) (outer := outer) hfr (hl.of_keeps fun b o q hn => ⟨o, (oth b fun z => ?_).trans q, rfl⟩) hf ((oth x (Ne.symm ne)).trans e1) e4 hz fun h' t' a b c => h h' t' a ⟨fun b' o q n m nf => ?_, fun b' o q n m => ?_, fun b' o q => ?_⟩ (.inr ?_)
      · subst z; rw [f1] at q; cases q; exact hn ts f2
      · exact b.keep b' o ((oth b' fun z => m (by rw [z])).trans q) n (by simp) nf
      · exact b.slot b' o ((oth b' fun z => m (by rw [z])).trans q) n (by simp)
      · by_cases z : b' = t
        · exact b.there b' _ (by rw [z]; exact self)
        · exact b.there b' o ((oth b' z).trans q)
      · simpa using c
theorem leave_exc (hfr : A.frames = some (env :: outer)) (hl : s.heap.FunFrames base (env :: outer)) (hf : env.frame = some L) (he : ExcAt s.heap x C dx T fl) (hfl : fl = .none ∨ fl = rawInt L)
    (h : ∀ h' t', ExcAt h' x C dx (some t') .none → But x T (frsE (env :: outer)) s.heap h' → (some t' = T ∨ s.heap.objs.size ≤ t') → Q () { s with heap := h' }) : wpAny M A (leaving env (.ref x)) Q E s := by
  unfold leaving
  refine wpAny_bind (note_frame hfr hl hf he hfl fun h1 t1 a b c => ?_)
  refine set_flight (fr := none) a fun h2 a2 b2 => h h2 t1 a2 ⟨fun b' o q n m nf => ?_, fun b' o q n m => ?_, fun b' o q => ?_⟩ c
  · refine b2.keep b' o (b.keep b' o q n m nf) n (fun z => ?_) (by simp)
    rcases c with c | c
    · exact m (z.trans c)
    · have lt := Heap.lt_size q; cases z; exact absurd lt (Nat.not_lt.mpr c)
  · obtain ⟨sl, e⟩ := b.slot b' o q n m
    refine ⟨sl, b2.keep b' _ e n (fun z => ?_) (by simp)⟩
    rcases c with c | c
    · exact m (z.trans c)
    · have lt := Heap.lt_size q; cases z; exact absurd lt (Nat.not_lt.mpr c)
  · obtain ⟨o1, e⟩ := b.there b' o q
    exact b2.there b' o1 e
end
end L4
namespace L4
open PySem PySem.Spec PyProof.Rows L2 L3
structure Own1 (X : Cx) (pins : List (Addr × Obj)) (H : Hp) (b : Addr) : Prop where
  no : H b = none
  ab : X.s₀.heap.objs.size ≤ b
  lo : b ≠ X.env.locals
  ce : ∀ x c, X.env.cells.lookup x = some c → c ≠ b
  pi : ∀ p ∈ X.pn ++ pins, p.1 ≠ b
def CX1 (P : Program) (w : World) : CXT := fun outer H s E e s' => ∃ x C dx t H', e = Value.ref x ∧ s'.os = s.os ∧ AllBare s'.gens ∧ Un (frs outer) [] H H' s.heap s'.heap ∧ HOk P w H' s'.heap ∧
  ExcAt s'.heap x C dx (some t) .none ∧ s.heap.objs.size ≤ x ∧ s.heap.objs.size ≤ t ∧ H' x = none ∧ H' t = none ∧ E C dx H'
theorem noErr1 {P : Program} {w : World} : NoErr (CX1 P w) := fun _ _ _ _ _ ⟨_, _, _, _, _, _, _, _, _, _, _, _, _, _, _, h⟩ => h
def XS (X : Cx) (Ex : St → XK) (e : Value) (s' : Shared) : Prop := ∃ pins σ H x C dx T fl, e = Value.ref x ∧ Inv X pins σ H s' ∧ ExcAt s'.heap x C dx T fl ∧ (fl = .none ∨ fl = rawInt X.env.locals) ∧ Own1 X pins H x ∧ (∀ t, T = some t → Own1 X pins H t) ∧ Ex σ C dx H
def PaX (X : Cx) (Ex : St → XK) : Prop := ∀ e s', XS X Ex e s' → X.xe e s'
section
variable {X : Cx} {pins : List (Addr × Obj)} {σ : St} {H H' : Hp} {s s' : Shared} {Ex : St → XK} {e : Value}
theorem own1_of (I : Inv X pins σ H s) {b : Addr} (hb : s.heap.objs.size ≤ b) (n : H' b = none) : Own1 X pins H' b :=
  ⟨n, Nat.le_trans I.sz hb, Nat.ne_of_gt (Nat.lt_of_lt_of_le I.lt hb), fun x c e z => by
    obtain ⟨v, o, ho, _⟩ := I.cell x c e
    exact absurd (Heap.lt_size ho) (by rw [z]; exact Nat.not_lt.mpr hb), fun p hp z => by
    have := (I.pin p hp).1
    exact absurd (Heap.lt_size this) (by rw [z]; exact Nat.not_lt.mpr hb)⟩
theorem inv_but {x : Addr} {T : Option Addr} {h' : Heap} (I : Inv X pins σ H s) (hx : Own1 X pins H x) (hT : ∀ t, T = some t → Own1 X pins H t) (b : But x T (frs X.stack) s.heap h') : Inv X pins σ H { s with heap := h' } := by
  have nx : ∀ c, c ∉ x :: T.toList → c ≠ x ∧ some c ≠ T := fun c hc => ⟨fun z => hc (by rw [z]; exact List.mem_cons_self), fun z => hc (List.mem_cons_of_mem _ (by rw [← z]; simp))⟩
  refine I.call' (s' := { s with heap := h' }) (ch := x :: T.toList) rfl ⟨fun c o q _ nf nc => b.keep c o q (nx c nc).1 (nx c nc).2 nf, fun c o q _ _ nc => b.slot c o q (nx c nc).1 (nx c nc).2, fun _ _ _ n _ => n, fun c o q _ => b.there c o q, fun _ _ q => q, fun _ _ _ q => q, fun _ ps q => ⟨#[], by rw [q]; simp⟩⟩ (fun a o q => ?_) I.bare (fun c hc => ?_)
  · refine (I.hok a o q).stay (fun c u hc r => ?_) (fun _ r => r) fun _ _ r => r
    obtain ⟨v, hv⟩ : ∃ v, H c = some v := by
      rcases hc with rfl | hc
      · exact ⟨_, q⟩
      · exact ⟨_, hc⟩
    refine b.keep c u r (fun z => ?_) (fun z => ?_) (fun z => ?_)
    · rw [z, hx.no] at hv; cases hv
    · rw [(hT c z.symm).no] at hv; cases hv
    · rw [I.stkFree c z] at hv; cases hv
  · have w : Own1 X pins H c := by
      rcases List.mem_cons.mp hc with rfl | hc
      · exact hx
      · exact hT c (by simpa using hc)
    exact ⟨.inr w.ab, w.lo, w.ce, w.pi⟩
theorem xs_call (I : Inv X pins σ H s) (h : CX1 X.prog X.w X.stack H s (Ex σ) e s') : XS X Ex e s' := by
  obtain ⟨x, C, dx, t, H', rfl, os, bare, un, hok, ex, x1, t1, nx, nt, q⟩ := h
  exact ⟨pins, σ, H', x, C, dx, some t, .none, rfl, I.call' (ch := []) os un hok bare (fun b z => absurd z (by simp)), ex, .inl rfl, own1_of I x1 nx, fun t' z => by cases z; exact own1_of I t1 nt, q⟩
theorem xs_leave {P : Program} {w : World} {K : PySem.W.Frag} {mg : Str → Option Value} {base : Heap} {N : List Str} {qual : Str} {scope : Scope} {f : Addr} {cd : Value} {A : Around} {outer : List Env} {s0 : Shared} {H0 : Hp} {E : XK} :
    PaX (cxOf (CX1 P w) P w K mg base N qual scope f cd A outer s0 H0 E) (fun _ => E) := fun e s' h => by
  obtain ⟨pins, σ, H, x, C, dx, T, fl, rfl, I, ex, hfl, ox, oT, q⟩ := h
  refine leave_exc (base := base) (outer := outer) I.ok.frames I.stack rfl ex hfl fun h' t' a b c => ?_
  have J := inv_but I ox oT b
  have ot : s0.heap.objs.size ≤ t' ∧ H t' = none := by
    rcases c with c | c
    · exact ⟨(oT t' c.symm).ab, (oT t' c.symm).no⟩
    · exact ⟨Nat.le_trans I.sz c, I.hok.fresh c⟩
  exact ⟨x, C, dx, t', H, rfl, J.os, J.bare, J.base, J.hok, a, ox.ab, ot.1, ox.no, ot.2, q⟩
end
def tCallX (sp : Sp) (Ex : St → XK) (t : TA) : TE := fun σ H Q => t σ H fun vs H1 => sp vs H1 Q (Ex σ)
def tMakeX (C : Addr) (sp : Sp) (Ex : St → XK) (t : TA) : TE := fun σ H Q => t σ H fun vs H1 => Made C sp (Ex σ) vs H1 Q
section
variable {X : Cx} {k : Nat} {f C : Addr} {fd : FuncData} {ps : List Str} {sp : Sp} {Ex : St → XK} {x m : Str} {p pos apos : Pos} {e o : Expr} {es : List Expr} {ta : TE} {t : TA}
theorem run_fnX {pins : List (Addr × Obj)} {σ : St} {H : Hp} {s : Shared} {Q : VK} {us : List Value} {vs : List V} (F : FnOk X.prog X.w X.K X.mg X.base (CX1 X.prog X.w) k f fd ps sp) (hr : Room k X.A) (hb : Binds X.K fd ps []) (hx : PaX X Ex)
    (I : Inv X pins σ H s) (r : Vals vs us) (h : sp vs H Q (Ex σ)) : wpAny (model X.prog X.w) X.A (call (.ref f) us) (EP X pins σ Q) X.xe s := by
  have hl : us.length = ps.length := by rw [← r.length]; exact F.len _ _ _ _ h
  have hb' := hb s us I.kIn (by rw [List.append_nil]; exact hl)
  rw [List.append_nil] at hb'
  refine wpAny_call (codeAny_mono (F.run X.A X.stack s H ⟨us, []⟩ us vs Q (Ex σ) hr I.env0 hb' r h) fun r s' hq => ?_)
  cases r with
  | error e => exact hx e s' (xs_call I hq)
  | ok fl =>
    cases fl with
    | ret u => exact I.after hq
    | _ => exact False.elim hq
theorem pe_fnX (C : Cal X.prog X.w X.K X.mg X.base (CX1 X.prog X.w) x k ps sp) (hr : Room k X.A) (hx : PaX X Ex) (ha : PA X (e :: es) t) (hg : Gl X x := by rfl)
    (hdb : (x == ("__debug__" : Str)) = false := by decide) (he : starEach (e :: es) X.env = (false, eval e X.env) :: starEach es X.env := by rfl) (hpl : (backTo pos (starEach es X.env)).any (·.1) = false := by rfl) :
    PE X (.Call (.Name x p) (e :: es) [] pos) (tCallX sp Ex t) := by
  obtain ⟨f, fd, F, b, kp, m⟩ := C.ex
  intro pins s σ H Q I h
  refine wpAny_Call_Name_kw (ld_glob I hg m ?_ hdb)
  refine PySem.W.callWith_K (h₀ := X.base) I.ok.mod.kin kp (thn (ha pos pins s σ H _ I h) fun us s1 ⟨vs, H1, I1, r, q⟩ => ⟨I1.kIn, ?_⟩) he hpl
  exact run_fnX F hr b hx I1 r q
end
end L4
namespace L4
open PySem PySem.Spec PyProof.Rows L2 L3 PySem.W
section
variable {prog : Program} {w : World} {A : Around} {E : Value → Shared → Prop} {h : Heap} {g : Array GenState} {d : Drawn} {t : Nat} {os : OsState}
variable {nm q : Str} {C N : Addr} {bs bm bmB : List Value} {hdct : Bool} {sn : List Str} {sub : List Value} {ab : Bool} {col : Option Bool} {dd : Option Addr} {k0 k1 k2 k3 k5 : Option Value} {B newId initId : String}
abbrev exc2 (h : Heap) (C : Addr) (rest : List Value) : Heap := (h.push { cls := .type "tuple", data := .seq rest.toArray }).push { cls := .ref C, data := .fields #[.ref h.objs.size, .none, .none, .none, .bool false, .none] }
theorem exc2_keeps {rest : List Value} : ∀ b o, h.get? b = some o → (exc2 h C rest).get? b = some o := fun _ _ e => Heap.get?_push_of_some _ (Heap.get?_push_of_some _ e)
theorem exc2_get {rest : List Value} : (exc2 h C rest).get? (h.objs.size + 1) = some { cls := .ref C, data := .fields #[.ref h.objs.size, .none, .none, .none, .bool false, .none] } := by heap_get
theorem exc_type_call (F : ExcBaseFacts B newId initId bmB) (T : OwnTail h bmB bm) {rest : List Value} {init : Value} {Q : Fin → Shared → Prop}
    (hC : h.get? C = some (excClassObj nm q C N bs bm hdct sn sub ab col dd k0 k1 k2 k3 k5 newId)) (hi : Looks (model prog w) h (typeLookup (.ref C) "__init__") (some init)) (hb : ∀ self, Looks (model prog w) h (bindSpecial init self) (init, [self]))
    (hq : wpAny (model prog w) A (call init (.ref (h.objs.size + 1) :: rest)) (fun r s' => r = .none ∧ Q (.done (.ret (.ref (h.objs.size + 1)))) s') E ⟨exc2 h C rest, g, d, t, os⟩) (hrest : rest.length ≤ sizeLine) :
    wpAny (model prog w) A (Builtin.«type.__call__» ⟨.ref C :: rest, []⟩) Q E ⟨h, g, d, t, os⟩ := by
  repeat (first | with_reducible refine wpAny_loadPart_at hC ?_ | with_reducible refine wpAny_madeBy_exc hC ?_ | wp_step)
  refine codeAny_call_builtin_code (Code.quiet_builtin _ F.quiet) (wpAny_check_new_subT F T hC ?_)
  refine codeAny_exc_new_subT F T hC ?_ hrest
  show wpAny _ _ _ _ _ _
  have hC1 := exc2_keeps (C := C) (rest := rest) _ _ hC
  have hg := exc2_get (h := h) (C := C) (rest := rest)
  have hcC : (Value.ref C :: bm).contains (.ref C) = true := by simp
  unfold isInstance
  repeat (first | with_reducible refine wpAny_loadPart_at hg ?_ | (with_reducible refine wpAny_isSubtype_exc hC1 ?_; rw [hcC]) | wp_step)
  show wpAny _ _ (typeLookup (.ref C) _) _ _ _
  refine hi _ _ _ _ exc2_keeps ?_
  refine wpAny_holding (wpAny_bind (hb _ _ _ _ _ exc2_keeps ?_))
  refine wpAny_bind (wpAny_mono hq (fun r s' hr => ?_) fun _ _ x => x)
  obtain ⟨rfl, hQ⟩ := hr
  wp_walk
  exact hQ
theorem exc_call (F : ExcBaseFacts B newId initId bmB) (T : OwnTail h bmB bm) {rest : List Value} {init : Value} {Q : Value → Shared → Prop}
    (hC : h.get? C = some (excClassObj nm q C N bs bm hdct sn sub ab col dd k0 k1 k2 k3 k5 newId)) (hi : Looks (model prog w) h (typeLookup (.ref C) "__init__") (some init)) (hb : ∀ self, Looks (model prog w) h (bindSpecial init self) (init, [self]))
    (hq : wpAny (model prog w) (A.under (.builtin "type.__call__" ⟨.ref C :: rest, []⟩)) (call init (.ref (h.objs.size + 1) :: rest)) (fun r s' => r = .none ∧ Q (.ref (h.objs.size + 1)) s') E ⟨exc2 h C rest, g, d, t, os⟩) (hrest : rest.length ≤ sizeLine) :
    wpAny (model prog w) A (call (.ref C) rest) Q E ⟨h, g, d, t, os⟩ := by
  have f1 := tc_lookup
  have f2 := tc_bind (.ref C)
  have hT : (⟨h, g, d, t, os⟩ : Shared).TypeIs (.ref C) "type" := ⟨_, hC, rfl⟩
  refine wpAny_call (codeAny_of_tree ?_)
  show wpAny _ _ (callAny (.ref C) _) _ _ _
  repeat (any_goals (first | assumption | with_reducible refine wpAny_loadPart_at hC ?_ | wp_step))
  refine ⟨rfl, ?_⟩
  exact codeAny_call_builtin_at (Code.quiet_builtin _ (by decide +kernel)) entry_typeCall (wpAny_check_type_call_sub hC (exc_type_call F T hC hi hb hq hrest))
theorem exc_init (F : ExcBaseFacts B newId initId bmB) (T : OwnTail h bmB bm) {e a0 : Addr} {oe : Obj} {vs : Array Value} {rest : List Value} {Q : Value → Shared → Prop}
    (hC : h.get? C = some (excClassObj nm q C N bs bm hdct sn sub ab col dd k0 k1 k2 k3 k5 newId)) (he : h.get? e = some oe) (hcls : oe.cls = .ref C) (hd : oe.data = .fields vs) (hz : 0 < vs.size) (h0 : vs[0]? = some (.ref a0))
    (hq : ∀ h', h' = (h.push { cls := .type "tuple", data := .seq rest.toArray }).update e (Obj.mapFields (·.setIfInBounds 0 (.ref h.objs.size))) → Q .none ⟨h', g, d, t, os⟩) (hrest : rest.length ≤ sizeLine) :
    wpAny (model prog w) A (call (.builtin initId) (.ref e :: rest)) Q E ⟨h, g, d, t, os⟩ := by
  refine wpAny_call (codeAny_call_builtin F.init.plain F.initEntry (wpAny_check_init_subT F T hC he hcls ?_))
  obtain ⟨oc, od, da, sl⟩ := oe
  dsimp only at hcls hd
  subst hcls hd
  unfold Builtin.«BaseException.__init__»
  repeat (first | with_reducible refine wpAny_loadPart_at he ?_ | wp_step)
  rw [h0]
  refine wpAny_pure ?_
  refine wpAny_bind (wpAny_setField (Heap.get?_push_of_some _ he) rfl hz (wpAny_letGo ?_))
  exact wpAny_pure (hq _ rfl)
end
section
variable {M : Model} {A : Around} {E : Value → Shared → Prop} {env : Env}
variable {nm q : Str} {C N : Addr} {bs bm : List Value} {hdct : Bool} {sn : List Str} {sub : List Value} {ab : Bool} {col : Option Bool} {dd : Option Addr} {k0 k1 k2 k3 k5 : Option Value} {newId : String}
theorem raise_made {s : Shared} {x : Sem Value} {Q : Flow → Shared → Prop} (hbase : bm.contains (.type "BaseException") = true) (hh : A.handled = none)
    (h : wpAny M A x (fun v s₁ => ∃ e oe vs, v = .ref e ∧ s₁.heap.get? C = some (excClassObj nm q C N bs bm hdct sn sub ab col dd k0 k1 k2 k3 k5 newId) ∧
      s₁.heap.get? e = some oe ∧ oe.cls = .ref C ∧ oe.data = .fields vs ∧ vs[1]? = some .none ∧ E (.ref e) s₁) E s) :
    wpAny M A (raiseStmt env (some x) none) Q E s := by
  have hcB : (Value.ref C :: bm).contains (.type "BaseException") = true := by rw [List.contains_cons, hbase, Bool.or_true]
  unfold raiseStmt
  refine wpAny_bind (wpAny_mono h (fun v s₁ h₁ => ?_) fun _ _ x => x)
  obtain ⟨e, oe, vs, rfl, hC, he, hcls, hd, h1, hE⟩ := h₁
  obtain ⟨hp, g, d, tk, os⟩ := s₁
  have hnd : ∀ cd, oe.data ≠ .cls cd := fun cd z => by rw [hd] at z; cases z
  obtain ⟨oc, od, da, sl⟩ := oe
  dsimp only at hcls hd
  subst hcls hd
  repeat (first | with_reducible refine wpAny_loadPart_at he ?_ | with_reducible refine wpAny_loadPart_at hC ?_ | (with_reducible refine wpAny_isSubtype_exc hC ?_; rw [hcB]) | wp_step)
  rw [h1]
  refine wpAny_pure ?_
  rw [if_neg (by decide)]
  exact wpAny_pure (wpAny_raiseNew_none hh hE)
end
end L4
namespace L4
open PySem PySem.Spec PyProof.Rows L2 L3 PySem.W
abbrev xcx (X : Cx) (Ex : St → XK) : Cx := X.wish (XS X Ex)
section
variable {X : Cx} {Ex : St → XK} {st : List Stmt} {t : TS}
theorem Own1.unwish {E : Value → Shared → Prop} {pins : List (Addr × Obj)} {H : Hp} {b : Addr} (o : Own1 (X.wish E) pins H b) : Own1 X pins H b := ⟨o.no, o.ab, o.lo, o.ce, o.pi⟩
theorem paX_self : PaX (xcx X Ex) Ex := fun _ _ ⟨pins, σ, H, x, C, dx, T, fl, a, I, b, c, o, oT, q⟩ =>
  ⟨pins, σ, H, x, C, dx, T, fl, a, I.unwish, b, c, o.unwish, fun t ht => (oT t ht).unwish, q⟩
theorem PSs.x (h : PSs (xcx X Ex) st t) (hx : PaX X Ex) : PSs X st t := fun pins s σ H D I hw => wpAny_mono (h pins s σ H D (I.wish _) hw) (fun _ _ q => q.unwish) hx
theorem But.mono {x : Addr} {T : Option Addr} {fs fs' : List Addr} {h h' : Heap} (b : But x T fs h h') (m : ∀ a ∈ fs, a ∈ fs') : But x T fs' h h' := ⟨fun c o q n k f => b.keep c o q n k fun z => f (m c z), b.slot, b.there⟩
end
section
variable {P : Program} {w : World} {K : Frag} {mg : Str → Option Value} {base : Heap} {x qual : Str} {st : Stmt} {N ps : List Str} {k : Nat} {sp : Sp} {C : Addr}
theorem _root_.L3.Dat.okR (D : Dat K mg x qual st ps) (S : FnScope N ps (defScope st)) (len : ∀ vs H Q E, sp vs H Q E → vs.length = ps.length)
    (hbody : ∀ (f : Addr) (cdv : Value) (A : Around) (outer : List Env) (s : Shared) (H : Hp) (vs : List V) (Q : VK) (E : XK), Room k (A.deeper (envOfC qual (defScope st) s.heap.objs.size f cdv)) → sp vs H Q E →
      ∃ t, PSs (xcx (cxOf (CX1 P w) P w K mg base N qual (defScope st) f cdv A outer s H E) (fun _ => E)) (defBody st) t ∧ t { nx := fun _ H' => Q .non H', rt := Q } (start N vs) H) : Cal P w K mg base (CX1 P w) x (k + 1) ps sp :=
  D.okX S len fun f cdv A outer s H vs Q E hr h => by
    obtain ⟨t, ht, q⟩ := hbody f cdv A outer s H vs Q E hr h
    exact ⟨t, L4.PSs.x ht xs_leave, q⟩
theorem _root_.L3.CDat.okR (D : CDat K mg x qual C st ps) (S : FnScope N ps (defScope st)) (len : ∀ vs H Q E, sp vs H Q E → vs.length = ps.length)
    (hbody : ∀ (f : Addr) (cdv : Value) (A : Around) (outer : List Env) (s : Shared) (H : Hp) (vs : List V) (Q : VK) (E : XK), Room k (A.deeper (envOfC qual (defScope st) s.heap.objs.size f cdv)) → sp vs H Q E →
      ∃ t, PSs (xcx (cxOf (CX1 P w) P w K mg base N qual (defScope st) f cdv A outer s H E) (fun _ => E)) (defBody st) t ∧ t { nx := fun _ H' => Q .non H', rt := Q } (start N vs) H) : Mak P w K mg base (CX1 P w) x C (k + 1) ps sp := by
  obtain ⟨f, fd, F, b, m, M, _⟩ := D.ex
  obtain ⟨oc, od, kV, doc, pm, an, cdv, ct, osl, rfl, lk, hcd⟩ := F.ex
  refine ⟨f, _, M, fn_of lk hcd S len fun A outer s H vs Q E hr hsp => ?_, b, m⟩
  obtain ⟨t, ht, q⟩ := hbody f cdv A outer s H vs Q E hr hsp
  exact ⟨t, L4.PSs.x ht xs_leave, q⟩
end
def vErr : List Value := [.type "ValueError", .type "Exception", .type "BaseException", .type "object"]
def exc1In (K : Frag) (C : Addr) (bmB : List Value) (newId : String) : Bool := match K.lookup C with
  | some ⟨.type "type", _, .cls cd, sl⟩ => (match cd.mro, sl.toList with
    | .ref c :: bm, [_, _, _, _, some (.builtin n), _] => c == C && n == newId && !cd.hasDel && tailIn K bmB bm
    | _, _ => false)
  | _ => false
theorem exc1_of {K : Frag} {h : Heap} {C : Addr} {bmB : List Value} {newId : String} (X : K.In h) (z : exc1In K C bmB newId = true) : ∃ nm q N bs bm hdct sn sub ab col dd k0 k1 k2 k3 k5,
    h.get? C = some (excClassObj nm q C N bs bm hdct sn sub ab col dd k0 k1 k2 k3 k5 newId) ∧ OwnTail h bmB bm := by
  unfold exc1In at z
  split at z
  · rename_i dd cd sl ho
    split at z
    · rename_i c bm k0 k1 k2 k3 n k5 hm hs
      simp only [Bool.and_eq_true, beq_iff_eq, Bool.not_eq_true'] at z
      obtain ⟨⟨⟨rfl, rfl⟩, hdel⟩, ht⟩ := z
      obtain ⟨nm, bs, mro, ns, qn, hd, sn, sub, ab, col, del⟩ := cd
      dsimp only at hm hdel
      subst hm hdel
      obtain ⟨l⟩ := sl
      simp only at hs
      subst hs
      exact ⟨nm, qn, ns, bs, bm, hd, sn, sub, ab, col, dd, k0, k1, k2, k3, k5, X _ _ ho, tail_of_in X ht⟩
    · cases z
  · cases z
structure ECls (K : Frag) (mg : Str → Option Value) (x : Str) (C : Addr) : Prop where
  ok : exc1In K C vErr "ValueError.__new__" = true
  init : findIn K (.ref C) "__init__" = some (some (.builtin "ValueError.__init__"))
  kp : keepIn K (.ref C) = true
  mg : mg x = some (.ref C)
def tRaise (C : Addr) (Ex : St → XK) (tl : TA) : TS := fun _ σ H => tl σ H fun vs H1 => vs.length ≤ 1000 ∧ Ex σ (.ref C) none H1
theorem ps_raise {X : Cx} {Ex : St → XK} {x : Str} {C : Addr} {e : Expr} {es : List Expr} {t : TA} {np cpos pos : Pos} (O : ECls X.K X.mg x C) (hc : X.calm = true) (hx : PaX X Ex) (ha : PA X (e :: es) t) (hg : Gl X x := by rfl)
    (hdb : (x == ("__debug__" : Str)) = false := by decide) (he : starEach (e :: es) X.env = (false, eval e X.env) :: starEach es X.env := by rfl) (hpl : (backTo cpos (starEach es X.env)).any (·.1) = false := by rfl) :
    PS X (.Raise (some (.Call (.Name x np) (e :: es) [] cpos)) none pos) (tRaise C Ex t) := by
  intro pins s σ H D I h
  obtain ⟨nm, q, N, bs, bm, hdct, sn, sub, ab, col, dd, k0, k1, k2, k3, k5, hC, T⟩ := exc1_of I.ok.mod.kin O.ok
  rw [arm_exec_Raise]
  refine wpAny_bind (wpAny_standAt (raise_made (C := C) (nm := nm) (q := q) (N := N) (bs := bs) (bm := bm) (hdct := hdct) (sn := sn) (sub := sub) (ab := ab) (col := col) (dd := dd) (k0 := k0) (k1 := k1) (k2 := k2) (k3 := k3) (k5 := k5) (newId := "ValueError.__new__") (T.hasType (by decide +kernel)) (I.ok.hd hc) (wpAny_bind ?_)))
  refine wpAny_Call_Name_kw (ld_glob I hg O.mg ?_ hdb)
  refine callWith_K (h₀ := X.base) I.ok.mod.kin O.kp (thn (ha cpos pins s σ H _ I h) fun us s1 ⟨vs, H1, I1, r, hz, qx⟩ => ⟨I1.kIn, ?_⟩) he hpl
  have hl : us.length ≤ sizeLine := by rw [← r.length]; exact Nat.le_of_lt (small1000 hz)
  have T1 := T.keeps I1.bk
  have hC1 := I1.bk _ _ hC
  obtain ⟨hp, g, d, tk, os⟩ := s1
  show wpAny (model X.prog X.w) X.A (call (.ref C) us) _ _ _
  refine exc_call PySem.F.excBase_ValueError T1 hC1 (looks_findIn I1.kIn O.init) (fun self => Looks.of_pure (PySem.F.excBase_ValueError.init.bind self)) ?_ hl
  refine exc_init PySem.F.excBase_ValueError (T1.keeps exc2_keeps) (exc2_keeps _ _ hC1) exc2_get rfl rfl (Nat.zero_lt_succ _) rfl (fun h3 e3 => ⟨rfl, ?_⟩) hl
  have kp : ∀ b o, hp.get? b = some o → h3.get? b = some o := fun b o z => by
    rw [e3, Heap.get?_update_other _ _ (Nat.ne_of_gt (Nat.lt_succ_of_lt (Heap.lt_size z)))]
    exact Heap.get?_push_of_some _ (exc2_keeps _ _ z)
  have hz3 : (exc2 hp C us).objs.size = hp.objs.size + 2 := by rw [Heap.size_push, Heap.size_push]
  have g3 := Heap.get?_update_self (Obj.mapFields (·.setIfInBounds 0 (.ref (exc2 hp C us).objs.size))) (Heap.get?_push_of_some { cls := .type "tuple", data := .seq us.toArray } (exc2_get (h := hp) (C := C) (rest := us))) rfl
  rw [← e3] at g3
  have I3 : Inv X pins σ H1 ⟨h3, g, d, tk, os⟩ := I1.kept (t' := tk) kp
  refine wpAny_bind (wpAny_standAt (wpAny_pure ⟨_, _, _, rfl, kp _ _ hC1, g3, rfl, rfl, rfl, hx _ _ ⟨pins, σ, H1, hp.objs.size + 1, .ref C, none, none, .none, rfl, I3, ⟨_, _, g3, rfl, rfl, rfl, rfl, fun t ht => by cases ht⟩, .inl rfl, own1_of I1 (Nat.le_succ _) (I1.hok.fresh (Nat.le_succ _)), (fun t ht => by cases ht), qx⟩⟩))
end L4
namespace L4
open PySem PySem.Spec PyProof.Rows L2 L3 PySem.W
def ExcP (x : Addr) (C : Value) (dx : Option Addr) : Heap → Prop := fun h => ∃ oe vs, h.get? x = some oe ∧ oe.cls = C ∧ oe.dict = dx ∧ oe.data = .fields vs
abbrev ExcO (x : Addr) (C : Value) (dx : Option Addr) : HO := .ext (ExcP x C dx)
section
variable {X : Cx} {pins : List (Addr × Obj)} {σ : St} {H : Hp} {s : Shared}
theorem inv_track {x : Addr} {φ : Heap → Prop} (I : Inv X pins σ H s) (o : Own1 X pins H x) (p : φ s.heap) (th : ∃ ob, s.heap.get? x = some ob) (st : ∀ h1 h2 : Heap, φ h1 → (∀ ob, h1.get? x = some ob → h2.get? x = some ob) → φ h2) : Inv X pins σ (upd H x (.ext φ)) s := by
  have ne : ∀ b u, H b = some u → b ≠ x := fun b u e z => by rw [z, o.no] at e; cases e
  refine ⟨I.ok, I.os, I.bare, ⟨I.base.keep, I.base.slot, fun b ob e n hx => ?_, I.base.there, fun b xs e => ?_, fun b ob u e => ?_, fun b ps e => ?_⟩, I.loc, I.cell, ?_, fun y c e => ?_, fun q hq => ?_, fun b u e => ?_, I.len⟩
  · rw [upd_ne (Nat.ne_of_lt (Nat.lt_of_lt_of_le (Heap.lt_size e) o.ab))]; exact I.base.free b ob e n hx
  · have := I.base.tups b xs e; rw [upd_ne (ne _ _ this)]; exact this
  · have := I.base.frzs b ob u e; rw [upd_ne (ne _ _ this)]; exact this
  · obtain ⟨m, h⟩ := I.base.tbls b ps e
    exact ⟨m, by rw [upd_ne (ne _ _ h)]; exact h⟩
  · rw [upd_ne (Ne.symm o.lo)]; exact I.free
  · rw [upd_ne (o.ce y c e)]; exact I.freeC y c e
  · obtain ⟨a, b, r⟩ := I.pin q hq
    exact ⟨a, by rw [upd_ne (o.pi q hq)]; exact b, r⟩
  · by_cases z : b = x
    · subst z; rw [upd_same] at e; cases e; exact ⟨p, th, st⟩
    · rw [upd_ne z] at e
      exact (I.hok b u e).stay (fun _ _ _ q => q) (fun c q => by rw [upd_ne (ne _ _ q)]; exact q) fun c xs q => by rw [upd_ne (ne _ _ q)]; exact q
theorem ExcP.stay {x : Addr} {C : Value} {dx : Option Addr} : ∀ h1 h2 : Heap, ExcP x C dx h1 → (∀ ob, h1.get? x = some ob → h2.get? x = some ob) → ExcP x C dx h2 := fun _ _ ⟨oe, vs, a, b⟩ k => ⟨oe, vs, k _ a, b⟩
theorem ExcAt.p {h : Heap} {x : Addr} {C : Value} {dx T : Option Addr} {fl : Value} (e : ExcAt h x C dx T fl) : ExcP x C dx h := let ⟨oe, vs, a, b, c, d, _⟩ := e; ⟨oe, vs, a, b, c, d⟩
theorem del_inv {i : Nat} {n : Str} {m : Str → Option Value} {v : Option Value} {h' : Heap} (I : Inv X pins σ H s) (hN : X.N.Nodup) (hi : X.N[i]? = some n)
    (hl : ∀ (i : Nat) (x : Str) (v : V), X.N[i]? = some x → σ[i]? = some (some v) → Vis X.env.scope x → ∃ u, RelV v u ∧ Look X.env s.heap m x u) (hs : s.heap.Ns X.env.locals m)
    (hn : h'.Ns X.env.locals (fun x => if x = n then v else m x)) (sb : Heap.SameBut X.env.locals s.heap h') (t' : Nat) : Inv X pins (σ.set i none) H { s with heap := h', toks := t' } := by
  have neL : ∀ b o, X.s₀.heap.get? b = some o → b ≠ X.env.locals := fun b o e => Nat.ne_of_lt (Nat.lt_of_lt_of_le (Heap.lt_size e) I.ok.above)
  have iσ : i < σ.length := by rw [I.len]; exact (List.getElem?_eq_some_iff.mp hi).1
  refine ⟨I.ok, I.os, I.bare, ⟨fun b o e q hb hx => (sb.2 b (neL b o e)).trans (I.base.keep b o e q hb hx), fun b o e q hb hx => ?_, I.base.free, fun b o e hx => ?_, I.base.tups, I.base.frzs, I.base.tbls⟩, ⟨_, hn, fun j y v' e1 e2 e3 => ?_⟩, fun y c e => ?_, I.free, I.freeC, fun p hp => ?_, fun b u e => ?_, by rw [List.length_set]; exact I.len⟩
  · obtain ⟨sl, z⟩ := I.base.slot b o e q hb hx
    exact ⟨sl, (sb.2 b (neL b o e)).trans z⟩
  · obtain ⟨o', z⟩ := I.base.there b o e hx
    exact ⟨o', (sb.2 b (neL b o e)).trans z⟩
  · by_cases hj : j = i
    · subst hj
      rw [List.getElem?_set_self iσ] at e2
      cases e2
    · rw [List.getElem?_set_ne (Ne.symm hj)] at e2
      have hy : y ≠ n := fun z => by
        subst z
        exact hj ((List.getElem?_inj (List.getElem?_eq_some_iff.mp e1).1 hN).mp (e1.trans hi.symm))
      obtain ⟨u, r, q⟩ := hl j y v' e1 e2 e3
      refine ⟨u, r, ?_⟩
      rcases q with ⟨k, e⟩ | ⟨k, c, e, ⟨oc, hc, hd⟩⟩
      · exact .inl ⟨k, by show (if y = n then v else m y) = some u; rw [if_neg hy]; exact e⟩
      · exact .inr ⟨k, c, e, oc, (sb.2 c (I.cne y c e)).trans hc, hd⟩
  · obtain ⟨w, oc, hc, hd⟩ := I.cell y c e
    exact ⟨w, oc, (sb.2 c (I.cne y c e)).trans hc, hd⟩
  · obtain ⟨a, b, c, d⟩ := I.pin p hp
    exact ⟨(sb.2 _ c).trans a, b, c, d⟩
  · refine (I.hok b u e).stay (fun c w' hc q => (sb.2 c fun z => ?_).trans q) (fun _ q => q) fun _ _ q => q
    subst z
    rcases hc with rfl | hc
    · rw [I.free] at e; cases e
    · rw [I.free] at hc; cases hc
theorem unbind_ok {M : Model} {A : Around} {E : Value → Shared → Prop} {i : Nat} {n : Str} {pos : Pos} {Q : Unit → Shared → Prop} (I : Inv X pins σ H s) (hN : X.N.Nodup) (hi : X.N[i]? = some n) (hl : X.env.scope.names.lookup n = some .local)
    (h : ∀ s', Inv X pins (σ.set i none) H s' → Q () s') : wpAny M A (do bindName X.env n .none; unbindBehindTheSuite X.env n pos) Q E s := by
  have hcls : (X.env.scope.kind == .class || (X.env.scope.kind == .module && X.env.locals != X.env.globals)) = false := by rw [I.ok.kind]; rfl
  have hk : X.env.kindOf n = some .local := hl
  refine wpAny_bind (wpAny_bindName (store_ok (v := .non) I hN hi (.inl hl) rfl (fun s1 I1 => ?_) (.inr hl)))
  obtain ⟨m, hm, hq⟩ := id I1.loc
  unfold unbindBehindTheSuite
  refine wpAny_onRaise ?_
  unfold unbindName
  refine wpAny_bind (wpAny_point (wpAny_bind ?_))
  unfold deleteName
  simp only [hk, hcls]
  rw [if_neg (by decide)]
  refine wpAny_bind (wpAny_nsDel_keeps hm fun h2 v hn2 sb2 => ?_)
  have hsome : (m n).isSome = true := by
    obtain ⟨u, r, q⟩ := hq i n .non hi (by rw [List.getElem?_set_self (by rw [I.len]; exact (List.getElem?_eq_some_iff.mp hi).1)]) (.inl hl)
    rcases q with ⟨_, e⟩ | ⟨k, _⟩
    · rw [e]; rfl
    · rw [hk] at k; rcases k with k | k <;> cases k
  rw [hsome]
  simp only [Bool.not_true, Bool.false_eq_true, if_false]
  have J := del_inv I1 hN hi hq hm hn2 sb2 s1.toks
  rw [List.set_set] at J
  exact wpAny_pure (wpAny_point (h _ J))
end
end L4
namespace L4
open PySem PySem.Spec PyProof.Rows L2 L3 PySem.W
abbrev Cx.pinned (X : Cx) (pins : List (Addr × Obj)) : Cx := { X with pn := X.pn ++ pins }
abbrev Cx.hand (X : Cx) (x : Addr) : Cx := { X with A := X.A.mark (some (.ref x)), calm := false, xe := fun _ _ => False }
def undo (i : Nat) (D : Ends) : Ends := { nx := fun σ H => D.nx (σ.set i none) H, rt := D.rt, bk := fun σ H => D.bk (σ.set i none) H, ct := fun σ H => D.ct (σ.set i none) H }
section
variable {X : Cx} {pins pins' : List (Addr × Obj)} {σ : St} {H : Hp} {s : Shared}
theorem ok_pin (ok : X.Ok) : (Cx.pinned X pins).Ok := ⟨ok.mod, ok.kind, ok.glob, ok.blt, ok.above, ok.inj, ok.has, ok.cab, ok.hd, ok.frames, ok.stk, ok.exf, ok.bs, ok.bsz, ok.noex, ok.exfs, ok.funs, ok.frf⟩
theorem ok_unpin (ok : (Cx.pinned X pins).Ok) : X.Ok := ⟨ok.mod, ok.kind, ok.glob, ok.blt, ok.above, ok.inj, ok.has, ok.cab, ok.hd, ok.frames, ok.stk, ok.exf, ok.bs, ok.bsz, ok.noex, ok.exfs, ok.funs, ok.frf⟩
theorem inv_pin (I : Inv X pins σ H s) : Inv (Cx.pinned X pins) [] σ H s := ⟨ok_pin I.ok, I.os, I.bare, I.base, I.loc, I.cell, I.free, I.freeC, fun p hp => I.pin p (by simpa using hp), I.hok, I.len⟩
theorem inv_unpin (I : Inv (Cx.pinned X pins) pins' σ H s) : Inv X pins σ H s := ⟨ok_unpin I.ok, I.os, I.bare, I.base, I.loc, I.cell, I.free, I.freeC, fun p hp => I.pin p (List.mem_append_left _ hp), I.hok, I.len⟩
theorem own_unpin {b : Addr} (o : Own1 (Cx.pinned X pins) pins' H b) : Own1 X pins H b := ⟨o.no, o.ab, o.lo, o.ce, fun p hp => o.pi p (List.mem_append_left _ hp)⟩
theorem inv_hand {x : Addr} (I : Inv X pins σ H s) : Inv (Cx.hand X x) pins σ H s :=
  ⟨⟨I.ok.mod, I.ok.kind, I.ok.glob, I.ok.blt, I.ok.above, I.ok.inj, I.ok.has, I.ok.cab, (fun z => absurd z Bool.false_ne_true), I.ok.frames, I.ok.stk, I.ok.exf, I.ok.bs, I.ok.bsz, I.ok.noex, I.ok.exfs, I.ok.funs, I.ok.frf⟩, I.os, I.bare, I.base, I.loc, I.cell, I.free, I.freeC, I.pin, I.hok, I.len⟩
theorem inv_unhand {x : Addr} (ok : X.Ok) (I : Inv (Cx.hand X x) pins σ H s) : Inv X pins σ H s := ⟨ok, I.os, I.bare, I.base, I.loc, I.cell, I.free, I.freeC, I.pin, I.hok, I.len⟩
theorem sp_unpin {E : Value → Shared → Prop} {D : Ends} {f : Flow} {s' : Shared} (h : SP ((Cx.pinned X pins).wish E) pins' D f s') : SP X pins D f s' := by
  have h := h.unwish
  cases f with
  | next => obtain ⟨σ', H', I, q⟩ := h; exact ⟨σ', H', inv_unpin I, q⟩
  | brk => obtain ⟨σ', H', I, q⟩ := h; exact ⟨σ', H', inv_unpin I, q⟩
  | cont => obtain ⟨σ', H', I, q⟩ := h; exact ⟨σ', H', inv_unpin I, q⟩
  | ret u => obtain ⟨v, σ', H', I, r, q⟩ := h; exact ⟨v, σ', H', inv_unpin I, r, q⟩
theorem at_handler {M : Model} {E : Value → Shared → Prop} {Q : Shared → Prop} {x : Addr} {C fl : Value} {dx T : Option Addr} (hs : X.stack = X.env :: X.outer) (hf : X.env.frame = some X.env.locals) (I : Inv X pins σ H s) (ex : ExcAt s.heap x C dx T fl) (hfl : fl = .none ∨ fl = rawInt X.env.locals) (ox : Own1 X pins H x) (oT : ∀ t, T = some t → Own1 X pins H t)
    (h : ∀ s' t, Inv X pins σ H s' → ExcAt s'.heap x C dx (some t) .none → Own1 X pins H t → Q s') :
    wpAny M X.A (noteFrame (.ref x) X.env) (fun _ s2 => wpAny M X.A (setFlight (.ref x) none) (fun _ s3 => Q s3) E s2) E s := by
  have hfr := I.ok.frames
  have hst := I.stack
  rw [hs] at hfr hst
  refine note_frame (base := X.base) hfr hst hf ex hfl fun h1 t1 a b c => ?_
  have ot : Own1 X pins H t1 := by
    rcases c with c | c
    · exact oT t1 c.symm
    · exact own1_of I c (I.hok.fresh c)
  have J := inv_but I ox oT (by rw [hs]; exact b)
  exact set_flight (fr := none) a fun h2 a2 b2 => h _ t1 (inv_but J ox (fun t ht => by cases ht; exact ot) (b2.mono fun _ z => absurd z (by simp))) a2 ot
end
def tTryAs (K : Frag) (CH : Value) (i : Nat) (tb : (St → XK) → TS) (th : TS) (Ex : St → XK) : TS := fun D σ H =>
  tb (fun σ' C dx H' => ∃ b, exmOne K C CH = some b ∧ if b = true then ∀ x, H' x = none → th (undo i D) (σ'.set i (some (.ref x))) (upd H' x (ExcO x C dx)) else Ex σ' C dx H') D σ H
def tTry (K : Frag) (CH : Value) (tb : (St → XK) → TS) (th : TS) (Ex : St → XK) : TS := fun D σ H =>
  tb (fun σ' C dx H' => ∃ b, exmOne K C CH = some b ∧ if b = true then th D σ' H' else Ex σ' C dx H') D σ H
section
variable {X : Cx} {Ex : St → XK} {body suite : List Stmt} {b₀ : Stmt} {cx n : Str} {np hpos pos : Pos} {CH : Addr} {i : Nat} {tb : (St → XK) → TS} {th : TS}
theorem looks_cls {M : Model} {h : Heap} {x : Addr} {C : Value} {dx T : Option Addr} {fl : Value} (ex : ExcAt h x C dx T fl) : Looks M h (typeOf (.ref x)) C := by
  obtain ⟨oe, vs, e1, e2, _⟩ := ex
  rw [← e2]
  exact (Looks.ld e1).andThen .now
theorem pass_on {pins : List (Addr × Obj)} {σ : St} {H : Hp} {s : Shared} {x t : Addr} {C fl : Value} {dx : Option Addr} {Q : Flow → Shared → Prop} (hf : X.env.frame = some X.env.locals) (hx : PaX X Ex) (I : Inv X pins σ H s) (ex : ExcAt s.heap x C dx (some t) fl) (ox : Own1 X pins H x) (ot : Own1 X pins H t) (q : Ex σ C dx H) :
    wpAny (model X.prog X.w) X.A (handleBy (.ref x) X.env []) Q X.xe s := by
  refine wpAny_handleBy_nil ?_
  unfold PySem.passOn
  obtain ⟨oe, vs, e1, e2, e3, e4, e5, e6⟩ := id ex
  refine wpAny_bind (wpAny_field e1 e4 e5 ?_)
  rw [if_neg (by simp)]
  refine wpAny_bind (set_flight (fr := X.env.frame) ex fun h2 a2 b2 => wpAny_throw (hx _ _ ?_))
  exact ⟨pins, σ, H, x, C, dx, some t, _, rfl, inv_but I ox (fun t ht => by cases ht; exact ot) (b2.mono fun _ z => absurd z (by simp)), a2, .inr (by rw [hf]; rfl), ox, fun t ht => by cases ht; exact ot, q⟩
theorem ps_tryAs (hs : X.stack = X.env :: X.outer) (hf : X.env.frame = some X.env.locals) (hm : X.mg cx = some (.ref CH)) (hN : X.N.Nodup) (hi : X.N[i]? = some n) (hl : X.env.scope.names.lookup n = some .local) (hx : PaX X Ex)
    (hb : ∀ pins Exb, PSs (xcx (Cx.pinned X pins) Exb) body (tb Exb)) (hh : ∀ x, PSs (Cx.hand X x) (b₀ :: suite) th) (hg : Gl X cx := by rfl) (hdb : (cx == ("__debug__" : Str)) = false := by decide) :
    PS X (.Try body [.ExceptHandler (some (.Name cx np)) (some n) (b₀ :: suite) hpos] [] [] pos) (tTryAs X.K (.ref CH) i tb th Ex) := by
  intro pins s σ H D I h
  refine wpAny_Try_except (wpAny_mono (hb pins _ [] s σ H D ((inv_pin I).wish _) h) (fun f s1 q => ?_) (fun e s1 q => ?_))
  · have q := sp_unpin q
    cases f with
    | next => obtain ⟨σ', H', I', q⟩ := q; exact pss_nil pins s1 σ' H' D I' q
    | _ => exact q
  · obtain ⟨pins', σ', H', x, C, dx, T, fl, rfl, I', ex, hfl, ox, oT, b, hm2, q⟩ := q
    refine at_handler hs hf (inv_unpin I') ex hfl (own_unpin ox) (fun t ht => own_unpin (oT t ht)) fun s2 t I2 ex2 ot => ?_
    have ox := own_unpin ox
    refine wpAny_handleBy_cons (codeAny_handlers_test ?_) (by intro z; cases z)
    refine ld_glob (X := Cx.hand X x) (inv_hand I2) hg hm ?_ hdb
    refine (exm_one I2.kIn (looks_cls ex2) hm2).here ?_
    cases b with
    | false => exact pass_on hf hx I2 ex2 ox ot q
    | true =>
      refine codeAny_handlers_suite_as ?_
      refine set_flight (fr := none) ex2 fun h3 a3 b3 => ?_
      have I3 := inv_but I2 ox (fun t ht => by cases ht; exact ot) (b3.mono fun _ z => absurd z (by simp))
      have I4 := inv_track I3 ox a3.p a3.there ExcP.stay
      refine store_ok (X := X) (v := .ref x) I4 hN hi (.inl hl) rfl (fun s5 I5 => ?_) (.inr hl)
      refine wpAny_mono (hh x pins s5 _ _ (undo i D) (inv_hand I5) (q x ox.no)) (fun f s6 r => ?_) fun _ _ z => False.elim z
      cases f with
      | next =>
        obtain ⟨σ6, H6, I6, q6⟩ := r
        exact unbind_ok (inv_unhand I.ok I6) hN hi hl fun s7 I7 => ⟨_, H6, I7, q6⟩
      | brk =>
        obtain ⟨σ6, H6, I6, q6⟩ := r
        exact unbind_ok (inv_unhand I.ok I6) hN hi hl fun s7 I7 => ⟨_, H6, I7, q6⟩
      | cont =>
        obtain ⟨σ6, H6, I6, q6⟩ := r
        exact unbind_ok (inv_unhand I.ok I6) hN hi hl fun s7 I7 => ⟨_, H6, I7, q6⟩
      | ret u =>
        obtain ⟨v, σ6, H6, I6, r6, q6⟩ := r
        exact unbind_ok (inv_unhand I.ok I6) hN hi hl fun s7 I7 => ⟨v, _, H6, I7, r6, q6⟩
end
end L4
namespace L4
open PySem PySem.Spec PyProof.Rows L2 L3 PySem.W
structure EGet (K : Frag) (C : Addr) : Prop where
  ga : findIn K (.ref C) "__getattribute__" = some (some (.builtin "BaseException.__getattribute__"))
  gh : findIn K (.ref C) "__getattr__" = some none
  bs : mroIn K C (.type "BaseException") = some true
  ob : mroIn K C (.type "object") = some true
  ca : findIn K (.ref C) "__class__" = some (some (.builtin "object.__class__"))
  cg : specialIn K (.builtin "object.__class__") "__get__" = some (some (.builtin "getset_descriptor.__get__"))
  ct : takesIn K (.builtin "object.__class__") = some true
  cd : (clsIn K C).isSome = true
section
variable {prog : Program} {w : World} {A : Around} {E : Value → Shared → Prop} {s : Shared} {K : Frag} {x C : Addr} {ox : Obj} {od : Option Obj} {name : Str}
theorem exc_ga_cls {R : Result → Shared → Prop} {tk : Tok} (X : K.In s.heap) (I : InstAt s.heap x ox C od) (G : EGet K C) (hq : R (.ok (.ret (.ref C))) s) :
    codeAny (model prog w) A (.call (.builtin "BaseException.__getattribute__") ⟨[.ref x, .str "__class__" tk], []⟩) R s := by
  have hk : builtinKind "BaseException.__getattribute__" = some .slot := by decide +kernel
  have hsplit : splitId "BaseException.__getattribute__" = some ("BaseException", "__getattribute__") := by decide +kernel
  have hf : findObj K C od "__class__" = some (.bind (.builtin "getset_descriptor.__get__") (.builtin "object.__class__")) := by
    obtain ⟨cd, hcd⟩ := Option.isSome_iff_exists.mp G.cd
    unfold findObj
    rw [hcd, Option.bind_some, G.ca, Option.bind_some]
    dsimp only
    rw [G.cg, Option.bind_some]
    dsimp only
    rw [G.ct, Option.bind_some]
  have cls := fun (A : Around) (R : Result → Shared → Prop) (h : R (.ok (.ret (.ref C))) s) => class_get (prog := prog) (w := w) (A := A) (R := R) (tp := .ref C) X I G.ob h
  obtain ⟨h0, g, d, tt, os⟩ := s
  have LT := I.type (M := model prog w)
  have typ : Looks (model prog w) h0 (isInstance (.ref x) (.type "BaseException")) true := LT.andThen (looks_mroIn X G.bs)
  have LF := looks_find (M := model prog w) X I hf
  refine codeAny_call_builtin PySem.F.attrBase_ValueError.ga.plain PySem.F.entry_bexc_ga ?_
  have ha := PySem.F.args_bexc_ga (.ref x) (.str "__class__" tk)
  simp only [checkBuiltinCall, hk, hsplit]
  refine wpAny_bind (typ.here ?_)
  simp only [Bool.not_true, Bool.false_eq_true, if_false]
  unfold argsOk at ha
  refine wpAny_of_eq ha ?_
  unfold Builtin.«object.__getattribute__»
  repeat (any_goals (first | assumption | with_reducible refine wpAny_call ?_ | lk | wp_step))
  refine cls _ _ ?_
  exact wpAny_pure hq
theorem exc_by {tk : Tok} {fill expr : Bool} {v : Value} {Q : Value → Shared → Prop} (X : K.In s.heap) (I : InstAt s.heap x ox C od) (G : EGet K C) (hv : handedIn v = true)
    (hc : ∀ (A : Around) (R : Result → Shared → Prop), R (.ok (.ret v)) s → codeAny (model prog w) A (.call (.builtin "BaseException.__getattribute__") ⟨[.ref x, .str name tk], []⟩) R s) (hq : Q v s) :
    wpAny (model prog w) A (getAttrBy (.ref x) (.str name tk) fill expr) Q E s := by
  obtain ⟨h0, g, d, tt, os⟩ := s
  have LT := I.type (M := model prog w)
  have L1 := looks_findIn (M := model prog w) X G.ga
  have L2 := looks_findIn (M := model prog w) X G.gh
  have f3 := PySem.F.attrBase_ValueError.ga.bind (.ref x)
  have hx0 : (expr && onTheHeap (Value.builtin "BaseException.__getattribute__")) = false := by cases expr <;> rfl
  have hx2 : (Value.builtin "BaseException.__getattribute__" == Value.builtin "object.__getattribute__") = false := by decide +kernel
  have hx1 : (onTheHeap (Value.ref C) && Value.builtin "BaseException.__getattribute__" == Value.builtin "object.__getattribute__") = false := by rw [hx2]; rfl
  unfold getAttrBy
  repeat (any_goals (first | assumption | with_reducible refine wpAny_call ?_ | with_reducible refine wpAny_attempt ?_ | lk | wp_step))
  exact hc _ _ (handed_on hv hq)
theorem exc_cls {Q : Option Value → Shared → Prop} (X : K.In s.heap) (I : InstAt s.heap x ox C od) (G : EGet K C) (hq : Q (some (.ref C)) { s with toks := s.toks + 1 }) :
    wpAny (model prog w) A (getAttr? (.ref x) "__class__") Q E s := by
  unfold getAttr? getAttrBy?
  have go : ∀ (tk : Tok) (Q : Value → Shared → Prop) (E : Value → Shared → Prop) (t' : Nat), Q (.ref C) { s with toks := t' } → wpAny (model prog w) A (getAttrBy (.ref x) (.str "__class__" tk) false) Q E { s with toks := t' } := fun tk Q E t' h => exc_by (s := { s with toks := t' }) X I G rfl (fun A R h => exc_ga_cls (s := { s with toks := t' }) X I G h) h
  obtain ⟨h0, g, d, tt, os⟩ := s
  repeat (any_goals (first | assumption | with_reducible refine wpAny_attempt ?_ | (refine go _ _ _ _ ?_) | lk | wp_step))
theorem kitx_exc (G : EGet K C) : KitX K (.ref x) (.ref C) (fun h => ∃ ox od, InstAt h x ox C od) where
  ty := fun _ _ _ ⟨_, _, I⟩ => I.type
  it := fun _ _ X _ => by
    obtain ⟨cd, hc⟩ := Option.isSome_iff_exists.mp G.cd
    unfold clsIn at hc
    split at hc
    · rename_i ho
      intro A' Q' E' s' k q
      unfold isType loadHead
      exact wpAny_bind (wpAny_loadPart (k _ _ (X _ _ ho)) (wpAny_pure q))
    · cases hc
  ne := fun h tp dd its n sl X htp => by
    obtain ⟨cd, hc⟩ := Option.isSome_iff_exists.mp G.cd
    refine Bool.eq_false_iff.mpr fun q => ?_
    have e : C = tp := Value.ref.inj (beq_iff_eq.mp q)
    subst e
    unfold clsIn at hc
    split at hc
    · rename_i ho
      have z := (X _ _ ho).symm.trans htp
      cases z
    · cases hc
  ca := fun X ⟨_, _, I⟩ k => exc_cls X I G k
end
end L4
namespace L4
open PySem PySem.Spec PyProof.Rows L2 L3 PySem.W
def ExD (H : Hp) : Option Addr → Prop
  | none => True
  | some d => ∃ fs, H d = some (.xd fs)
structure ExA (K : Frag) (H : Hp) (x C : Addr) (dx : Option Addr) : Prop where
  at_ : H x = some (ExcO x (.ref C) dx)
  g : EGet K C
  d : ExD H dx
section
variable {X : Cx} {pins : List (Addr × Obj)} {σ : St} {H : Hp} {s : Shared} {x C : Addr} {dx : Option Addr}
theorem inst_of (I : Inv X pins σ H s) (e : ExA X.K H x C dx) : ∃ ox od, InstAt s.heap x ox C od ∧ ∀ d, dx = some d → ∃ o, od = some o ∧ s.heap.get? d = some o := by
  obtain ⟨⟨oe, vs, e1, e2, e3, e4⟩, _⟩ := (show ObjOk X.prog X.w H s.heap x (ExcO x (.ref C) dx) from I.hok x _ e.at_)
  have nc : notCls oe = true := by unfold notCls; rw [e4]
  cases dx with
  | none => exact ⟨oe, none, ⟨e1, e2, nc, by rw [e3]; trivial⟩, fun d z => by cases z⟩
  | some d =>
    obtain ⟨fs, hd⟩ := e.d
    obtain ⟨mA, ⟨od, es, ep, h1, h2⟩, _⟩ := (show ObjOk X.prog X.w H s.heap d (.xd fs) from I.hok d _ hd)
    exact ⟨oe, some od, ⟨e1, e2, nc, by rw [e3]; exact h1⟩, fun d' z => by cases z; exact ⟨od, rfl, h1⟩⟩
end
def rIsiX (K : Frag) : RL := fun xs H Q => ∃ x C dx c b, xs = [.ref x, c] ∧ ExA K H x C dx ∧ ((∃ T, c = .ty T ∧ kitOne K (.ref C) (.type T) = some b) ∨ ∃ D, c = .ref D ∧ kitOne K (.ref C) (.ref D) = some b) ∧ Q (.bl b) H
def rIsiXT (K : Frag) : RL := fun xs H Q => ∃ (x C : Addr) (dx : Option Addr) (tp : Addr) (Ds : List Addr) (b : Bool), xs = [.ref x, .ref tp] ∧ ExA K H x C dx ∧ H tp = some (.tup (Ds.map V.ref)) ∧ kitAny K (.ref C) (Ds.map Value.ref) = some b ∧ Q (.bl b) H
def FldX (K : Frag) (f : Str) (x : V) (H : Hp) (Q : VK) : Prop := ∃ a C d fs v, x = .ref a ∧ ExA K H a C (some d) ∧ H d = some (.xd fs) ∧ hasDictIn K C = true ∧ findIn K (.ref C) f = some none ∧ fs.lookup f = some v ∧ Q v H
def tFldX (K : Frag) (ta : TE) (f : Str) : TE := fun σ H Q => ta σ H fun x H1 => FldX K f x H1 Q
section
variable {X : Cx}
theorem call_isiX : CallR X (.builtin "isinstance") (rIsiX X.K) := by
  intro pins s σ H xs us Q I r h
  obtain ⟨x, C, dx, c, b, rfl, e, hc, q⟩ := h
  obtain ⟨u, w', rfl, rx, rc⟩ := vals2 r
  cases (show u = Value.ref x from rx)
  obtain ⟨ox, od, J, _⟩ := inst_of I e
  rcases hc with ⟨T, rfl, k⟩ | ⟨D, rfl, k⟩
  · cases (show w' = Value.type T from rc)
    exact kia_one (kitx_exc e.g) I.kIn ⟨ox, od, J⟩ k (fun z => nomatch z) fun tk => ⟨.bl b, H, I.tok _, rfl, q⟩
  · cases (show w' = Value.ref D from rc)
    exact kia_one (kitx_exc e.g) I.kIn ⟨ox, od, J⟩ k (fun z => nomatch z) fun tk => ⟨.bl b, H, I.tok _, rfl, q⟩
theorem vals_refs : ∀ {Ds : List Addr} {us : List Value}, Vals (Ds.map V.ref) us → us = Ds.map Value.ref
  | [], _, .nil => rfl
  | D :: Ds, _, .cons r t => by rw [List.map_cons, vals_refs t]; cases (show _ = Value.ref D from r); rfl
theorem call_isiXT : CallR X (.builtin "isinstance") (rIsiXT X.K) := by
  intro pins s σ H xs us Q I r h
  obtain ⟨x, C, dx, tp, Ds, b, rfl, e, ht, k, q⟩ := h
  obtain ⟨u, w', rfl, rx, rc⟩ := vals2 r
  cases (show u = Value.ref x from rx)
  cases (show w' = Value.ref tp from rc)
  obtain ⟨ox, od, J, _⟩ := inst_of I e
  obtain ⟨_, its, rv, ⟨⟨oc, od', da, sl⟩, h1, h2, n, h3⟩⟩ := (show ObjOk X.prog X.w H s.heap tp (.tup (Ds.map V.ref)) from I.hok tp _ ht)
  have ei := vals_refs rv
  subst ei
  dsimp only at h2 h3
  subst h2 h3
  exact kia_tup (kitx_exc e.g) I.kIn ⟨ox, od, J⟩ h1 k (fun z => nomatch z) fun tk => ⟨.bl b, H, I.tok _, rfl, q⟩
theorem pe_cl {c : Str} {C : Addr} {p : Pos} (hm : X.mg c = some (.ref C)) (hg : Gl X c := by rfl) (hdb : (c == ("__debug__" : Str)) = false := by decide) : PE X (.Name c p) (tC (.ref C)) := fun pins s σ H Q I h => ld_glob I hg hm ⟨.ref C, H, I, rfl, h⟩ hdb
end
end L4
namespace L4
open PySem PySem.Spec PyProof.Rows L2 L3 PySem.W
theorem paX_no {X : Cx} : PaX X.nox (fun _ _ _ _ => False) := fun _ _ ⟨_, _, _, _, _, _, _, _, _, _, _, _, _, _, q⟩ => q
section
variable {X : Cx} {K : Frag} {e : Expr} {te : TE} {c : Str} {T : String} {D : Addr} {p p' pos : Pos}
theorem pe_isiXc (hK : X.K = K) (hm : X.mg "isinstance" = none) (hc : X.mg c = some (.ref D)) (he : PE X e te) (hg : Gl X "isinstance" := by rfl) (hg' : Gl X c := by rfl) (hd : (c == ("__debug__" : Str)) = false := by decide)
    (hs : starEach [e, .Name c p'] X.env = (false, eval e X.env) :: starEach [.Name c p'] X.env := by rfl) (hs2 : starEach [.Name c p'] X.env = (false, eval (.Name c p') X.env) :: starEach [] X.env := by rfl) (hpl : (backTo pos (starEach [.Name c p'] X.env)).any (·.1) = false := by rfl) :
    PE X (.Call (.Name "isinstance" p) [e, .Name c p'] [] pos) (tCB (rIsiX K) (tCons te (tCons (tC (.ref D)) tNil))) := by
  subst hK
  exact pe_callB call_isiX hg hm bt_isinstance (pa_cons he (pa_cons (pe_cl hc hg' hd) pa_nil hs2) hs) (by decide) (by decide) hs hpl
theorem pe_isiXt {es : List Expr} {ec : Nat} {tpos : Pos} {tl : TA} (hK : X.K = K) (hm : X.mg "isinstance" = none) (he : PE X e te) (ht : PE X (.Tuple es ec tpos) (tTup tl)) (hg : Gl X "isinstance" := by rfl)
    (hs : starEach [e, .Tuple es ec tpos] X.env = (false, eval e X.env) :: starEach [.Tuple es ec tpos] X.env := by rfl) (hs2 : starEach [.Tuple es ec tpos] X.env = (false, eval (.Tuple es ec tpos) X.env) :: starEach [] X.env := by rfl) (hpl : (backTo pos (starEach [.Tuple es ec tpos] X.env)).any (·.1) = false := by rfl) :
    PE X (.Call (.Name "isinstance" p) [e, .Tuple es ec tpos] [] pos) (tCB (rIsiXT K) (tCons te (tCons (tTup tl) tNil))) := by
  subst hK
  exact pe_callB call_isiXT hg hm bt_isinstance (pa_cons he (pa_cons ht pa_nil hs2) hs) (by decide) (by decide) hs hpl
end
section
variable {X : Cx} {K : Frag} {Ex : St → XK} {body suite : List Stmt} {b₀ : Stmt} {cx n : Str} {np hpos pos : Pos} {CH : Addr} {i : Nat} {tb : (St → XK) → TS} {th : TS}
theorem ps_tryAsK (hK : X.K = K) (hs : X.stack = X.env :: X.outer) (hf : X.env.frame = some X.env.locals) (hm : X.mg cx = some (.ref CH)) (hN : X.N.Nodup) (hi : X.N[i]? = some n) (hl : X.env.scope.names.lookup n = some .local) (hx : PaX X Ex)
    (hb : ∀ pins Exb, PSs (xcx (Cx.pinned X pins) Exb) body (tb Exb)) (hh : ∀ x, PSs (Cx.hand X x) (b₀ :: suite) th) (hg : Gl X cx := by rfl) (hdb : (cx == ("__debug__" : Str)) = false := by decide) :
    PS X (.Try body [.ExceptHandler (some (.Name cx np)) (some n) (b₀ :: suite) hpos] [] [] pos) (tTryAs K (.ref CH) i tb th Ex) := by
  subst hK
  exact ps_tryAs hs hf hm hN hi hl hx hb hh hg hdb
end
section
variable {K : Frag} {σ : St} {H : Hp} {Q : VK} {D : Ends} {tl : TA} {ta : TE} {sp : Sp} {Ex : St → XK} {C : Addr}
theorem g_callX (h : tl σ H fun vs H1 => sp vs H1 Q (Ex σ)) : tCallX sp Ex tl σ H Q := h
theorem g_makeX (h : tl σ H fun vs H1 => Made C sp (Ex σ) vs H1 Q) : tMakeX C sp Ex tl σ H Q := h
def Raises (C : Addr) (Ex : XK) (vs : List V) (H : Hp) : Prop := vs.length ≤ 1000 ∧ Ex (.ref C) none H
theorem g_raise (h : tl σ H fun vs H1 => Raises C (Ex σ) vs H1) : tRaise C Ex tl D σ H := h
theorem g_raise1 {E : XK} {v : V} (h : E (.ref C) none H) : Raises C E [v] H := ⟨(by show 1 ≤ 1000; decide), h⟩
theorem g_fldX {f : Str} (h : ta σ H fun x H1 => FldX K f x H1 Q) : tFldX K ta f σ H Q := h
def tHandAs (K : Frag) (CH : Value) (i : Nat) (th : TS) (Ex : St → XK) (D : Ends) : St → XK := fun σ' C dx H' => ∃ b, exmOne K C CH = some b ∧ if b = true then ∀ x, H' x = none → th (undo i D) (σ'.set i (some (.ref x))) (upd H' x (ExcO x C dx)) else Ex σ' C dx H'
def tHand (K : Frag) (CH : Value) (th : TS) (Ex : St → XK) (D : Ends) : St → XK := fun σ' C dx H' => ∃ b, exmOne K C CH = some b ∧ if b = true then th D σ' H' else Ex σ' C dx H'
theorem g_tryAs {CH : Value} {i : Nat} {tb : (St → XK) → TS} {th : TS} (h : tb (tHandAs K CH i th Ex D) D σ H) : tTryAs K CH i tb th Ex D σ H := h
theorem g_try {CH : Value} {tb : (St → XK) → TS} {th : TS} (h : tb (tHand K CH th Ex D) D σ H) : tTry K CH tb th Ex D σ H := h
theorem g_handAs {CH C : Value} {i : Nat} {th : TS} {dx : Option Addr} (e : exmOne K C CH = some true) (h : ∀ x, H x = none → th (undo i D) (σ.set i (some (.ref x))) (upd H x (ExcO x C dx))) : tHandAs K CH i th Ex D σ C dx H := ⟨true, e, by rw [if_pos rfl]; exact h⟩
theorem g_isiXc {x C D : Addr} {dx : Option Addr} {b : Bool} (e : ExA K H x C dx) (k : kitOne K (.ref C) (.ref D) = some b) (h : Q (.bl b) H) : rIsiX K [.ref x, .ref D] H Q := ⟨x, C, dx, _, b, rfl, e, .inr ⟨D, rfl, k⟩, h⟩
theorem g_isiXt {x C tp : Addr} {dx : Option Addr} {Ds : List Addr} {b : Bool} (e : ExA K H x C dx) (ht : H tp = some (.tup (Ds.map V.ref))) (k : kitAny K (.ref C) (Ds.map Value.ref) = some b) (h : Q (.bl b) H) : rIsiXT K [.ref x, .ref tp] H Q := ⟨x, C, dx, tp, Ds, b, rfl, e, ht, k, h⟩
theorem g_undo {i : Nat} (h : D.nx (σ.set i none) H) : (undo i D).nx σ H := h
theorem g_undoR {i : Nat} {v : V} (h : D.rt v H) : (undo i D).rt v H := h
end
end L4
namespace L4
open PySem PySem.Spec PyProof.Rows L2 L3 PySem.W
open Builtin Builtin.ObjectAttr
inductive OverErr : List Value → Prop
  | base : OverErr vErr
  | own {c : Addr} {r : List Value} : OverErr r → OverErr (.ref c :: r)
section
variable {prog : Program} {w : World} {A : Around} {E : Value → Shared → Prop} {s : Shared} {K : Frag} {x C : Addr} {ox : Obj} {od : Option Obj} {name : Str} {v : Value} {cd : ClassData}
end
def ExN (x : Addr) (C : Value) (dx : Option Addr) : Heap → Prop := fun h => ∃ oe a0, h.get? x = some oe ∧ oe.cls = C ∧ oe.dict = dx ∧ oe.data = .fields #[.ref a0, .none, .none, .none, .bool false, .none]
abbrev ExNO (x : Addr) (C : Value) (dx : Option Addr) : HO := .ext (ExN x C dx)
def XdP (d : Addr) (fs : List (Str × V)) : Heap → Prop := fun h => ∃ mA, h.Ns1 d mA ∧ (∀ f, RelO (fs.lookup f) (mA f)) ∧ PySem.Within mA (fs.map (·.1))
abbrev XdO (d : Addr) (fs : List (Str × V)) : HO := .ext (XdP d fs)
def ers (H : Hp) (x : Addr) : Hp := fun b => if b = x then none else H b
theorem ExN.stay {x : Addr} {C : Value} {dx : Option Addr} : ∀ h1 h2 : Heap, ExN x C dx h1 → (∀ ob, h1.get? x = some ob → h2.get? x = some ob) → ExN x C dx h2 := fun _ _ ⟨oe, a, e, b⟩ k => ⟨oe, a, k _ e, b⟩
theorem XdP.stay {d : Addr} {fs : List (Str × V)} : ∀ h1 h2 : Heap, XdP d fs h1 → (∀ ob, h1.get? d = some ob → h2.get? d = some ob) → XdP d fs h2 := fun _ _ ⟨mA, N, r⟩ k => ⟨mA, N.at k, r⟩
section
variable {X : Cx} {pins : List (Addr × Obj)} {σ : St} {H : Hp} {s : Shared} {x C : Addr} {dx : Option Addr}
end
structure EBase (K : Frag) (mg : Str → Option Value) (R : Str) (CR : Addr) : Prop where
  gm : mg R = some (.ref CR)
  sg : specialIn K (.ref CR) "__getattribute__" = some (some (.builtin "type.__getattribute__"))
  rd : readsIn K CR (.type "type") = true
  fc : findCls K (.ref CR) (.type "type") "__init__" = some (.val (.builtin "ValueError.__init__"))
def rBaseI (K : Frag) : RL := fun vs H Q => ∃ (x C : Addr) (dx : Option Addr) (rest : List V), vs = .ref x :: rest ∧ H x = some (ExNO x (.ref C) dx) ∧ exc1In K C vErr "ValueError.__new__" = true ∧ rest.length ≤ 1000 ∧ Q .non H
def tBaseI (K : Frag) (t : TA) : TE := fun σ H Q => t σ H fun vs H1 => rBaseI K vs H1 Q
section
variable {X : Cx}
end
structure EPut (K : Frag) (C : Addr) (f : Str) : Prop where
  g : EGet K C
  sa : findIn K (.ref C) "__setattr__" = some (some (.builtin "object.__setattr__"))
  cd : ∃ cd, clsIn K C = some cd ∧ OverErr cd.mro ∧ cd.hasDict = true
  tk : takerIn K C f = some none
def SetN (K : Frag) (f : Str) (x y : V) (H : Hp) (R : Hp → Prop) : Prop := ∃ a C dx, x = .ref a ∧ H a = some (ExNO a (.ref C) dx) ∧ EPut K C f ∧
  (dx = none → ∀ d, H d = none → R (upd (upd H a (ExNO a (.ref C) (some d))) d (XdO d [(f, y)]))) ∧ ∀ d, dx = some d → ∃ fs, H d = some (XdO d fs) ∧ fs.length < 1000 ∧ R (upd H d (XdO d (putF f y fs)))
def sFldN (K : Frag) (ta tv : TE) (f : Str) : TS := fun D σ H => tv σ H fun y H1 => ta σ H1 fun x H2 => SetN K f x y H2 fun H3 => D.nx σ H3
section
variable {X : Cx} {pins : List (Addr × Obj)} {σ : St} {H : Hp} {s : Shared}
end
structure EOwn (P : Program) (w : World) (K : Frag) (mg : Str → Option Value) (base : Heap) (x : Str) (C : Addr) (k : Nat) (ps : List Str) (sp : Sp) : Prop where
  ok : exc1In K C vErr "ValueError.__new__" = true
  kp : keepIn K (.ref C) = true
  gm : mg x = some (.ref C)
  fn : ∃ f fd, findIn K (.ref C) "__init__" = some (some (.ref f)) ∧ typeIn K (.ref f) = some (.type "function") ∧ FnOk P w K mg base (CX1 P w) k f fd ps sp ∧ Binds K fd ps []
def Rz (C x : Addr) (Ex : XK) (r : V) (H : Hp) : Prop := r = .non ∧ ∃ dx, H x = some (ExNO x (.ref C) dx) ∧ (dx = none → Ex (.ref C) none (ers H x)) ∧ ∀ d, dx = some d → ∃ fs, H d = some (XdO d fs) ∧ d ≠ x ∧ Ex (.ref C) (some d) (upd (ers H x) d (.xd fs))
def tRaiseI (C : Addr) (sp : Sp) (Ex : St → XK) (tl : TA) : TS := fun _ σ H => tl σ H fun vs H1 => vs.length ≤ 1000 ∧ ∀ x, H1 x = none → sp (.ref x :: vs) (upd H1 x (ExNO x (.ref C) none)) (Rz C x (Ex σ)) fun _ _ _ => False
end L4
namespace L4
open PySem PySem.Spec PyProof.Rows L2 L3 PySem.W
structure RoomU (k : Nat) (A : Around) : Prop where
  dp : A.depth + 3 * k + 5 < recursionLimit
  un : A.units + 16 * k + 200 < cLine
theorem roomU {k : Nat} {A : Around} (r : Room k A) : RoomU k A := ⟨r.dp, r.un⟩
theorem RoomU.mono {j k : Nat} {A : Around} (r : RoomU k A) (h : j ≤ k) : RoomU j A := ⟨by have := r.dp; omega, by have := r.un; omega⟩
theorem RoomU.deeper {k : Nat} {A : Around} (r : RoomU (k + 1) A) (env : Env) : RoomU k (A.deeper env) :=
  ⟨by have := r.dp; show A.depth + 1 + 3 * k + 5 < _; omega, by have := r.un; show A.units + 3 + 16 * k + 200 < _; omega⟩
theorem RoomU.mark {k : Nat} {A : Around} (r : RoomU k A) (h : Option Value) : RoomU k (A.mark h) := ⟨r.dp, r.un⟩
structure FnOkU (P : Program) (w : World) (K : Frag) (mg : Str → Option Value) (base : Heap) (CX : CXT) (k : Nat) (f : Addr) (fd : FuncData) (ps : List Str) (sp : Sp) : Prop where
  len : ∀ vs H Q E, sp vs H Q E → vs.length = ps.length
  run : ∀ (A : Around) (outer : List Env) (s : Shared) (H : Hp) (args : Args) (us : List Value) (vs : List V) (Q : VK) (E : XK), RoomU k A → Env0 P w K mg base A outer s H → BindsTo s fd args (ps.zip us) → Vals vs us → sp vs H Q E →
    codeAny (model P w) A (.call (.ref f) args) (CR CX outer P w H s Q E) s
abbrev cxU (CX : CXT) (P : Program) (w : World) (K : Frag) (mg : Str → Option Value) (base : Heap) (N : List Str) (qual : Str) (scope : Scope) (f : Addr) (cd : Value) (A : Around) (outer : List Env) (s : Shared) (H : Hp) (E : XK) : Cx :=
  { cxOf CX P w K mg base N qual scope f cd A outer s H E with calm := false }
section
variable {CX : CXT} {P : Program} {w : World} {K : Frag} {mg : Str → Option Value} {base : Heap} {k : Nat} {f : Addr} {N ps : List Str} {sp : Sp}
theorem FnOkU.fn {fd : FuncData} (F : FnOkU P w K mg base CX k f fd ps sp) : FnOk P w K mg base CX k f fd ps sp := ⟨F.len, fun A outer s H args us vs Q E hr => F.run A outer s H args us vs Q E (roomU hr)⟩
theorem inv_startU {qual : Str} {scope : Scope} {cd : Value} {A : Around} {outer : List Env} {s s1 : Shared} {H : Hp} {E : XK} {us : List Value} {vs : List V} (S : FnScope N ps scope) (e0 : Env0 P w K mg base A outer s H) (hl : vs.length = ps.length) (r : Vals vs us)
    (x : InCallC s s.heap.objs.size (bindL (envOfC qual scope s.heap.objs.size f cd).kindOf (ps.zip us) fun _ => none) (cellsFrom (s.heap.objs.size + 1) scope.names []) (bindC (envOfC qual scope s.heap.objs.size f cd).kindOf (ps.zip us) fun _ => none) s1) :
    Inv (cxU CX P w K mg base N qual scope f cd A outer s H E) [] (start N vs) H s1 := by
  have e1 : Env0 P w K mg base { A with handled := none } outer s H := ⟨e0.frames, e0.mod, e0.bs, e0.bsz, e0.funs, e0.frf, e0.hok, e0.bare⟩
  have I := inv_start (CX := CX) (E := E) S rfl e1 hl r x
  exact ⟨⟨I.ok.mod, I.ok.kind, I.ok.glob, I.ok.blt, I.ok.above, I.ok.inj, I.ok.has, I.ok.cab, (fun z => absurd z Bool.false_ne_true), Around.frames_deeper e0.frames, I.ok.stk, I.ok.exf, I.ok.bs, I.ok.bsz, I.ok.noex, I.ok.exfs, I.ok.funs, I.ok.frf⟩, I.os, I.bare, I.base, I.loc, I.cell, I.free, I.freeC, I.pin, I.hok, I.len⟩
theorem fn_ofU {name qual : Str} {params : Arguments} {body : List Stmt} {scope : Scope} {dV kV doc pm cdv ct oc : Value} {an od : Option Addr} {osl : Array (Option Value)}
    (lk : K.lookup f = some ⟨oc, od, .func (PySem.W.fnOf name qual params body scope dV kV doc pm an cdv ct), osl⟩) (hcd : PySem.W.codeIn K cdv qual = true) (S : FnScope N ps scope)
    (len : ∀ vs H Q E, sp vs H Q E → vs.length = ps.length)
    (hbody : ∀ (A : Around) (outer : List Env) (s : Shared) (H : Hp) (vs : List V) (Q : VK) (E : XK), RoomU k (A.deeper (envOfC qual scope s.heap.objs.size f cdv)) → sp vs H Q E →
      ∃ t, PSs (cxU CX P w K mg base N qual scope f cdv A outer s H E) body t ∧ t { nx := fun _ H' => Q .non H', rt := Q } (start N vs) H) :
    FnOkU P w K mg base CX (k + 1) f (PySem.W.fnOf name qual params body scope dV kV doc pm an cdv ct) ps sp := by
  refine ⟨len, fun A outer s H args us vs Q E hr e0 hb r hsp => ?_⟩
  have hl := len _ _ _ _ hsp
  have KX : K.In s.heap := e0.mod.kin.keeps fun b o e => (e0.bs b o e).1
  have lim : s.heap.NoLimit := e0.mod.nolimit.keeps fun b o e => (e0.bs b o e).1
  have hkind : ∀ y ∈ ps.zip us, scope.names.lookup y.1 = some .local ∨ (scope.names.lookup y.1 = some .cell ∧ ((cellsFrom (s.heap.objs.size + 1) scope.names []).lookup y.1).isSome = true) := fun ⟨n, v⟩ hy => by
    rcases S.par n (List.of_mem_zip hy).1 with q | q
    · exact .inl q
    · exact .inr ⟨q, PySem.W.cellsFrom_some _ _ _ (.inl q)⟩
  refine codeAny_call_function (by have := hr.dp; omega) (KX _ _ lk) rfl S.co S.gen rfl (PySem.W.codeRec_of KX hcd) (hb _ _ _ _ ?_)
  refine wpAny_newFunctionEnv_cells S.kind hkind fun env he s1 x => ?_
  subst he
  refine ⟨lim.keeps x.toInCall.keep, codeAny_func ?_⟩
  obtain ⟨t, ht, hq⟩ := hbody A outer s H vs Q E (hr.deeper _) hsp
  have I : Inv (cxU CX P w K mg base N qual scope f cdv A outer s H E) [] (start N vs) H s1 := inv_startU S e0 hl r x
  refine wpAny_mono (ht [] s1 (start N vs) H _ I hq) (fun fl s' hs => ?_) fun e s' hs => hs
  have fin : ∀ {σ' : St} {H' : Hp} {v : V} {u : Value}, Inv (cxU CX P w K mg base N qual scope f cdv A outer s H E) [] σ' H' s' → RelV v u → Q v H' → CE outer P w H s Q u s' :=
    fun {σ' H' v u} J rv q => ⟨v, H', J.os, J.bare, J.base, J.hok, rv, q⟩
  cases fl with
  | ret u =>
    obtain ⟨v, σ', H', J, rv, q⟩ := hs
    exact fin J rv q
  | next =>
    obtain ⟨σ', H', J, q⟩ := hs
    exact fin (v := V.non) (u := Value.none) J rfl q
  | brk =>
    obtain ⟨_, _, _, q⟩ := hs
    exact False.elim q
  | cont =>
    obtain ⟨_, _, _, q⟩ := hs
    exact False.elim q
end
structure CalU (P : Program) (w : World) (K : Frag) (mg : Str → Option Value) (base : Heap) (CX : CXT) (x : Str) (k : Nat) (ps : List Str) (sp : Sp) : Prop where
  ex : ∃ f fd, FnOkU P w K mg base CX k f fd ps sp ∧ Binds K fd ps [] ∧ PySem.W.keepIn K (.ref f) = true ∧ mg x = some (.ref f)
section
variable {P : Program} {w : World} {K : Frag} {mg : Str → Option Value} {base : Heap} {CX : CXT} {x qual : Str} {st : Stmt} {N ps : List Str} {k : Nat} {sp : Sp}
theorem CalU.cal (c : CalU P w K mg base CX x k ps sp) : Cal P w K mg base CX x k ps sp := let ⟨f, fd, F, r⟩ := c.ex; ⟨f, fd, F.fn, r⟩
theorem _root_.L3.Dat.okU (D : Dat K mg x qual st ps) (S : FnScope N ps (defScope st)) (len : ∀ vs H Q E, sp vs H Q E → vs.length = ps.length)
    (hbody : ∀ (f : Addr) (cdv : Value) (A : Around) (outer : List Env) (s : Shared) (H : Hp) (vs : List V) (Q : VK) (E : XK), RoomU k (A.deeper (envOfC qual (defScope st) s.heap.objs.size f cdv)) → sp vs H Q E →
      ∃ t, PSs (cxU CX P w K mg base N qual (defScope st) f cdv A outer s H E).nox (defBody st) t ∧ t { nx := fun _ H' => Q .non H', rt := Q } (start N vs) H) : CalU P w K mg base CX x (k + 1) ps sp := by
  obtain ⟨f, fd, F, b, m⟩ := D.ex
  have kp := F.kp
  obtain ⟨oc, od, kV, doc, pm, an, cdv, ct, osl, rfl, lk, hcd⟩ := F.ex
  refine ⟨f, _, fn_ofU lk hcd S len fun A outer s H vs Q E hr hsp => ?_, b, kp, m⟩
  obtain ⟨t, h, q⟩ := hbody f cdv A outer s H vs Q E hr hsp
  exact ⟨t, h.nox, q⟩
end
section
variable {X : Cx} {CX : CXT} {k : Nat} {ps : List Str} {sp : Sp} {E : XK} {x : Str} {p pos : Pos} {e : Expr} {es : List Expr} {t : TA}
end
end L4
namespace L4
open PySem PySem.Spec PyProof.Rows L2 L3 PySem.W
theorem some_is {α : Type} {o : Option α} {x : α} (e : o = some x) : o.isSome = true := by rw [e]; rfl
theorem exc1_ofIn {K : Frag} {C : Addr} {bmB : List Value} {newId : String} (q : excIn K C bmB newId = true) : exc1In K C bmB newId = true := by
  unfold excIn at q
  unfold exc1In
  split at q
  · rename_i dd cd sl ho
    split at q
    · rename_i C' bm k0 k1 k2 k3 n k5 hm hs
      simp only [Bool.and_eq_true] at q
      simp only [ho, hm, hs, Bool.and_eq_true]
      exact q.1.1
    · cases q
  · cases q
theorem OverErr.two {C CR : Addr} : OverErr (.ref C :: .ref CR :: vErr) := .own (.own .base)
structure EDat (K : Frag) (mg : Str → Option Value) (x qual : Str) (C : Addr) (st : Stmt) (ps : List Str) : Prop where
  ok : exc1In K C vErr "ValueError.__new__" = true
  kp : keepIn K (.ref C) = true
  gm : mg x = some (.ref C)
  ex : ∃ f fd, Fun K "__init__" qual st f fd ∧ Binds K fd ps [] ∧ findIn K (.ref C) "__init__" = some (some (.ref f)) ∧ typeIn K (.ref f) = some (.type "function")
section
variable {P : Program} {w : World} {K : Frag} {mg : Str → Option Value} {base : Heap} {x qual : Str} {C : Addr} {st : Stmt} {N ps : List Str} {k : Nat} {sp : Sp}
end
section
variable {K : Frag} {σ : St} {H : Hp} {Q : VK} {D : Ends} {tl : TA} {ta tv : TE} {sp : Sp} {Ex : St → XK} {C : Addr}
theorem g_baseI (h : tl σ H fun vs H1 => rBaseI K vs H1 Q) : tBaseI K tl σ H Q := h
theorem g_sfldN {f : Str} (h : tv σ H fun y H1 => ta σ H1 fun x H2 => SetN K f x y H2 fun H3 => D.nx σ H3) : sFldN K ta tv f D σ H := h
def RaisesI (C : Addr) (sp : Sp) (Ex : XK) (vs : List V) (H : Hp) : Prop := vs.length ≤ 1000 ∧ ∀ x, H x = none → sp (.ref x :: vs) (upd H x (ExNO x (.ref C) none)) (Rz C x Ex) fun _ _ _ => False
theorem g_raiseI (h : tl σ H fun vs H1 => RaisesI C sp (Ex σ) vs H1) : tRaiseI C sp Ex tl D σ H := h
end
section
theorem walk_ofX {l : PySem.W.OpenLaw} {n k : Nat} {q : Program} {loose : List Str} {XP : (Str → Option Value) → Heap → Prop} {YP : World → Heap → Prop} {d : DefRec} {K : Params → PySem.W.Frag} {CX : Program → World → CXT} {sp : PySem.W.Frag → Sp} {x : Str}
    (hn : l.most = some n) (hn2 : n ≤ sizeLine) (hdf : d.params.defaults = []) (hr : Room k callerA)
    (hY : ∀ (w : World) (h : Heap), YP w h → (K w.params).In h)
    (F : ∀ (w : World) (mg : Str → Option Value) (fa : Addr) (h : Heap), (K w.params).In h → h.Ns mainGlobals mg → mg d.name = some (.ref fa) →
      ∃ fd : FuncData, (∀ (s : Shared) (u : Value), BindsTo s fd ⟨[u], []⟩ [(x, u)]) ∧
        ∀ base : Heap, (K w.params).In base → base.Ns mainGlobals mg → FnOk l.prog w (K w.params) mg base (CX l.prog w) k fa fd [x] (sp (K w.params)))
    (hsp : ∀ (K : PySem.W.Frag) (H : Hp) (a : Addr) (ns : List Int), ns.length ≤ n → Only H → SqL K H a (ns.map V.int) → sp K [.ref a] H (fun v _ => v = .bl true) fun _ _ _ => False)
    (hCX : ∀ (P : Program) (w : World) (H : Hp) (s : Shared) (e : Value) (s' : Shared), CX P w [] H s (fun _ _ _ => False) e s' → False) :
    PySem.W.WalkO q loose XP YP l.row.toRowW d [] (fun f vs => PySem.call f vs) :=
  walk_of (K := K) (CX := fun w => CX l.prog w) (sp := fun w => sp (K w.params)) hn hn2 hdf hr hY F (fun w H a ns h1 h2 h3 => hsp (K w.params) H a ns h1 h2 h3) fun w H s e s' => hCX l.prog w H s e s'
end
end L4
namespace HT3
open PySem PyProof.Rows HT
section
open PySem.SeqAt
open PySem.AutoSeq1 (wpAny_loadPart')
open PySem.MeetsSeq PySem.MeetsSeq2 PySem.MeetsSeq3
end
section
variable {prog : Program} {w : World} {A : Around} {E : Value → Shared → Prop} {s : Shared}
end
section
open PySem.SeqAt
open PySem.AutoSeq1 (wpAny_loadPart')
open PySem.MeetsSeq PySem.MeetsSeq2 PySem.MeetsSeq3
end
section
variable {prog : Program} {w : World} {A : Around} {E : Value → Shared → Prop} {s : Shared}
end
end HT3
namespace L4
open PySem PySem.Spec PyProof.Rows L2 L3
def rGeT (K : PySem.W.Frag) : R2 := fun x y H Q => ∃ a b ns ms, x = .ref a ∧ y = .ref b ∧ SqT K H a (ns.map V.int) ∧ SqT K H b (ms.map V.int) ∧ Q (.bl (!HT.lexLt ns ms)) H
def rLeT (K : PySem.W.Frag) : R2 := fun x y H Q => ∃ a b ns ms, x = .ref a ∧ y = .ref b ∧ SqT K H a (ns.map V.int) ∧ SqT K H b (ms.map V.int) ∧ Q (.bl (!HT.lexLt ms ns)) H
section
variable {X : Cx}
end
section
variable {K : PySem.W.Frag} {H : Hp} {Q : VK} {a b : Addr} {m k m' k' : Int}
theorem lex2 : HT.lexLt [m, k] [m', k'] = decide (m < m' ∨ (m = m' ∧ k < k')) := by
  rw [HT.lexLt_cons, HT.lexLt_cons, HT.lexLt_nil_nil]
  by_cases z : m = m'
  · rw [if_pos z]
    by_cases y : k = k'
    · rw [if_pos y]; exact (decide_eq_false (by omega)).symm
    · rw [if_neg y]
      by_cases x : k < k'
      · rw [decide_eq_true x]; exact (decide_eq_true (by omega)).symm
      · rw [decide_eq_false x]; exact (decide_eq_false (by omega)).symm
  · rw [if_neg z]
    by_cases x : m < m'
    · rw [decide_eq_true x]; exact (decide_eq_true (by omega)).symm
    · rw [decide_eq_false x]; exact (decide_eq_false (by omega)).symm
theorem g_geT2 (ha : H a = some (.tup [.int m, .int k])) (hb : H b = some (.tup [.int m', .int k'])) (h : Q (.bl (!decide (m < m' ∨ (m = m' ∧ k < k')))) H) : rGeT K (.ref a) (.ref b) H Q :=
  ⟨a, b, [m, k], [m', k'], rfl, rfl, SqT.of ha, SqT.of hb, by rw [lex2]; exact h⟩
theorem g_leT2 (ha : H a = some (.tup [.int m, .int k])) (hb : H b = some (.tup [.int m', .int k'])) (h : Q (.bl (!decide (m' < m ∨ (m' = m ∧ k' < k)))) H) : rLeT K (.ref a) (.ref b) H Q :=
  ⟨a, b, [m, k], [m', k'], rfl, rfl, SqT.of ha, SqT.of hb, by rw [lex2]; exact h⟩
end
end L4
namespace L4
open PySem PySem.Spec PyProof.Rows L2 L3
def Ite (K : PySem.W.Frag) (a : Addr) : It :=
  ⟨fun i H => ∃ xs x, SqL K H a xs ∧ xs[i]? = some x,
   fun i H v H' => ∃ T, H T = none ∧ v = .ref T ∧ ∀ xs x, SqL K H a xs → xs[i]? = some x → H' = upd H T (.tup [.int i, x]),
   fun i H => ∃ xs, SqL K H a xs ∧ xs.length ≤ i⟩
def iEnum (K : PySem.W.Frag) (ta : TA) : TI := fun σ H R => ta σ H fun vs H1 => ∃ a xs, vs = [.ref a] ∧ SqL K H1 a xs ∧ R (Ite K a) H1
def En (K : PySem.W.Frag) (vs : List V) (H : Hp) (R : It → Hp → Prop) : Prop := ∃ a xs, vs = [.ref a] ∧ SqL K H a xs ∧ R (Ite K a) H
theorem g_enum {K : PySem.W.Frag} {tl : TA} {σ : St} {H : Hp} {R : It → Hp → Prop} (h : tl σ H fun vs H1 => En K vs H1 R) : iEnum K tl σ H R := h
end L4
namespace L4
open PySem PySem.Spec PyProof.Rows L2 L3
theorem bl_at {bs : List Bool} {us : List Value} (rv : Vals (bs.map V.bl) us) {i : Nat} {v : Value} (e : us[i]? = some v) : ∃ b, bs[i]? = some b ∧ v = .bool b := by
  have hi : i < bs.length := by
    have h1 := (List.getElem?_eq_some_iff.mp e).1
    have h2 := rv.length
    rw [List.length_map] at h2
    omega
  obtain ⟨u, hu, ru⟩ := rv.get (i := i) (x := V.bl bs[i]) (by rw [List.getElem?_map, List.getElem?_eq_getElem hi]; rfl)
  rw [e] at hu
  cases hu
  cases ru
  exact ⟨_, List.getElem?_eq_getElem hi, rfl⟩
theorem range_allB (bs : List Bool) : ((List.range bs.length).all fun i => (bs[i]?).getD true) = bs.all id := by
  rw [Bool.eq_iff_iff, List.all_eq_true, List.all_eq_true]
  constructor
  · intro h b hb
    obtain ⟨i, hi, e⟩ := List.getElem_of_mem hb
    have := h i (List.mem_range.mpr hi)
    rw [List.getElem?_eq_getElem hi, Option.getD_some, e] at this
    exact this
  · intro h i hi
    have hi' := List.mem_range.mp hi
    rw [List.getElem?_eq_getElem hi', Option.getD_some]
    exact h _ (List.getElem_mem hi')
theorem kept_it {s : Shared} {h' : Heap} {o : Obj} (hk : ∀ b x, b ∉ [s.heap.objs.size] → (s.heap.push o).get? b = some x → h'.get? b = some x) : ∀ b x, s.heap.get? b = some x → h'.get? b = some x :=
  fun b x e => hk b x (fun hm => by rw [List.mem_singleton.mp hm] at e; exact Nat.lt_irrefl _ (Heap.lt_size e)) (Heap.get?_push_of_some _ e)
def rAll (K : PySem.W.Frag) : RL := fun xs H Q => ∃ (p : Addr) (bs : List Bool), xs = [.ref p] ∧ SqL K H p (bs.map V.bl) ∧ Q (.bl (bs.all id)) H
section
variable {X : Cx}
theorem call_all (hc : X.calm = true) : CallR X (.builtin "all") (rAll X.K) := by
  intro pins s σ H xs us Q I r h
  obtain ⟨p, bs, rfl, hq, q⟩ := h
  obtain ⟨u, rfl, rx⟩ := vals1 r
  cases rx
  obtain ⟨its, rv, pl, hz⟩ := I.list hq
  have hl := pl.isList
  have hlt : p < s.heap.objs.size := by obtain ⟨_, e, _⟩ := hl; exact Heap.lt_size e
  have hlen : its.length = bs.length := by rw [← rv.length, List.length_map]
  refine call_all_walk (wpAny_pyIter_list hl ?_)
  refine ⟨s.heap.objs.size, [s.heap.objs.size, p], [s.heap.objs.size], its.toArray.size, _, _, fun i => (bs[i]?).getD true, rfl, Walks.list (A := X.A.in1) (I.ok.hd hc) _ p (Nat.ne_of_lt hlt) its.toArray,
    ⟨⟨_, Heap.get?_push_size _ rfl, rfl, rfl⟩, hl.push _⟩, fun i v s' Q' E' hP hQ => ?_, fun h' tk hk => ?_⟩
  · obtain ⟨b, e, rfl⟩ := bl_at rv (i := i) (v := v) (by simpa using hP)
    simp only [e, Option.getD_some] at hQ
    exact wpAny_truthy_bool hQ
  · have e : ((List.range its.toArray.size).all fun i => (bs[i]?).getD true) = bs.all id := by
      rw [List.size_toArray, hlen]; exact range_allB bs
    rw [e]
    exact ⟨.bl _, H, I.kept (kept_it hk), rfl, q⟩
end
section
variable {K : PySem.W.Frag} {H : Hp} {Q : VK} {p : Addr} {P : Addr → Prop} {H0 : Hp} {l : List (Addr × Ob)} {fs : List Pr} {a b : Addr} {xs ys : List V}
theorem g_allB {bs : List Bool} (s : SqL K H p (bs.map V.bl)) (h : Q (.bl (bs.all id)) H) : rAll K [.ref p] H Q := ⟨p, bs, rfl, s, h⟩
end
end L4
namespace L4
open PySem PySem.Spec PyProof.Rows L2 L3 PySem.W
structure MCal (P : Program) (w : World) (K : Frag) (mg : Str → Option Value) (base : Heap) (CX : CXT) (C : Addr) (m : Str) (k : Nat) (ps : List Str) (sp : Sp) : Prop where
  cl : Cls K C
  ex : ∃ f fd, Meth K C m f ∧ FnOk P w K mg base CX k f fd ps sp ∧ Binds K fd ps []
section
variable {P : Program} {w : World} {K : Frag} {mg : Str → Option Value} {base : Heap} {CX : CXT} {x qual : Str} {C : Addr} {st : Stmt} {N ps : List Str} {k j : Nat} {sp sp' : Sp}
theorem MCal.mono (c : MCal P w K mg base CX C x k ps sp) (h : k ≤ j) : MCal P w K mg base CX C x j ps sp := by
  obtain ⟨f, fd, m, F, r⟩ := c.ex
  exact ⟨c.cl, f, fd, m, F.mono h, r⟩
end
section
variable {X : Cx} {CX : CXT} {k : Nat} {C : Addr} {ps : List Str} {sp : Sp} {E : XK} {Ex : St → XK} {m : Str} {pos apos : Pos} {e o : Expr} {es : List Expr} {ta : TE} {t : TA}
def tMethX (C : Addr) (m : Str) (sp : Sp) (Ex : St → XK) (ta : TE) (t : TA) : TE := fun σ H Q => ta σ H fun x H1 => ∃ a dx fs, x = .ref a ∧ H1 a = some (.ins C dx fs) ∧ fs.lookup m = none ∧ t σ H1 fun vs H2 => sp (x :: vs) H2 Q (Ex σ)
def Mth (C : Addr) (m : Str) (sp : Sp) (E : XK) (t : TA) (σ : St) (x : V) (H : Hp) (Q : VK) : Prop := ∃ a dx fs, x = .ref a ∧ H a = some (.ins C dx fs) ∧ fs.lookup m = none ∧ t σ H fun vs H2 => sp (x :: vs) H2 Q E
theorem g_meth {σ : St} {H : Hp} {Q : VK} (h : ta σ H fun x H1 => Mth C m sp E t σ x H1 Q) : tMeth C m sp [] E ta t σ H Q := by
  have e : (fun x H1 => Mth C m sp E t σ x H1 Q) = fun x H1 => ∃ a dx fs, x = .ref a ∧ H1 a = some (.ins C dx fs) ∧ fs.lookup m = none ∧ t σ H1 fun vs H2 => sp (x :: (vs ++ [])) H2 Q E := by
    funext x H1
    unfold Mth
    simp only [List.append_nil]
  rw [e] at h
  exact h
theorem g_methX {σ : St} {H : Hp} {Q : VK} (h : ta σ H fun x H1 => Mth C m sp (Ex σ) t σ x H1 Q) : tMethX C m sp Ex ta t σ H Q := h
end
end L4
namespace L4
open PySem PySem.Spec PyProof.Rows L2 L3
def rRevL (K : PySem.W.Frag) (x : V) (k : Option Int) (H : Hp) (Q : VK) : Prop := ∃ a xs, k = some (-1) ∧ x = .ref a ∧ SqL K H a xs ∧ ∀ p, H p = none → Q (.ref p) (upd H p (.lst xs.reverse))
def tRev (K : PySem.W.Frag) (te : TE) (ts : TO) : TE := fun σ H Q => te σ H fun x H1 => ts σ H1 fun k H2 => rRevL K x k H2 Q
section
variable {X : Cx} {e st : Expr} {te : TE} {ts : TO} {pos p2 : Pos}
def rDivM : RL := fun xs H Q => ∃ i j, xs = [.int i, .int j] ∧ CDiv i j ∧ ∀ p, H p = none → Q (.ref p) (upd H p (.tup [.int (i / j), .int (i % j)]))
end
section
variable {K : PySem.W.Frag} {P : Addr → Prop} {H0 H : Hp} {l l' : List (Addr × Ob)} {fs : List Pr} {Q : VK} {σ : St} {r r' : R2} {ta tb tc te : TE} {ts : TO} {tl : TA}
theorem g_rev (h : te σ H fun x H1 => ts σ H1 fun k H2 => rRevL K x k H2 Q) : tRev K te ts σ H Q := h
theorem g_revSq {p : Addr} {xs : List V} (L : Led P H0 H l fs) (s : SqL K H p xs) (h : ∀ b H', H b = none → Led P H0 H' ((b, Eo (.lst xs.reverse)) :: l) fs → Same H H' → Q (.ref b) H') : rRevL K (.ref p) (some (-1)) H Q :=
  ⟨p, xs, rfl, rfl, s, fun b nb => h b _ nb (L.newO nb rfl) (same_upd0 nb)⟩
theorem g_chain (h : ta σ H fun x H1 => tb σ H1 fun y H2 => r x y H2 fun z H3 => IsB z H3 fun k H3 => if k = true then tc σ H3 fun w' H4 => r' y w' H4 Q else Q (.bl false) H3) : tChain r r' ta tb tc σ H Q := h
theorem g_divm {i j : Int} (L : Led P H0 H l fs) (hj : 0 < j ∧ j < 1073741824) (h : ∀ t H', H t = none → Led P H0 H' l (tupAt t [.int (i / j), .int (i % j)] :: fs) → Same H H' → Q (.ref t) H') : rDivM [.int i, .int j] H Q :=
  ⟨i, j, rfl, hj, fun t nt => h t _ nt (L.newT nt) (same_upd0 nt)⟩
end
end L4
namespace L4
open PySem PySem.Spec PyProof.Rows L2 L3
section
variable {X : Cx}
end
section
variable {K : PySem.W.Frag} {H : Hp} {Q : VK} {p : Addr} {ns : List Int} {P : Addr → Prop} {H0 : Hp} {l : List (Addr × Ob)} {fs : List Pr}
end
end L4
namespace L4
open PySem PySem.Spec PyProof.Rows L2 L3
section
variable {prog : Program} {w : World} {A : Around} {E : Value → Shared → Prop} {s : Shared} {R : Result → Shared → Prop} {I S : Addr} {fp wr : List Addr} {n : Nat} {P : Nat → Value → Prop} {St : Nat → Heap → Prop}
end
def rMaxD (K : PySem.W.Frag) (x y : V) (H : Hp) (Q : VK) : Prop := ∃ (p : Addr) (ns : List Int) (d : Int), x = .ref p ∧ y = .int d ∧ SqL K H p (ns.map V.int) ∧ (ns = [] → Q (.int d) H) ∧ ∀ M, M ∈ ns → (∀ a ∈ ns, a ≤ M) → Q (.int M) H
def tMaxD (K : PySem.W.Frag) (te td : TE) : TE := fun σ H Q => te σ H fun x H1 => td σ H1 fun y H2 => rMaxD K x y H2 Q
section
variable {X : Cx} {p pos kp : Pos} {e d : Expr} {te td : TE}
end
section
variable {K : PySem.W.Frag} {H : Hp} {Q : VK} {p : Addr} {ns : List Int} {d : Int} {te td : TE} {σ : St}
theorem g_maxd (h : te σ H fun x H1 => td σ H1 fun y H2 => rMaxD K x y H2 Q) : tMaxD K te td σ H Q := h
theorem g_ixTq {xs : List V} {i : Int} {v : V} (hs : SqT K H p xs) (e : atI xs i = some v) (h : Q v H) : rIxT K (.ref p) (.int i) H Q := ⟨p, xs, i, v, rfl, rfl, hs, e, h⟩
end
section
variable {X : Cx} {pins : List (Addr × Obj)} {σ : St} {H : Hp} {s : Shared} {A : Around} {E : Value → Shared → Prop} {Q : Value → Shared → Prop} {c : Value} {b : Bool}
end
section
variable {X : Cx}
end
end L4
namespace L4
open PySem PySem.Spec PyProof.Rows L2 L3
def apartS : List Str → List Str → List Str
  | acc, [] => acc
  | acc, x :: xs => apartS (if x ∈ acc then acc else acc ++ [x]) xs
section
variable {prog : Program} {w : World} {A : Around} {E : Value → Shared → Prop} {s : Shared} {R : Result → Shared → Prop} {I S : Addr} {fp wr : List Addr} {G : Array GenState → Array GenState → Prop} {P : Nat → Value → Prop} {St : Nat → Shared → Prop} {xs : List Str}
end
end L4
namespace L4
open PySem PySem.Spec PyProof.Rows L2 L3
def rLenSet (K : PySem.W.Frag) (x : V) (H : Hp) (Q : VK) : Prop := ∃ (a : Addr) (xs : List Str), x = .ref a ∧ SqL K H a (xs.map V.str) ∧ xs.length ≤ 1000 ∧ Q (.int (((apartS [] xs).length : Nat) : Int)) H
def tLenSet (K : PySem.W.Frag) (te : TE) : TE := fun σ H Q => te σ H fun x H1 => rLenSet K x H1 Q
section
variable {X : Cx} {e : Expr} {te : TE} {p p2 pos pos2 : Pos}
theorem g_lenSet {K : PySem.W.Frag} {σ : St} {H : Hp} {Q : VK} (h : te σ H fun x H1 => rLenSet K x H1 Q) : tLenSet K te σ H Q := h
end
structure CDatD (K : PySem.W.Frag) (mg : Str → Option Value) (x qual : Str) (C : Addr) (st : Stmt) (ps : List Str) : Prop where
  ex : ∃ (f : Addr) (oc dV kV doc pm cdv ct : Value) (od an : Option Addr) (osl : Array (Option Value)), K.lookup f = some ⟨oc, od, .func (PySem.W.fnOf "__init__" qual (defArgs st) (defBody st) (defScope st) dV kV doc pm an cdv ct), osl⟩ ∧ PySem.W.codeIn K cdv qual = true ∧
    Binds K (PySem.W.fnOf "__init__" qual (defArgs st) (defBody st) (defScope st) dV kV doc pm an cdv ct) ps [] ∧ mg x = some (.ref C) ∧ Mk K C f
  cl : Cls K C
section
variable {P : Program} {w : World} {K : PySem.W.Frag} {mg : Str → Option Value} {base : Heap} {CX : CXT} {x qual : Str} {C : Addr} {st : Stmt} {N ps : List Str} {k : Nat} {sp : Sp}
theorem CDatD.ok (D : CDatD K mg x qual C st ps) (S : FnScope N ps (defScope st)) (len : ∀ vs H Q E, sp vs H Q E → vs.length = ps.length)
    (hbody : ∀ (f : Addr) (cdv : Value) (A : Around) (outer : List Env) (s : Shared) (H : Hp) (vs : List V) (Q : VK) (E : XK), Room k (A.deeper (envOfC qual (defScope st) s.heap.objs.size f cdv)) → sp vs H Q E →
      ∃ t, PSs (cxOf CX P w K mg base N qual (defScope st) f cdv A outer s H E).nox (defBody st) t ∧ t { nx := fun _ H' => Q .non H', rt := Q } (start N vs) H) : Mak P w K mg base CX x C (k + 1) ps sp := by
  obtain ⟨f, oc, dV, kV, doc, pm, cdv, ct, od, an, osl, lk, hcd, b, m, mk⟩ := D.ex
  refine ⟨f, _, mk, fn_of lk hcd S len fun A outer s H vs Q E hr hsp => ?_, b, m⟩
  obtain ⟨t, h, q⟩ := hbody f cdv A outer s H vs Q E hr hsp
  exact ⟨t, h.nox, q⟩
end
end L4
namespace L4
open PySem PySem.Spec PyProof.Rows L2 L3
section
variable {X : Cx}
end
theorem inV_str (z : Str) (ws : List Str) : inV (.str z) (ws.map V.str) = decide (z ∈ ws) := by
  unfold inV
  rw [List.any_map, Bool.eq_iff_iff, List.any_eq_true, decide_eq_true_iff]
  constructor
  · rintro ⟨x, hx, e⟩
    have e : (x == z) = true := e
    exact (eq_of_beq e) ▸ hx
  · intro h
    exact ⟨z, h, by show (z == z) = true; exact beq_self_eq_true z⟩
theorem flat_str (ws : List Str) : (ws.map V.str).all flatV = true := by
  rw [List.all_map, List.all_eq_true]
  intro _ _; rfl
section
variable {K : PySem.W.Frag} {H : Hp} {Q : VK} {p a : Addr} {z : Str} {ws : List Str} {P : Addr → Prop} {H0 : Hp} {l : List (Addr × Ob)} {fs : List Pr}
theorem g_inT (s : SqT K H p (ws.map V.str)) (h : Q (.bl (decide (z ∈ ws))) H) : rIn K false (.str z) (.ref p) H Q :=
  ⟨p, _, rfl, .inr s, rfl, flat_str ws, by rw [if_neg Bool.false_ne_true, inV_str]; exact h⟩
end
end L4
namespace LS
open PySem PySem.W PyProof.Rows
structure Pm (n : Nat) (p : Array Nat) : Prop where
  size : p.size = n
  perm : p.toList.Perm (List.range n)
theorem getD_eq (p : Array Nat) (i : Nat) : p.getD i 0 = (p[i]?).getD 0 := by
  rw [Array.getD_eq_getD_getElem?]
theorem Pm.lt {n : Nat} {p : Array Nat} (h : Pm n p) (h0 : 0 < n) (i : Nat) : p.getD i 0 < n := by
  rw [getD_eq]
  by_cases hi : i < p.size
  · rw [getElem?_pos p i hi]
    have hm : p[i] ∈ p.toList := by simp
    exact List.mem_range.mp (h.perm.mem_iff.mp hm)
  · rw [getElem?_neg p i hi]; exact h0
section
variable {n : Nat} {f : Nat → Int} {cmp : Nat → Nat → (Bool → Shared → Prop) → Shared → Prop} {s : Shared}
end
end LS
namespace LS
open PySem PySem.W PyProof.Rows
section
variable {prog : Program} {w : World} {A : Around} {E : Value → Shared → Prop} {s : Shared}
section
variable {α : Type}
end
end
end LS
namespace L4
open PySem PySem.Spec PyProof.Rows L2 L3
section
variable {X : Cx}
end
section
variable {K : PySem.W.Frag} {H : Hp} {Q : VK} {p : Addr} {P : Addr → Prop} {H0 : Hp} {l : List (Addr × Ob)} {fs : List Pr} {α : Type} {ps : List α} {ad : α → Addr}
end
end L4
set_option hygiene false
local macro_rules | `(tactic| walk_at "put") => `(tactic| first | exact L4.Put.head | (apply L4.Put.tail; walk_at "put"))
local macro_rules | `(tactic| walk_at "mem") => `(tactic| first | exact List.mem_cons_self | (refine List.mem_cons_of_mem _ ?_; walk_at "mem"))
local macro_rules | `(tactic| walk_at "lk") => `(tactic| first | exact L4.lk_hit | (refine (L4.lk_miss (by decide +kernel)).trans ?_; walk_at "lk"))
local macro_rules | `(tactic| walk_at "sz") => `(tactic| first | (show (_ : Nat) ≤ sizeLine; exact Nat.le_of_lt (L2.small1000 (by first | decide | omega | (simp only [List.length_cons, List.length_nil, List.length_append, List.length_map]; omega)))) | exact L2.small1000 (by first | decide | omega | (simp only [List.length_cons, List.length_nil, List.length_append, List.length_map]; omega)))
local macro_rules | `(tactic| walk_at "side") => `(tactic| first
  | omega
  | (show (0 : Int) < _; first | omega | decide)
  | (refine ⟨⟨?_, ?_⟩, ?_, ?_⟩ <;> first | omega | decide)
  | (refine ⟨?_, ?_⟩ <;> first | omega | decide)
  | (refine ⟨?_, ?_, ?_⟩ <;> first | omega | decide))
local macro_rules | `(tactic| walk_at "g0") => `(tactic| first
  | (with_reducible refine L4.g_asg ?_)
  | (with_reducible refine L4.g_var (by with_unfolding_all exact rfl) ?_)
  | (with_reducible refine L4.g_c ?_)
  | (with_reducible refine L4.g_cons ?_)
  | (with_reducible refine L4.g_nil ?_)
  | (with_reducible refine L4.g_op ?_)
  | (with_reducible refine L4.g_rI0 ?_)
  | (with_reducible refine L4.g_if ?_)
  | (with_reducible refine L4.g_test ?_)
  | (with_reducible refine L4.g_isB ?_)
  | (with_reducible refine L4.g_eqI ?_)
  | (with_reducible refine L4.g_eqS ?_)
  | (with_reducible refine L4.g_eqB ?_)
  | (with_reducible refine L4.g_neI ?_)
  | (with_reducible refine L4.g_neS ?_)
  | (with_reducible refine L4.g_call ?_)
  | (with_reducible refine L4.g_cb ?_)
  | (with_reducible refine L4.g_ret ?_)
  | (with_reducible refine L4.g_next ?_)
  | (with_reducible refine L4.g_drop ?_)
  | (with_reducible refine L4.g_b ?_)
  | (with_reducible refine L4.g_and ?_)
  | (with_reducible refine L4.g_or ?_)
  | (with_reducible refine L4.g_not ?_)
  | (with_reducible refine L4.g_andV ?_)
  | (with_reducible refine L4.g_orV ?_)
  | (with_reducible refine L4.g_notV ?_)
  | (with_reducible refine L4.g_isN ?_)
  | (with_reducible refine L4.g_notN ?_)
  | (with_reducible refine L4.g_un ?_)
  | (with_reducible refine L4.g_rU ?_)
  | (with_reducible refine L4.g_tup ?_)
  | (with_reducible refine L4.g_lst ?_)
  | (with_reducible refine L4.g_fld ?_)
  | (with_reducible refine L4.g_make ?_)
  | (with_reducible refine L4.g_sfld ?_)
  | (with_reducible refine L4.g_ifE ?_)
  | (with_reducible refine L4.g_sl ?_)
  | (with_reducible refine L4.g_noPart ?_)
  | (with_reducible refine L4.g_part ?_)
  | (with_reducible refine L4.g_part1 ?_)
  | (with_reducible refine L4.g_gCons ?_)
  | (with_reducible refine L4.g_gNil ?_)
  | (with_reducible refine L4.g_gSub ?_)
  | (with_reducible refine L4.g_retN ?_)
  | (with_reducible refine L4.g_break ?_)
  | (with_reducible refine L4.g_cont ?_)
  | (with_reducible refine L4.g_ifT ?_)
  | (with_reducible refine L4.g_ifF ?_)
  | (with_reducible refine L4.g_ifNbT ?_)
  | (with_reducible refine L4.g_ifNbF ?_)
  | (with_reducible refine L4.g_bm ?_)
  | (with_reducible refine L4.g_bm0 ?_)
  | (with_reducible refine L4.g_for ?_)
  | (with_reducible refine L4.g_rng1 ?_)
  | (with_reducible refine L4.g_rng2 ?_)
  | (with_reducible refine L4.g_wkL ?_)
  | (with_reducible refine L4.g_wkT ?_)
  | (with_reducible refine L4.g_zip ?_)
  | (with_reducible refine L4.g_enum ?_)
  | (with_reducible refine L4.g_meth ?_)
  | (with_reducible refine L4.g_methX ?_)
  | (with_reducible refine L4.g_comp ?_)
  | (with_reducible refine L4.g_compS ?_)
  | (with_reducible refine L4.g_tAll ?_)
  | (with_reducible refine L4.g_rev ?_)
  | (with_reducible refine L4.g_maxd ?_)
  | (with_reducible refine L4.g_lenSet ?_)
  | (with_reducible refine L4.g_chain ?_)
  | (with_reducible refine L4.g_revSq (by assumption) (L2.SqL.of (L4.Led.eo (by assumption) (by walk_at "put"))) fun l' H' n' L' _ => ?_)
  | (with_reducible refine L4.g_divm (by assumption) (by constructor <;> omega) fun t' H' n' L' _ => ?_)
  | (with_reducible refine L4.g_tTru ?_)
  | (with_reducible refine L4.g_addS (by walk_at "sz") ?_)
  | (with_reducible refine L4.g_lenStr (by first | assumption | walk_at "sz") ?_)
  | (with_reducible refine L4.g_mulS (by refine ⟨?_, ?_, ?_⟩ <;> first | omega | decide) ?_)
  | (with_reducible refine L4.g_cat (by assumption) (by walk_at "put") (by walk_at "put") (by first | assumption | walk_at "sz") fun l' H' n' L' _ => ?_)
  | (with_reducible refine L4.g_slI (by assumption) (by assumption) (by first | exact not_false | assumption) fun l' H' n' L' _ => ?_)
  | (with_reducible refine L4.g_callX ?_)
  | (with_reducible refine L4.g_makeX ?_)
  | (with_reducible refine L4.g_raise ?_)
  | (with_reducible refine L4.g_raise1 ?_)
  | (with_reducible refine L4.g_baseI ?_)
  | (with_reducible refine L4.g_sfldN ?_)
  | (with_reducible refine L4.g_raiseI ?_)
  | (with_reducible refine L4.g_undo ?_)
  | (with_reducible refine L4.g_undoR ?_)
  | (with_reducible refine L4.g_tryAs ?_)
  | (with_reducible refine L4.g_try ?_)
  | (with_reducible refine L4.g_fldX ?_)
  | (with_reducible refine L4.g_max ?_)
  | (with_reducible refine L4.g_max3 ?_)
  | (with_reducible refine L4.g_isBlB ?_)
  | (with_reducible refine L4.g_isNotBlB ?_)
  | (with_reducible refine L4.g_intB ?_)
  | (with_reducible refine L4.g_neB ?_)
  | (with_reducible refine L4.g_min ?_)
  | ((with_reducible refine L4.g_rng1v ?_ ?_); (focus (walk_at "side"; done)))
  | ((with_reducible refine L4.g_rng2v ?_ ?_); (focus (walk_at "side"; done)))
  | (with_reducible refine L4.g_tyL (L2.SqL.of (L4.Led.eo (by assumption) (by walk_at "put"))) ?_)
  | (with_reducible refine L4.g_tyS ?_)
  | (with_reducible refine L4.g_wkLv (L2.SqL.of (L4.Led.eo (by assumption) (by walk_at "put"))) ?_)
  | (with_reducible refine L4.g_wkTv (L2.SqT.of (L4.Led.tup (by assumption) (by walk_at "mem"))) ?_)
  | (with_reducible refine L4.g_lenI (by assumption) (by assumption) (by first | exact not_false | assumption) ?_)
  | (with_reducible refine L4.g_lenSq (L2.SqL.of (L4.Led.eo (by assumption) (by walk_at "put"))) ?_)
  | (with_reducible refine L4.g_lenTu (L2.SqT.of (L4.Led.tup (by assumption) (by walk_at "mem"))) ?_)
  | (with_reducible refine L4.g_append (by assumption) (by walk_at "put") (by walk_at "sz") fun H' L' _ => ?_)
  | (with_reducible refine L4.g_newT (by assumption) (by walk_at "sz") fun t' H' n' L' _ => ?_)
  | (with_reducible refine L4.g_newL (by assumption) (by walk_at "sz") fun l' H' n' L' _ => ?_)
  | ((with_reducible refine L4.g_rI ?_ ?_); (focus (walk_at "side"; done)))
  | (with_reducible refine L4.g_gTup (by assumption) (by walk_at "mem") (by with_unfolding_all exact rfl) ?_)
  | (with_reducible refine L4.g_geT2 (L4.Led.tup (by assumption) (by walk_at "mem")) (L4.Led.tup (by assumption) (by walk_at "mem")) ?_)
  | (with_reducible refine L4.g_leT2 (L4.Led.tup (by assumption) (by walk_at "mem")) (L4.Led.tup (by assumption) (by walk_at "mem")) ?_)
  | (with_reducible refine L4.g_ixL (by assumption) (by walk_at "put") (by with_unfolding_all exact rfl) ?_)
  | (with_reducible refine L4.g_ixT (by assumption) (by walk_at "mem") (by with_unfolding_all exact rfl) ?_)
  | (with_reducible refine L4.g_ixTq (by assumption) (by with_unfolding_all exact rfl) ?_)
  | (with_reducible refine L4.g_fldL (by assumption) (by walk_at "put") (by assumption) (by assumption) (by walk_at "lk") ?_)
  | (with_reducible refine L4.g_ifDT (by first | omega | assumption | exact rfl | (simp only [List.length_cons, List.length_nil, List.length_append, List.length_map]; omega)) ?_)
  | (with_reducible refine L4.g_ifDF (by first | omega | assumption | exact rfl | (simp only [List.length_cons, List.length_nil, List.length_append, List.length_map]; omega)) ?_)
  | (with_reducible refine L4.g_ifNT (by first | omega | assumption | exact rfl | (simp only [List.length_cons, List.length_nil, List.length_append, List.length_map]; omega)) ?_)
  | (with_reducible refine L4.g_ifNF (by first | omega | assumption | exact rfl | (simp only [List.length_cons, List.length_nil, List.length_append, List.length_map]; omega)) ?_))
local macro_rules | `(tactic| walk_at "g1") => `(tactic| first | (with_reducible refine L4.g_seq ?_) | walk_at "g0")
local macro_rules | `(tactic| walk_at "one") => `(tactic| repeat walk_at "g0")
local macro_rules | `(tactic| walk_at "go") => `(tactic| repeat walk_at "g1")
local macro_rules | `(tactic| walk_at "s") => `(tactic| exact ⟨rfl, rfl, rfl, by decide +kernel, rfl, by decide +kernel, by decide +kernel⟩)
local macro_rules | `(tactic| walk_at "d") => `(tactic| refine D.ok S (fun vs H Q E h => ?_) (fun f cdv A outer s H vs Q E hr h => ?_))
namespace Law
open PySem PySem.Spec PyProof.Rows L2 L3 L4
abbrev St := L2.St
def top (i : Nat) : Stmt := PySem.Challenge.pw_risemarks_k92_deeds_written.main.body.getD i (.Pass ⟨0, 0, 0, 0⟩)
theorem seq_mid {t u : TS} {D : Ends} {σ : St} {H : Hp} (P : St → Hp → Prop) (h1 : ∀ nx : St → Hp → Prop, (∀ σ H, P σ H → nx σ H) → t { D with nx := nx } σ H) (h2 : ∀ σ H, P σ H → u D σ H) : tSeq t u D σ H := h1 (u D) h2
def Oth (p : Addr) (H H' : Hp) : Prop := ∀ q o, H q = some o → q ≠ p → H' q = some o
theorem Oth.refl (p : Addr) (H : Hp) : Oth p H H := fun _ _ h _ => h
theorem Oth.trans {p : Addr} {H H1 H2 : Hp} (a : Oth p H H1) (b : Oth p H1 H2) : Oth p H H2 := fun q o h n => b q o (a q o h n) n
theorem Oth.upd {p : Addr} {H H1 : Hp} (a : Oth p H H1) (o : HO) : Oth p H (upd H1 p o) := fun q u h n => by rw [upd_ne n]; exact a q u h n
theorem Oth.same {p : Addr} {H0 H H' : Hp} (a : Oth p H H') (s : Same H0 H) (n : H0 p = none) : Same H0 H' := fun q o h => a q o (s q o h) (ne_of_none h n)
theorem same_new {H : Hp} {p : Addr} (h : H p = none) (o : HO) : Same H (upd H p o) := fun b u q => by rw [upd_ne (ne_of_none q h)]; exact q
def HandAt (H : Hp) (p : Addr) (n : Int) : Prop := ∃ a b c : Int, H p = some (.lst [.int a, .int b, .int c]) ∧ 0 ≤ a ∧ a < 10 ^ 121 ∧ 0 ≤ b ∧ b ≤ n
theorem HandAt.mono {H : Hp} {p : Addr} {n m : Int} (h : HandAt H p n) (l : n ≤ m) : HandAt H p m := by
 obtain ⟨a, b, c, e, h1, h2, h3, h4⟩ := h
 exact ⟨a, b, c, e, h1, h2, h3, Int.le_trans h4 l⟩
theorem HandAt.oth {H H' : Hp} {p q : Addr} {n : Int} (h : HandAt H p n) (o : Oth q H H') (ne : p ≠ q) : HandAt H' p n := by
 obtain ⟨a, b, c, e, r⟩ := h
 exact ⟨a, b, c, o _ _ e ne, r⟩
theorem HandAt.same {H H' : Hp} {p : Addr} {n : Int} (h : HandAt H p n) (o : Same H H') : HandAt H' p n := by
 obtain ⟨a, b, c, e, r⟩ := h
 exact ⟨a, b, c, o _ _ e, r⟩
section
variable {P : Program} {w : World} {K : PySem.W.Frag} {mg : Str → Option Value} {base : Heap} {CX : CXT}
theorem Dat.none {x qual : Str} {st : Stmt} {ps : List Str} {sp : Sp} (D : Dat K mg x qual st ps) (no : ∀ vs H Q E, ¬ sp vs H Q E) : Cal P w K mg base CX x 0 ps sp := by
 obtain ⟨f, fd, F, b, m⟩ := D.ex
 exact ⟨f, fd, ⟨fun vs H Q E h => absurd h (no vs H Q E), fun A outer s H args us vs Q E _ _ _ _ h => absurd h (no vs H Q E)⟩, b, F.kp, m⟩
end
end Law

namespace L4
open PySem PySem.Spec PyProof.Rows L2 L3 PySem.W
def Its (x : Str) : It := ⟨fun i _ => i < x.cps.size, fun i H y H' => H' = H ∧ ∃ c, x.cps[i]? = some c ∧ y = .str ⟨#[c]⟩, fun i _ => x.cps.size ≤ i⟩
theorem turn_str {P : Program} {w : World} {K : PySem.W.Frag} {tg : Expr} {ty : String} (hty : ty = "str_ascii_iterator" ∨ ty = "str_iterator") (x : Str) (t : Tok) (it : Addr) : Turn P w K tg (Its x) [it] it (fun i h => h.IsStrIter it ty x t i) where
 mem := by simp
 obj := fun i h st b hb => by
  have e : b = it := by simpa using hb
  subst e
  obtain ⟨o, e, c, d⟩ := st
  exact ⟨o, e, fun v z => by rw [d] at z; cases z⟩
 keep := fun i h h' st k => let ⟨o, e, r⟩ := st; ⟨o, k it (by simp) o e, r⟩
 item := by
  intro X hP hw hK hc i pins s σ H E I hf st hg
  subst hP hw hK
  obtain ⟨f0, f1, f2, f3, f4, f5⟩ := hf it (by simp)
  have hi : i < x.cps.size := hg
  have go : ∀ h' tk, h'.IsStrIter it ty x t (i + 1) → (∀ b o, b ≠ it → s.heap.get? b = some o → h'.get? b = some o) → wpAny (model X.prog X.w) X.A (letOwnedTupleGo tg (.ref it) (.str ⟨#[x.cps[i]]⟩ s.toks)) (fun _ s2 => ∃ y H', Inv X pins σ H' s2 ∧ RelV y (.str ⟨#[x.cps[i]]⟩ s.toks) ∧ (Its x).yld i H y H' ∧ s2.heap.IsStrIter it ty x t (i + 1) ∧ ∀ b ∈ [it], H' b = none) E { s with heap := h', toks := tk } := fun h' tk st' kk => by
   have I1 : Inv X pins σ H { s with heap := h', toks := tk } := I.turned (fun b o hb e => kk b o hb e) f0 f1 f3 f4 f5
   obtain ⟨o, e, c, d⟩ := id st'
   exact go_of (s := { s with heap := h', toks := tk }) e c d (by rcases hty with rfl | rfl <;> decide) ⟨.str ⟨#[x.cps[i]]⟩, H, I1, ⟨_, rfl⟩, ⟨rfl, _, by simp [hi], rfl⟩, st', fun b hb => (hf b hb).1⟩
  rcases hty with rfl | rfl
  ·exact wpAny_pyNext_ascii_item st (c := x.cps[i]) (by simp [hi]) fun h' st' sb => ⟨_, rfl, go h' _ st' fun b o hb e => (sb.2 b hb).trans e⟩
  ·exact wpAny_pyNext_wide_item st (c := x.cps[i]) (by simp [hi]) fun h' st' sb => ⟨_, rfl, go h' _ st' fun b o hb e => (sb.2 b hb).trans e⟩
 done := by
  intro X hP hw hK hc i pins s σ H E I hf st hg
  subst hP hw hK
  obtain ⟨f0, f1, f2, f3, f4, f5⟩ := hf it (by simp)
  have hi : x.cps.size ≤ i := hg
  rcases hty with rfl | rfl
  ·exact wpAny_pyNext_ascii_end (I.ok.hd hc) st (by simp [hi]) fun h' eb => ⟨rfl, I.turned (t' := s.toks) (fun b o hb e => eb b o hb e) f0 f1 f3 f4 f5⟩
  ·exact wpAny_pyNext_wide_end (I.ok.hd hc) st (by simp [hi]) fun h' eb => ⟨rfl, I.turned (t' := s.toks) (fun b o hb e => eb b o hb e) f0 f1 f3 f4 f5⟩
 self := fun _ _ _ _ _ st h => by
  rcases hty with rfl | rfl
  ·exact wpAny_pyIter_striter_ascii st h
  ·exact wpAny_pyIter_striter_wide st h
def WkS (x : V) (H : Hp) (R : It → Hp → Prop) : Prop := ∃ z, x = .str z ∧ R (Its z) H
def iStr (tl : TE) : TI := fun σ H R => tl σ H fun x H1 => WkS x H1 R
section
variable {X : Cx} {tg : Expr}
theorem pi_str {l : Expr} {tl : TE} (hl : PE X l tl) : PI X tg l (iStr tl) := by
 intro pins s σ H R I h
 refine thn (hl pins s σ H _ I h) fun v s1 ⟨x, H1, I1, r1, z, e, q⟩ => ?_
 subst e
 obtain ⟨t, rfl⟩ := r1
 have fin : ∀ {ty : String} (hty : ty = "str_ascii_iterator" ∨ ty = "str_iterator"), PIE X pins σ tg R (.ref s1.heap.objs.size) { s1 with heap := s1.heap.push { cls := .type ty, data := .fields #[.str z t, .int 0 0] } } := fun {ty} hty =>
  ⟨s1.heap.objs.size, [s1.heap.objs.size], _, _, H1, rfl, I1.kept (t' := s1.toks) fun b o e => Heap.get?_push_of_some _ e, turn_str hty z t _, ⟨_, Heap.get?_push_size _ rfl, rfl, rfl⟩, fun b hb => by
   have e : b = s1.heap.objs.size := by simpa using hb
   subst e
   exact I1.fpOk (Nat.le_refl _) (I1.hok.fresh (Nat.le_refl _)), q⟩
 cases ha : z.cps.all (· < 128)
 ·exact wpAny_pyIter_wide ha (fin (.inr rfl))
 ·exact wpAny_pyIter_ascii ha (fin (.inl rfl))
end
section
variable {K : PySem.W.Frag} {σ : St} {H : Hp} {Q : VK} {D : Ends} {wi : TI} {g : TG} {tb : TS} {ta : TE} {R : It → Hp → Prop} {tc : TT} {te : TE}
theorem g_wkS (h : ta σ H fun x H1 => WkS x H1 R) : iStr ta σ H R := h
theorem g_wkSv {z : Str} (h : R (Its z) H) : WkS (.str z) H R := ⟨z, rfl, h⟩
theorem g_compSt {x : Str} {σb : St} (Pv : Nat → List V → Hp → Prop) (h0 : Pv 0 [] H) (hl : ∀ i ys H, i ≤ x.cps.toList.length → Pv i ys H → ys.length ≤ sizeLine)
  (hs : ∀ i c ys H, x.cps.toList[i]? = some c → Pv i ys H → g (.str ⟨#[c]⟩) σb H fun σ2 H2 => tc σ2 H2 fun b H3 => if b = true then te σ2 H3 fun y H4 => Pv (i + 1) (ys ++ [y]) H4 else Pv (i + 1) ys H3) (hd : ∀ ys H, Pv x.cps.toList.length ys H → ∀ p, H p = none → Q (.ref p) (upd H p (.lst ys))) :
  CompG (Its x) Q σb g tc te H := by
 refine ⟨fun i m ys H => m = x.cps.size - i ∧ i ≤ x.cps.size ∧ Pv i ys H, ⟨x.cps.size, by simp, Nat.zero_le _, h0⟩, ?_⟩
 rintro i m ys H ⟨rfl, hi, p⟩
 refine ⟨hl i ys H (by rw [Array.length_toList]; exact hi) p, ?_⟩
 by_cases hlt : i < x.cps.size
 ·refine .inr ⟨hlt, Pv (i + 1), fun ys' H' p' => ⟨x.cps.size - (i + 1), by omega, rfl, hlt, p'⟩, fun y H' ⟨e, c, hc, ey⟩ => ?_⟩
  subst e ey
  exact hs i c ys _ (by rw [Array.getElem?_toList]; exact hc) p
 ·have e : i = x.cps.size := by omega
  subst e
  exact .inl ⟨Nat.le_refl _, hd ys H (by rw [Array.length_toList]; exact p)⟩
end
end L4

namespace Law
open PySem PySem.Spec PyProof.Rows L2 L3 L4
inductive Knd (H : Hp) : V → Prop
 | int (i : Int) : Knd H (.int i)
 | bl (b : Bool) : Knd H (.bl b)
 | str (x : Str) : Knd H (.str x)
 | non : Knd H .non
 | lst {a : Addr} {xs : List V} (e : H a = some (.lst xs)) : Knd H (.ref a)
 | tup {a : Addr} {xs : List V} (e : H a = some (.tup xs)) : Knd H (.ref a)
 | dK {a : Addr} {kvs : List (Key × V)} (e : H a = some (.dK kvs)) : Knd H (.ref a)
theorem Knd.same {H H' : Hp} {v : V} (k : Knd H v) (s : Same H H') : Knd H' v := by
 cases k with
 | int i => exact .int i
 | bl b => exact .bl b
 | str x => exact .str x
 | non => exact .non
 | lst e => exact .lst (s _ _ e)
 | tup e => exact .tup (s _ _ e)
 | dK e => exact .dK (s _ _ e)
end Law

namespace Law
open PySem PySem.Spec PyProof.Rows L2 L3 L4
section
variable {P : Program} {w : World} {K : PySem.W.Frag} {mg : Str → Option Value} {base : Heap} {CX : CXT}
def spWholeI : Sp := fun vs H Q _ => ∃ i : Int, vs = [.int i] ∧ Q (.bl true) H
theorem g_isiI {H : Hp} {Q : VK} {x : V} {t : Value} {T : String} {b : Bool} (ty : TyOf K H x t) (e : PySem.W.kitOne K t (.type T) = some b) (h : Q (.bl b) H) : rIsi K [x, .ty T] H Q := ⟨x, _, t, b, rfl, ty, .inl ⟨T, rfl, e⟩, h⟩
theorem sc_lwhole : FnScope ["_law_found"] ["_law_found"] (defScope (top 39)) := by walk_at "s"
theorem ok_lwhole (D : Dat K mg "_law_whole" "_law_whole" (top 39) ["_law_found"]) (BT : Bt mg) : CalU P w K mg base CX "_law_whole" 1 ["_law_found"] spWholeI := by
 have S := sc_lwhole
 refine D.okU S (fun vs H Q E h => ?_) (fun f cdv A outer s H vs Q E hr h => ?_)
 ·obtain ⟨i, rfl, _⟩ := h
  rfl
 obtain ⟨i, rfl, q⟩ := h
 refine ⟨_, (@pss_one _ _ _ (@ps_ret _ _ _ _ (@pe_and _ _ _ _ _ _ _ (@pe_isi _ _ _ _ _ _ _ _ BT.isinstance BT.int_ L3.bt_int (@pv _ 0 _ _ (by rfl) (by first | exact Or.inl rfl | exact Or.inr (Or.inl rfl) | exact Or.inr (Or.inr rfl)) (by decide) (by decide)) (by rfl) (by rfl) (by decide) (by decide) (by rfl) (by rfl) (by rfl)) (@pe_one _ _ _ _ _ (@pe_not _ _ _ _ (@pe_isi _ _ _ _ _ _ _ _ BT.isinstance BT.bool_ L3.bt_bool (@pv _ 0 _ _ (by rfl) (by first | exact Or.inl rfl | exact Or.inr (Or.inl rfl) | exact Or.inr (Or.inr rfl)) (by decide) (by decide)) (by rfl) (by rfl) (by decide) (by decide) (by rfl) (by rfl) (by rfl))))))), ?_⟩
 try dsimp only [cxU, cxOf]
 walk_at "go"
 refine g_isiI (.int i) rfl ?_
 walk_at "go"
 refine g_isiI (.int i) rfl ?_
 walk_at "go"
 exact q
end
end Law

namespace L4
open PySem PySem.Spec PyProof.Rows L2 L3
def FrK (K : PySem.W.Frag) (prm : Params) (a : Addr) (g : Str → Option V) : Prop := ∃ (es : Array DictEntry) (n : Nat), K.lookup a = some ⟨.type "dict", none, .dict es n, #[]⟩ ∧ PySem.W.KeysLit prm es.toList ∧ (a == sysModules) = false ∧ ∀ x, RelO (g x) (findBy Value.isStrOf es x)
def rNotInG (a : Addr) (g : Str → Option V) : R2 := fun x y H Q => ∃ z, x = .str z ∧ y = .ref a ∧ Q (.bl (!(g z).isSome)) H
theorem relO_some {o : Option V} {u : Option Value} (h : RelO o u) : u.isSome = o.isSome := by
 cases o with
 | none => cases u with
  | none => rfl
  | some u => exact absurd h (by simp [RelO])
 | some v => cases u with
  | none => exact absurd h (by simp [RelO])
  | some u => rfl
section
variable {X : Cx} {a : Addr} {g : Str → Option V} {o i : Expr} {td ty : TE} {pos : Pos}
theorem op_notInG (F : FrK X.K X.w.params a g) : OpR X (compareOp .NotIn) (rNotInG a g) := by
 intro pins s σ H x y v u Q I rx ry h
 obtain ⟨z, rfl, rfl, q⟩ := h
 obtain ⟨t, rfl⟩ := rx
 cases ry
 obtain ⟨es, n, lk, hk, hs, hg⟩ := F
 refine wpAny_notIn_of (strKind_is X.prog X.w z t) hs (PySem.W.mapOf_K (prog := X.prog) I.kIn lk hk) ⟨.bl _, H, I.tok _, rfl, ?_⟩
 rw [relO_some (hg z)]
 exact q
def DGetG (a : Addr) (g : Str → Option V) (x y : V) (H : Hp) (Q : VK) : Prop := ∃ z v, x = .ref a ∧ y = .str z ∧ g z = some v ∧ Q v H
def tDGetG (a : Addr) (g : Str → Option V) (td ty : TE) : TE := fun σ H Q => td σ H fun x H1 => ty σ H1 fun y H2 => DGetG a g x y H2 Q
theorem pe_dgetG (F : FrK X.K X.w.params a g) (ho : PE X o td) (hi : PE X i ty) (hs : NoSl i) : PE X (.Subscript o i pos) (tDGetG a g td ty) := by
 intro pins s σ H Q I h
 refine subD_of PySem.F.slot_dict_getitem.lookup hs (thn (ho pins s σ H _ I h) fun u s1 ⟨x, H1, I1, rx, q1⟩ => thn (hi pins s1 σ H1 _ I1 q1) fun iv s2 ⟨y, H2, I2, ry, z, v, ex, ey, g1, q2⟩ => ?_)
 subst ex ey
 obtain rfl : u = Value.ref a := rx
 obtain ⟨t, rfl⟩ := ry
 obtain ⟨es, n, lk, hk, hs', hg⟩ := F
 have hm := PySem.W.mapOf_K (prog := X.prog) I2.kIn lk hk
 have hz := hg z
 rw [g1] at hz
 obtain ⟨u, hu, ru⟩ : ∃ u, findBy Value.isStrOf es z = some u ∧ RelV v u := by
  cases e : findBy Value.isStrOf es z with
  | none => rw [e] at hz; exact absurd hz (by simp [RelO])
  | some u => rw [e] at hz; exact ⟨u, rfl, hz⟩
 exact ⟨hm.typeIs, wpAny_getItem_of (strKind_is X.prog X.w z t) hm hu ⟨v, H2, I2.tok _, ru, q2⟩⟩
end
theorem g_dgetG {a : Addr} {g : Str → Option V} {td ty : TE} {σ : St} {H : Hp} {Q : VK} (h : td σ H fun x H1 => ty σ H1 fun y H2 => DGetG a g x y H2 Q) : tDGetG a g td ty σ H Q := h
end L4

namespace Law
open PySem PySem.Spec PyProof.Rows L2 L3 L4
inductive Th where
 | int (i : Int) | bl (b : Bool) | str (z : Str) | non | lst | dct | tup (ts : List Th)
mutual
inductive ThAt (p : Addr) (H : Hp) : V → Th → Prop
 | int (i : Int) : ThAt p H (.int i) (.int i)
 | bl (b : Bool) : ThAt p H (.bl b) (.bl b)
 | str (z : Str) : ThAt p H (.str z) (.str z)
 | non : ThAt p H .non .non
 | lst {a : Addr} {xs : List V} (e : H a = some (.lst xs)) (n : a ≠ p) : ThAt p H (.ref a) .lst
 | dct {a : Addr} {kvs : List (Key × V)} (e : H a = some (.dK kvs)) : ThAt p H (.ref a) .dct
 | tup {a : Addr} {xs : List V} {ts : List Th} (e : H a = some (.tup xs)) (r : Ths p H xs ts) : ThAt p H (.ref a) (.tup ts)
inductive Ths (p : Addr) (H : Hp) : List V → List Th → Prop
 | nil : Ths p H [] []
 | cons {x : V} {t : Th} {xs : List V} {ts : List Th} (h : ThAt p H x t) (r : Ths p H xs ts) : Ths p H (x :: xs) (t :: ts)
end
mutual
theorem ThAt.oth {p : Addr} {H H' : Hp} (o : Oth p H H') (h1 : ∀ xs, H p ≠ some (.tup xs)) (h2 : ∀ kvs, H p ≠ some (.dK kvs)) : ∀ {v : V} {t : Th}, ThAt p H v t → ThAt p H' v t
 | _, _, .int i => .int i
 | _, _, .bl b => .bl b
 | _, _, .str z => .str z
 | _, _, .non => .non
 | _, _, .lst e n => .lst (o _ _ e n) n
 | _, _, .dct e => .dct (o _ _ e fun z => h2 _ (z ▸ e))
 | _, _, .tup e r => .tup (o _ _ e fun z => h1 _ (z ▸ e)) (Ths.oth o h1 h2 r)
theorem Ths.oth {p : Addr} {H H' : Hp} (o : Oth p H H') (h1 : ∀ xs, H p ≠ some (.tup xs)) (h2 : ∀ kvs, H p ≠ some (.dK kvs)) : ∀ {xs : List V} {ts : List Th}, Ths p H xs ts → Ths p H' xs ts
 | _, _, .nil => .nil
 | _, _, .cons h r => .cons (ThAt.oth o h1 h2 h) (Ths.oth o h1 h2 r)
end
mutual
theorem ThAt.same {p : Addr} {H H' : Hp} (o : Same H H') : ∀ {v : V} {t : Th}, ThAt p H v t → ThAt p H' v t
 | _, _, .int i => .int i
 | _, _, .bl b => .bl b
 | _, _, .str z => .str z
 | _, _, .non => .non
 | _, _, .lst e n => .lst (o _ _ e) n
 | _, _, .dct e => .dct (o _ _ e)
 | _, _, .tup e r => .tup (o _ _ e) (Ths.same o r)
theorem Ths.same {p : Addr} {H H' : Hp} (o : Same H H') : ∀ {xs : List V} {ts : List Th}, Ths p H xs ts → Ths p H' xs ts
 | _, _, .nil => .nil
 | _, _, .cons h r => .cons (ThAt.same o h) (Ths.same o r)
end
theorem Ths.len {p : Addr} {H : Hp} : ∀ {xs : List V} {ts : List Th}, Ths p H xs ts → xs.length = ts.length
 | _, _, .nil => rfl
 | _, _, .cons _ r => by rw [List.length_cons, List.length_cons, Ths.len r]
theorem Ths.get {p : Addr} {H : Hp} : ∀ {xs : List V} {ts : List Th} {i : Nat} {x : V}, Ths p H xs ts → xs[i]? = some x → ∃ t, ts[i]? = some t ∧ ThAt p H x t
 | _, _, 0, _, .cons h _, e => by cases e; exact ⟨_, rfl, h⟩
 | _, _, i + 1, _, .cons _ r, e => Ths.get (i := i) r e
theorem Ths.take {p : Addr} {H : Hp} : ∀ {xs : List V} {ts : List Th} (i : Nat), Ths p H xs ts → Ths p H (xs.take i) (ts.take i)
 | _, _, 0, _ => .nil
 | _, _, i + 1, .nil => .nil
 | _, _, i + 1, .cons h r => .cons h (Ths.take i r)
theorem Ths.drop {p : Addr} {H : Hp} : ∀ {xs : List V} {ts : List Th} (i : Nat), Ths p H xs ts → Ths p H (xs.drop i) (ts.drop i)
 | _, _, 0, h => h
 | _, _, i + 1, .nil => .nil
 | _, _, i + 1, .cons _ r => Ths.drop i r
def tyT : Th → Value
 | .int _ => .type "int"
 | .bl _ => .type "bool"
 | .str _ => .type "str"
 | .non => .type "NoneType"
 | .lst => .type "list"
 | .dct => .type "dict"
 | .tup _ => .type "tuple"
theorem ThAt.ty {K : PySem.W.Frag} {p : Addr} {H : Hp} {v : V} {t : Th} (h : ThAt p H v t) : TyOf K H v (tyT t) := by
 cases h with
 | int i => exact .int i
 | bl b => exact .bl b
 | str z => exact .str z
 | non => exact .non
 | lst e n => exact .lst e
 | dct e => exact .dK e
 | tup e r => exact .tup e
def isStrT : Th → Bool | .str _ => true | _ => false
def isTupT : Th → Bool | .tup _ => true | _ => false
def isIntT : Th → Bool | .int _ => true | .bl _ => true | _ => false
def isBlT : Th → Bool | .bl _ => true | _ => false
theorem g_isiT {K : PySem.W.Frag} {p : Addr} {H : Hp} {Q : VK} {v : V} {t : Th} {T : String} {b : Bool} (h : ThAt p H v t) (e : PySem.W.kitOne K (tyT t) (.type T) = some b) (q : Q (.bl b) H) : rIsi K [v, .ty T] H Q := ⟨v, _, _, b, rfl, h.ty, .inl ⟨T, rfl, e⟩, q⟩
theorem k_str (K : PySem.W.Frag) (t : Th) : PySem.W.kitOne K (tyT t) (.type "str") = some (isStrT t) := by cases t <;> rfl
theorem k_tup (K : PySem.W.Frag) (t : Th) : PySem.W.kitOne K (tyT t) (.type "tuple") = some (isTupT t) := by cases t <;> rfl
theorem k_int (K : PySem.W.Frag) (t : Th) : PySem.W.kitOne K (tyT t) (.type "int") = some (isIntT t) := by cases t <;> rfl
theorem k_bl (K : PySem.W.Frag) (t : Th) : PySem.W.kitOne K (tyT t) (.type "bool") = some (isBlT t) := by cases t <;> rfl
def wholeT : Th → Bool | .int _ => true | _ => false
def fromT (n : Int) : Th → Bool | .int i => decide (n ≤ i) | _ => false
def numT : Th → Bool | .int i => decide (0 ≤ i) && decide (i ≤ 1000000000000000000000000000000) | _ => false
def lets : Str := "abcdefghijklmnopqrstuvwxyz"
def letC (c : Nat) : Bool := !(Builtin.Str.occurrences lets ⟨#[c]⟩ 0 lets.length 1).isEmpty
def nameB (l : List Nat) : Bool := decide (1 ≤ l.length) && (decide (l.length ≤ 8) && l.all letC)
def nameT : Th → Bool | .str z => nameB z.cps.toList | _ => false
def ltT : Th → Th → Bool | .int i, .int j => decide (i < j) | _, _ => false
def strT : Th → Bool
 | .tup [a, b, c] => (fromT 0 a && (fromT 0 b && fromT 0 c)) && ltT b c
 | _ => false
def kindT (t : Th) (k : Str) : Bool := if k = "name" then nameT t else if k = "reading" then numT t else if k = "area" then strT t else if k = "number" then fromT 1 t else fromT 0 t
def Sm (t : Th) : Prop := ∀ z, t = .str z → z.length ≤ 500
section
variable {P : Program} {w : World} {K : PySem.W.Frag} {mg : Str → Option Value} {base : Heap} {CX : CXT} {aF : Addr}
theorem sc_whole : FnScope ["thing"] ["thing"] (defScope (top 11)) := by walk_at "s"
def spB (f : Th → Bool) : Sp := fun vs H Q _ => ∃ p v t, vs = [v] ∧ ThAt p H v t ∧ Q (.bl (f t)) H
theorem ok_whole (D : Dat K mg "is_whole" "is_whole" (top 11) ["thing"]) (BT : Bt mg) : Cal P w K mg base CX "is_whole" 1 ["thing"] (spB wholeT) := by
 have S := sc_whole
 walk_at "d"
 ·obtain ⟨p, v, t, rfl, _⟩ := h
  rfl
 obtain ⟨p, v, t, rfl, k, q⟩ := h
 refine ⟨_, (@pss_one _ _ _ (@ps_ret _ _ _ _ (@pe_and _ _ _ _ _ _ _ (@pe_isi _ _ _ _ _ _ _ _ BT.isinstance BT.int_ L3.bt_int (@pv _ 0 _ _ (by rfl) (by first | exact Or.inl rfl | exact Or.inr (Or.inl rfl) | exact Or.inr (Or.inr rfl)) (by decide) (by decide)) (by rfl) (by rfl) (by decide) (by decide) (by rfl) (by rfl) (by rfl)) (@pe_one _ _ _ _ _ (@pe_not _ _ _ _ (@pe_isi _ _ _ _ _ _ _ _ BT.isinstance BT.bool_ L3.bt_bool (@pv _ 0 _ _ (by rfl) (by first | exact Or.inl rfl | exact Or.inr (Or.inl rfl) | exact Or.inr (Or.inr rfl)) (by decide) (by decide)) (by rfl) (by rfl) (by decide) (by decide) (by rfl) (by rfl) (by rfl))))))), ?_⟩
 try dsimp only [cxOf]
 walk_at "go"
 refine g_isiT k (k_int K t) ?_
 cases hi : isIntT t with
 | false =>
  walk_at "go"
  rw [show wholeT t = false by cases t <;> first | rfl | cases hi] at q
  exact q
 | true =>
  walk_at "go"
  refine g_isiT k (k_bl K t) ?_
  walk_at "go"
  rw [show wholeT t = !isBlT t by cases t <;> first | rfl | cases hi] at q
  cases hb : isBlT t with
  | false => rw [hb] at q; walk_at "go"; exact q
  | true => rw [hb] at q; walk_at "go"; exact q
theorem sc_from : FnScope ["thing", "least"] ["thing", "least"] (defScope (top 12)) := by walk_at "s"
def spFrom : Sp := fun vs H Q _ => ∃ p v t n, vs = [v, .int n] ∧ ThAt p H v t ∧ Q (.bl (fromT n t)) H
theorem ok_from (D : Dat K mg "is_whole_from" "is_whole_from" (top 12) ["thing", "least"]) (NE : NoErr CX) (c_is_whole : Cal P w K mg base CX "is_whole" 1 ["thing"] (spB wholeT)) : Cal P w K mg base CX "is_whole_from" 2 ["thing", "least"] spFrom := by
 have S := sc_from
 walk_at "d"
 ·obtain ⟨p, v, t, n, rfl, _⟩ := h
  rfl
 obtain ⟨p, v, t, n, rfl, k, q⟩ := h
 refine ⟨_, (@pss_one _ _ _ (@ps_ret _ _ _ _ (@pe_and _ _ _ _ _ _ _ (@pe_fn _ _ _ _ _ _ _ _ _ _ _ _ c_is_whole (hr.mono (by first | decide | omega)) NE.pass (@pa_cons _ _ _ _ _ (@pv _ 0 _ _ (by rfl) (by first | exact Or.inl rfl | exact Or.inr (Or.inl rfl) | exact Or.inr (Or.inr rfl)) (by decide) (by decide)) (@pa_nil _) (by rfl)) (by rfl) (by decide) (by rfl) (by rfl)) (@pe_one _ _ _ _ _ (@pe_cmpR _ _ _ _ _ _ _ _ (@op_le _) (@pv _ 1 _ _ (by rfl) (by first | exact Or.inl rfl | exact Or.inr (Or.inl rfl) | exact Or.inr (Or.inr rfl)) (by decide) (by decide)) (@pv _ 0 _ _ (by rfl) (by first | exact Or.inl rfl | exact Or.inr (Or.inl rfl) | exact Or.inr (Or.inr rfl)) (by decide) (by decide)) (@nomark _ _ (by decide) (by decide))))))), ?_⟩
 try dsimp only [cxOf]
 walk_at "go"
 refine ⟨p, v, t, rfl, k, ?_⟩
 cases k with
 | int i =>
  refine g_isB (g_ifT ?_)
  walk_at "go"
  exact q
 | _ => exact g_isB (g_ifF q)
theorem sc_isnum : FnScope ["thing"] ["thing"] (defScope (top 13)) := by walk_at "s"
theorem ok_isnum (D : Dat K mg "is_number" "is_number" (top 13) ["thing"]) (NE : NoErr CX) (g_LAST : GlV mg "LAST" (.int 1000000000000000000000000000000)) (c_is_whole_from : Cal P w K mg base CX "is_whole_from" 2 ["thing", "least"] spFrom) : Cal P w K mg base CX "is_number" 3 ["thing"] (spB numT) := by
 have S := sc_isnum
 walk_at "d"
 ·obtain ⟨p, v, t, rfl, _⟩ := h
  rfl
 obtain ⟨p, v, t, rfl, k, q⟩ := h
 refine ⟨_, (@pss_one _ _ _ (@ps_ret _ _ _ _ (@pe_and _ _ _ _ _ _ _ (@pe_fn _ _ _ _ _ _ _ _ _ _ _ _ c_is_whole_from (hr.mono (by first | decide | omega)) NE.pass (@pa_cons _ _ _ _ _ (@pv _ 0 _ _ (by rfl) (by first | exact Or.inl rfl | exact Or.inr (Or.inl rfl) | exact Or.inr (Or.inr rfl)) (by decide) (by decide)) (@pa_cons _ _ _ _ _ (@pe_int _ _ _ _) (@pa_nil _) (by rfl)) (by rfl)) (by rfl) (by decide) (by rfl) (by rfl)) (@pe_one _ _ _ _ _ (@pe_cmpR _ _ _ _ _ _ _ _ (@op_le _) (@pv _ 0 _ _ (by rfl) (by first | exact Or.inl rfl | exact Or.inr (Or.inl rfl) | exact Or.inr (Or.inr rfl)) (by decide) (by decide)) (@pe_g _ _ _ _ g_LAST (by rfl) (by decide)) (@nomark _ _ (by decide) (by decide))))))), ?_⟩
 try dsimp only [cxOf]
 walk_at "go"
 refine ⟨p, v, t, 0, rfl, k, ?_⟩
 cases k with
 | int i =>
  have q : Q (.bl (decide (0 ≤ i) && decide (i ≤ 1000000000000000000000000000000))) H := q
  rw [show fromT 0 (.int i) = decide (0 ≤ i) from rfl]
  walk_at "go"
  refine g_ifD (fun c1 => ?_) (fun c1 => ?_)
  ·rw [decide_eq_true c1] at q
   walk_at "go"
   exact q
  ·rw [decide_eq_false c1] at q
   exact q
 | _ => exact g_isB (g_ifF q)
theorem len_of (z : Str) : z.length = z.cps.toList.length := by simp [Str.length]
theorem sc_name : FnScope ["thing"] ["thing"] (defScope (top 14)) := by walk_at "s"
def spBm (f : Th → Bool) : Sp := fun vs H Q _ => ∃ p v t, vs = [v] ∧ ThAt p H v t ∧ Sm t ∧ ∀ H', Same H H' → Q (.bl (f t)) H'
theorem ok_name (D : Dat K mg "is_name" "is_name" (top 14) ["thing"]) (BT : Bt mg) (NE : NoErr CX) (g_LETTERS : GlV mg "LETTERS" (.str lets)) (g_LONGEST_NAME : GlV mg "LONGEST_NAME" (.int 8)) : Cal P w K mg base CX "is_name" 1 ["thing"] (spBm nameT) := by
 have S := sc_name
 walk_at "d"
 ·obtain ⟨p, v, t, rfl, _⟩ := h
  rfl
 obtain ⟨p, v, t, rfl, k, sm, q⟩ := h
 refine ⟨_, (@pss_cons _ _ _ _ _ (@ps_if _ _ _ _ _ _ _ _ (@pt_not _ _ _ _ (@pt_val _ _ _ (@pe_isi _ _ _ _ _ _ _ _ BT.isinstance BT.str_ L3.bt_str (@pv _ 0 _ _ (by rfl) (by first | exact Or.inl rfl | exact Or.inr (Or.inl rfl) | exact Or.inr (Or.inr rfl)) (by decide) (by decide)) (by rfl) (by rfl) (by decide) (by decide) (by rfl) (by rfl) (by rfl)) (by intro _; rfl))) (@pss_one _ _ _ (@ps_ret _ _ _ _ (@pe_bl _ _ _ _))) (@pss_nil _)) (@pss_cons _ _ _ _ _ (@ps_if _ _ _ _ _ _ _ _ (@PW.pt _ _ _ (@pw_or _ _ _ _ _ _ _ (@pt_cmpR _ _ _ _ _ _ _ _ (@op_lt _) (@pe_callB _ _ _ _ _ _ _ _ _ (@c_lenS _) rfl BT.len L3.bt_len (@pa_cons _ _ _ _ _ (@pv _ 0 _ _ (by rfl) (by first | exact Or.inl rfl | exact Or.inr (Or.inl rfl) | exact Or.inr (Or.inr rfl)) (by decide) (by decide)) (@pa_nil _) (by rfl)) (by decide) (by decide) (by rfl) (by rfl)) (@pe_int _ _ _ _) (@nomark _ _ (by decide) (by decide))) (@pw_or1 _ _ _ _ (@pt_cmpR _ _ _ _ _ _ _ _ (@op_gt _) (@pe_callB _ _ _ _ _ _ _ _ _ (@c_lenS _) rfl BT.len L3.bt_len (@pa_cons _ _ _ _ _ (@pv _ 0 _ _ (by rfl) (by first | exact Or.inl rfl | exact Or.inr (Or.inl rfl) | exact Or.inr (Or.inr rfl)) (by decide) (by decide)) (@pa_nil _) (by rfl)) (by decide) (by decide) (by rfl) (by rfl)) (@pe_g _ _ _ _ g_LONGEST_NAME (by rfl) (by decide)) (@nomark _ _ (by decide) (by decide)))))) (@pss_one _ _ _ (@ps_ret _ _ _ _ (@pe_bl _ _ _ _))) (@pss_nil _)) (@pss_one _ _ _ (@ps_ret _ _ _ _ (@pe_callB _ _ _ _ _ _ _ _ _ (@call_all _ rfl) rfl BT.all L3.bt_all (@pa_cons _ _ _ _ _ (@pe_comp _ _ _ _ _ _ _ _ _ _ (gName 0) _ _ rfl (pi_str (@pv _ 0 _ _ (by rfl) (by first | exact Or.inl rfl | exact Or.inr (Or.inl rfl) | exact Or.inr (Or.inr rfl)) (by decide) (by decide))) (@blk_of _ _ ["sign"] [] (defScope (top 14)).names ["thing"] rfl rfl rfl (by decide +kernel)) (fun _ _ _ _ => (@pg_name _ _ 0 _ (show (blkN ["thing"] ["sign"] []).Nodup by decide +kernel) rfl (by first | exact Or.inl rfl | exact Or.inr rfl) (by first | exact .inl rfl | exact .inr rfl | assumption))) (fun _ _ _ _ => (@pifs_nil _)) (fun _ _ _ _ => (@pe_cmpR _ _ _ _ _ _ _ _ (@o_inS _) (@pv _ 0 _ _ (by rfl) (by first | exact Or.inl rfl | exact Or.inr (Or.inl rfl) | exact Or.inr (Or.inr rfl)) (by decide) (by decide)) (@pe_g _ _ _ _ g_LETTERS (by rfl) (by decide)) (by with_unfolding_all rfl))) (by intro _; rfl)) (@pa_nil _) (by rfl)) (by decide) (by decide) (by rfl) (by rfl)))))), ?_⟩
 try dsimp only [cxOf]
 walk_at "go"
 refine g_isiT k (k_str K t) ?_
 cases hs : isStrT t with
 | false =>
  walk_at "go"
  rw [show nameT t = false by cases t <;> first | rfl | cases hs] at q
  exact q _ (Same.refl _)
 | true =>
 obtain ⟨z, rfl⟩ : ∃ z, t = .str z := by cases t <;> first | exact ⟨_, rfl⟩ | cases hs
 cases k
 have hz := sm z rfl
 have hzl := len_of z
 have q : ∀ H', Same H H' → Q (.bl (decide (1 ≤ z.cps.toList.length) && (decide (z.cps.toList.length ≤ 8) && z.cps.toList.all letC))) H' := q
 have zs : z.length ≤ sizeLine := Nat.le_of_lt (small1000 (by omega))
 walk_at "go"
 refine g_ifD (fun c1 => ?_) (fun c1 => ?_)
 ·walk_at "go"
  rw [decide_eq_false (show ¬ 1 ≤ z.cps.toList.length by omega)] at q
  exact q _ (Same.refl _)
 rw [decide_eq_true (show 1 ≤ z.cps.toList.length by omega)] at q
 walk_at "go"
 refine g_ifD (fun c2 => ?_) (fun c2 => ?_)
 ·walk_at "go"
  rw [decide_eq_false (show ¬ z.cps.toList.length ≤ 8 by omega)] at q
  exact q _ (Same.refl _)
 rw [decide_eq_true (show z.cps.toList.length ≤ 8 by omega)] at q
 walk_at "go"
 refine g_wkS ?_
 walk_at "go"
 refine g_wkSv ?_
 refine g_compSt (fun i ys H' => ys = ((z.cps.toList.take i).map letC).map V.bl ∧ H' = H) ⟨rfl, rfl⟩ (fun i ys H' hi ⟨e, _⟩ => by rw [e, List.length_map, List.length_map, List.length_take]; exact Nat.le_of_lt (small1000 (by omega))) ?_ ?_
 ·rintro i c ys H' hc ⟨rfl, rfl⟩
  try dsimp only [gName]
  walk_at "go"
  refine ⟨_, _, rfl, rfl, ?_⟩
  exact ⟨by rw [List.take_add_one, hc, Option.toList, List.map_append, List.map_append]; rfl, rfl⟩
 ·rintro ys H' ⟨rfl, rfl⟩ lc nlc
  rw [List.take_length]
  walk_at "go"
  refine g_allB (SqL.of upd_same) ?_
  rw [List.all_map, show (id ∘ letC) = letC from rfl]
  exact q _ (same_new nlc _)
end
end Law

namespace Law
open PySem PySem.Spec PyProof.Rows L2 L3 L4
section
variable {P : Program} {w : World} {K : PySem.W.Frag} {mg : Str → Option Value} {base : Heap} {CX : CXT}
theorem sc_hand : FnScope ["_law_script", "_law_k", "_law_hand_here"] ["_law_script", "_law_k"] (defScope (top 37)) := by walk_at "s"
def spHand (K : PySem.W.Frag) : Sp := fun vs H Q _ => ∃ (a : Addr) (ns : List Int) (k : Int), vs = [.ref a, .int k] ∧ SqL K H a (ns.map V.int) ∧ ns.length ≤ 63 ∧ 0 ≤ k ∧
 ∀ (p : Addr) (H' : Hp), H p = none → HandAt H' p 0 → Same H H' → Q (.ref p) H'
theorem atI_ints {ns : List Int} {k : Int} (h0 : 0 ≤ k) (h : k < (ns.length : Int)) : ∃ v : Int, atI (ns.map V.int) k = some (.int v) := by
 have hk : k.toNat < ns.length := by omega
 have ek : k = ((k.toNat : Nat) : Int) := by omega
 have q : atI (ns.map V.int) ((k.toNat : Nat) : Int) = some (.int ns[k.toNat]) := atI_nat (by rw [List.getElem?_map, List.getElem?_eq_getElem hk] <;> rfl)
 rw [← ek] at q
 exact ⟨_, q⟩
theorem ok_hand (D : Dat K mg "_law_hand" "_law_hand" (top 37) ["_law_script", "_law_k"]) (BT : Bt mg) : Cal P w K mg base CX "_law_hand" 1 ["_law_script", "_law_k"] (spHand K) := by
 have S := sc_hand
 walk_at "d"
 ·obtain ⟨a, ns, k, rfl, _⟩ := h
  rfl
 obtain ⟨a, ns, k, rfl, hS, h63, h0, q⟩ := h
 refine ⟨_, (@pss_cons _ _ _ _ _ (@ps_set _ _ 2 _ _ _ _ S.nd rfl (by first | exact Or.inl rfl | exact Or.inr rfl) (@pe_lst _ _ _ _ (@pa_cons _ _ _ _ _ (@pe_int _ _ _ _) (@pa_cons _ _ _ _ _ (@pe_int _ _ _ _) (@pa_cons _ _ _ _ _ (@pe_int _ _ _ _) (@pa_nil _) (by rfl)) (by rfl)) (by rfl))) (by rfl) (by first | exact .inl rfl | exact .inr rfl | assumption)) (@pss_cons _ _ _ _ _ (@ps_if _ _ _ _ _ _ _ _ (@pt_cmpR _ _ _ _ _ _ _ _ (@op_lt _) (@pv _ 1 _ _ (by rfl) (by first | exact Or.inl rfl | exact Or.inr (Or.inl rfl) | exact Or.inr (Or.inr rfl)) (by decide) (by decide)) (@pe_callB _ _ _ _ _ _ _ _ _ (@c_len _) rfl BT.len L3.bt_len (@pa_cons _ _ _ _ _ (@pv _ 0 _ _ (by rfl) (by first | exact Or.inl rfl | exact Or.inr (Or.inl rfl) | exact Or.inr (Or.inr rfl)) (by decide) (by decide)) (@pa_nil _) (by rfl)) (by decide) (by decide) (by rfl) (by rfl)) (@nomark _ _ (by decide) (by decide))) (@pss_one _ _ _ (@ps_asg _ _ _ _ _ _ (@pe_op _ _ _ _ _ _ _ _ (@op_mod _) (@pe_ix _ _ _ _ _ _ _ (@ix_list _) (@pv _ 0 _ _ (by rfl) (by first | exact Or.inl rfl | exact Or.inr (Or.inl rfl) | exact Or.inr (Or.inr rfl)) (by decide) (by decide)) (@pv _ 1 _ _ (by rfl) (by first | exact Or.inl rfl | exact Or.inr (Or.inl rfl) | exact Or.inr (Or.inr rfl)) (by decide) (by decide)) (fun _ _ => rfl)) (@pe_op _ _ _ _ _ _ _ _ (@op_mulB _) (@pe_op _ _ _ _ _ _ _ _ (@op_pow _) (@pe_int _ _ _ _) (@pe_int _ _ _ _)) (@pe_op _ _ _ _ _ _ _ _ (@op_pow _) (@pe_int _ _ _ _) (@pe_int _ _ _ _)))) (@pg_sub _ _ _ _ _ _ _ (@pv _ 2 _ _ (by rfl) (by first | exact Or.inl rfl | exact Or.inr (Or.inl rfl) | exact Or.inr (Or.inr rfl)) (by decide) (by decide)) (@pe_int _ _ _ _) (@set_list _) (by intro _; rfl)) (by rfl) (by rfl) (by rfl))) (@pss_nil _)) (@pss_cons _ _ _ _ _ (@ps_if _ _ _ _ _ _ _ _ (@PW.pt _ _ _ (@pw_and _ _ _ _ _ _ _ (@pt_cmpR _ _ _ _ _ _ _ _ (@op_ge _) (@pe_ix _ _ _ _ _ _ _ (@ix_list _) (@pv _ 2 _ _ (by rfl) (by first | exact Or.inl rfl | exact Or.inr (Or.inl rfl) | exact Or.inr (Or.inr rfl)) (by decide) (by decide)) (@pe_int _ _ _ _) (fun _ _ => rfl)) (@pe_op _ _ _ _ _ _ _ _ (@op_pow _) (@pe_int _ _ _ _) (@pe_int _ _ _ _)) (@nomark _ _ (by decide) (by decide))) (@pw_and1 _ _ _ _ (@pt_cmpR _ _ _ _ _ _ _ _ (@op_eq _) (@pe_op _ _ _ _ _ _ _ _ (@op_mod _) (@pe_ix _ _ _ _ _ _ _ (@ix_list _) (@pv _ 0 _ _ (by rfl) (by first | exact Or.inl rfl | exact Or.inr (Or.inl rfl) | exact Or.inr (Or.inr rfl)) (by decide) (by decide)) (@pe_int _ _ _ _) (fun _ _ => rfl)) (@pe_int _ _ _ _)) (@pe_int _ _ _ _) (@nomark _ _ (by decide) (by decide)))))) (@pss_one _ _ _ (@ps_asg _ _ _ _ _ _ (@pe_int _ _ _ _) (@pg_sub _ _ _ _ _ _ _ (@pv _ 2 _ _ (by rfl) (by first | exact Or.inl rfl | exact Or.inr (Or.inl rfl) | exact Or.inr (Or.inr rfl)) (by decide) (by decide)) (@pe_int _ _ _ _) (@set_list _) (by intro _; rfl)) (by rfl) (by rfl) (by rfl))) (@pss_nil _)) (@pss_cons _ _ _ _ _ (@ps_if _ _ _ _ _ _ _ _ (@pt_cmpR _ _ _ _ _ _ _ _ (@op_eq _) (@pv _ 1 _ _ (by rfl) (by first | exact Or.inl rfl | exact Or.inr (Or.inl rfl) | exact Or.inr (Or.inr rfl)) (by decide) (by decide)) (@pe_int _ _ _ _) (@nomark _ _ (by decide) (by decide))) (@pss_one _ _ _ (@ps_asg _ _ _ _ _ _ (@pe_op _ _ _ _ _ _ _ _ (@op_fdivB _) (@pe_ix _ _ _ _ _ _ _ (@ix_list _) (@pv _ 2 _ _ (by rfl) (by first | exact Or.inl rfl | exact Or.inr (Or.inl rfl) | exact Or.inr (Or.inr rfl)) (by decide) (by decide)) (@pe_int _ _ _ _) (fun _ _ => rfl)) (@pe_int _ _ _ _)) (@pg_sub _ _ _ _ _ _ _ (@pv _ 2 _ _ (by rfl) (by first | exact Or.inl rfl | exact Or.inr (Or.inl rfl) | exact Or.inr (Or.inr rfl)) (by decide) (by decide)) (@pe_int _ _ _ _) (@set_list _) (by intro _; rfl)) (by rfl) (by rfl) (by rfl))) (@pss_nil _)) (@pss_one _ _ _ (@ps_ret _ _ _ _ (@pv _ 2 _ _ (by rfl) (by first | exact Or.inl rfl | exact Or.inr (Or.inl rfl) | exact Or.inr (Or.inr rfl)) (by decide) (by decide)))))))), ?_⟩
 have hl : (ns.map V.int).length = ns.length := List.length_map _
 refine ⟨(by show 3 ≤ sizeLine; decide), fun p hp => ?_⟩
 have sq : ∀ o, SqL K (upd H p o) a (ns.map V.int) := fun o => (same_new hp o).seq hS
 -- the number
 dsimp only [gName]
 refine seq_mid (fun σ H' => ∃ x : Int, σ = [some (.ref a), some (.int k), some (.ref p)] ∧ H' = upd H p (.lst [.int x, .int 0, .int 1]) ∧ 0 ≤ x ∧ x < 10 ^ 121 ∧ (x = 0 ∨ k < (ns.length : Int))) (fun nx kk => ?_) ?_
 ·refine ⟨_, rfl, _, rfl, a, _, rfl, .inl (sq _), _, _, rfl, rfl, _, rfl, ?_⟩
  refine ite2 (fun c => ?_) (fun c => ?_)
  ·have c' : k < ((ns.map V.int).length : Int) := of_decide_eq_true c
   rw [hl] at c'
   obtain ⟨v, hv⟩ := atI_ints h0 c'
   refine ⟨_, rfl, _, rfl, a, _, _, _, rfl, rfl, sq _, hv, _, _, rfl, rfl, ⟨by decide, by decide, by decide⟩, _, _, rfl, rfl, ⟨by decide, by decide, by decide⟩, _, _, rfl, rfl, ⟨⟨by decide, by decide⟩, by decide, by decide⟩, _, _, rfl, rfl, (by show (0 : Int) < _; decide), ?_⟩
   refine ⟨_, rfl, p, _, _, 0, rfl, rfl, upd_same, rfl, ?_⟩
   refine kk _ _ ⟨_, rfl, upd_upd, ?_, ?_, .inr c'⟩
   ·exact Int.emod_nonneg _ (by decide)
   ·exact Int.lt_trans (Int.emod_lt_of_pos _ (by decide)) (by decide)
  ·exact kk _ _ ⟨0, rfl, rfl, by decide, by decide, .inl rfl⟩
 rintro σ H' ⟨x, rfl, rfl, x0, x1, xk⟩
 -- the way
 refine seq_mid (fun σ H' => ∃ m : Int, σ = [some (.ref a), some (.int k), some (.ref p)] ∧ H' = upd H p (.lst [.int x, .int 0, .int m])) (fun nx kk => ?_) ?_
 ·refine ⟨_, rfl, p, _, _, _, rfl, rfl, SqL.of upd_same, rfl, _, _, rfl, rfl, ⟨by decide, by decide, by decide⟩, _, _, rfl, rfl, _, rfl, ?_⟩
  refine ite2 (fun c => ?_) (fun c => ?_)
  ·have c' : (10 : Int) ^ 18 ≤ x := of_decide_eq_true c
   have hk : k < (ns.length : Int) := by
    rcases xk with z | z
    ·rw [z] at c'; exact absurd c' (by decide)
    ·exact z
   obtain ⟨v, hv⟩ := atI_ints (k := 0) (ns := ns) (Int.le_refl 0) (by omega)
   refine ⟨_, rfl, a, _, _, _, rfl, rfl, sq _, hv, _, _, rfl, rfl, (by show (0 : Int) < _; decide), rfl, _, rfl, ?_⟩
   refine ite2 (fun c => ?_) (fun c => ?_)
   ·refine ⟨_, rfl, p, _, _, 2, rfl, rfl, upd_same, rfl, ?_⟩
    exact kk _ _ ⟨0, rfl, upd_upd⟩
   ·exact kk _ _ ⟨1, rfl, rfl⟩
  ·refine iteF ?_
   exact kk _ _ ⟨1, rfl, rfl⟩
 rintro σ H' ⟨m, rfl, rfl⟩
 refine seq_mid (fun σ H' => ∃ y : Int, σ = [some (.ref a), some (.int k), some (.ref p)] ∧ H' = upd H p (.lst [.int y, .int 0, .int m]) ∧ 0 ≤ y ∧ y < 10 ^ 121) (fun nx kk => ?_) ?_
 ·refine ⟨_, rfl, rfl, _, rfl, ?_⟩
  refine ite2 (fun c => ?_) (fun c => ?_)
  ·refine ⟨_, rfl, p, _, _, _, rfl, rfl, SqL.of upd_same, rfl, _, _, rfl, rfl, ⟨by decide, by decide⟩, _, rfl, p, _, _, 0, rfl, rfl, upd_same, rfl, ?_⟩
   exact kk _ _ ⟨x / 2, rfl, upd_upd, by omega, by omega⟩
  ·exact kk _ _ ⟨x, rfl, rfl, x0, x1⟩
 rintro σ H' ⟨y, rfl, rfl, y0, y1⟩
 refine ⟨_, rfl, ?_⟩
 exact q p _ hp ⟨y, 0, m, upd_same, y0, y1, Int.le_refl _, Int.le_refl _⟩ (same_new hp _)

theorem sc_pick : FnScope ["_law_hand_here", "_law_many", "_law_found", "_law_low", "_law_by", "_law_one", "_law_two"] ["_law_hand_here", "_law_many"] (defScope (top 38)) := by walk_at "s"
def lim (n : Nat) : Int := 10 ^ (6 + 5 * n)
def spPickN : Nat → Sp
 | 0 => fun _ _ _ _ => False
 | n + 1 => fun vs H Q _ => ∃ (p : Addr) (many b : Int), vs = [.ref p, .int many] ∧ 0 < many ∧ many ≤ lim n ∧ HandAt H p b ∧ b + 2 ^ n ≤ 2 ^ 60 ∧ n ≤ 12 ∧
  ∀ (r : Int) (H' : Hp), 0 ≤ r → r < many → HandAt H' p (b + 2 ^ n) → Oth p H H' → Q (.int r) H'
theorem lim_next {n : Nat} {m : Int} (h0 : 0 < m) (h : m ≤ lim (n + 1)) : m / 1000000 + 1 ≤ lim n := by
 have e : lim (n + 1) = 100000 * lim n := by
  unfold lim
  rw [show 6 + 5 * (n + 1) = (6 + 5 * n) + 5 from by omega, Int.pow_add]
  rw [show (10 : Int) ^ 5 = 100000 from by decide, Int.mul_comm]
 have e1 : (1000000 : Int) ≤ lim n := by
  unfold lim
  rw [Int.pow_add]
  have : (0 : Int) < 10 ^ (5 * n) := Int.pow_pos (by decide)
  rw [show (10 : Int) ^ 6 = 1000000 from by decide]
  have h1 : (1 : Int) ≤ 10 ^ (5 * n) := this
  have := Int.mul_le_mul_of_nonneg_left h1 (show (0 : Int) ≤ 1000000 by decide)
  rw [Int.mul_one] at this
  exact this
 omega
theorem lim_big {n : Nat} : (1000000 : Int) ≤ lim n := by
 unfold lim
 rw [Int.pow_add]
 have : (0 : Int) < 10 ^ (5 * n) := Int.pow_pos (by decide)
 rw [show (10 : Int) ^ 6 = 1000000 from by decide]
 have h1 : (1 : Int) ≤ 10 ^ (5 * n) := this
 have := Int.mul_le_mul_of_nonneg_left h1 (show (0 : Int) ≤ 1000000 by decide)
 rw [Int.mul_one] at this
 exact this
theorem lim_le {n : Nat} (h : n ≤ 12) : lim n < 2 ^ 250 := by
 unfold lim
 refine Int.lt_of_le_of_lt (b := 10 ^ 66) ?_ (by decide)
 have : (10 : Nat) ^ (6 + 5 * n) ≤ 10 ^ 66 := Nat.pow_le_pow_right (by decide) (by omega)
 exact_mod_cast this
theorem mul_in {u v A B : Int} (h1 : 0 ≤ u) (h2 : u ≤ A) (h3 : 0 ≤ v) (h4 : v ≤ B) : 0 ≤ u * v ∧ u * v ≤ A * B :=
 ⟨Int.mul_nonneg h1 h3, Int.le_trans (Int.mul_le_mul_of_nonneg_right h2 h3) (Int.mul_le_mul_of_nonneg_left h4 (Int.le_trans h1 h2))⟩
theorem pow20 {n : Nat} (h : n ≤ 12) : (1 : Int) ≤ 2 ^ n ∧ (2 : Int) ^ n ≤ 1048576 := by
 have h1 : 1 ≤ 2 ^ n := Nat.one_le_two_pow
 have h2 : 2 ^ n ≤ 2 ^ 20 := Nat.pow_le_pow_right (by decide) (by omega)
 have e : ((2 : Int) ^ n) = ((2 ^ n : Nat) : Int) := by norm_cast
 rw [e]
 omega
theorem ok_pickN (D : Dat K mg "_law_pick" "_law_pick" (top 38) ["_law_hand_here", "_law_many"]) (NE : NoErr CX) : ∀ n : Nat, Cal P w K mg base CX "_law_pick" n ["_law_hand_here", "_law_many"] (spPickN n)
 | 0 => Dat.none D fun _ _ _ _ h => h
 | n + 1 => by
  have c__law_pick := ok_pickN D NE n
  have S := sc_pick
  walk_at "d"
  ·obtain ⟨p, many, b, rfl, _⟩ := h
   rfl
  obtain ⟨p, many, b, rfl, hm, hlm, hh, hb, hn, q⟩ := h
  have hm6 := Int.lt_of_le_of_lt hlm (lim_le hn)
  refine ⟨_, (@pss_cons _ _ _ _ _ (@ps_if _ _ _ _ _ _ _ _ (@pt_cmpR _ _ _ _ _ _ _ _ (@op_eq _) (@pe_ix _ _ _ _ _ _ _ (@ix_list _) (@pv _ 0 _ _ (by rfl) (by first | exact Or.inl rfl | exact Or.inr (Or.inl rfl) | exact Or.inr (Or.inr rfl)) (by decide) (by decide)) (@pe_int _ _ _ _) (fun _ _ => rfl)) (@pe_int _ _ _ _) (@nomark _ _ (by decide) (by decide))) (@pss_cons _ _ _ _ _ (@ps_set _ _ 2 _ _ _ _ S.nd rfl (by first | exact Or.inl rfl | exact Or.inr rfl) (@pe_op _ _ _ _ _ _ _ _ (@op_mod _) (@pe_ix _ _ _ _ _ _ _ (@ix_list _) (@pv _ 0 _ _ (by rfl) (by first | exact Or.inl rfl | exact Or.inr (Or.inl rfl) | exact Or.inr (Or.inr rfl)) (by decide) (by decide)) (@pe_int _ _ _ _) (fun _ _ => rfl)) (@pv _ 1 _ _ (by rfl) (by first | exact Or.inl rfl | exact Or.inr (Or.inl rfl) | exact Or.inr (Or.inr rfl)) (by decide) (by decide))) (by rfl) (by first | exact .inl rfl | exact .inr rfl | assumption)) (@pss_cons _ _ _ _ _ (@ps_asg _ _ _ _ _ _ (@pe_op _ _ _ _ _ _ _ _ (@op_fdivB _) (@pe_ix _ _ _ _ _ _ _ (@ix_list _) (@pv _ 0 _ _ (by rfl) (by first | exact Or.inl rfl | exact Or.inr (Or.inl rfl) | exact Or.inr (Or.inr rfl)) (by decide) (by decide)) (@pe_int _ _ _ _) (fun _ _ => rfl)) (@pv _ 1 _ _ (by rfl) (by first | exact Or.inl rfl | exact Or.inr (Or.inl rfl) | exact Or.inr (Or.inr rfl)) (by decide) (by decide))) (@pg_sub _ _ _ _ _ _ _ (@pv _ 0 _ _ (by rfl) (by first | exact Or.inl rfl | exact Or.inr (Or.inl rfl) | exact Or.inr (Or.inr rfl)) (by decide) (by decide)) (@pe_int _ _ _ _) (@set_list _) (by intro _; rfl)) (by rfl) (by rfl) (by rfl)) (@pss_one _ _ _ (@ps_ret _ _ _ _ (@pv _ 2 _ _ (by rfl) (by first | exact Or.inl rfl | exact Or.inr (Or.inl rfl) | exact Or.inr (Or.inr rfl)) (by decide) (by decide)))))) (@pss_nil _)) (@pss_cons _ _ _ _ _ (@ps_if _ _ _ _ _ _ _ _ (@pt_cmpR _ _ _ _ _ _ _ _ (@op_gt _) (@pv _ 1 _ _ (by rfl) (by first | exact Or.inl rfl | exact Or.inr (Or.inl rfl) | exact Or.inr (Or.inr rfl)) (by decide) (by decide)) (@pe_int _ _ _ _) (@nomark _ _ (by decide) (by decide))) (@pss_cons _ _ _ _ _ (@ps_set _ _ 3 _ _ _ _ S.nd rfl (by first | exact Or.inl rfl | exact Or.inr rfl) (@pe_fn _ _ _ _ _ _ _ _ _ _ _ _ c__law_pick (hr.mono (by first | decide | omega)) NE.pass (@pa_cons _ _ _ _ _ (@pv _ 0 _ _ (by rfl) (by first | exact Or.inl rfl | exact Or.inr (Or.inl rfl) | exact Or.inr (Or.inr rfl)) (by decide) (by decide)) (@pa_cons _ _ _ _ _ (@pe_int _ _ _ _) (@pa_nil _) (by rfl)) (by rfl)) (by rfl) (by decide) (by rfl) (by rfl)) (by rfl) (by first | exact .inl rfl | exact .inr rfl | assumption)) (@pss_one _ _ _ (@ps_ret _ _ _ _ (@pe_op _ _ _ _ _ _ _ _ (@op_mod _) (@pe_op _ _ _ _ _ _ _ _ (@op_add _) (@pv _ 3 _ _ (by rfl) (by first | exact Or.inl rfl | exact Or.inr (Or.inl rfl) | exact Or.inr (Or.inr rfl)) (by decide) (by decide)) (@pe_op _ _ _ _ _ _ _ _ (@op_mulB _) (@pe_int _ _ _ _) (@pe_fn _ _ _ _ _ _ _ _ _ _ _ _ c__law_pick (hr.mono (by first | decide | omega)) NE.pass (@pa_cons _ _ _ _ _ (@pv _ 0 _ _ (by rfl) (by first | exact Or.inl rfl | exact Or.inr (Or.inl rfl) | exact Or.inr (Or.inr rfl)) (by decide) (by decide)) (@pa_cons _ _ _ _ _ (@pe_op _ _ _ _ _ _ _ _ (@op_add _) (@pe_op _ _ _ _ _ _ _ _ (@op_fdivB _) (@pv _ 1 _ _ (by rfl) (by first | exact Or.inl rfl | exact Or.inr (Or.inl rfl) | exact Or.inr (Or.inr rfl)) (by decide) (by decide)) (@pe_int _ _ _ _)) (@pe_int _ _ _ _)) (@pa_nil _) (by rfl)) (by rfl)) (by rfl) (by decide) (by rfl) (by rfl)))) (@pv _ 1 _ _ (by rfl) (by first | exact Or.inl rfl | exact Or.inr (Or.inl rfl) | exact Or.inr (Or.inr rfl)) (by decide) (by decide)))))) (@pss_nil _)) (@pss_cons _ _ _ _ _ (@ps_asg _ _ _ _ _ _ (@pe_op _ _ _ _ _ _ _ _ (@op_add _) (@pe_ix _ _ _ _ _ _ _ (@ix_list _) (@pv _ 0 _ _ (by rfl) (by first | exact Or.inl rfl | exact Or.inr (Or.inl rfl) | exact Or.inr (Or.inr rfl)) (by decide) (by decide)) (@pe_int _ _ _ _) (fun _ _ => rfl)) (@pe_int _ _ _ _)) (@pg_sub _ _ _ _ _ _ _ (@pv _ 0 _ _ (by rfl) (by first | exact Or.inl rfl | exact Or.inr (Or.inl rfl) | exact Or.inr (Or.inr rfl)) (by decide) (by decide)) (@pe_int _ _ _ _) (@set_list _) (by intro _; rfl)) (by rfl) (by rfl) (by rfl)) (@pss_cons _ _ _ _ _ (@ps_set _ _ 4 _ _ _ _ S.nd rfl (by first | exact Or.inl rfl | exact Or.inr rfl) (@pe_op _ _ _ _ _ _ _ _ (@op_add _) (@pe_int _ _ _ _) (@pe_op _ _ _ _ _ _ _ _ (@op_mulB _) (@pe_op _ _ _ _ _ _ _ _ (@op_mulB _) (@pe_int _ _ _ _) (@pe_ix _ _ _ _ _ _ _ (@ix_list _) (@pv _ 0 _ _ (by rfl) (by first | exact Or.inl rfl | exact Or.inr (Or.inl rfl) | exact Or.inr (Or.inr rfl)) (by decide) (by decide)) (@pe_int _ _ _ _) (fun _ _ => rfl))) (@pe_ix _ _ _ _ _ _ _ (@ix_list _) (@pv _ 0 _ _ (by rfl) (by first | exact Or.inl rfl | exact Or.inr (Or.inl rfl) | exact Or.inr (Or.inr rfl)) (by decide) (by decide)) (@pe_int _ _ _ _) (fun _ _ => rfl)))) (by rfl) (by first | exact .inl rfl | exact .inr rfl | assumption)) (@pss_cons _ _ _ _ _ (@ps_set _ _ 5 _ _ _ _ S.nd rfl (by first | exact Or.inl rfl | exact Or.inr rfl) (@pe_op _ _ _ _ _ _ _ _ (@op_mod _) (@pe_op _ _ _ _ _ _ _ _ (@op_mulB _) (@pe_op _ _ _ _ _ _ _ _ (@op_add _) (@pe_op _ _ _ _ _ _ _ _ (@op_mod _) (@pe_ix _ _ _ _ _ _ _ (@ix_list _) (@pv _ 0 _ _ (by rfl) (by first | exact Or.inl rfl | exact Or.inr (Or.inl rfl) | exact Or.inr (Or.inr rfl)) (by decide) (by decide)) (@pe_int _ _ _ _) (fun _ _ => rfl)) (@pe_int _ _ _ _)) (@pe_int _ _ _ _)) (@pv _ 4 _ _ (by rfl) (by first | exact Or.inl rfl | exact Or.inr (Or.inl rfl) | exact Or.inr (Or.inr rfl)) (by decide) (by decide))) (@pe_int _ _ _ _)) (by rfl) (by first | exact .inl rfl | exact .inr rfl | assumption)) (@pss_cons _ _ _ _ _ (@ps_set _ _ 6 _ _ _ _ S.nd rfl (by first | exact Or.inl rfl | exact Or.inr rfl) (@pe_op _ _ _ _ _ _ _ _ (@op_mod _) (@pe_op _ _ _ _ _ _ _ _ (@op_add _) (@pe_op _ _ _ _ _ _ _ _ (@op_mulB _) (@pv _ 5 _ _ (by rfl) (by first | exact Or.inl rfl | exact Or.inr (Or.inl rfl) | exact Or.inr (Or.inr rfl)) (by decide) (by decide)) (@pv _ 5 _ _ (by rfl) (by first | exact Or.inl rfl | exact Or.inr (Or.inl rfl) | exact Or.inr (Or.inr rfl)) (by decide) (by decide))) (@pe_op _ _ _ _ _ _ _ _ (@op_mulB _) (@pe_int _ _ _ _) (@pv _ 5 _ _ (by rfl) (by first | exact Or.inl rfl | exact Or.inr (Or.inl rfl) | exact Or.inr (Or.inr rfl)) (by decide) (by decide)))) (@pe_int _ _ _ _)) (by rfl) (by first | exact .inl rfl | exact .inr rfl | assumption)) (@pss_one _ _ _ (@ps_ret _ _ _ _ (@pe_op _ _ _ _ _ _ _ _ (@op_mod _) (@pe_op _ _ _ _ _ _ _ _ (@op_fdivB _) (@pe_op _ _ _ _ _ _ _ _ (@op_mod _) (@pe_op _ _ _ _ _ _ _ _ (@op_mulB _) (@pv _ 6 _ _ (by rfl) (by first | exact Or.inl rfl | exact Or.inr (Or.inl rfl) | exact Or.inr (Or.inr rfl)) (by decide) (by decide)) (@pe_int _ _ _ _)) (@pe_int _ _ _ _)) (@pe_int _ _ _ _)) (@pv _ 1 _ _ (by rfl) (by first | exact Or.inl rfl | exact Or.inr (Or.inl rfl) | exact Or.inr (Or.inr rfl)) (by decide) (by decide))))))))))), ?_⟩
  obtain ⟨a, d, c, hp, a0, a1, d0, d1⟩ := id hh
  have p20 := pow20 hn
  refine ⟨_, rfl, p, _, _, _, rfl, rfl, SqL.of hp, rfl, rfl, _, rfl, ?_⟩
  refine ite2 (fun cc => ?_) (fun cc => ?_)
  ·refine ⟨_, rfl, p, _, _, _, rfl, rfl, SqL.of hp, rfl, _, rfl, _, _, rfl, rfl, hm, ?_⟩
   refine ⟨_, rfl, p, _, _, _, rfl, rfl, SqL.of hp, rfl, _, rfl, _, _, rfl, rfl, ⟨hm, hm6⟩, _, rfl, p, _, _, 0, rfl, rfl, hp, rfl, _, rfl, ?_⟩
   refine q _ _ (Int.emod_nonneg _ (by omega)) (Int.emod_lt_of_pos _ hm) ⟨a / many, d, c, upd_same, Int.ediv_nonneg a0 (by omega), Int.lt_of_le_of_lt (Int.ediv_le_self _ a0) a1, d0, by omega⟩ ((Oth.refl p H).upd _)
  refine ⟨_, rfl, _, _, rfl, rfl, _, rfl, ?_⟩
  refine ite2 (fun cg => ?_) (fun cg => ?_)
  ·have cg' : (1000000 : Int) < many := of_decide_eq_true cg
   -- two smaller ones
   cases n with
   | zero =>
    have : many ≤ 1000000 := hlm
    omega
   | succ n =>
    have p21 := pow20 (n := n) (by omega)
    have e2 : (2 : Int) ^ (n + 1) = 2 * 2 ^ n := by rw [Int.pow_succ, Int.mul_comm]
    have hm2 := lim_next hm hlm
    have hm3 := lim_le (n := n) (by omega)
    have hm4 := Int.ediv_nonneg (Int.le_of_lt hm) (show (0 : Int) ≤ 1000000 by decide)
    rw [e2] at hb
    refine ⟨_, rfl, p, 1000000, b, rfl, by decide, lim_big, hh, by omega, by omega, fun r1 H1 r10 r11 hh1 o1 => ?_⟩
    refine ⟨_, rfl, _, rfl, _, rfl, _, _, rfl, rfl, ⟨by decide, by decide⟩, _, _, rfl, rfl, p, _, _, rfl, by omega, hm2, hh1, by omega, by omega, fun r2 H2 r20 r21 hh2 o2 => ?_⟩
    ·refine ⟨_, _, rfl, rfl, ⟨⟨by decide, by decide⟩, by omega, by omega⟩, _, _, rfl, rfl, _, rfl, _, _, rfl, rfl, hm, ?_⟩
     refine q _ _ (Int.emod_nonneg _ (by omega)) (Int.emod_lt_of_pos _ hm) (hh2.mono ?_) (o1.trans o2)
     show b + 2 ^ n + 2 ^ n ≤ b + 2 ^ (n + 1)
     omega
  ·have hb60 : b ≤ 1152921504606846976 := by omega
   refine ⟨_, rfl, p, _, _, _, rfl, rfl, SqL.of hp, rfl, _, _, rfl, rfl, _, rfl, p, _, _, 1, rfl, rfl, hp, rfl, ?_⟩
   have hp1 : (upd H p (HO.lst [.int a, .int (d + 1), .int c])) p = some (.lst [.int a, .int (d + 1), .int c]) := upd_same
   have m1 := mul_in (u := 39916801 * (d + 1)) (v := d + 1) (A := 2 ^ 90) (B := 2 ^ 62) (by omega) (by omega) (by omega) (by omega)
   have m0 := Int.emod_nonneg a (show (2147483629 : Int) ≠ 0 by decide)
   have m0' := Int.emod_lt_of_pos a (show (0 : Int) < 2147483629 by decide)
   refine ⟨_, rfl, p, _, _, _, rfl, rfl, SqL.of hp1, rfl, _, _, rfl, rfl, ⟨⟨by decide, by decide⟩, by omega, by omega⟩, _, rfl, p, _, _, _, rfl, rfl, SqL.of hp1, rfl, _, _, rfl, rfl, ⟨⟨by omega, by omega⟩, by omega, by omega⟩, _, _, rfl, rfl, ?_⟩
   refine ⟨_, rfl, p, _, _, _, rfl, rfl, SqL.of hp1, rfl, _, _, rfl, rfl, (by show (0 : Int) < _; decide), _, _, rfl, rfl, _, rfl, _, _, rfl, rfl, ⟨⟨by omega, by omega⟩, by omega, by omega⟩, _, _, rfl, rfl, (by show (0 : Int) < _; decide), ?_⟩
   generalize hx : (a % 2147483629 + 11) * (716151937 + 39916801 * (d + 1) * (d + 1)) % 998244353 = x
   have x0 : 0 ≤ x := hx ▸ Int.emod_nonneg _ (by decide)
   have x1 : x < 998244353 := hx ▸ Int.emod_lt_of_pos _ (by decide)
   refine ⟨_, rfl, _, rfl, _, _, rfl, rfl, ⟨⟨by omega, by omega⟩, by omega, by omega⟩, _, rfl, _, _, rfl, rfl, ⟨⟨by decide, by decide⟩, by omega, by omega⟩, _, _, rfl, rfl, _, _, rfl, rfl, (by show (0 : Int) < _; decide), ?_⟩
   generalize hy : (x * x + 48271 * x) % 1000000007 = y
   have y0 : 0 ≤ y := hy ▸ Int.emod_nonneg _ (by decide)
   have y1 : y < 1000000007 := hy ▸ Int.emod_lt_of_pos _ (by decide)
   refine ⟨_, rfl, _, _, rfl, rfl, ⟨⟨by omega, by omega⟩, by decide, by decide⟩, _, _, rfl, rfl, (by show (0 : Int) < _; decide), _, _, rfl, rfl, ⟨by decide, by decide⟩, _, rfl, _, _, rfl, rfl, hm, ?_⟩
   exact q _ _ (Int.emod_nonneg _ (by omega)) (Int.emod_lt_of_pos _ hm) ⟨a, d + 1, c, hp1, a0, a1, by omega, by omega⟩ ((Oth.refl p H).upd _)
def spPick : Sp := fun vs H Q _ => ∃ (p : Addr) (many b : Int), vs = [.ref p, .int many] ∧ 0 < many ∧ many ≤ 10 ^ 50 ∧ HandAt H p b ∧ b ≤ 1000000000 ∧
  ∀ (r : Int) (H' : Hp), 0 ≤ r → r < many → HandAt H' p (b + 1024) → Oth p H H' → Q (.int r) H'
theorem ok_pick (D : Dat K mg "_law_pick" "_law_pick" (top 38) ["_law_hand_here", "_law_many"]) (NE : NoErr CX) : Cal P w K mg base CX "_law_pick" 11 ["_law_hand_here", "_law_many"] spPick :=
 (ok_pickN D NE 11).imp fun vs H Q E ⟨p, many, b, e, h1, h2, hh, hb, q⟩ => ⟨p, many, b, e, h1, Int.le_trans h2 (by decide), hh, (by show b + 1024 ≤ 1152921504606846976; omega), by decide, q⟩

end
end Law

namespace Law
open PySem PySem.Spec PyProof.Rows L2 L3 L4
def HandO (n : Int) : Ob := ⟨fun _ o => ∃ a b c : Int, o = .lst [.int a, .int b, .int c] ∧ 0 ≤ a ∧ a < 10 ^ 121 ∧ 0 ≤ b ∧ b ≤ n, fun _ h => h⟩
theorem HandO.at {n : Int} {H : Hp} {p : Addr} (h : ∃ o, H p = some o ∧ (HandO n).p H o) : HandAt H p n := by
 obtain ⟨o, e, a, b, c, rfl, r⟩ := h
 exact ⟨a, b, c, e, r⟩
theorem HandAt.ob {n : Int} {H : Hp} {p : Addr} (h : HandAt H p n) : ∃ o, H p = some o ∧ (HandO n).p H o := by
 obtain ⟨a, b, c, e, r⟩ := h
 exact ⟨_, e, a, b, c, rfl, r⟩
theorem HandAt.ts {n : Int} {H H' : Hp} {p : Addr} (h : HandAt H p n) (o : Oth p H H') : Chg p H H' := by
 obtain ⟨a, b, c, e, _⟩ := h
 exact ⟨o, fun q xs hq => o q _ hq fun z => by rw [z, e] at hq; cases hq⟩
section
variable {K : PySem.W.Frag} {P : Addr → Prop} {H0 H : Hp} {l l' : List (Addr × Ob)} {fs : List Pr} {p : Addr} {Q : VK} {E : XK}
theorem use_hand {a : Addr} {ns : List Int} {k : Int} (L : Led P H0 H l fs) (hS : SqL K H a (ns.map V.int)) (h63 : ns.length ≤ 63) (h0 : 0 ≤ k)
  (q : ∀ p H', H p = none → Led P H0 H' ((p, HandO 0) :: l) fs → Same H H' → Q (.ref p) H') : spHand K [.ref a, .int k] H Q E :=
 ⟨a, ns, k, rfl, hS, h63, h0, fun p H' np hh s => q p H' np ⟨fun x hx => by
   rcases List.mem_cons.mp hx with rfl | hx
   ·exact hh.ob
   ·exact (L.keep s).at_ x hx,
  by
   rw [List.map_cons, List.nodup_cons]
   refine ⟨fun z => ?_, L.nd⟩
   obtain ⟨x, hx, e⟩ := List.mem_map.mp z
   exact (L.fresh np).1 x hx e,
  fun x hx => by
   rcases List.mem_cons.mp hx with rfl | hx
   ·exact (L.fresh np).2
   ·exact L.own x hx, (L.keep s).fr, (L.keep s).st⟩ s⟩
theorem use_pick {many b : Int} (L : Led P H0 H l fs) (m : Put p (HandO b) (HandO (b + 1024)) l l') (h0 : 0 < many) (h1 : many ≤ 10 ^ 50) (hb : b ≤ 1000000000)
  (q : ∀ r H', 0 ≤ r → r < many → Led P H0 H' l' fs → Chg p H H' → Q (.int r) H') : spPick [.ref p, .int many] H Q E :=
 have hh := HandO.at (L.at_ _ m.mem)
 ⟨p, many, b, rfl, h0, h1, hh, hb, fun r H' r0 r1 hh' o => q r H' r0 r1 (L.set m (hh.ts o) hh'.ob) (hh.ts o)⟩
theorem led_hand {b : Int} (h : HandAt H p b) : Led (· = p) H H [(p, HandO b)] [] :=
 ⟨fun x hx => by rw [List.mem_singleton.mp hx]; exact h.ob, by simp, fun x hx => .inl (by rw [List.mem_singleton.mp hx]), fun _ _ h _ => h, fun _ h => by simp at h⟩
end
end Law

namespace Law
open PySem PySem.Spec PyProof.Rows L2 L3 L4
theorem led_one {H : Hp} {q : Addr} {o : HO} (h : H q = some o) : Led (· = q) H H [(q, Eo o)] [] :=
 ⟨fun x hx => by rw [List.mem_singleton.mp hx]; exact ⟨o, h, rfl⟩, by simp, fun x hx => .inl (by rw [List.mem_singleton.mp hx]), fun _ _ h _ => h, fun _ h => by simp at h⟩
theorem sum_one : ∀ {zs : List Str}, (∀ z ∈ zs, z.length = 1) → (zs.map (·.length)).sum = zs.length
 | [], _ => rfl
 | z :: zs, h => by
  rw [List.map_cons, List.sum_cons, h z List.mem_cons_self, sum_one fun y hy => h y (List.mem_cons_of_mem _ hy), List.length_cons]
  omega
theorem led_two {H : Hp} {p q : Addr} {b : Int} {o : HO} (hp : HandAt H p b) (hq : H q = some o) (ne : p ≠ q) : Led (fun x => x = p ∨ x = q) H H [(p, HandO b), (q, Eo o)] [] :=
 ⟨fun x hx => by
  rcases List.mem_cons.mp hx with rfl | hx
  ·exact hp.ob
  ·rw [List.mem_singleton.mp hx]; exact ⟨o, hq, rfl⟩, by simp [ne], fun x hx => .inl (by
  rcases List.mem_cons.mp hx with rfl | hx
  ·exact .inl rfl
  ·rw [List.mem_singleton.mp hx]; exact .inr rfl), fun _ _ h _ => h, fun _ h => by simp at h⟩
theorem str_at {z : Str} {r : Int} (h0 : 0 ≤ r) (h1 : r < z.cps.toList.length) : ∃ c, atI z.cps.toList r = some c := by
 obtain ⟨n, rfl⟩ := Int.eq_ofNat_of_zero_le h0
 exact ⟨_, atI_nat (List.getElem?_eq_getElem (by omega))⟩
theorem let_at : ∀ n, n < 26 → letC (lets.cps.toList.getD n 0) = true := by decide +kernel
theorem lets_len : lets.cps.toList.length = 26 := by decide +kernel
theorem let_of {r : Int} {c : Nat} (h0 : 0 ≤ r) (h1 : r < 26) (h : atI lets.cps.toList r = some c) : letC c = true := by
 obtain ⟨n, rfl⟩ := Int.eq_ofNat_of_zero_le h0
 have hn : n < lets.cps.toList.length := by rw [lets_len]; omega
 have e := (atI_nat (List.getElem?_eq_getElem hn)).symm.trans h
 have := let_at n (by omega)
 rw [List.getD_eq_getElem?_getD, List.getElem?_eq_getElem hn] at this
 cases e
 exact this
def NmOk (z : Str) : Prop := nameB z.cps.toList = true
theorem nm_of {l : List Nat} (h1 : 1 ≤ l.length) (h2 : l.length ≤ 8) (h : ∀ c ∈ l, letC c = true) : NmOk ⟨l.toArray⟩ := by
 show (decide (1 ≤ l.length) && (decide (l.length ≤ 8) && l.all letC)) = true
 rw [decide_eq_true h1, decide_eq_true h2, List.all_eq_true.mpr h]; rfl
theorem NmOk.len {z : Str} (h : NmOk z) : z.length ≤ 8 := by
 have h : (decide (1 ≤ z.cps.toList.length) && (decide (z.cps.toList.length ≤ 8) && z.cps.toList.all letC)) = true := h
 rw [Bool.and_eq_true, Bool.and_eq_true] at h
 rw [len_of]
 exact of_decide_eq_true h.2.1
theorem join_ones : ∀ l : List Nat, Txt.join ("" : Str) (l.map fun c => (⟨#[c]⟩ : Str)) = ⟨l.toArray⟩ := by
 intro l
 unfold Txt.join
 rw [StrLaws.glued_eq_join]
 induction l with
 | nil => rfl
 | cons c r ih =>
  cases r with
  | nil => rfl
  | cons d r =>
   show (⟨#[c]⟩ : Str) ++ ("" : Str) ++ Str.join "" (List.map (fun c => (⟨#[c]⟩ : Str)) (d :: r)) = _
   rw [ih, show (("" : Str)) = Str.empty from rfl, Str.append_empty]
   show (⟨#[c] ++ (d :: r).toArray⟩ : Str) = ⟨(c :: d :: r).toArray⟩
   simp
section
variable {P : Program} {w : World} {K : PySem.W.Frag} {mg : Str → Option Value} {base : Heap} {CX : CXT}
theorem sc_names : FnScope ["_law_cell", "_law_many", "_law_letters", "_law_size", "_law_at", "_law_base", "_law_beginnings", "_law_names_here", "_law_k", "_law_name_here"] ["_law_cell", "_law_many"] (defScope (top 40)) := by walk_at "s"
def spNames : Sp := fun vs H Q _ => ∃ (p : Addr) (b many : Int), vs = [.ref p, .int many] ∧ HandAt H p b ∧ b ≤ 1000000 ∧ 1 ≤ many ∧ many ≤ 6 ∧ ∀ (nq : Addr) (ns : List Str) (H' : Hp), H nq = none → H' nq = some (.lst (ns.map V.str)) → (∀ z ∈ ns, NmOk z) → 1 ≤ ns.length → ns.length ≤ 10 → (ns.length : Int) = many → HandAt H' p (b + 8192) → Oth p H H' → Q (.ref nq) H'
theorem ok_names (D : Dat K mg "_law_names" "_law_names" (top 40) ["_law_cell", "_law_many"]) (BT : Bt mg) (NE : NoErr CX) (c__law_pick : Cal P w K mg base CX "_law_pick" 11 ["_law_hand_here", "_law_many"] spPick) : Cal P w K mg base CX "_law_names" 12 ["_law_cell", "_law_many"] spNames := by
 have S := sc_names
 walk_at "d"
 ·obtain ⟨p, b, many, rfl, _⟩ := h
  rfl
 obtain ⟨p, b, many, rfl, hh, hb, m1, m2, q⟩ := h
 refine ⟨_, (@pss_cons _ _ _ _ _ (@ps_set _ _ 2 _ _ _ _ S.nd rfl (by first | exact Or.inl rfl | exact Or.inr rfl) (@pe_str _ _ _ _) (by rfl) (by first | exact .inl rfl | exact .inr rfl | assumption)) (@pss_cons _ _ _ _ _ (@ps_set _ _ 3 _ _ _ _ S.nd rfl (by first | exact Or.inl rfl | exact Or.inr rfl) (@pe_op _ _ _ _ _ _ _ _ (@op_add _) (@pe_int _ _ _ _) (@pe_fn _ _ _ _ _ _ _ _ _ _ _ _ c__law_pick (hr.mono (by first | decide | omega)) NE.pass (@pa_cons _ _ _ _ _ (@pv _ 0 _ _ (by rfl) (by first | exact Or.inl rfl | exact Or.inr (Or.inl rfl) | exact Or.inr (Or.inr rfl)) (by decide) (by decide)) (@pa_cons _ _ _ _ _ (@pe_int _ _ _ _) (@pa_nil _) (by rfl)) (by rfl)) (by rfl) (by decide) (by rfl) (by rfl))) (by rfl) (by first | exact .inl rfl | exact .inr rfl | assumption)) (@pss_cons _ _ _ _ _ (@ps_set _ _ 4 _ _ _ _ S.nd rfl (by first | exact Or.inl rfl | exact Or.inr rfl) (@pe_fn _ _ _ _ _ _ _ _ _ _ _ _ c__law_pick (hr.mono (by first | decide | omega)) NE.pass (@pa_cons _ _ _ _ _ (@pv _ 0 _ _ (by rfl) (by first | exact Or.inl rfl | exact Or.inr (Or.inl rfl) | exact Or.inr (Or.inr rfl)) (by decide) (by decide)) (@pa_cons _ _ _ _ _ (@pv _ 3 _ _ (by rfl) (by first | exact Or.inl rfl | exact Or.inr (Or.inl rfl) | exact Or.inr (Or.inr rfl)) (by decide) (by decide)) (@pa_nil _) (by rfl)) (by rfl)) (by rfl) (by decide) (by rfl) (by rfl)) (by rfl) (by first | exact .inl rfl | exact .inr rfl | assumption)) (@pss_cons _ _ _ _ _ (@ps_set _ _ 5 _ _ _ _ S.nd rfl (by first | exact Or.inl rfl | exact Or.inr rfl) (@pe_fn _ _ _ _ _ _ _ _ _ _ _ _ c__law_pick (hr.mono (by first | decide | omega)) NE.pass (@pa_cons _ _ _ _ _ (@pv _ 0 _ _ (by rfl) (by first | exact Or.inl rfl | exact Or.inr (Or.inl rfl) | exact Or.inr (Or.inr rfl)) (by decide) (by decide)) (@pa_cons _ _ _ _ _ (@pe_int _ _ _ _) (@pa_nil _) (by rfl)) (by rfl)) (by rfl) (by decide) (by rfl) (by rfl)) (by rfl) (by first | exact .inl rfl | exact .inr rfl | assumption)) (@pss_cons _ _ _ _ _ (@ps_set _ _ 6 _ _ _ _ S.nd rfl (by first | exact Or.inl rfl | exact Or.inr rfl) (@pe_cmpR _ _ _ _ _ _ _ _ (@op_eq _) (@pe_fn _ _ _ _ _ _ _ _ _ _ _ _ c__law_pick (hr.mono (by first | decide | omega)) NE.pass (@pa_cons _ _ _ _ _ (@pv _ 0 _ _ (by rfl) (by first | exact Or.inl rfl | exact Or.inr (Or.inl rfl) | exact Or.inr (Or.inr rfl)) (by decide) (by decide)) (@pa_cons _ _ _ _ _ (@pe_int _ _ _ _) (@pa_nil _) (by rfl)) (by rfl)) (by rfl) (by decide) (by rfl) (by rfl)) (@pe_int _ _ _ _) (@nomark _ _ (by decide) (by decide))) (by rfl) (by first | exact .inl rfl | exact .inr rfl | assumption)) (@pss_cons _ _ _ _ _ (@ps_set _ _ 7 _ _ _ _ S.nd rfl (by first | exact Or.inl rfl | exact Or.inr rfl) (@pe_lst _ _ _ _ (@pa_nil _)) (by rfl) (by first | exact .inl rfl | exact .inr rfl | assumption)) (@pss_cons _ _ _ _ _ (@ps_for _ _ _ _ _ _ _ _ PassesOwn.never rfl (@pi_range1 _ _ _ _ _ _ rfl BT.range (@pa_cons _ _ _ _ _ (@pv _ 1 _ _ (by rfl) (by first | exact Or.inl rfl | exact Or.inr (Or.inl rfl) | exact Or.inr (Or.inr rfl)) (by decide) (by decide)) (@pa_nil _) (by rfl)) (by rfl)) (@pg_name _ _ 8 _ S.nd rfl (by first | exact Or.inl rfl | exact Or.inr rfl) (by first | exact .inl rfl | exact .inr rfl | assumption)) (@pss_cons _ _ _ _ _ (@ps_set _ _ 9 _ _ _ _ S.nd rfl (by first | exact Or.inl rfl | exact Or.inr rfl) (@pe_bm _ _ _ _ _ _ _ _ _ _ _ _ PySem.F.plainAttrs_str PySem.F.slot_str_join PySem.F.type_str_join (@m_join _) (@pe_str _ _ _ _) (@pa_cons _ _ _ _ _ (@pe_comp _ _ _ _ _ _ _ _ _ _ (gName 0) _ _ rfl (@pi_range1 _ _ _ _ _ _ rfl BT.range (@pa_cons _ _ _ _ _ (@pv _ 3 _ _ (by rfl) (by first | exact Or.inl rfl | exact Or.inr (Or.inl rfl) | exact Or.inr (Or.inr rfl)) (by decide) (by decide)) (@pa_nil _) (by rfl)) (by rfl)) (@blk_of _ _ ["_law_j"] [2, 5, 8, 4] (defScope (top 40)).names ["_law_cell", "_law_many", "_law_letters", "_law_size", "_law_at", "_law_base", "_law_beginnings", "_law_names_here", "_law_k", "_law_name_here"] rfl rfl rfl (by decide +kernel)) (fun _ _ _ _ => (@pg_name _ _ 0 _ (show (blkN ["_law_cell", "_law_many", "_law_letters", "_law_size", "_law_at", "_law_base", "_law_beginnings", "_law_names_here", "_law_k", "_law_name_here"] ["_law_j"] [2, 5, 8, 4]).Nodup by decide +kernel) rfl (by first | exact Or.inl rfl | exact Or.inr rfl) (by first | exact .inl rfl | exact .inr rfl | assumption))) (fun _ _ _ _ => (@pifs_nil _)) (fun _ _ _ _ => (@pe_ix _ _ _ _ _ _ _ (@ix_str _) (@pv _ 1 _ _ (by rfl) (by first | exact Or.inl rfl | exact Or.inr (Or.inl rfl) | exact Or.inr (Or.inr rfl)) (by decide) (by decide)) (@pe_op _ _ _ _ _ _ _ _ (@op_mod _) (@pe_op _ _ _ _ _ _ _ _ (@op_add _) (@pe_op _ _ _ _ _ _ _ _ (@op_add _) (@pv _ 2 _ _ (by rfl) (by first | exact Or.inl rfl | exact Or.inr (Or.inl rfl) | exact Or.inr (Or.inr rfl)) (by decide) (by decide)) (@pe_op _ _ _ _ _ _ _ _ (@op_mulB _) (@pe_int _ _ _ _) (@pv _ 0 _ _ (by rfl) (by first | exact Or.inl rfl | exact Or.inr (Or.inl rfl) | exact Or.inr (Or.inr rfl)) (by decide) (by decide)))) (@pe_op _ _ _ _ _ _ _ _ (@op_mulB _) (@pv _ 3 _ _ (by rfl) (by first | exact Or.inl rfl | exact Or.inr (Or.inl rfl) | exact Or.inr (Or.inr rfl)) (by decide) (by decide)) (@pe_callTy _ _ _ _ _ _ _ _ _ (@c_intB _) rfl BT.int_ L3.bt_int (@pa_cons _ _ _ _ _ (@pe_cmpR _ _ _ _ _ _ _ _ (@op_eq _) (@pv _ 0 _ _ (by rfl) (by first | exact Or.inl rfl | exact Or.inr (Or.inl rfl) | exact Or.inr (Or.inr rfl)) (by decide) (by decide)) (@pv _ 4 _ _ (by rfl) (by first | exact Or.inl rfl | exact Or.inr (Or.inl rfl) | exact Or.inr (Or.inr rfl)) (by decide) (by decide)) (@nomark _ _ (by decide) (by decide))) (@pa_nil _) (by rfl)) (by decide) (by decide) (by rfl) (by rfl)))) (@pe_int _ _ _ _)) (fun _ _ => rfl))) (by intro _; rfl)) (@pa_nil _) (by rfl)) (by rfl) (by rfl) (by rfl) (by rfl) (by rfl)) (by rfl) (by first | exact .inl rfl | exact .inr rfl | assumption)) (@pss_cons _ _ _ _ _ (@ps_if _ _ _ _ _ _ _ _ (@pt_val _ _ _ (@pv _ 6 _ _ (by rfl) (by first | exact Or.inl rfl | exact Or.inr (Or.inl rfl) | exact Or.inr (Or.inr rfl)) (by decide) (by decide)) (by intro _; rfl)) (@pss_one _ _ _ (@ps_set _ _ 9 _ _ _ _ S.nd rfl (by first | exact Or.inl rfl | exact Or.inr rfl) (@pe_op _ _ _ _ _ _ _ _ (@o_mulS _) (@pe_ix _ _ _ _ _ _ _ (@ix_str _) (@pv _ 2 _ _ (by rfl) (by first | exact Or.inl rfl | exact Or.inr (Or.inl rfl) | exact Or.inr (Or.inr rfl)) (by decide) (by decide)) (@pv _ 5 _ _ (by rfl) (by first | exact Or.inl rfl | exact Or.inr (Or.inl rfl) | exact Or.inr (Or.inr rfl)) (by decide) (by decide)) (fun _ _ => rfl)) (@pe_op _ _ _ _ _ _ _ _ (@op_add _) (@pv _ 8 _ _ (by rfl) (by first | exact Or.inl rfl | exact Or.inr (Or.inl rfl) | exact Or.inr (Or.inr rfl)) (by decide) (by decide)) (@pe_int _ _ _ _))) (by rfl) (by first | exact .inl rfl | exact .inr rfl | assumption))) (@pss_nil _)) (@pss_one _ _ _ (@ps_expr _ _ _ _ (@pe_bm _ _ _ _ _ _ _ _ _ _ _ _ PySem.F.plainAttrs_list PySem.F.slot_list_append PySem.F.type_list_append (@mt_append _) (@pv _ 7 _ _ (by rfl) (by first | exact Or.inl rfl | exact Or.inr (Or.inl rfl) | exact Or.inr (Or.inr rfl)) (by decide) (by decide)) (@pa_cons _ _ _ _ _ (@pv _ 9 _ _ (by rfl) (by first | exact Or.inl rfl | exact Or.inr (Or.inl rfl) | exact Or.inr (Or.inr rfl)) (by decide) (by decide)) (@pa_nil _) (by rfl)) (by rfl) (by rfl) (by rfl) (by rfl) (by rfl)) (by rfl))))) (by intro _; rfl)) (@pss_cons _ _ _ _ _ (@ps_if _ _ _ _ _ _ _ _ (@pt_cmpR _ _ _ _ _ _ _ _ (@op_eq _) (@pe_fn _ _ _ _ _ _ _ _ _ _ _ _ c__law_pick (hr.mono (by first | decide | omega)) NE.pass (@pa_cons _ _ _ _ _ (@pv _ 0 _ _ (by rfl) (by first | exact Or.inl rfl | exact Or.inr (Or.inl rfl) | exact Or.inr (Or.inr rfl)) (by decide) (by decide)) (@pa_cons _ _ _ _ _ (@pe_int _ _ _ _) (@pa_nil _) (by rfl)) (by rfl)) (by rfl) (by decide) (by rfl) (by rfl)) (@pe_int _ _ _ _) (@nomark _ _ (by decide) (by decide))) (@pss_one _ _ _ (@ps_expr _ _ _ _ (@pe_bm0 _ _ _ _ _ _ _ _ _ PySem.F.plainAttrs_list PySem.F.slot_list_reverse PySem.F.type_list_reverse (@mt_reverse _) (@pv _ 7 _ _ (by rfl) (by first | exact Or.inl rfl | exact Or.inr (Or.inl rfl) | exact Or.inr (Or.inr rfl)) (by decide) (by decide)) (by rfl) (by rfl)) (by rfl))) (@pss_nil _)) (@pss_one _ _ _ (@ps_ret _ _ _ _ (@pv _ 7 _ _ (by rfl) (by first | exact Or.inl rfl | exact Or.inr (Or.inl rfl) | exact Or.inr (Or.inr rfl)) (by decide) (by decide)))))))))))), ?_⟩
 try dsimp only [cxOf]
 have L := led_hand hh
 walk_at "go"
 refine use_pick L .head (by decide) (by decide) (by omega) fun sz H1 a0 a1 L _ => ?_
 walk_at "go"
 refine use_pick L .head (by omega) (by omega) (by omega) fun at' H2 b0 b1 L _ => ?_
 walk_at "go"
 refine use_pick L .head (by decide) (by decide) (by omega) fun ba H3 c0 c1 L _ => ?_
 walk_at "go"
 refine use_pick L .head (by decide) (by decide) (by omega) fun be H4 d0 d1 L _ => ?_
 have o4 : Oth p H H4 := L.fr
 have hh4 := HandO.at (L.at_ (p, HandO _) (by walk_at "mem"))
 clear L
 have L := Led.start H4 (fun _ => False)
 walk_at "go"
 have nq4 : H4 l' = none := n'
 have hq0 := L'.eo (p := l') .head
 have s5 := L'.same
 clear L L'
 rename Hp => H5; rename Addr => nq
 refine g_forR (fun i σ H' => ∃ (u8 u9 : Option V) (ns : List Str), σ = [some (.ref p), some (.int many), some (.str "abcdefghijklmnopqrstuvwxyz"), some (.int (1 + sz)), some (.int at'), some (.int ba), some (.bl (decide (be = 1))), some (.ref nq), u8, u9] ∧ Same H4 H' ∧ H' nq = some (.lst (ns.map V.str)) ∧ ns.length = i ∧ ∀ z ∈ ns, NmOk z) ⟨_, _, [], rfl, s5, hq0, rfl, fun _ h => by simp at h⟩ ?_ ?_
 ·rintro i σ HG hi ⟨u8, u9, ns, rfl, sm, hq, hlen, hnm⟩
  have hi10 : i < 6 := by omega
  have keepD : ∀ {H' : Hp}, (∀ b o, HG b = some o → ¬ b = nq → H' b = some o) → Same H4 H' := fun h b o e => h b o (sm _ _ e) (fun z => by rw [z, nq4] at e; cases e)
  have L := led_one hq
  try dsimp only [gName]
  walk_at "go"
  refine g_compR (fun j ys H' => ∃ cs : List Nat, ys = (cs.map fun c => (⟨#[c]⟩ : Str)).map V.str ∧ cs.length = j ∧ (∀ c ∈ cs, letC c = true) ∧ H' = HG) ⟨[], rfl, rfl, (fun _ h => by simp at h), rfl⟩ (fun j ys H' hj ⟨zs, e, hz, _, _⟩ => by rw [e, List.length_map, List.length_map, hz]; exact Nat.le_of_lt (small1000 (by omega))) ?_ ?_
  ·rintro j ys H' hj ⟨cs, rfl, hz, h1, rfl⟩
   try dsimp only [gName]
   walk_at "go"
   have em0 := Int.emod_nonneg (ba + 5 * (0 + (j : Int)) + (0 + (i : Int)) * (if decide (0 + (j : Int) = at') = true then 1 else 0)) (show (26 : Int) ≠ 0 by decide)
   have em1 := Int.emod_lt_of_pos (ba + 5 * (0 + (j : Int)) + (0 + (i : Int)) * (if decide (0 + (j : Int) = at') = true then 1 else 0)) (show (0 : Int) < 26 by decide)
   obtain ⟨cc, hc⟩ := str_at (z := "abcdefghijklmnopqrstuvwxyz") em0 (show _ < ((26 : Nat) : Int) from em1)
   have lcc := let_of em0 em1 hc
   refine g_ixS (by decide +kernel) hc ?_
   exact ⟨cs ++ [cc], by rw [List.map_append, List.map_append]; rfl, by rw [List.length_append, List.length_singleton]; omega, fun z hz' => (List.mem_append.mp hz').elim (h1 z) (fun g => by rw [List.mem_singleton.mp g]; exact lcc), rfl⟩
  ·rintro ys H' ⟨cs, rfl, hz, h1, rfl⟩ lc nlc
   have M := L.keep (same_new nlc (.lst ((cs.map fun c => (⟨#[c]⟩ : Str)).map V.str)))
   have hlc : (upd H' lc (.lst ((cs.map fun c => (⟨#[c]⟩ : Str)).map V.str))) lc = some (.lst ((cs.map fun c => (⟨#[c]⟩ : Str)).map V.str)) := upd_same
   generalize upd H' lc (.lst ((cs.map fun c => (⟨#[c]⟩ : Str)).map V.str)) = H6 at *
   clear L
   have L := M
   clear M
   have hml : (ns.map V.str).length = ns.length := List.length_map ..
   have hcl : cs.length = (1 + sz).toNat := hz
   have nm0 : NmOk (Txt.join ("" : Str) (cs.map fun c => (⟨#[c]⟩ : Str))) := by rw [join_ones]; exact nm_of (by omega) (by omega) h1
   have snoc : ∀ {z : Str}, NmOk z → ∀ y ∈ ns ++ [z], NmOk y := fun hz y hy => (List.mem_append.mp hy).elim (hnm y) fun g => by rw [List.mem_singleton.mp g]; exact hz
   walk_at "go"
   refine g_join (SqL.of hlc) (by rw [sum_one (fun z hz => by obtain ⟨c, _, rfl⟩ := List.mem_map.mp hz; rfl), List.length_map]; show cs.length + cs.length * 0 ≤ 16777216; omega) ?_
   walk_at "go"
   refine g_ifD (fun e1 => ?_) (fun e1 => ?_)
   ·walk_at "go"
    obtain ⟨cc, hc⟩ := str_at (z := "abcdefghijklmnopqrstuvwxyz") c0 (show ba < ((26 : Nat) : Int) from c1)
    have nm1 : NmOk (Txt.mul ⟨#[cc]⟩ (0 + (i : Int) + 1)) := by
     have lcc := let_of c0 c1 hc
     have e := PyProof.Rows.mul_one_list cc (0 + (i : Int) + 1)
     show nameB _ = true
     rw [e]
     exact nm_of (l := List.replicate (0 + (i : Int) + 1).toNat cc) (by rw [List.length_replicate]; omega) (by rw [List.length_replicate]; omega) fun c hc => by rw [(List.mem_replicate.mp hc).2]; exact lcc
    refine g_ixS (by decide +kernel) hc ?_
    have l1 : (⟨#[cc]⟩ : Str).length ≤ 1000 := by show 1 ≤ 1000; decide
    walk_at "go"
    exact ⟨_, _, ns ++ [_], rfl, keepD L'.fr, (L'.eo (p := nq) (by walk_at "put")).trans (by rw [List.map_append]; rfl), by rw [List.length_append, List.length_singleton]; omega, snoc nm1⟩
   ·walk_at "go"
    exact ⟨_, _, ns ++ [_], rfl, keepD L'.fr, (L'.eo (p := nq) (by walk_at "put")).trans (by rw [List.map_append]; rfl), by rw [List.length_append, List.length_singleton]; omega, snoc nm0⟩
 ·rintro σ HG ⟨u8, u9, ns, rfl, sm, hq, hlen, hnm⟩
  have hml : (ns.map V.str).length = ns.length := List.length_map ..
  have npq : p ≠ nq := fun z => by
   obtain ⟨x, y, c, e, _⟩ := hh4
   rw [z, nq4] at e; cases e
  have nqH : H nq = none := by
   cases e : H nq with
   | none => rfl
   | some o => rw [o4 nq o e (Ne.symm npq)] at nq4; cases nq4
  have L := led_two (hh4.same sm) hq npq
  walk_at "go"
  refine use_pick L .head (by decide) (by decide) (by omega) fun r7 H7 f0 f1 L _ => ?_
  have oth7 : ∀ (x : Addr) (o : HO), H x = some o → x ≠ p → H7 x = some o := fun x o e z => L.fr x o (sm _ _ (o4 x o e z)) (fun zz => zz.elim z (fun z2 => by rw [z2, nqH] at e; cases e))
  walk_at "go"
  refine g_ifD (fun e1 => ?_) (fun e1 => ?_)
  ·walk_at "go"
   have hq7 := L.eo (p := nq) (by walk_at "put")
   have hp7 := HandO.at (L.at_ (p, HandO _) (by walk_at "mem"))
   refine ⟨nq, _, rfl, rfl, hq7, ?_⟩
   walk_at "go"
   refine q nq ns.reverse _ nqH (upd_same.trans (by rw [List.map_reverse])) (fun z hz => hnm z (List.mem_reverse.mp hz)) (by rw [List.length_reverse]; omega) (by rw [List.length_reverse]; omega) (by rw [List.length_reverse]; omega) (HandAt.mono (n := b + 1024 + 1024 + 1024 + 1024 + 1024) ?_ (by omega)) fun x o e z => ?_
   ·obtain ⟨x, y, c, e, r⟩ := hp7
    exact ⟨x, y, c, by rw [upd_ne npq]; exact e, r⟩
   ·rw [upd_ne (fun z2 => by rw [z2, nqH] at e; cases e)]
    exact oth7 x o e z
  ·walk_at "go"
   exact q nq ns _ nqH (L.eo (p := nq) (by walk_at "put")) hnm (by omega) (by omega) (by omega) ((HandO.at (L.at_ (p, HandO _) (by walk_at "mem"))).mono (by omega)) oth7
end
end Law

namespace L4
open PySem PySem.Spec PyProof.Rows L2 L3
theorem g_compZ {K : PySem.W.Frag} {H : Hp} {Q : VK} {g : TG} {tc : TT} {te : TE} {k1 k2 : Bool} {a b : Addr} (xs ys : List V) {σb : St} (Pv : Nat → List V → Hp → Prop) (h0 : Pv 0 [] H) (hl : ∀ i zs H, i ≤ xs.length → i ≤ ys.length → Pv i zs H → SqK k1 K H a xs ∧ SqK k2 K H b ys ∧ zs.length ≤ sizeLine)
  (hs : ∀ i x y T zs H, xs[i]? = some x → ys[i]? = some y → Pv i zs H → H T = none → g (.ref T) σb (upd H T (.tup [x, y])) fun σ2 H2 => tc σ2 H2 fun b H3 => if b = true then te σ2 H3 fun y H4 => Pv (i + 1) (zs ++ [y]) H4 else Pv (i + 1) zs H3)
  (hd : ∀ zs H, Pv (min xs.length ys.length) zs H → ∀ p, H p = none → Q (.ref p) (upd H p (.lst zs))) : CompG (Itz K k1 a k2 b) Q σb g tc te H := by
 refine ⟨fun i m zs H => m = min xs.length ys.length - i ∧ i ≤ min xs.length ys.length ∧ Pv i zs H, ⟨_, rfl, Nat.zero_le _, h0⟩, ?_⟩
 rintro i m zs H ⟨rfl, hi, p⟩
 obtain ⟨q1, q2, hz⟩ := hl i zs H (by omega) (by omega) p
 refine ⟨hz, ?_⟩
 by_cases hlt : i < min xs.length ys.length
 ·have l1 : i < xs.length := by omega
  have l2 : i < ys.length := by omega
  refine .inr ⟨⟨xs, ys, xs[i], ys[i], q1, q2, by simp [l1], by simp [l2]⟩, Pv (i + 1), fun σ' H' p' => ⟨min xs.length ys.length - (i + 1), by omega, rfl, hlt, p'⟩, fun v H' yl => ?_⟩
  obtain ⟨T, nT, rfl, yl⟩ := yl
  rw [yl xs ys xs[i] ys[i] q1 q2 (by simp [l1]) (by simp [l2])]
  exact hs i xs[i] ys[i] T zs H (by simp [l1]) (by simp [l2]) p nT
 ·have e : i = min xs.length ys.length := by omega
  subst e
  exact .inl ⟨⟨xs, ys, q1, q2, by omega⟩, hd zs H p⟩
end L4
namespace Law
open PySem PySem.Spec PyProof.Rows L2 L3 L4
def kindsB (ts : List Th) (ks : List Str) : Bool := decide (ts.length = ks.length) && (List.zipWith kindT ts ks).all id
def wordT : Th → Bool | .tup (.str _ :: _) => true | _ => false
section
variable {P : Program} {w : World} {K : PySem.W.Frag} {mg : Str → Option Value} {base : Heap} {CX : CXT} {aF : Addr} {g : Str → Option V}
theorem sc_first : FnScope ["area"] ["area"] (defScope (top 16)) := by walk_at "s"
def spIx (i : Nat) : Sp := fun vs H Q _ => ∃ a xs v, vs = [.ref a] ∧ H a = some (.tup xs) ∧ xs[i]? = some v ∧ Q v H
theorem ok_first (D : Dat K mg "first_of" "first_of" (top 16) ["area"]) : Cal P w K mg base CX "first_of" 1 ["area"] (spIx 1) := by
 have S := sc_first
 walk_at "d"
 ·obtain ⟨a, xs, v, rfl, _⟩ := h
  rfl
 obtain ⟨a, xs, v, rfl, ha, hv, q⟩ := h
 refine ⟨_, (@pss_one _ _ _ (@ps_ret _ _ _ _ (@pe_ix _ _ _ _ _ _ _ (@ix_tup _) (@pv _ 0 _ _ (by rfl) (by first | exact Or.inl rfl | exact Or.inr (Or.inl rfl) | exact Or.inr (Or.inr rfl)) (by decide) (by decide)) (@pe_int _ _ _ _) (fun _ _ => rfl)))), ?_⟩
 try dsimp only [cxOf]
 walk_at "go"
 exact ⟨a, _, _, _, rfl, rfl, SqT.of ha, atI_nat (j := 1) hv, q⟩
theorem sc_end : FnScope ["area"] ["area"] (defScope (top 17)) := by walk_at "s"
theorem ok_end (D : Dat K mg "end_of" "end_of" (top 17) ["area"]) : Cal P w K mg base CX "end_of" 1 ["area"] (spIx 2) := by
 have S := sc_end
 walk_at "d"
 ·obtain ⟨a, xs, v, rfl, _⟩ := h
  rfl
 obtain ⟨a, xs, v, rfl, ha, hv, q⟩ := h
 refine ⟨_, (@pss_one _ _ _ (@ps_ret _ _ _ _ (@pe_ix _ _ _ _ _ _ _ (@ix_tup _) (@pv _ 0 _ _ (by rfl) (by first | exact Or.inl rfl | exact Or.inr (Or.inl rfl) | exact Or.inr (Or.inr rfl)) (by decide) (by decide)) (@pe_int _ _ _ _) (fun _ _ => rfl)))), ?_⟩
 try dsimp only [cxOf]
 walk_at "go"
 exact ⟨a, _, _, _, rfl, rfl, SqT.of ha, atI_nat (j := 2) hv, q⟩
theorem from_int {n : Int} {p : Addr} {H : Hp} {v : V} {t : Th} (h : ThAt p H v t) (f : fromT n t = true) : ∃ i, v = .int i ∧ t = .int i ∧ n ≤ i := by
 cases h with
 | int i => exact ⟨i, rfl, rfl, of_decide_eq_true f⟩
 | _ => cases f
theorem sc_stretch : FnScope ["thing"] ["thing"] (defScope (top 19)) := by walk_at "s"
def spBs (f : Th → Bool) : Sp := fun vs H Q _ => ∃ p v t, vs = [v] ∧ ThAt p H v t ∧ ∀ H', Same H H' → Q (.bl (f t)) H'
theorem ok_stretch (D : Dat K mg "is_stretch" "is_stretch" (top 19) ["thing"]) (BT : Bt mg) (NE : NoErr CX) (c_is_whole_from : Cal P w K mg base CX "is_whole_from" 2 ["thing", "least"] spFrom) (c_first_of : Cal P w K mg base CX "first_of" 1 ["area"] (spIx 1)) (c_end_of : Cal P w K mg base CX "end_of" 1 ["area"] (spIx 2)) : Cal P w K mg base CX "is_stretch" 3 ["thing"] (spBs strT) := by
 have S := sc_stretch
 walk_at "d"
 ·obtain ⟨p, v, t, rfl, _⟩ := h
  rfl
 obtain ⟨p, v, t, rfl, k, q⟩ := h
 refine ⟨_, (@pss_cons _ _ _ _ _ (@ps_if _ _ _ _ _ _ _ _ (@PW.pt _ _ _ (@pw_or _ _ _ _ _ _ _ (@pt_not _ _ _ _ (@pt_val _ _ _ (@pe_isi _ _ _ _ _ _ _ _ BT.isinstance BT.tuple_ L3.bt_tuple (@pv _ 0 _ _ (by rfl) (by first | exact Or.inl rfl | exact Or.inr (Or.inl rfl) | exact Or.inr (Or.inr rfl)) (by decide) (by decide)) (by rfl) (by rfl) (by decide) (by decide) (by rfl) (by rfl) (by rfl)) (by intro _; rfl))) (@pw_or1 _ _ _ _ (@pt_cmpR _ _ _ _ _ _ _ _ (@op_ne _) (@pe_callB _ _ _ _ _ _ _ _ _ (@c_len _) rfl BT.len L3.bt_len (@pa_cons _ _ _ _ _ (@pv _ 0 _ _ (by rfl) (by first | exact Or.inl rfl | exact Or.inr (Or.inl rfl) | exact Or.inr (Or.inr rfl)) (by decide) (by decide)) (@pa_nil _) (by rfl)) (by decide) (by decide) (by rfl) (by rfl)) (@pe_int _ _ _ _) (@nomark _ _ (by decide) (by decide)))))) (@pss_one _ _ _ (@ps_ret _ _ _ _ (@pe_bl _ _ _ _))) (@pss_nil _)) (@pss_cons _ _ _ _ _ (@ps_if _ _ _ _ _ _ _ _ (@pt_not _ _ _ _ (@pt_val _ _ _ (@pe_callB _ _ _ _ _ _ _ _ _ (@call_all _ rfl) rfl BT.all L3.bt_all (@pa_cons _ _ _ _ _ (@pe_comp _ _ _ _ _ _ _ _ _ _ (gName 0) _ _ rfl (@pi_tup _ _ _ _ (@pv _ 0 _ _ (by rfl) (by first | exact Or.inl rfl | exact Or.inr (Or.inl rfl) | exact Or.inr (Or.inr rfl)) (by decide) (by decide))) (@blk_of _ _ ["part"] [] (defScope (top 19)).names ["thing"] rfl rfl rfl (by decide +kernel)) (fun _ _ _ _ => (@pg_name _ _ 0 _ (show (blkN ["thing"] ["part"] []).Nodup by decide +kernel) rfl (by first | exact Or.inl rfl | exact Or.inr rfl) (by first | exact .inl rfl | exact .inr rfl | assumption))) (fun _ _ _ _ => (@pifs_nil _)) (fun _ _ _ _ => (@pe_fn _ _ _ _ _ _ _ _ _ _ _ _ c_is_whole_from (hr.mono (by first | decide | omega)) NE.pass (@pa_cons _ _ _ _ _ (@pv _ 0 _ _ (by rfl) (by first | exact Or.inl rfl | exact Or.inr (Or.inl rfl) | exact Or.inr (Or.inr rfl)) (by decide) (by decide)) (@pa_cons _ _ _ _ _ (@pe_int _ _ _ _) (@pa_nil _) (by rfl)) (by rfl)) (by rfl) (by decide) (by rfl) (by rfl))) (by intro _; rfl)) (@pa_nil _) (by rfl)) (by decide) (by decide) (by rfl) (by rfl)) (by intro _; rfl))) (@pss_one _ _ _ (@ps_ret _ _ _ _ (@pe_bl _ _ _ _))) (@pss_nil _)) (@pss_one _ _ _ (@ps_ret _ _ _ _ (@pe_cmpR _ _ _ _ _ _ _ _ (@op_lt _) (@pe_fn _ _ _ _ _ _ _ _ _ _ _ _ c_first_of (hr.mono (by first | decide | omega)) NE.pass (@pa_cons _ _ _ _ _ (@pv _ 0 _ _ (by rfl) (by first | exact Or.inl rfl | exact Or.inr (Or.inl rfl) | exact Or.inr (Or.inr rfl)) (by decide) (by decide)) (@pa_nil _) (by rfl)) (by rfl) (by decide) (by rfl) (by rfl)) (@pe_fn _ _ _ _ _ _ _ _ _ _ _ _ c_end_of (hr.mono (by first | decide | omega)) NE.pass (@pa_cons _ _ _ _ _ (@pv _ 0 _ _ (by rfl) (by first | exact Or.inl rfl | exact Or.inr (Or.inl rfl) | exact Or.inr (Or.inr rfl)) (by decide) (by decide)) (@pa_nil _) (by rfl)) (by rfl) (by decide) (by rfl) (by rfl)) (@nomark _ _ (by decide) (by decide))))))), ?_⟩
 try dsimp only [cxOf]
 walk_at "go"
 refine g_isiT k (k_tup K t) ?_
 cases hs : isTupT t with
 | false =>
  walk_at "go"
  rw [show strT t = false by cases t <;> first | rfl | cases hs] at q
  exact q _ (Same.refl _)
 | true =>
 obtain ⟨ts, rfl⟩ : ∃ ts, t = .tup ts := by cases t <;> first | exact ⟨_, rfl⟩ | cases hs
 cases k with
 | tup ha hr =>
 rename_i a xs
 have hl := hr.len
 walk_at "go"
 refine g_lenTu (SqT.of ha) ?_
 walk_at "go"
 refine g_ifN (fun c1 => ?_) (fun c1 => ?_)
 ·obtain ⟨v0, v1, v2, rfl⟩ : ∃ v0 v1 v2, xs = [v0, v1, v2] := by
   match xs, (show xs.length = 3 by omega) with
   | [v0, v1, v2], _ => exact ⟨v0, v1, v2, rfl⟩
  cases hr with
  | cons k0 hr => cases hr with
   | cons k1 hr => cases hr with
    | cons k2 hr =>
    cases hr
    rename_i t0 t1 t2
    have hT : Ths p H [v0, v1, v2] [t0, t1, t2] := .cons k0 (.cons k1 (.cons k2 .nil))
    walk_at "go"
    refine g_wkTv (SqT.of ha) ?_
    refine g_compT [v0, v1, v2] (fun i ys Hx => ys = (([t0, t1, t2].take i).map (fromT 0)).map V.bl ∧ Hx = H) ⟨rfl, rfl⟩ (fun i ys Hx hi ⟨e, e2⟩ => ⟨e2 ▸ SqT.of ha, by
     rw [e, List.length_map, List.length_map, List.length_take]
     exact Nat.le_of_lt (small1000 (by simp only [List.length_cons, List.length_nil]; omega))⟩) ?_ ?_
    ·rintro i x ys H2 hx ⟨rfl, rfl⟩
     obtain ⟨tt, ht, kx⟩ := hT.get hx
     try dsimp only [gName]
     walk_at "go"
     refine ⟨p, x, tt, 0, rfl, kx, ?_⟩
     exact ⟨by rw [List.take_add_one, ht, Option.toList, List.map_append, List.map_append]; rfl, rfl⟩
    ·rintro ys H2 ⟨rfl, rfl⟩ lc nlc
     rw [show [v0, v1, v2].length = 3 from rfl, show [t0, t1, t2].take 3 = [t0, t1, t2] from rfl]
     have s2 := same_new nlc (.lst (([t0, t1, t2].map (fromT 0)).map V.bl))
     walk_at "go"
     refine g_allB (bs := [t0, t1, t2].map (fromT 0)) (SqL.of upd_same) ?_
     have ha2 := s2 _ _ ha
     have q : Q (.bl ((fromT 0 t0 && (fromT 0 t1 && fromT 0 t2)) && ltT t1 t2)) (upd H2 lc (.lst (([t0, t1, t2].map (fromT 0)).map V.bl))) := q _ s2
     rw [show (([t0, t1, t2].map (fromT 0)).all id) = (fromT 0 t0 && (fromT 0 t1 && fromT 0 t2)) by simp]
     generalize upd H2 lc (.lst (([t0, t1, t2].map (fromT 0)).map V.bl)) = H3 at *
     cases hall : (fromT 0 t0 && (fromT 0 t1 && fromT 0 t2)) with
     | false => rw [hall] at q; walk_at "go"; exact q
     | true =>
      rw [hall] at q
      rw [Bool.and_eq_true, Bool.and_eq_true] at hall
      obtain ⟨i, rfl, rfl, _⟩ := from_int k1 hall.2.1
      obtain ⟨j, rfl, rfl, _⟩ := from_int k2 hall.2.2
      walk_at "go"
      refine ⟨a, _, _, rfl, ha2, rfl, ?_⟩
      walk_at "go"
      refine ⟨a, _, _, rfl, ha2, rfl, ?_⟩
      walk_at "go"
      exact q
 ·walk_at "go"
  rw [show strT (.tup ts) = false by
   match ts, (show ts.length ≠ 3 by omega) with
   | [], _ => rfl
   | [_], _ => rfl
   | [_, _], _ => rfl
   | [_, _, _], h => exact absurd rfl h
   | _ :: _ :: _ :: _ :: _, _ => rfl] at q
  exact q _ (Same.refl _)
theorem sc_kinds : FnScope ["things", "kinds"] ["things", "kinds"] (defScope (top 21)) := by walk_at "s"
def spKinds (K : PySem.W.Frag) : Sp := fun vs H Q _ => ∃ p a b xs ts ks, vs = [.ref a, .ref b] ∧ H a = some (.tup xs) ∧ Ths p H xs ts ∧ (∀ t ∈ ts, Sm t) ∧ (∀ H, SqT K H b (List.map V.str ks)) ∧ ks.length ≤ 10 ∧ ts.length ≤ 100 ∧ ∀ H', Same H H' → Q (.bl (kindsB ts ks)) H'
theorem sc_kind : FnScope ["thing", "kind"] ["thing", "kind"] (defScope (top 20)) := by walk_at "s"
def spKind : Sp := fun vs H Q _ => ∃ p v t k, vs = [v, .str k] ∧ ThAt p H v t ∧ Sm t ∧ ∀ H', Same H H' → Q (.bl (kindT t k)) H'
theorem ok_kind (D : Dat K mg "is_of_kind" "is_of_kind" (top 20) ["thing", "kind"]) (NE : NoErr CX) (c_is_name : Cal P w K mg base CX "is_name" 1 ["thing"] (spBm nameT)) (c_is_number : Cal P w K mg base CX "is_number" 3 ["thing"] (spB numT)) (c_is_stretch : Cal P w K mg base CX "is_stretch" 3 ["thing"] (spBs strT)) (c_is_whole_from : Cal P w K mg base CX "is_whole_from" 2 ["thing", "least"] spFrom) : Cal P w K mg base CX "is_of_kind" 4 ["thing", "kind"] spKind := by
 have S := sc_kind
 walk_at "d"
 ·obtain ⟨p, v, t, k, rfl, _⟩ := h
  rfl
 obtain ⟨p, v, t, k, rfl, kt, sm, q⟩ := h
 refine ⟨_, (@pss_cons _ _ _ _ _ (@ps_if _ _ _ _ _ _ _ _ (@pt_cmpR _ _ _ _ _ _ _ _ (@op_eq _) (@pv _ 1 _ _ (by rfl) (by first | exact Or.inl rfl | exact Or.inr (Or.inl rfl) | exact Or.inr (Or.inr rfl)) (by decide) (by decide)) (@pe_str _ _ _ _) (@nomark _ _ (by decide) (by decide))) (@pss_one _ _ _ (@ps_ret _ _ _ _ (@pe_fn _ _ _ _ _ _ _ _ _ _ _ _ c_is_name (hr.mono (by first | decide | omega)) NE.pass (@pa_cons _ _ _ _ _ (@pv _ 0 _ _ (by rfl) (by first | exact Or.inl rfl | exact Or.inr (Or.inl rfl) | exact Or.inr (Or.inr rfl)) (by decide) (by decide)) (@pa_nil _) (by rfl)) (by rfl) (by decide) (by rfl) (by rfl)))) (@pss_nil _)) (@pss_cons _ _ _ _ _ (@ps_if _ _ _ _ _ _ _ _ (@pt_cmpR _ _ _ _ _ _ _ _ (@op_eq _) (@pv _ 1 _ _ (by rfl) (by first | exact Or.inl rfl | exact Or.inr (Or.inl rfl) | exact Or.inr (Or.inr rfl)) (by decide) (by decide)) (@pe_str _ _ _ _) (@nomark _ _ (by decide) (by decide))) (@pss_one _ _ _ (@ps_ret _ _ _ _ (@pe_fn _ _ _ _ _ _ _ _ _ _ _ _ c_is_number (hr.mono (by first | decide | omega)) NE.pass (@pa_cons _ _ _ _ _ (@pv _ 0 _ _ (by rfl) (by first | exact Or.inl rfl | exact Or.inr (Or.inl rfl) | exact Or.inr (Or.inr rfl)) (by decide) (by decide)) (@pa_nil _) (by rfl)) (by rfl) (by decide) (by rfl) (by rfl)))) (@pss_nil _)) (@pss_cons _ _ _ _ _ (@ps_if _ _ _ _ _ _ _ _ (@pt_cmpR _ _ _ _ _ _ _ _ (@op_eq _) (@pv _ 1 _ _ (by rfl) (by first | exact Or.inl rfl | exact Or.inr (Or.inl rfl) | exact Or.inr (Or.inr rfl)) (by decide) (by decide)) (@pe_str _ _ _ _) (@nomark _ _ (by decide) (by decide))) (@pss_one _ _ _ (@ps_ret _ _ _ _ (@pe_fn _ _ _ _ _ _ _ _ _ _ _ _ c_is_stretch (hr.mono (by first | decide | omega)) NE.pass (@pa_cons _ _ _ _ _ (@pv _ 0 _ _ (by rfl) (by first | exact Or.inl rfl | exact Or.inr (Or.inl rfl) | exact Or.inr (Or.inr rfl)) (by decide) (by decide)) (@pa_nil _) (by rfl)) (by rfl) (by decide) (by rfl) (by rfl)))) (@pss_nil _)) (@pss_cons _ _ _ _ _ (@ps_if _ _ _ _ _ _ _ _ (@pt_cmpR _ _ _ _ _ _ _ _ (@op_eq _) (@pv _ 1 _ _ (by rfl) (by first | exact Or.inl rfl | exact Or.inr (Or.inl rfl) | exact Or.inr (Or.inr rfl)) (by decide) (by decide)) (@pe_str _ _ _ _) (@nomark _ _ (by decide) (by decide))) (@pss_one _ _ _ (@ps_ret _ _ _ _ (@pe_fn _ _ _ _ _ _ _ _ _ _ _ _ c_is_whole_from (hr.mono (by first | decide | omega)) NE.pass (@pa_cons _ _ _ _ _ (@pv _ 0 _ _ (by rfl) (by first | exact Or.inl rfl | exact Or.inr (Or.inl rfl) | exact Or.inr (Or.inr rfl)) (by decide) (by decide)) (@pa_cons _ _ _ _ _ (@pe_int _ _ _ _) (@pa_nil _) (by rfl)) (by rfl)) (by rfl) (by decide) (by rfl) (by rfl)))) (@pss_nil _)) (@pss_one _ _ _ (@ps_ret _ _ _ _ (@pe_fn _ _ _ _ _ _ _ _ _ _ _ _ c_is_whole_from (hr.mono (by first | decide | omega)) NE.pass (@pa_cons _ _ _ _ _ (@pv _ 0 _ _ (by rfl) (by first | exact Or.inl rfl | exact Or.inr (Or.inl rfl) | exact Or.inr (Or.inr rfl)) (by decide) (by decide)) (@pa_cons _ _ _ _ _ (@pe_int _ _ _ _) (@pa_nil _) (by rfl)) (by rfl)) (by rfl) (by decide) (by rfl) (by rfl)))))))), ?_⟩
 try dsimp only [cxOf]
 have q : ∀ H', Same H H' → Q (.bl (if k = "name" then nameT t else if k = "reading" then numT t else if k = "area" then strT t else if k = "number" then fromT 1 t else fromT 0 t)) H' := q
 walk_at "go"
 refine g_ifD (fun c1 => ?_) (fun c1 => ?_)
 ·rw [if_pos c1] at q
  walk_at "go"
  refine ⟨p, v, t, rfl, kt, sm, fun H1 s1 => ?_⟩
  walk_at "go"
  exact q _ s1
 rw [if_neg c1] at q
 walk_at "go"
 refine g_ifD (fun c2 => ?_) (fun c2 => ?_)
 ·rw [if_pos c2] at q
  walk_at "go"
  refine ⟨p, v, t, rfl, kt, ?_⟩
  walk_at "go"
  exact q _ (Same.refl _)
 rw [if_neg c2] at q
 walk_at "go"
 refine g_ifD (fun c3 => ?_) (fun c3 => ?_)
 ·rw [if_pos c3] at q
  walk_at "go"
  refine ⟨p, v, t, rfl, kt, fun H1 s1 => ?_⟩
  walk_at "go"
  exact q _ s1
 rw [if_neg c3] at q
 walk_at "go"
 refine g_ifD (fun c4 => ?_) (fun c4 => ?_)
 ·rw [if_pos c4] at q
  walk_at "go"
  refine ⟨p, v, t, 1, rfl, kt, ?_⟩
  walk_at "go"
  exact q _ (Same.refl _)
 rw [if_neg c4] at q
 walk_at "go"
 refine ⟨p, v, t, 0, rfl, kt, ?_⟩
 walk_at "go"
 exact q _ (Same.refl _)
theorem ok_kinds (D : Dat K mg "are_of_kinds" "are_of_kinds" (top 21) ["things", "kinds"]) (BT : Bt mg) (NE : NoErr CX) (c_is_of_kind : Cal P w K mg base CX "is_of_kind" 4 ["thing", "kind"] spKind) : Cal P w K mg base CX "are_of_kinds" 5 ["things", "kinds"] (spKinds K) := by
 have S := sc_kinds
 walk_at "d"
 ·obtain ⟨p, a, b, xs, ts, ks, rfl, _⟩ := h
  rfl
 obtain ⟨p, a, b, xs, ts, ks, rfl, ha, hT, hS, hb, h10, h100, q⟩ := h
 have hl := hT.len
 have hk : (ks.map V.str).length = ks.length := List.length_map ..
 have q : ∀ H', Same H H' → Q (.bl (decide (ts.length = ks.length) && (List.zipWith kindT ts ks).all id)) H' := q
 refine ⟨_, (@pss_cons _ _ _ _ _ (@ps_if _ _ _ _ _ _ _ _ (@pt_cmpR _ _ _ _ _ _ _ _ (@op_ne _) (@pe_callB _ _ _ _ _ _ _ _ _ (@c_len _) rfl BT.len L3.bt_len (@pa_cons _ _ _ _ _ (@pv _ 0 _ _ (by rfl) (by first | exact Or.inl rfl | exact Or.inr (Or.inl rfl) | exact Or.inr (Or.inr rfl)) (by decide) (by decide)) (@pa_nil _) (by rfl)) (by decide) (by decide) (by rfl) (by rfl)) (@pe_callB _ _ _ _ _ _ _ _ _ (@c_len _) rfl BT.len L3.bt_len (@pa_cons _ _ _ _ _ (@pv _ 1 _ _ (by rfl) (by first | exact Or.inl rfl | exact Or.inr (Or.inl rfl) | exact Or.inr (Or.inr rfl)) (by decide) (by decide)) (@pa_nil _) (by rfl)) (by decide) (by decide) (by rfl) (by rfl)) (@nomark _ _ (by decide) (by decide))) (@pss_one _ _ _ (@ps_ret _ _ _ _ (@pe_bl _ _ _ _))) (@pss_nil _)) (@pss_one _ _ _ (@ps_ret _ _ _ _ (@pe_callB _ _ _ _ _ _ _ _ _ (@call_all _ rfl) rfl BT.all L3.bt_all (@pa_cons _ _ _ _ _ (@pe_comp _ _ _ _ _ _ _ _ _ _ (gTup K 2 (gCons (gName 0) (gCons (gName 1) gNil))) _ _ rfl (@pi_zip _ _ _ _ _ _ _ _ _ false false rfl BT.zip_ (@pa_cons _ _ _ _ _ (@pv _ 0 _ _ (by rfl) (by first | exact Or.inl rfl | exact Or.inr (Or.inl rfl) | exact Or.inr (Or.inr rfl)) (by decide) (by decide)) (@pa_cons _ _ _ _ _ (@pv _ 1 _ _ (by rfl) (by first | exact Or.inl rfl | exact Or.inr (Or.inl rfl) | exact Or.inr (Or.inr rfl)) (by decide) (by decide)) (@pa_nil _) (by rfl)) (by rfl)) (by rfl) (by rfl)) (@blk_of _ _ ["thing", "kind"] [] (defScope (top 21)).names ["things", "kinds"] rfl rfl rfl (by decide +kernel)) (fun _ _ _ _ => (@pg_tup _ _ _ _ _ _ rfl (@pgs_cons _ _ _ _ _ (@pg_name _ _ 0 _ (show (blkN ["things", "kinds"] ["thing", "kind"] []).Nodup by decide +kernel) rfl (by first | exact Or.inl rfl | exact Or.inr rfl) (by first | exact .inl rfl | exact .inr rfl | assumption)) (@pgs_cons _ _ _ _ _ (@pg_name _ _ 1 _ (show (blkN ["things", "kinds"] ["thing", "kind"] []).Nodup by decide +kernel) rfl (by first | exact Or.inl rfl | exact Or.inr rfl) (by first | exact .inl rfl | exact .inr rfl | assumption)) (@pgs_nil _) (by rfl)) (by rfl)) (by rfl) (by rfl))) (fun _ _ _ _ => (@pifs_nil _)) (fun _ _ _ _ => (@pe_fn _ _ _ _ _ _ _ _ _ _ _ _ c_is_of_kind (hr.mono (by first | decide | omega)) NE.pass (@pa_cons _ _ _ _ _ (@pv _ 0 _ _ (by rfl) (by first | exact Or.inl rfl | exact Or.inr (Or.inl rfl) | exact Or.inr (Or.inr rfl)) (by decide) (by decide)) (@pa_cons _ _ _ _ _ (@pv _ 1 _ _ (by rfl) (by first | exact Or.inl rfl | exact Or.inr (Or.inl rfl) | exact Or.inr (Or.inr rfl)) (by decide) (by decide)) (@pa_nil _) (by rfl)) (by rfl)) (by rfl) (by decide) (by rfl) (by rfl))) (by intro _; rfl)) (@pa_nil _) (by rfl)) (by decide) (by decide) (by rfl) (by rfl))))), ?_⟩
 try dsimp only [cxOf]
 walk_at "go"
 refine g_lenTu (SqT.of ha) ?_
 walk_at "go"
 refine g_lenTu (hb _) ?_
 walk_at "go"
 refine g_ifN (fun c1 => ?_) (fun c1 => ?_)
 ·rw [decide_eq_true (show ts.length = ks.length by omega)] at q
  walk_at "go"
  refine g_zipv (k1 := false) (k2 := false) (SqT.of ha) (hb _) ?_
  refine g_compZ xs (ks.map V.str) (fun i zs H' => zs = ((List.zipWith kindT ts ks).take i).map V.bl ∧ Same H H') ⟨rfl, Same.refl _⟩ (fun i zs H' _ _ ⟨e, sm⟩ => ⟨SqT.of (sm _ _ ha), hb _, by
   rw [e, List.length_map, List.length_take, List.length_zipWith]
   exact Nat.le_of_lt (small1000 (by omega))⟩) ?_ ?_
  ·rintro i x y T zs H' hx hy ⟨rfl, sm⟩ nT
   obtain ⟨t, ht, kx⟩ := (hT.same sm).get hx
   obtain ⟨k, hk', rfl⟩ : ∃ k, ks[i]? = some k ∧ y = .str k := by
    rw [List.getElem?_map] at hy
    cases e : ks[i]? with
    | none => rw [e] at hy; cases hy
    | some k => rw [e] at hy; exact ⟨k, rfl, (Option.some.inj hy).symm⟩
   refine ⟨T, _, rfl, SqT.of upd_same, rfl, ?_⟩
   walk_at "go"
   refine ⟨p, x, t, k, rfl, kx.same (same_new nT _), hS t (List.mem_of_getElem? ht), fun H2 s2 => ?_⟩
   exact ⟨by rw [List.take_add_one, List.getElem?_zipWith, ht, hk', List.map_append]; rfl, sm.trans ((same_new nT _).trans s2)⟩
  ·rintro zs H' ⟨rfl, sm⟩ lc nlc
   rw [hk, hl, List.take_of_length_le (by rw [List.length_zipWith]; omega)]
   walk_at "go"
   refine g_allB (SqL.of upd_same) ?_
   exact q _ (sm.trans (same_new nlc _))
 ·walk_at "go"
  rw [decide_eq_false (show ¬ ts.length = ks.length by omega)] at q
  exact q _ (Same.refl _)
theorem sc_hasword : FnScope ["thing"] ["thing"] (defScope (top 22)) := by walk_at "s"
theorem ok_hasword (D : Dat K mg "has_word" "has_word" (top 22) ["thing"]) (BT : Bt mg) : Cal P w K mg base CX "has_word" 1 ["thing"] (spB wordT) := by
 have S := sc_hasword
 walk_at "d"
 ·obtain ⟨p, v, t, rfl, _⟩ := h
  rfl
 obtain ⟨p, v, t, rfl, k, q⟩ := h
 refine ⟨_, (@pss_one _ _ _ (@ps_ret _ _ _ _ (@pe_and _ _ _ _ _ _ _ (@pe_isi _ _ _ _ _ _ _ _ BT.isinstance BT.tuple_ L3.bt_tuple (@pv _ 0 _ _ (by rfl) (by first | exact Or.inl rfl | exact Or.inr (Or.inl rfl) | exact Or.inr (Or.inr rfl)) (by decide) (by decide)) (by rfl) (by rfl) (by decide) (by decide) (by rfl) (by rfl) (by rfl)) (@pe_and _ _ _ _ _ _ _ (@pe_cmpR _ _ _ _ _ _ _ _ (@op_gt _) (@pe_callB _ _ _ _ _ _ _ _ _ (@c_len _) rfl BT.len L3.bt_len (@pa_cons _ _ _ _ _ (@pv _ 0 _ _ (by rfl) (by first | exact Or.inl rfl | exact Or.inr (Or.inl rfl) | exact Or.inr (Or.inr rfl)) (by decide) (by decide)) (@pa_nil _) (by rfl)) (by decide) (by decide) (by rfl) (by rfl)) (@pe_int _ _ _ _) (@nomark _ _ (by decide) (by decide))) (@pe_one _ _ _ _ _ (@pe_isi _ _ _ _ _ _ _ _ BT.isinstance BT.str_ L3.bt_str (@pe_ix _ _ _ _ _ _ _ (@ix_tup _) (@pv _ 0 _ _ (by rfl) (by first | exact Or.inl rfl | exact Or.inr (Or.inl rfl) | exact Or.inr (Or.inr rfl)) (by decide) (by decide)) (@pe_int _ _ _ _) (fun _ _ => rfl)) (by rfl) (by rfl) (by decide) (by decide) (by rfl) (by rfl) (by rfl))))))), ?_⟩
 try dsimp only [cxOf]
 walk_at "go"
 refine g_isiT k (k_tup K t) ?_
 cases hs : isTupT t with
 | false =>
  walk_at "go"
  rw [show wordT t = false by cases t <;> first | rfl | cases hs] at q
  exact q
 | true =>
 obtain ⟨ts, rfl⟩ : ∃ ts, t = .tup ts := by cases t <;> first | exact ⟨_, rfl⟩ | cases hs
 cases k with
 | tup ha hr =>
 rename_i a xs
 have hl := hr.len
 walk_at "go"
 refine g_lenTu (SqT.of ha) ?_
 walk_at "go"
 cases hr with
 | nil =>
  walk_at "go"
  exact q
 | cons k0 hr =>
  rename_i x0 t0 xs ts
  refine g_ifD (fun c1 => ?_) (fun c1 => ?_)
  ·walk_at "go"
   refine ⟨a, _, _, _, rfl, rfl, SqT.of ha, atI_nat (j := 0) rfl, ?_⟩
   walk_at "go"
   refine g_isiT k0 (k_str K t0) ?_
   rw [show wordT (.tup (t0 :: ts)) = isStrT t0 by cases t0 <;> rfl] at q
   exact q
  ·exact absurd (show (0 : Int) < ((x0 :: xs).length : Int) by simp only [List.length_cons]; omega) c1
def SmT : Th → Prop | .tup ts => (∀ t ∈ ts, Sm t) ∧ ts.length ≤ 100 | _ => True
end
end Law

namespace L4
open PySem PySem.Spec PyProof.Rows L2 L3
theorem pe_isiH {X : Cx} {K : PySem.W.Frag} {e : Expr} {te : TE} {c : Str} {T : String} {p p' pos : Pos} (hK : X.K = K) (hm : X.mg "isinstance" = none) (hc : X.mg c = none) (hv : bootBuiltins c = some (.type T)) (he : PE X e te) (hg : Gl X "isinstance" := by rfl) (hg' : Gl X c := by rfl) (hn : c ≠ "__name__" := by decide) (hd : (c == ("__debug__" : Str)) = false := by decide)
  (hs : starEach [e, .Name c p'] X.env = (false, eval e X.env) :: starEach [.Name c p'] X.env := by rfl) (hs2 : starEach [.Name c p'] X.env = (false, eval (.Name c p') X.env) :: starEach [] X.env := by rfl) (hpl : (backTo pos (starEach [.Name c p'] X.env)).any (·.1) = false := by rfl) :
  PE X (.Call (.Name "isinstance" p) [e, .Name c p'] [] pos) (tCB (rIsi K) (tCons te (tCons (tC (.ty T)) tNil))) := by
 subst hK
 exact pe_isi hm hc hv he hg hg' hn hd hs hs2 hpl
end L4

namespace Law
open PySem PySem.Spec PyProof.Rows L2 L3 L4
def formD (w : Str) : Option (List Str) := if w = "ask" then some ["name"] else if w = "carry" then some ["number"] else if w = "write" then some ["name", "reading"] else if w = "make" then some ["name", "reading"] else if w = "news" then some ["name", "name"] else if w = "back" then some ["name"] else if w = "fall" then some ["name"] else if w = "rise" then some ["name"] else none
def deedT : Th → Bool
 | .tup (.str w :: ts) => (match formD w with | none => false | some ks => kindsB ts ks)
 | _ => false
structure FmD (K : PySem.W.Frag) (prm : Params) (aF : Addr) (g : Str → Option V) : Prop where
 f : FrK K prm aF g
 n : ∀ z, g z = none → formD z = none
 s : ∀ z v, g z = some v → ∃ a ks, v = .ref a ∧ formD z = some ks ∧ ∀ H, SqT K H a (ks.map V.str)
theorem formD_len {w : Str} {ks : List Str} (h : formD w = some ks) : ks.length ≤ 3 := by
 unfold formD at h
 repeat (split at h; · cases h; decide)
 cases h
theorem cut_one {v : V} {xs : List V} : cutV (v :: xs) (some 1) none = xs := by
 unfold cutV
 rw [show (some (1 : Int)) = some ((1 : Nat) : Int) from rfl, HT.sIx_nat, HT.sIx_none, List.length_cons, show min 1 (xs.length + 1) = 1 by omega]
 simp
theorem cut_one_ne {v : V} {xs : List V} {A : Prop} : ¬ (HT.sIx (v :: xs).length 0 (some 1) = 0 ∧ A) := fun c => by
 have c1 := c.1
 rw [show HT.sIx (v :: xs).length 0 (some 1) = 1 by rw [show (some (1 : Int)) = some ((1 : Nat) : Int) from rfl, HT.sIx_nat, List.length_cons]; omega] at c1
 cases c1
section
variable {P : Program} {w : World} {K : PySem.W.Frag} {mg : Str → Option Value} {base : Heap} {CX : CXT} {aF : Addr} {g : Str → Option V}
theorem sc_deed : FnScope ["thing"] ["thing"] (defScope (top 25)) := by walk_at "s"
def spDeed : Sp := fun vs H Q _ => ∃ p v t, vs = [v] ∧ ThAt p H v t ∧ SmT t ∧ ∀ H', Same H H' → Q (.bl (deedT t)) H'
theorem ok_deed (D : Dat K mg "is_deed" "is_deed" (top 25) ["thing"]) (BT : Bt mg) (NE : NoErr CX) (FM : FmD K w.params aF g) (g_FORMS : GlV mg "FORMS" (.ref aF)) (c_has_word : Cal P w K mg base CX "has_word" 1 ["thing"] (spB wordT)) (c_are_of_kinds : Cal P w K mg base CX "are_of_kinds" 5 ["things", "kinds"] (spKinds K)) : Cal P w K mg base CX "is_deed" 6 ["thing"] spDeed := by
 have S := sc_deed
 have F_FORMS := FM.f
 walk_at "d"
 ·obtain ⟨p, v, t, rfl, _⟩ := h
  rfl
 obtain ⟨p, v, t, rfl, k, sm, q⟩ := h
 refine ⟨_, (@pss_cons _ _ _ _ _ (@ps_if _ _ _ _ _ _ _ _ (@PW.pt _ _ _ (@pw_or _ _ _ _ _ _ _ (@pt_not _ _ _ _ (@pt_val _ _ _ (@pe_fn _ _ _ _ _ _ _ _ _ _ _ _ c_has_word (hr.mono (by first | decide | omega)) NE.pass (@pa_cons _ _ _ _ _ (@pv _ 0 _ _ (by rfl) (by first | exact Or.inl rfl | exact Or.inr (Or.inl rfl) | exact Or.inr (Or.inr rfl)) (by decide) (by decide)) (@pa_nil _) (by rfl)) (by rfl) (by decide) (by rfl) (by rfl)) (by intro _; rfl))) (@pw_or1 _ _ _ _ (@pt_cmpR _ _ _ _ _ _ _ _ (op_notInG F_FORMS) (@pe_ix _ _ _ _ _ _ _ (@ix_tup _) (@pv _ 0 _ _ (by rfl) (by first | exact Or.inl rfl | exact Or.inr (Or.inl rfl) | exact Or.inr (Or.inr rfl)) (by decide) (by decide)) (@pe_int _ _ _ _) (fun _ _ => rfl)) (@pe_g _ _ _ _ g_FORMS (by rfl) (by decide)) (by with_unfolding_all rfl))))) (@pss_one _ _ _ (@ps_ret _ _ _ _ (@pe_bl _ _ _ _))) (@pss_nil _)) (@pss_one _ _ _ (@ps_ret _ _ _ _ (@pe_fn _ _ _ _ _ _ _ _ _ _ _ _ c_are_of_kinds (hr.mono (by first | decide | omega)) NE.pass (@pa_cons _ _ _ _ _ (@pe_slice _ _ _ _ _ _ _ _ _ _ (@sl_tup _) (@pv _ 0 _ _ (by rfl) (by first | exact Or.inl rfl | exact Or.inr (Or.inl rfl) | exact Or.inr (Or.inr rfl)) (by decide) (by decide)) (@po_some _ _ _ (@pe_int _ _ _ _)) (@po_none _)) (@pa_cons _ _ _ _ _ (pe_dgetG F_FORMS (@pe_g _ _ _ _ g_FORMS (by rfl) (by decide)) (@pe_ix _ _ _ _ _ _ _ (@ix_tup _) (@pv _ 0 _ _ (by rfl) (by first | exact Or.inl rfl | exact Or.inr (Or.inl rfl) | exact Or.inr (Or.inr rfl)) (by decide) (by decide)) (@pe_int _ _ _ _) (fun _ _ => rfl)) (fun _ _ => rfl)) (@pa_nil _) (by rfl)) (by rfl)) (by rfl) (by decide) (by rfl) (by rfl))))), ?_⟩
 try dsimp only [cxOf]
 walk_at "go"
 refine ⟨p, v, t, rfl, k, ?_⟩
 cases hw : wordT t with
 | false =>
  walk_at "go"
  rw [show deedT t = false by
   cases t with
   | tup ts => cases ts with
    | nil => rfl
    | cons t0 ts => cases t0 <;> first | rfl | cases hw
   | _ => rfl] at q
  exact q _ (Same.refl _)
 | true =>
 obtain ⟨z, ts, rfl⟩ : ∃ z ts, t = .tup (.str z :: ts) := by
  cases t with
  | tup ts => cases ts with
   | nil => cases hw
   | cons t0 ts => cases t0 <;> first | exact ⟨_, _, rfl⟩ | cases hw
  | _ => cases hw
 cases k with
 | tup ha hr =>
 rename_i a xs
 cases hr with
 | cons k0 hr =>
 cases k0
 rename_i xs
 have hl := hr.len
 have hsm := sm
 obtain ⟨sm1, sm2⟩ := hsm
 rw [List.length_cons] at sm2
 walk_at "go"
 refine ⟨a, _, _, _, rfl, rfl, SqT.of ha, atI_nat (j := 0) rfl, ?_⟩
 walk_at "go"
 refine ⟨z, rfl, rfl, ?_⟩
 have q : ∀ H', Same H H' → Q (.bl (match formD z with | none => false | some ks => kindsB ts ks)) H' := q
 cases hg : g z with
 | none =>
  walk_at "go"
  rw [FM.n z hg] at q
  exact q _ (Same.refl _)
 | some v =>
  obtain ⟨b, ks, rfl, hf, hb⟩ := FM.s z v hg
  rw [hf] at q
  walk_at "go"
  refine (g_ifF ?_ : if false = true then _ else _)
  walk_at "go"
  refine ⟨a, _, rfl, SqT.of ha, cut_one_ne, fun tp ntp => ?_⟩
  rw [cut_one]
  have s2 := same_new ntp (.tup xs)
  have h2 : (upd H tp (.tup xs)) tp = some (.tup xs) := upd_same
  have ha2 := s2 _ _ ha
  generalize upd H tp (.tup xs) = H2 at *
  walk_at "go"
  refine g_dgetG ?_
  walk_at "go"
  refine ⟨a, _, _, _, rfl, rfl, SqT.of ha2, atI_nat (j := 0) rfl, ?_⟩
  refine ⟨z, _, rfl, rfl, hg, ?_⟩
  walk_at "go"
  refine ⟨p, tp, b, xs, ts, ks, rfl, h2, hr.same s2, fun t ht => sm1 t (List.mem_cons_of_mem _ ht), hb, Nat.le_trans (formD_len hf) (by decide), by omega, fun H3 s3 => ?_⟩
  walk_at "go"
  exact q _ (s2.trans s3)
end
end Law

namespace Law
open PySem PySem.Spec PyProof.Rows L2 L3 L4
def sgs : Str := "0123456789abcdefghjkmnpqrstvwxyz"
def cd (n : Nat) : Nat := sgs.cps.toList.getD n 0
def Tf : Nat → Nat → List Nat
 | 0, _ => []
 | f + 1, n => if n = 0 then [] else Tf f (n / 32) ++ [cd (n % 32)]
def T (n : Nat) : List Nat := Tf 40 n
def stOf (l : List Nat) : Str := ⟨l.toArray⟩
end Law

namespace Law
open PySem PySem.Spec PyProof.Rows L2 L3 L4
def joinC (c : Nat) : List (List Nat) → List Nat
 | [] => []
 | [p] => p
 | p :: q :: r => p ++ c :: joinC c (q :: r)
def splitC (c : Nat) : List Nat → List (List Nat)
 | [] => [[]]
 | x :: r => if x = c then [] :: splitC c r else match splitC c r with
  | [] => [[x]]
  | p :: ps => (x :: p) :: ps
theorem splitC_ne (c : Nat) : ∀ l, splitC c l ≠ []
 | [] => by simp [splitC]
 | x :: r => by
  unfold splitC
  by_cases h : x = c
  ·rw [if_pos h]; simp
  ·rw [if_neg h]
   split <;> simp
theorem splitC_cons {c x : Nat} {r : List Nat} (h : x ≠ c) : ∃ p ps, splitC c r = p :: ps ∧ splitC c (x :: r) = (x :: p) :: ps := by
 cases e : splitC c r with
 | nil => exact absurd e (splitC_ne c r)
 | cons p ps =>
  refine ⟨p, ps, rfl, ?_⟩
  show (if x = c then [] :: splitC c r else match splitC c r with | [] => [[x]] | p :: ps => (x :: p) :: ps) = _
  rw [if_neg h, e]
theorem splitC_sep {c : Nat} {r : List Nat} : splitC c (c :: r) = [] :: splitC c r := by
 show (if c = c then _ else _) = _
 rw [if_pos rfl]
theorem splitC_one {c : Nat} : ∀ {p : List Nat}, ¬ c ∈ p → splitC c p = [p]
 | [], _ => rfl
 | x :: p, h => by
  obtain ⟨q, qs, e1, e2⟩ := splitC_cons (c := c) (x := x) (r := p) fun z => h (by rw [z]; exact List.mem_cons_self)
  rw [splitC_one fun z => h (List.mem_cons_of_mem _ z)] at e1
  cases e1
  exact e2
theorem splitC_app {c : Nat} {l : List Nat} : ∀ {p : List Nat}, ¬ c ∈ p → splitC c (p ++ c :: l) = p :: splitC c l
 | [], _ => splitC_sep
 | x :: p, h => by
  obtain ⟨a, as, e1, e2⟩ := splitC_cons (c := c) (x := x) (r := p ++ c :: l) fun z => h (by rw [z]; exact List.mem_cons_self)
  rw [splitC_app fun z => h (List.mem_cons_of_mem _ z)] at e1
  cases e1
  exact e2
theorem splitC_join (c : Nat) : ∀ (ps : List (List Nat)), ps ≠ [] → (∀ p ∈ ps, ¬ c ∈ p) → splitC c (joinC c ps) = ps
 | [], h, _ => absurd rfl h
 | [p], _, h => splitC_one (h p List.mem_cons_self)
 | p :: q :: r, _, h => by
  show splitC c (p ++ c :: joinC c (q :: r)) = _
  rw [splitC_app (h p List.mem_cons_self), splitC_join c (q :: r) (by simp) fun x hx => h x (List.mem_cons_of_mem _ hx)]
theorem join_toList (c : Nat) : ∀ ps : List Str, (Str.join ⟨#[c]⟩ ps).cps.toList = joinC c (ps.map fun z => z.cps.toList)
 | [] => rfl
 | [p] => rfl
 | p :: q :: r => by
  show (p ++ (⟨#[c]⟩ : Str) ++ Str.join ⟨#[c]⟩ (q :: r)).cps.toList = _
  have ih := join_toList c (q :: r)
  show ((p.cps ++ #[c]) ++ (Str.join ⟨#[c]⟩ (q :: r)).cps).toList = p.cps.toList ++ c :: joinC c ((q :: r).map fun z => z.cps.toList)
  rw [← ih]
  simp
theorem count_join (c : Nat) : ∀ ps : List (List Nat), ps ≠ [] → (joinC c ps).count c + 1 = ps.length + (ps.map (List.count c)).sum
 | [], h => absurd rfl h
 | [p], _ => by simp [joinC]; omega
 | p :: q :: r, _ => by
  have ih := count_join c (q :: r) (by simp)
  show (p ++ c :: joinC c (q :: r)).count c + 1 = _
  rw [List.count_append, List.count_cons_self, List.map_cons, List.sum_cons, List.length_cons]
  omega
open Builtin Builtin.Str in
theorem occ_count_go (z : Str) (c limit : Nat) : ∀ (n i : Nat) (st : Array Nat × Nat), st.2 ≤ i → st.1.size + n ≤ limit →
  (forIn (List.range' i n) st (StrLaws.occBody z ⟨#[c]⟩ z.length limit)).run.fst.size = st.1.size + ((z.cps.toList.drop i).take n).count c
 | 0, i, st, _, _ => by
  show st.1.size = _
  simp
 | n + 1, i, st, h1, h2 => by
  rw [List.range'_succ, List.forIn_cons]
  have tk : (z.cps.toList.drop i).take (n + 1) = (z.cps.toList[i]?).toList ++ (z.cps.toList.drop (i + 1)).take n := by
   cases e : z.cps.toList[i]? with
   | none =>
    have hl := List.getElem?_eq_none_iff.mp e
    rw [List.drop_eq_nil_of_le hl, List.drop_eq_nil_of_le (by omega)]
    simp
   | some x =>
    obtain ⟨hl, ex⟩ := List.getElem?_eq_some_iff.mp e
    rw [List.drop_eq_getElem_cons hl, List.take_succ_cons, ex]
    rfl
  rw [tk, List.count_append]
  unfold StrLaws.occBody
  by_cases hc : z.cps.toList[i]? = some c
  ·have hs := (StrLaws.subAt_one z c i).mpr hc
   rw [if_pos ⟨⟨⟨by omega, h1⟩, hs.1⟩, hs.2⟩]
   have ih := occ_count_go z c limit n (i + 1) (st.1.push i, i + (⟨#[c]⟩ : Str).length) (by show i + 1 ≤ i + 1; omega) (by rw [Array.size_push]; omega)
   show (forIn (List.range' (i + 1) n) (st.1.push i, i + (⟨#[c]⟩ : Str).length) (StrLaws.occBody z ⟨#[c]⟩ z.length limit)).run.fst.size = _
   rw [ih, Array.size_push, hc]
   simp
   omega
  ·have ns : ¬ (((st.1.size < limit ∧ st.2 ≤ i) ∧ i + (⟨#[c]⟩ : Str).length ≤ z.length) ∧ subAt z ⟨#[c]⟩ i = true) := fun h => hc ((StrLaws.subAt_one z c i).mp ⟨h.1.2, h.2⟩)
   rw [if_neg ns]
   have ih := occ_count_go z c limit n (i + 1) st (by omega) (by omega)
   show (forIn (List.range' (i + 1) n) (st.1, st.2) (StrLaws.occBody z ⟨#[c]⟩ z.length limit)).run.fst.size = _
   have e0 : (z.cps.toList[i]?).toList.count c = 0 := by
    cases e : z.cps.toList[i]? with
    | none => rfl
    | some x =>
     have : x ≠ c := fun q => hc (by rw [e, q])
     simp [this]
   rw [e0, Nat.zero_add]
   exact ih
open Builtin Builtin.Str in
theorem occ_count (z : Str) (c : Nat) : (occurrences z ⟨#[c]⟩ 0 z.length (z.length + 1)).length = z.cps.toList.count c := by
 rw [StrLaws.occ_eq, Array.length_toList, Nat.sub_zero, occ_count_go z c (z.length + 1) (z.length + 1) 0 (#[], 0) (Nat.le_refl _) (by simp)]
 rw [List.drop_zero, List.take_of_length_le (by rw [Array.length_toList]; show z.cps.size ≤ z.cps.size + 1; omega)]
 simp
open Builtin Builtin.Str in
theorem split_one (z : Str) {c : Nat} (hc : c < 256) : Txt.split z ⟨#[c]⟩ = (splitC c z.cps.toList).map stOf := by
 have key : ∀ ps : List Str, ps ≠ [] → Str.join ⟨#[c]⟩ ps = z → ps.length = z.cps.toList.count c + 1 → ps = (splitC c z.cps.toList).map stOf := fun ps hn hj hl => by
  have e1 := join_toList c ps
  rw [hj] at e1
  have hn' : ps.map (fun z => z.cps.toList) ≠ [] := fun z => hn (List.map_eq_nil_iff.mp z)
  have e2 := count_join c (ps.map fun z => z.cps.toList) hn'
  rw [← e1, List.length_map, hl] at e2
  have e3 : ((ps.map fun z => z.cps.toList).map (List.count c)).sum = 0 := by omega
  have fr : ∀ p ∈ ps.map (fun z => z.cps.toList), ¬ c ∈ p := fun p hp => by
   have : p.count c = 0 := by
    have z0 := List.sum_eq_zero_iff_forall_eq_nat.mp e3 (p.count c) (List.mem_map.mpr ⟨p, hp, rfl⟩)
    exact z0
   exact List.count_eq_zero.mp this
  have e4 := splitC_join c _ hn' fr
  rw [← e1] at e4
  rw [e4, List.map_map]
  conv => lhs; rw [← List.map_id ps]
  exact List.map_congr_left fun p _ => rfl
 have k1 : Builtin.Str.strKind ⟨#[c]⟩ = 1 := by unfold Builtin.Str.strKind; simp [hc]
 have kz : ¬ Builtin.Str.strKind z < Builtin.Str.strKind ⟨#[c]⟩ := by
  rw [k1]
  unfold Builtin.Str.strKind
  split
  ·decide
  ·split <;> decide
 have one : (∀ x ∈ z.cps.toList, x ≠ c) → [z] = (splitC c z.cps.toList).map stOf := fun h => key [z] (by simp) rfl (by rw [List.count_eq_zero.mpr fun q => h c q rfl]; rfl)
 unfold Txt.split
 by_cases h1 : (decide (z.length < (⟨#[c]⟩ : Str).length) || decide (Builtin.Str.strKind z < Builtin.Str.strKind ⟨#[c]⟩)) = true
 ·rw [if_pos h1]
  rw [decide_eq_false kz, Bool.or_false, decide_eq_true_iff] at h1
  have hz : z.cps.toList = [] := List.length_eq_zero_iff.mp (by rw [Array.length_toList]; have : z.cps.size < 1 := h1; omega)
  exact one (by rw [hz]; simp)
 ·rw [if_neg h1]
  by_cases h2 : (occurrences z ⟨#[c]⟩ 0 z.length (z.length + 1)).isEmpty = true
  ·rw [if_pos h2]
   have := occ_count z c
   rw [List.isEmpty_iff.mp h2] at this
   exact one fun x hx e => List.count_eq_zero.mp this.symm (e ▸ hx)
  ·rw [if_neg h2]
   refine key _ ?_ ?_ ?_
   ·intro e
    have := length_partsBetween z (occurrences z ⟨#[c]⟩ 0 z.length (z.length + 1)) (⟨#[c]⟩ : Str).length
    rw [e] at this
    simp at this
   ·rw [← StrLaws.glued_eq_join]
    exact StrLaws.glued_between_self z ⟨#[c]⟩ (z.length + 1)
   ·rw [length_partsBetween, occ_count]
end Law
namespace L4
open PySem PySem.Spec PyProof.Rows L2 L3
def rIntT : RL := fun xs H Q => ∃ z n, xs = [.str z] ∧ PySem.intText? z = some n ∧ z.length ≤ 640 ∧ Q (.int n) H
def rSplit : V → List V → Hp → VK → Prop := fun x xs H Q => ∃ z y, x = .str z ∧ xs = [.str y] ∧ (y.length == 0) = false ∧ z.length ≤ 1000 ∧ ∀ l, H l = none → Q (.ref l) (upd H l (.lst ((Txt.split z y).map V.str)))
theorem vals_strsF : ∀ (tk : Nat) (ps : List Str), Vals (ps.map V.str) (strsFrom tk ps)
 | _, [] => .nil
 | tk, _ :: r => .cons ⟨_, rfl⟩ (vals_strsF (tk + 1) r)
section
variable {X : Cx}
theorem c_intT : CallR X (.type "int") rIntT := by
 intro pins s σ H xs us Q I r h
 obtain ⟨z, n, rfl, hn, hl, q⟩ := h
 obtain ⟨u, rfl, rx⟩ := vals1 r
 obtain ⟨t, rfl⟩ := rx
 exact PySem.W.KIN.call_text hn hl ⟨.int n, H, I.tok _, ⟨_, rfl⟩, q⟩
open Builtin Builtin.Str in
theorem m_split : MtR X "str.split" rSplit := by
 intro pins s σ H x xs v us Q I rx rs h
 obtain ⟨z, y, rfl, rfl, hy, hz, q⟩ := h
 obtain ⟨t, rfl⟩ := rx
 obtain ⟨u, rfl, ru⟩ := vals1 rs
 obtain ⟨t', rfl⟩ := ru
 have hsz : z.length ≤ sizeLine := Nat.le_of_lt (small1000 (by omega))
 have hpl : (partsBetween z (occurrences z y 0 z.length (z.length + 1)) y.length).length ≤ sizeLine := by
  have := StrLaws.occ_length_le z y 0 z.length (z.length + 1)
  rw [length_partsBetween, sizeLine_eq]
  omega
 have fin : ∀ (us : List Value) (tk : Nat) (e : (Txt.split z y).length ≤ sizeLine), Vals ((Txt.split z y).map V.str) us → EP X pins σ Q (.ref s.heap.objs.size) { s with toks := tk, heap := s.heap.push { cls := .type "list", data := .seq us.toArray } } := fun us tk e hv =>
  ⟨.ref s.heap.objs.size, _, I.laid (t' := tk) (fun b o e => Heap.get?_push_of_some _ e) (Nat.le_refl _) (show ObjOk X.prog X.w _ _ _ (.lst ((Txt.split z y).map V.str)) from ⟨by rw [List.length_map]; exact e, us, _, hv, Heap.get?_push_size _ rfl⟩), rfl, q _ (I.hok.fresh (Nat.le_refl _))⟩
 cases h1 : (decide (z.length < y.length) || decide (Builtin.Str.strKind z < Builtin.Str.strKind y))
 ·cases hf : (occurrences z y 0 z.length (z.length + 1)).isEmpty
  ·have es : Txt.split z y = partsBetween z (occurrences z y 0 z.length (z.length + 1)) y.length := (if_neg (ne_true_of_eq_false h1)).trans (if_neg (ne_true_of_eq_false hf))
   refine call_meets F.slot_str_split (typeIs_str _ _ _) F.entry_str_split (F.args_str_split_2 _ _) (meets_str_split_sep z y t t' h1 hy hf hsz hpl) ?_
   exact fin _ _ (by rw [es]; exact hpl) (by rw [es]; exact vals_strsF _ _)
  ·have es : Txt.split z y = [z] := (if_neg (ne_true_of_eq_false h1)).trans (if_pos hf)
   exact call_meets F.slot_str_split (typeIs_str _ _ _) F.entry_str_split (F.args_str_split_2 _ _) (meets_str_split_not_found z y t t' h1 hy hf) (fin [.str z t] s.toks (by rw [es]; exact Nat.le_of_lt (small1000 (by simp))) (by rw [es]; exact .cons ⟨_, rfl⟩ .nil))
 ·have es : Txt.split z y = [z] := if_pos h1
  exact call_meets F.slot_str_split (typeIs_str _ _ _) F.entry_str_split (F.args_str_split_2 _ _) (meets_str_split_cannot_occur z y t t' h1) (fin [.str z t] s.toks (by rw [es]; exact Nat.le_of_lt (small1000 (by simp))) (by rw [es]; exact .cons ⟨_, rfl⟩ .nil))
end
section
variable {K : PySem.W.Frag} {H : Hp} {Q : VK} {P : Addr → Prop} {H0 : Hp} {l : List (Addr × Ob)} {fs : List Pr}
theorem g_intT {z : Str} {n : Int} (hn : PySem.intText? z = some n) (hl : z.length ≤ 640) (h : Q (.int n) H) : rIntT [.str z] H Q := ⟨z, n, rfl, hn, hl, h⟩
theorem g_split {z y : Str} (L : Led P H0 H l fs) (hy : (y.length == 0) = false) (hz : z.length ≤ 1000) (h : ∀ (b : Addr) (H' : Hp), H b = none → Led P H0 H' ((b, Eo (.lst ((Txt.split z y).map V.str))) :: l) fs → Same H H' → Q (.ref b) H') : rSplit (.str z) [.str y] H Q :=
 ⟨z, y, rfl, rfl, hy, hz, fun b nb => h b _ nb (L.newO nb rfl) (same_upd0 nb)⟩
end
end L4

namespace Law
open PySem PySem.Spec PyProof.Rows L2 L3 L4
def figs : Str := "0123456789"
def figC (c : Nat) : Bool := !(Builtin.Str.occurrences figs ⟨#[c]⟩ 0 figs.length 1).isEmpty
theorem figs_ext : ∀ i, i < 10 → figs.cps.extract i (i + 1) = #[48 + i] := by decide +kernel
theorem figs_size : figs.length = 10 := by decide +kernel
theorem fig_at : ∀ i, i < 10 → figC (48 + i) = true := by decide +kernel
theorem figC_iff (c : Nat) : figC c = true ↔ 48 ≤ c ∧ c ≤ 57 := by
 constructor
 ·intro h
  refine Classical.byContradiction fun hc => ?_
  have e : Builtin.Str.occurrences figs ⟨#[c]⟩ 0 figs.length 1 = [] := by
   refine PySem.W.occ_nil_of_no _ _ _ fun i hi => ?_
   have hi' : i + 1 ≤ 10 := by rw [figs_size] at hi; exact hi
   show (figs.cps.extract i (i + 1) == #[c]) = false
   rw [figs_ext i (by omega)]
   have : ¬ 48 + i = c := fun z => hc (by omega)
   simpa using this
  unfold figC at h
  rw [e] at h
  cases h
 ·intro h
  have := fig_at (c - 48) (by omega)
  rw [show 48 + (c - 48) = c by omega] at this
  exact this
def numB (l : List Nat) : Bool := decide (1 ≤ l.length) && (decide (l.length ≤ 40) && (l.all figC && (!decide (l.head? = some 48) || decide (l.length = 1))))
def numO (l : List Nat) : Option Nat := if numB l = true then some (NumText.digitsVal l) else none
theorem num_parts {l : List Nat} (h : numB l = true) : 1 ≤ l.length ∧ l.length ≤ 40 ∧ l.all figC = true := by
 unfold numB at h
 rw [Bool.and_eq_true, Bool.and_eq_true, Bool.and_eq_true, decide_eq_true_iff, decide_eq_true_iff] at h
 exact ⟨h.1, h.2.1, h.2.2.1⟩
theorem num_int {z : Str} (h : numB z.cps.toList = true) : PySem.intText? z = some ((NumText.digitsVal z.cps.toList : Nat) : Int) := by
 obtain ⟨h1, h2, h3⟩ := num_parts h
 refine PySem.intText_digits (fun c hc => (figC_iff c).mp (List.all_eq_true.mp h3 c hc)) (fun e => ?_) ?_
 ·rw [e] at h1; exact absurd h1 (by decide)
 ·rw [show z.length = z.cps.toList.length by simp [Str.length]]; omega
theorem num_str {n : Nat} (hn : n < 10 ^ 40) : numB ((toString (n : Int) : String) : Str).cps.toList = true ∧ NumText.digitsVal ((toString (n : Int) : String) : Str).cps.toList = n := by
 have hs : ((toString (n : Int) : String) : Str).cps.toList = (Nat.toDigits 10 n).map Char.toNat := PySem.W.KIN.signs_num n
 have hv := PySem.W.KIN.val_back n
 have hl1 := toDigits_len_ge 10 n
 have hl2 := digits10_le (k := 40) (by decide) hn
 have hd : NumText.AllDigits ((Nat.toDigits 10 n).map Char.toNat) := fun c hc => by
  obtain ⟨ch, hch, e⟩ := List.mem_map.mp hc
  rw [← e]
  exact digit_range (Nat.isDigit_of_mem_toDigits (by decide) (by decide) hch)
 rw [hs]
 refine ⟨?_, hv⟩
 have hz : ((Nat.toDigits 10 n).map Char.toNat).head? = some 48 → ((Nat.toDigits 10 n).map Char.toNat).length = 1 := fun h0 => by
  have hall := NumText.toDigits_all _ hd
  rw [hv] at hall
  generalize hcs : (Nat.toDigits 10 n).map Char.toNat = cs at *
  cases cs with
  | nil => cases h0
  | cons a r =>
   cases h0
   have hlen : (Nat.toDigits 10 n).length = r.length + 1 := by rw [← List.length_map (f := Char.toNat), hcs]; rfl
   rw [hall] at hlen
   have hdw : (List.dropWhile (fun x => x == 48) (48 :: r)).length ≤ r.length := by
    rw [List.dropWhile_cons_of_pos (by rfl)]
    exact (List.dropWhile_sublist _).length_le
   cases hdc : List.dropWhile (fun x => x == 48) (48 :: r) with
   | nil =>
    rw [hdc] at hlen
    exact hlen.symm
   | cons b t =>
    rw [hdc] at hlen hdw
    have hlen : ((b :: t).map Char.ofNat).length = r.length + 1 := hlen
    rw [List.length_map] at hlen
    omega
 unfold numB
 rw [List.length_map, decide_eq_true hl1, decide_eq_true hl2, List.all_eq_true.mpr fun c hc => (figC_iff c).mpr (hd c hc), Bool.true_and, Bool.true_and, Bool.true_and]
 by_cases h0 : ((Nat.toDigits 10 n).map Char.toNat).head? = some 48
 ·have := hz h0
  rw [List.length_map] at this
  rw [decide_eq_true this, Bool.or_true]
 ·rw [decide_eq_false h0]; rfl
theorem splitC_len (c : Nat) : ∀ l, (splitC c l).length ≤ l.length + 1
 | [] => Nat.le_refl _
 | y :: r => by
  have ih := splitC_len c r
  by_cases e : y = c
  ·subst e
   rw [splitC_sep, List.length_cons, List.length_cons]; omega
  ·obtain ⟨q, qs, e1, e2⟩ := splitC_cons (c := c) (r := r) e
   rw [e1] at ih
   rw [e2, List.length_cons, List.length_cons]
   rw [List.length_cons] at ih
   omega
end Law

namespace L4
open PySem PySem.Spec PyProof.Rows L2 L3
end L4
namespace Law
open PySem PySem.Spec PyProof.Rows L2 L3 L4
section
variable {P : Program} {w : World} {K : PySem.W.Frag} {mg : Str → Option Value} {base : Heap} {CX : CXT} {CN aR : Addr}
theorem sc_need : FnScope ["is_right"] ["is_right"] (defScope (top 29)) := by walk_at "s"
def spNeed (CN : Addr) : Sp := fun vs H Q E => ∃ b : Bool, vs = [.bl b] ∧ (b = true → Q .non H) ∧ (b = false → E (.ref CN) none H)
theorem ok_need (D : Dat K mg "need" "need" (top 29) ["is_right"]) (O_NoText : ECls K mg "NoText" CN) : Cal P w K mg base (CX1 P w) "need" 1 ["is_right"] (spNeed CN) := by
 have S := sc_need
 refine D.okR S (fun vs H Q E h => ?_) (fun f cdv A outer s H vs Q E hr h => ?_)
 ·obtain ⟨b, rfl, _⟩ := h
  rfl
 obtain ⟨b, rfl, qT, qF⟩ := h
 refine ⟨_, (@pss_one _ _ _ (@ps_if _ _ _ _ _ _ _ _ (@pt_not _ _ _ _ (@pt_val _ _ _ (@pv _ 0 _ _ (by rfl) (by first | exact Or.inl rfl | exact Or.inr (Or.inl rfl) | exact Or.inr (Or.inr rfl)) (by decide) (by decide)) (by intro _; rfl))) (@pss_one _ _ _ (@ps_raise _ _ _ _ _ _ _ _ _ _ O_NoText rfl (@paX_self _ _) (@pa_cons _ _ _ _ _ (@pe_str _ _ _ _) (@pa_nil _) (by rfl)) (by rfl) (by decide) (by rfl) (by rfl))) (@pss_nil _))), ?_⟩
 try dsimp only [xcx, cxOf]
 walk_at "go"
 cases b with
 | true =>
  walk_at "go"
  exact qT rfl
 | false =>
  walk_at "go"
  exact qF rfl
theorem use_need {H : Hp} {Q : VK} {E : XK} {b : Bool} (qT : b = true → Q .non H) (qF : b = false → E (.ref CN) none H) : spNeed CN [.bl b] H Q E := ⟨b, rfl, qT, qF⟩
theorem e48 (b : Nat) : (({ cps := #[b] } : Str) = Str.ofString "0") ↔ b = 48 := by
 constructor
 ·intro z
  have := congrArg (fun s : Str => s.cps.toList) z
  have h2 : (Str.ofString "0").cps.toList = [48] := by decide +kernel
  simp only [h2] at this
  simpa using this
 ·rintro rfl; decide +kernel
theorem sc_rnum : FnScope ["word"] ["word"] (defScope (top 31)) := by walk_at "s"
def numV : V → Option Nat
 | .str z => numO z.cps.toList
 | _ => none
def spRNum (CN : Addr) : Sp := fun vs H Q E => ∃ v, vs = [v] ∧ Knd H v ∧ (∀ z, v = .str z → z.length ≤ 500) ∧ (∀ n, numV v = some n → ∀ H', Same H H' → Q (.int (n : Nat)) H') ∧ (numV v = none → ∀ H', Same H H' → E (.ref CN) none H')
theorem isi_str {H : Hp} {Q : VK} {v : V} (k : Knd H v) (hT : ∀ z, v = .str z → Q (.bl true) H) (hF : (∀ z, v ≠ .str z) → Q (.bl false) H) : rIsi K [v, .ty "str"] H Q := by
 cases k with
 | str z => exact g_isiI (b := true) (T := "str") (.str z) rfl (hT z rfl)
 | int i => exact g_isiI (b := false) (T := "str") (.int i) rfl (hF fun _ z => nomatch z)
 | bl b => exact g_isiI (b := false) (T := "str") (.bl b) rfl (hF fun _ z => nomatch z)
 | non => exact g_isiI (b := false) (T := "str") .non rfl (hF fun _ z => nomatch z)
 | lst e9 => exact g_isiI (b := false) (T := "str") (.lst e9) rfl (hF fun _ z => nomatch z)
 | tup e9 => exact g_isiI (b := false) (T := "str") (.tup e9) rfl (hF fun _ z => nomatch z)
 | dK e9 => exact g_isiI (b := false) (T := "str") (.dK e9) rfl (hF fun _ z => nomatch z)
theorem ok_rnum (D : Dat K mg "read_number" "read_number" (top 31) ["word"]) (BT : Bt mg) (NE : NoErr (CX1 P w)) (g_FIGURES : GlV mg "FIGURES" (.str figs)) (g_MOST_FIGURES : GlV mg "MOST_FIGURES" (.int 40)) (c_need : Cal P w K mg base (CX1 P w) "need" 1 ["is_right"] (spNeed CN)) : Cal P w K mg base (CX1 P w) "read_number" 2 ["word"] (spRNum CN) := by
 have S := sc_rnum
 refine D.okR S (fun vs H Q E h => ?_) (fun f cdv A outer s H vs Q E hr h => ?_)
 ·obtain ⟨v, rfl, _⟩ := h
  rfl
 obtain ⟨v, rfl, k, hv, qT, qF⟩ := h
 refine ⟨_, (@pss_cons _ _ _ _ _ (@ps_expr _ _ _ _ (@pe_fnX _ _ _ _ _ _ _ _ _ _ _ c_need (hr.mono (by first | decide | omega)) (@paX_self _ _) (@pa_cons _ _ _ _ _ (@pe_isi _ _ _ _ _ _ _ _ BT.isinstance BT.str_ L3.bt_str (@pv _ 0 _ _ (by rfl) (by first | exact Or.inl rfl | exact Or.inr (Or.inl rfl) | exact Or.inr (Or.inr rfl)) (by decide) (by decide)) (by rfl) (by rfl) (by decide) (by decide) (by rfl) (by rfl) (by rfl)) (@pa_nil _) (by rfl)) (by rfl) (by decide) (by rfl) (by rfl)) (by rfl)) (@pss_cons _ _ _ _ _ (@ps_expr _ _ _ _ (@pe_fnX _ _ _ _ _ _ _ _ _ _ _ c_need (hr.mono (by first | decide | omega)) (@paX_self _ _) (@pa_cons _ _ _ _ _ (@pe_and _ _ _ _ _ _ _ (@pe_cmpR _ _ _ _ _ _ _ _ (@op_le _) (@pe_int _ _ _ _) (@pe_callB _ _ _ _ _ _ _ _ _ (@c_lenS _) rfl BT.len L3.bt_len (@pa_cons _ _ _ _ _ (@pv _ 0 _ _ (by rfl) (by first | exact Or.inl rfl | exact Or.inr (Or.inl rfl) | exact Or.inr (Or.inr rfl)) (by decide) (by decide)) (@pa_nil _) (by rfl)) (by decide) (by decide) (by rfl) (by rfl)) (@nomark _ _ (by decide) (by decide))) (@pe_one _ _ _ _ _ (@pe_cmpR _ _ _ _ _ _ _ _ (@op_le _) (@pe_callB _ _ _ _ _ _ _ _ _ (@c_lenS _) rfl BT.len L3.bt_len (@pa_cons _ _ _ _ _ (@pv _ 0 _ _ (by rfl) (by first | exact Or.inl rfl | exact Or.inr (Or.inl rfl) | exact Or.inr (Or.inr rfl)) (by decide) (by decide)) (@pa_nil _) (by rfl)) (by decide) (by decide) (by rfl) (by rfl)) (@pe_g _ _ _ _ g_MOST_FIGURES (by rfl) (by decide)) (@nomark _ _ (by decide) (by decide))))) (@pa_nil _) (by rfl)) (by rfl) (by decide) (by rfl) (by rfl)) (by rfl)) (@pss_cons _ _ _ _ _ (@ps_expr _ _ _ _ (@pe_fnX _ _ _ _ _ _ _ _ _ _ _ c_need (hr.mono (by first | decide | omega)) (@paX_self _ _) (@pa_cons _ _ _ _ _ (@pe_callB _ _ _ _ _ _ _ _ _ (@call_all _ rfl) rfl BT.all L3.bt_all (@pa_cons _ _ _ _ _ (@pe_comp _ _ _ _ _ _ _ _ _ _ (gName 0) _ _ rfl (pi_str (@pv _ 0 _ _ (by rfl) (by first | exact Or.inl rfl | exact Or.inr (Or.inl rfl) | exact Or.inr (Or.inr rfl)) (by decide) (by decide))) (@blk_of _ _ ["sign"] [] (defScope (top 31)).names ["word"] rfl rfl rfl (by decide +kernel)) (fun _ _ _ _ => (@pg_name _ _ 0 _ (show (blkN ["word"] ["sign"] []).Nodup by decide +kernel) rfl (by first | exact Or.inl rfl | exact Or.inr rfl) (by first | exact .inl rfl | exact .inr rfl | assumption))) (fun _ _ _ _ => (@pifs_nil _)) (fun _ _ _ _ => (@pe_cmpR _ _ _ _ _ _ _ _ (@o_inS _) (@pv _ 0 _ _ (by rfl) (by first | exact Or.inl rfl | exact Or.inr (Or.inl rfl) | exact Or.inr (Or.inr rfl)) (by decide) (by decide)) (@pe_g _ _ _ _ g_FIGURES (by rfl) (by decide)) (by with_unfolding_all rfl))) (by intro _; rfl)) (@pa_nil _) (by rfl)) (by decide) (by decide) (by rfl) (by rfl)) (@pa_nil _) (by rfl)) (by rfl) (by decide) (by rfl) (by rfl)) (by rfl)) (@pss_cons _ _ _ _ _ (@ps_expr _ _ _ _ (@pe_fnX _ _ _ _ _ _ _ _ _ _ _ c_need (hr.mono (by first | decide | omega)) (@paX_self _ _) (@pa_cons _ _ _ _ _ (@pe_or _ _ _ _ _ _ _ (@pe_cmpR _ _ _ _ _ _ _ _ (@op_ne _) (@pe_ix _ _ _ _ _ _ _ (@ix_str _) (@pv _ 0 _ _ (by rfl) (by first | exact Or.inl rfl | exact Or.inr (Or.inl rfl) | exact Or.inr (Or.inr rfl)) (by decide) (by decide)) (@pe_int _ _ _ _) (fun _ _ => rfl)) (@pe_str _ _ _ _) (@nomark _ _ (by decide) (by decide))) (@pe_one _ _ _ _ _ (@pe_cmpR _ _ _ _ _ _ _ _ (@op_eq _) (@pe_callB _ _ _ _ _ _ _ _ _ (@c_lenS _) rfl BT.len L3.bt_len (@pa_cons _ _ _ _ _ (@pv _ 0 _ _ (by rfl) (by first | exact Or.inl rfl | exact Or.inr (Or.inl rfl) | exact Or.inr (Or.inr rfl)) (by decide) (by decide)) (@pa_nil _) (by rfl)) (by decide) (by decide) (by rfl) (by rfl)) (@pe_int _ _ _ _) (@nomark _ _ (by decide) (by decide))))) (@pa_nil _) (by rfl)) (by rfl) (by decide) (by rfl) (by rfl)) (by rfl)) (@pss_one _ _ _ (@ps_ret _ _ _ _ (@pe_callTy _ _ _ _ _ _ _ _ _ c_intT rfl BT.int_ L3.bt_int (@pa_cons _ _ _ _ _ (@pv _ 0 _ _ (by rfl) (by first | exact Or.inl rfl | exact Or.inr (Or.inl rfl) | exact Or.inr (Or.inr rfl)) (by decide) (by decide)) (@pa_nil _) (by rfl)) (by decide) (by decide) (by rfl) (by rfl)))))))), ?_⟩
 try dsimp only [xcx, cxOf]
 walk_at "go"
 refine isi_str k (fun z e => ?_) (fun e => ?_)
 rotate_left
 ·have en : numV v = none := by
   cases v with
   | str z => exact absurd rfl (e z)
   | _ => rfl
  walk_at "go"
  exact use_need (fun z => nomatch z) fun _ => qF en _ (Same.refl _)
 subst e
 have hz := hv z rfl
 have zs : z.length ≤ sizeLine := Nat.le_of_lt (small1000 (by omega))
 have hzl := len_of z
 walk_at "go"
 refine use_need (fun _ => ?_) (fun z => nomatch z)
 walk_at "go"
 have no : numB z.cps.toList = false → numV (.str z) = none := fun h => by
  show numO z.cps.toList = none
  unfold numO
  rw [h, if_neg Bool.false_ne_true]
 have nb : numB z.cps.toList = (decide (1 ≤ z.cps.toList.length) && (decide (z.cps.toList.length ≤ 40) && (z.cps.toList.all figC && (!decide (z.cps.toList.head? = some 48) || decide (z.cps.toList.length = 1))))) := rfl
 refine g_ifD (fun c1 => ?_) (fun c1 => ?_)
 rotate_left
 ·walk_at "go"
  exact use_need (fun z => nomatch z) fun _ => qF (no (by rw [nb, decide_eq_false (show ¬ 1 ≤ z.cps.toList.length by omega)]; rfl)) _ (Same.refl _)
 walk_at "go"
 rw [decide_eq_true (show 1 ≤ z.cps.toList.length by omega), Bool.true_and] at nb
 refine use_need (fun c2 => ?_) (fun c2 => ?_)
 rotate_left
 ·rw [decide_eq_false_iff_not] at c2
  exact qF (no (by rw [nb, decide_eq_false (show ¬ z.cps.toList.length ≤ 40 by omega)]; rfl)) _ (Same.refl _)
 rw [decide_eq_true_iff] at c2
 rw [decide_eq_true (show z.cps.toList.length ≤ 40 by omega), Bool.true_and] at nb
 walk_at "go"
 refine g_wkS ?_
 walk_at "go"
 refine g_wkSv ?_
 refine g_compSt (fun i ys H' => ys = ((z.cps.toList.take i).map figC).map V.bl ∧ H' = H) ⟨rfl, rfl⟩ (fun i ys H' hi ⟨e, _⟩ => by rw [e, List.length_map, List.length_map, List.length_take]; exact Nat.le_of_lt (small1000 (by omega))) ?_ ?_
 ·rintro i c ys H' hc ⟨rfl, rfl⟩
  try dsimp only [gName]
  walk_at "go"
  refine ⟨_, _, rfl, rfl, ?_⟩
  walk_at "go"
  exact ⟨by rw [List.take_add_one, hc, Option.toList, List.map_append, List.map_append]; rfl, rfl⟩
 rintro ys H' ⟨rfl, rfl⟩ lc nlc
 rw [List.take_length]
 walk_at "go"
 refine g_allB (SqL.of upd_same) ?_
 have sm := same_new nlc (.lst ((z.cps.toList.map figC).map V.bl))
 generalize upd H' lc (.lst ((z.cps.toList.map figC).map V.bl)) = H2 at *
 rw [List.all_map, show (id ∘ figC) = figC from rfl]
 walk_at "go"
 refine use_need (fun c3 => ?_) (fun c3 => ?_)
 rotate_left
 ·exact qF (no (by rw [nb, c3]; rfl)) _ sm
 rw [c3, Bool.true_and] at nb
 obtain ⟨a, r, hl⟩ : ∃ a r, z.cps.toList = a :: r := by
  cases hl : z.cps.toList with
  | nil => rw [hl] at hzl; simp at hzl; omega
  | cons a r => exact ⟨a, r, rfl⟩
 have eh : decide (z.cps.toList.head? = some 48) = decide (({ cps := #[a] } : Str) = Str.ofString "0") := by
  rw [hl]
  by_cases h : a = 48
  ·rw [decide_eq_true ((e48 a).mpr h), h]; rfl
  ·rw [decide_eq_false (fun x => h ((e48 a).mp x))]; simp [h]
 have el : decide (z.cps.toList.length = 1) = decide ((z.length : Int) = 1) := by
  rw [← hzl]
  by_cases h : z.length = 1
  ·rw [decide_eq_true h, decide_eq_true (by omega)]
  ·rw [decide_eq_false h, decide_eq_false (by omega)]
 rw [eh, el] at nb
 walk_at "go"
 refine g_ixS (c := a) zs (by rw [hl]; exact atI_nat (j := 0) rfl) ?_
 walk_at "go"
 have fin : numB z.cps.toList = true → rIntT [V.str z] H2 Q := fun h => g_intT (num_int h) (by omega) (qT _ (by show numO z.cps.toList = _; unfold numO; rw [if_pos h]) _ sm)
 refine g_ifN (fun c4 => ?_) (fun c4 => ?_)
 ·walk_at "go"
  refine use_need (fun c5 => ?_) (fun c5 => ?_)
  ·walk_at "go"
   exact fin (by rw [nb, c5, Bool.or_true])
  ·exact qF (no (by rw [nb, c5, decide_eq_true c4]; rfl)) _ sm
 ·walk_at "go"
  refine use_need (fun _ => ?_) (fun z => nomatch z)
  walk_at "go"
  exact fin (by rw [nb, decide_eq_false c4]; rfl)
end
end Law

namespace L4
open PySem PySem.Spec PyProof.Rows L2 L3 PySem.W
theorem note_congr {e : Value} {env env' : Env} (h : env.frame = env'.frame) : noteFrame e env = noteFrame e env' := by
 unfold noteFrame PySem.frameOf
 rw [h]
def compPostX (M : Model) (A : Around) (E : Value → Shared → Prop) (Q : Value → Shared → Prop) (acc : Value) (C : Addr) (fr : Option Addr) (r : Result) (s' : Shared) : Prop :=
 match r with
 | .ok _ => ∃ m, s'.heap.Ns C m ∧ ∀ h', Heap.SameBut C s'.heap h' → Q acc { s' with heap := h' }
 | .error x => ∃ m, s'.heap.Ns C m ∧ ∀ h', Heap.SameBut C s'.heap h' → ∀ cenv : Env, cenv.locals = C → cenv.frame = fr → wpAny M A (passOn "comprehension.variables-let-go" x cenv : Sem Value) (fun _ _ => False) E { s' with heap := h' }
theorem comp_freeX {M : Model} {A : Around} {E : Value → Shared → Prop} {s : Shared} {env : Env} {e : Expr} {scope : Scope} {pos : Pos} {newAcc first : Sem Value} {g : Comprehension} {gs : List Comprehension} {cl : List (Str × Addr)} {Q : Value → Shared → Prop}
  (hcl : clausesOf e = g :: gs) (hs : ∀ x, foldedSetIterable g.iter env x = pure x) (hclos : closureFor scope env = pure cl) (hkind : scope.kind = .function) (hnames : ∀ x ∈ scope.names, x.2 = .local → scope.names.lookup x.1 = some .local)
  (h : wpAny M A first (fun x s1 => wpAny M A (pyIter x) (fun it s2 => wpAny M A newAcc (fun acc s3 => wpAny M A (newFunctionEnv scope env.globals cl [] env.qual none .none (some env)) (fun cenv s4 =>
   codeAny M A (.compStart e 0 it acc { cenv with scope := relabel scope env }) (compPostX M A E Q acc cenv.locals cenv.frame) s4) E s3) E s2) E s1) E s) :
  wpAny M A (comprehension e scope env pos newAcc false first none) Q E s := by
 unfold comprehension
 rw [hclos, hcl]
 refine wpAny_bind (wpAny_mono h (fun x s1 h1 => ?_) fun _ _ z => z)
 refine wpAny_bind (wpAny_standAt (wpAny_bind (wpAny_of_eq (hs x) (wpAny_bind (wpAny_holding (wpAny_mono h1 (fun it s2 h2 => ?_) fun _ _ z => z))))))
 refine wpAny_standIf (wpAny_bind (wpAny_mono h2 (fun acc s3 h3 => ?_) fun _ _ z => z))
 refine wpAny_bind (wpAny_pure (wpAny_bind (wpAny_mono h3 (fun cenv s4 h4 => ?_) fun _ _ z => z)))
 dsimp only
 have lets : ∀ x ∈ (scope.names.filter fun x => (x.2 == .local || x.2 == .cell) && x.1 != (".0" : Str)).reverse, x.2 = .local → Env.kindOf { cenv with scope := relabel scope env } x.1 = some .local :=
  fun x hx hl => lookup_relabel_local (hnames x (List.mem_filter.mp (List.mem_reverse.mp hx)).1 hl)
 refine wpAny_holding (wpAny_bind (wpAny_attempt (wpAny_holding (wpAny_run (codeAny_mono h4 fun r s' hr => ?_)))))
 cases r with
 | ok f =>
  obtain ⟨m, hn, q⟩ := hr
  exact wpAny_bind (wpAny_holding (wpAny_comp_letGo (cenv := { cenv with scope := relabel scope env }) hkind _ s' m lets hn fun h' _ _ sb => wpAny_pure (q h' sb)))
 | error x =>
  obtain ⟨m, hn, q⟩ := hr
  exact wpAny_bind (wpAny_holding (wpAny_comp_letGo (cenv := { cenv with scope := relabel scope env }) hkind _ s' m lets hn fun h' _ _ sb => wpAny_mono (q h' sb _ rfl rfl) (fun _ _ z => z.elim) fun _ _ z => z))
theorem compLoop_okX {prog : Program} {w : World} {A : Around} {R : Result → Shared → Prop} {s : Shared} {elt target iter : Expr} {ifs : List Expr} {scope : Scope} {pos : Pos} {it acc : Value} {env : Env} {Ez : Value → Shared → Prop} (I : Nat → Shared → Prop)
  (hz : ∀ e s', Ez e s' → notedBy (model prog w) A env (fun e s' => R (.error e) s') e s')
  (turn : ∀ n s, I n s → wpAny (model prog w) A (pyNext it) (fun r s₁ => match r with
   | none => R (.ok .next) s₁
   | some v => wpAny (model prog w) A (letOwnedTupleGo target it v) (fun _ s₁' => wpAny (model prog w) A (assign target env v) (fun _ s₂ =>
     wpAny (model prog w) A (forIn ifs true fun c r => if r = true then do let ok ← isTrue c env (eval c env); pure (ForInStep.yield ok) else pure (ForInStep.yield r)) (fun ok s₃ =>
      if ok = true then wpAny (model prog w) A (eval elt env) (fun x s₄ =>
       wpAny (model prog w) A (call (.builtin "list.append") [acc, x]) (fun _ s₅ => ∃ m, m < n ∧ I m s₅) (fun _ _ => False) s₄) Ez s₃
      else ∃ m, m < n ∧ I m s₃) (fun _ _ => False) s₂) (fun _ _ => False) s₁') (fun _ _ => False) s₁) (fun _ _ => False) s)
  (n : Nat) (h : I n s) :
  codeAny (model prog w) A (.compLoop (.ListComp elt [⟨target, iter, ifs, 0⟩] scope pos) 0 it acc env) R s := by
 refine codeAny_loop rfl I (fun n s hI => ?_) n h
 show wpAny _ A ((compTurn (.ListComp elt [⟨target, iter, ifs, 0⟩] scope pos) 0 it acc env).onRaise (fun x => do noteFrame x env; theTreesLotGoes x)) _ _ s
 refine wpAny_noted ?_
 rw [compTurn_list]
 refine wpAny_bind (wpAny_standAt (wpAny_bind (wpAny_mono (turn n s hI) (fun r s₁ h₁ => ?_) fun _ _ z => z.elim)))
 cases r with
 | none => exact wpAny_pure h₁
 | some v =>
  refine wpAny_bind (wpAny_mono h₁ (fun _ s₁' h₁' => ?_) fun _ _ z => z.elim)
  refine wpAny_bind (wpAny_mono h₁' (fun _ s₂ h₂ => wpAny_bind (wpAny_mono h₂ (fun ok s₃ h₃ => ?_) fun _ _ z => z.elim)) fun _ _ z => z.elim)
  cases ok with
  | false => exact wpAny_pure ⟨rfl, h₃⟩
  | true =>
   exact wpAny_bind (wpAny_bind (wpAny_mono h₃ (fun x s₄ h₄ => wpAny_bind (wpAny_mono h₄ (fun _ s₅ h₅ => wpAny_pure (wpAny_pure ⟨rfl, h₅⟩)) fun _ _ z => z.elim)) fun e s' q => hz e s' q))
def XB (X : Cx) (E : XK) (e : Value) (s' : Shared) : Prop := ∃ pins σ H x C dx t, e = Value.ref x ∧ Inv X pins σ H s' ∧ ExcAt s'.heap x C dx (some t) .none ∧ Own1 X pins H x ∧ Own1 X pins H t ∧ E C dx H
section
variable {X : Cx} {pins : List (Addr × Obj)} {σ : St} {H : Hp} {s : Shared} {scope : Scope} {own : List Str} {cap : List Nat} {fp : List Addr}
theorem leaveX {C : Addr} {pl : List (Addr × Obj)} {s' : Shared} {h' : Heap} {H' : Hp} {σ' : St} (I : Inv X pins σ H s) (f2 : ∀ b ∈ fp, FpOk X pins H b) (hC : s.heap.objs.size ≤ C) (J : Inv (blk X scope own cap C s H fp) pl σ' H' s') (hs : Heap.SameBut C s'.heap h') :
  Inv X pins σ H' { s' with heap := h' } := by
 have nC : H' C = none := J.free
 have neC : ∀ b o, s.heap.get? b = some o → b ≠ C := fun b o e => Nat.ne_of_lt (Nat.lt_of_lt_of_le (Heap.lt_size e) hC)
 have J0 : Un (frs X.stack) fp H H' s.heap s'.heap := J.base
 have u : Un (frs X.stack) fp H H' s.heap h' := by
  refine ⟨fun b o e n hb hx => (hs.2 b (neC b o e)).trans (J0.keep b o e n hb hx), fun b o e n hb hx => ?_, fun b o e n hx => J0.free b o e n hx, fun b o e hx => ?_, fun b xs e => J0.tups b xs e, fun b o xs e => J0.frzs b o xs e, fun b ps e => J0.tbls b ps e⟩
  ·obtain ⟨sl, q⟩ := J0.slot b o e n hb hx
   exact ⟨sl, (hs.2 b (neC b o e)).trans q⟩
  ·obtain ⟨o', q⟩ := J0.there b o e hx
   exact ⟨o', (hs.2 b (neC b o e)).trans q⟩
 have hok : HOk X.prog X.w H' h' := fun b o e => by
  refine (J.hok b o e).stay (fun c v hc q => (hs.2 c ?_).trans q) (fun c q => q) fun c xs q => q
  rcases hc with rfl | hc
  ·exact ne_of_none e nC
  ·exact ne_of_none hc nC
 obtain ⟨hh, g, d, t, os⟩ := s'
 have eos : os = s.os := J.os
 subst eos
 exact Inv.call (s := s) (h' := h') (g' := g) (d' := d) (t' := t) (ch := fp) I u hok J.bare fun b hb => ⟨(f2 b hb).2.2.2.1, (f2 b hb).2.1, fun x c e => (f2 b hb).2.2.2.2.1 x c e, (f2 b hb).2.2.2.2.2⟩
end
end L4
namespace L4
open PySem PySem.Spec PyProof.Rows L2 L3 PySem.W
section
variable {X : Cx} {scope : Scope} {own : List Str} {cap : List Nat} {tg elt iter : Expr} {ifs : List Expr} {pos : Pos} {wi : TI} {g : TG} {tc : TT} {te : TE}
theorem comp_blockX {Ez : XK} (hst : X.stack = X.env :: X.outer) (hfr : X.env.frame = some X.env.locals) (B : Blk X scope own cap) (hc : X.calm = true) (hg : ∀ C s H fp, PG (blk X scope own cap C s H fp) tg g) (ht : ∀ C s H fp, PIfs (blk X scope own cap C s H fp) ifs tc) (he : ∀ C s H fp, PE ((blk X scope own cap C s H fp).wish (XB (blk X scope own cap C s H fp) Ez)) elt te)
  {pins : List (Addr × Obj)} {s2 : Shared} {σ : St} {H2 : Hp} {it : Addr} {fp : List Addr} {tn : Nat → Heap → Prop} {J : It} {W : Nat → Nat → List V → Hp → Prop} {D : List V → Hp → Prop} {m0 : Nat} {E : Value → Shared → Prop} {RR : Value → Addr → Option Addr → Result → Shared → Prop}
  (I2 : Inv X pins σ H2 s2) (T : Turn X.prog X.w X.K tg J fp it tn) (st2 : tn 0 s2.heap) (f2 : ∀ b ∈ fp, FpOk X pins H2 b) (w0 : W 0 m0 [] H2) (turn : CompW J W D (blkS own.length cap σ) g tc te)
  (done : ∀ (C L : Addr) (s' : Shared) (H' : Hp) (σ' : St) (ys : List V) (its : List Value) (n : Nat), s2.heap.objs.size ≤ C → s2.heap.objs.size ≤ L → L ≠ C → Inv (blk X scope own cap C s2 H2 fp) [(L, { cls := .type "list", data := .seq its.toArray n })] σ' H' s' → Vals ys its → ys.length ≤ sizeLine → D ys H' →
   RR (.ref L) C X.env.frame (.ok .next) s')
  (fail : ∀ (C L : Addr) (e : Value) (s' : Shared), s2.heap.objs.size ≤ C → XB (blk X scope own cap C s2 H2 fp) Ez e s' → notedBy (model X.prog X.w) X.A (compEnvC scope (closeL X.env.cells scope.names []) C X.env) (fun e s' => RR (.ref L) C X.env.frame (.error e) s') e s') :
  wpAny (model X.prog X.w) X.A (newList []) (fun acc s₃ => wpAny (model X.prog X.w) X.A (newFunctionEnv scope X.env.globals (closeL X.env.cells scope.names []) [] X.env.qual none .none (some X.env)) (fun cenv s₄ =>
   codeAny (model X.prog X.w) X.A (.compStart (.ListComp elt [⟨tg, iter, ifs, 0⟩] scope pos) 0 (.ref it) acc { cenv with scope := relabel scope X.env }) (RR acc cenv.locals cenv.frame) s₄) E s₃) E s2 := by
 refine wpAny_newObj_type (wpAny_newFunctionEnv B.nocell (by intro y hy; simp at hy) (fun h₁ hns₁ hsb₁ => ?_) B.kind)
 dsimp only at hns₁ hsb₁ ⊢
 have flt : ∀ b ∈ fp, b < s2.heap.objs.size := fun b hb => by
  obtain ⟨o, e, _⟩ := T.obj _ _ st2 b hb
  exact Heap.lt_size e
 generalize hH2 : s2.heap.push { cls := .type "list", dict := none, data := .seq ([] : List Value).toArray } = G2 at hns₁ hsb₁ ⊢
 have hCs : G2.objs.size = s2.heap.objs.size + 1 := by rw [← hH2, Heap.size_push]
 have hC : s2.heap.objs.size ≤ G2.objs.size := by rw [hCs]; exact Nat.le_succ _
 have hDC : s2.heap.objs.size ≠ G2.objs.size := by rw [hCs]; exact Nat.ne_of_lt (Nat.lt_succ_self _)
 have old : ∀ b o, s2.heap.get? b = some o → h₁.get? b = some o := fun b o e =>
  hsb₁.extBut b o (Nat.ne_of_lt (Nat.lt_of_lt_of_le (Heap.lt_size e) hC)) (Heap.get?_push_of_some _ (hH2 ▸ Heap.get?_push_of_some _ e))
 have hacc : h₁.get? s2.heap.objs.size = some { cls := .type "list", data := .seq ([] : List Value).toArray 0 } := hsb₁.extBut _ _ hDC (Heap.get?_push_of_some _ (hH2 ▸ Heap.get?_push_size _ rfl))
 have loop : ∀ s₃ : Shared, s₃ = { s2 with heap := h₁, toks := s2.toks + ([] : List (Str × Value)).length } →
   codeAny (model X.prog X.w) X.A (.compLoop (.ListComp elt [⟨tg, iter, ifs, 0⟩] scope pos) 0 (.ref it) (.ref s2.heap.objs.size) (compEnvC scope (closeL X.env.cells scope.names []) G2.objs.size X.env))
    (RR (.ref s2.heap.objs.size) G2.objs.size X.env.frame) s₃ := by
  rintro s₃ rfl
  refine compLoop_okX (Ez := XB (blk X scope own cap G2.objs.size s2 H2 fp) Ez) (fun n s' => ∃ i ys its nn H', Inv (blk X scope own cap G2.objs.size s2 H2 fp) [(s2.heap.objs.size, { cls := .type "list", data := .seq (its : List Value).toArray nn })] (blkS own.length cap σ) H' s' ∧ tn i s'.heap ∧ (∀ b ∈ fp, H' b = none) ∧ Vals ys its ∧ W i n ys H')
   (fun e s' z => fail _ _ e s' hC z) ?_ m0 ⟨0, [], [], 0, H2, L3.Inv.enter I2 hc B f2 flt old hC hns₁ _ (fun p hp => ?_), T.keep _ _ _ st2 (fun b _ o e => old b o e), fun b hb => (f2 b hb).1, .nil, w0⟩
  ·rintro n s3 ⟨i, ys, its, nn, H3, J3, st3, fr3, rv, w3⟩
   have fpb : ∀ {pl : List (Addr × Obj)} {H' : Hp}, (∀ b ∈ fp, H' b = none) → (∀ p ∈ pl, ∀ b ∈ fp, p.1 ≠ b) → ∀ b ∈ fp, FpOk (blk X scope own cap G2.objs.size s2 H2 fp) pl H' b := fun {pl H'} hn hp b hb =>
    ⟨hn b hb, Nat.ne_of_lt (Nat.lt_of_lt_of_le (flt b hb) hC), fun z => J3.ok.exfs b hb z, .inl hb, fun x c e => (J3.ok.exf b hb).2 x c e, fun p hp' => by
     rcases List.mem_append.mp hp' with z | z
     ·exact absurd (show p ∈ ([] : List (Addr × Obj)) from z) (by simp)
     ·exact hp p z b hb⟩
   have nD : ∀ (o : Obj), ∀ p ∈ [(s2.heap.objs.size, o)], ∀ b ∈ fp, p.1 ≠ b := fun o p hp b hb => by
    have e : p = (s2.heap.objs.size, o) := by simpa using hp
    subst e
    exact (Nat.ne_of_lt (flt b hb)).symm
   obtain ⟨hz, tr⟩ := turn i n ys H3 w3
   rcases tr with ⟨stop, qD⟩ | ⟨go, N, hN, step⟩
   ·refine thn (T.done (blk X scope own cap G2.objs.size s2 H2 fp) rfl rfl rfl rfl i _ s3 _ H3 (fun _ _ => False) J3 (fpb fr3 (nD _)) st3 stop) fun r s4 ⟨hr, J4⟩ => ?_
    subst hr
    exact done _ _ s4 H3 _ ys its nn hC (Nat.le_refl _) hDC J4 rv hz qD
   ·refine thn (T.item (blk X scope own cap G2.objs.size s2 H2 fp) rfl rfl rfl rfl i _ s3 _ H3 (fun _ _ => False) J3 (fpb fr3 (nD _)) st3 go) fun r s4 ⟨u, hr, h4⟩ => ?_
    subst hr
    refine thn h4 fun _ s5 ⟨x, H5, J5, r5, y5, st5, fr5⟩ => ?_
    have J5' := J5.pinned (fpb fr5 (nD _)) (T.obj _ _ st5)
    refine thn (hg _ _ _ _ _ s5 _ H5 x u _ J5' r5 (step x H5 y5)) fun _ s6 ⟨σ6, H6, J6, q6⟩ => ?_
    -- a turn's end, the list at L as it stands
    have again : ∀ {pl : List (Addr × Obj)} {its' : List Value} {nn' : Nat} {ys' : List V} {s8 : Shared} {H8 : Hp} {σ8 : St} {m' : Nat}, Inv (blk X scope own cap G2.objs.size s2 H2 fp) ([(s2.heap.objs.size, { cls := .type "list", data := .seq its'.toArray nn' })] ++ pinsAt fp s5.heap) σ8 H8 s8 → Vals ys' its' → m' < n → W (i + 1) m' ys' H8 →
      ∃ m, m < n ∧ ∃ i ys its nn H', Inv (blk X scope own cap G2.objs.size s2 H2 fp) [(s2.heap.objs.size, { cls := .type "list", data := .seq (its : List Value).toArray nn })] (blkS own.length cap σ) H' s8 ∧ tn i s8.heap ∧ (∀ b ∈ fp, H' b = none) ∧ Vals ys its ∧ W i m ys H' := by
     intro pl its' nn' ys' s8 H8 σ8 m' J8 rv' hm w8
     have pin8 : ∀ b ∈ fp, ∀ o, s5.heap.get? b = some o → s8.heap.get? b = some o ∧ H8 b = none := fun b hb o e => by
      have q := J8.pin (b, o) (List.mem_append_right _ (List.mem_append_right _ (mem_pinsAt hb e)))
      exact ⟨q.1, q.2.1⟩
     refine ⟨m', hm, i + 1, ys', its', nn', H8, Inv.again I2 B f2 J8.unpinned, T.keep _ _ _ st5 fun b hb o e => (pin8 b hb o e).1, fun b hb => ?_, rv', w8⟩
     obtain ⟨o, e, _⟩ := T.obj _ _ st5 b hb
     exact (pin8 b hb o e).2
    refine thn (ht _ _ _ _ _ s6 _ H6 _ J6 q6) fun ok s7 ⟨H7, J7, q7⟩ => ?_
    cases ok with
    | false =>
     rw [if_neg Bool.false_ne_true]
     rw [if_neg Bool.false_ne_true] at q7
     obtain ⟨m', hm, w7⟩ := hN _ _ q7
     exact again (pl := []) J7 rv hm w7
    | true =>
     rw [if_pos rfl]
     rw [if_pos rfl] at q7
     refine wpAny_mono (he _ _ _ _ _ s7 _ H7 _ (J7.wish _) q7) (fun v s8 ⟨y, H8, J8', ry, q8⟩ => ?_) (fun _ _ z => z)
     have J8 := J8'.unwish
     obtain ⟨m', hm, w8⟩ := hN _ _ q8
     have pL := J8.pin (s2.heap.objs.size, { cls := .type "list", data := .seq its.toArray nn }) (List.mem_append_right _ (List.mem_append_left _ (List.mem_singleton.mpr rfl)))
     refine wpAny_list_append_plain (l := s2.heap.objs.size) (items := its.toArray) ⟨nn, pL.1⟩ (fun h' hp' hsb => ?_) (by rw [List.size_toArray, ← rv.length]; exact hz)
     obtain ⟨nn', hL'⟩ := hp'
     have J9 : Inv (blk X scope own cap G2.objs.size s2 H2 fp) (pinsAt fp s5.heap) σ6 H8 s8 := J8.pins_of fun p hp => J8.pin p (List.mem_append_right _ (List.mem_append_right _ hp))
     have npin : ∀ p ∈ (blk X scope own cap G2.objs.size s2 H2 fp).pn ++ pinsAt fp s5.heap, p.1 ≠ s2.heap.objs.size := fun p hp => by
      rcases List.mem_append.mp hp with z | z
      ·exact absurd (show p ∈ ([] : List (Addr × Obj)) from z) (by simp)
      ·exact Nat.ne_of_lt (flt _ (of_pinsAt z).1)
     have J10 : Inv (blk X scope own cap G2.objs.size s2 H2 fp) (pinsAt fp s5.heap) σ6 H8 { s8 with heap := h' } := J9.turned (t' := s8.toks) (it := s2.heap.objs.size) (fun b o hb e => (hsb.2 b hb).trans e) pL.2.1 pL.2.2.1 (.inr (Nat.le_refl _))
      (fun x c e z => by
       obtain ⟨v', o', ho', hd'⟩ := J9.cell x c e
       rw [z, pL.1] at ho'; cases ho'; cases hd') npin
     refine again (pl := []) (its' := its ++ [v]) (nn' := nn') (J10.pins_of fun p hp => ?_) (rv.append (.cons ry .nil)) hm w8
     rcases List.mem_append.mp hp with z | z
     ·have e : p = (s2.heap.objs.size, { cls := .type "list", data := .seq (its ++ [v]).toArray nn' }) := by simpa using z
      subst e
      refine ⟨?_, pL.2.1, pL.2.2.1, pL.2.2.2.1, fun v' => by intro q; cases q⟩
      rw [hL']
      simp
     ·exact J10.pin p (List.mem_append_right _ z)
  ·have e : p = (s2.heap.objs.size, { cls := .type "list", data := .seq ([] : List Value).toArray 0 }) := by simpa using hp
   subst e
   exact ⟨hacc, Nat.le_refl _, hDC, fun v' => by intro q; cases q⟩
 exact codeAny_compStart_list (loop _ rfl) (T.self _ 0 _ _ _ (T.keep _ _ _ st2 fun b _ o e => old b o e) (loop _ rfl))

end
end L4
namespace L4
open PySem PySem.Spec PyProof.Rows L2 L3 PySem.W
section
variable {X : Cx} {scope : Scope} {own : List Str} {cap : List Nat} {tg elt iter : Expr} {ifs : List Expr} {pos : Pos} {wi : TI} {g : TG} {tc : TT} {te : TE} {E : XK}
theorem exc_sb {h h' : Heap} {x t C : Addr} {c : Value} {dx : Option Addr} {fl : Value} (e : ExcAt h x c dx (some t) fl) (sb : Heap.SameBut C h h') (nx : x ≠ C) (nt : t ≠ C) : ExcAt h' x c dx (some t) fl := by
 obtain ⟨oe, vs, e1, e2, e3, e4, e5, e6⟩ := e
 obtain ⟨ne, oT, ts, f1, f2, f3⟩ := e6 t rfl
 exact ⟨oe, vs, (sb.2 x nx).trans e1, e2, e3, e4, e5, fun t' z => by cases z; exact ⟨ne, oT, ts, (sb.2 t nt).trans f1, f2, f3⟩⟩
theorem pe_compX (hst : X.stack = X.env :: X.outer) (hfr : X.env.frame = some X.env.locals) (hx : PaX X (fun _ => E)) (hc : X.calm = true) (hi : PI X tg iter wi) (B : Blk X scope own cap) (hg : ∀ C s H fp, PG (blk X scope own cap C s H fp) tg g) (ht : ∀ C s H fp, PIfs (blk X scope own cap C s H fp) ifs tc)
  (he : ∀ C s H fp, PE ((blk X scope own cap C s H fp).wish (XB (blk X scope own cap C s H fp) E)) elt te) (hs : ∀ x, foldedSetIterable iter X.env x = pure x := by intro _; rfl) : PE X (.ListComp elt [⟨tg, iter, ifs, 0⟩] scope pos) (tComp wi own.length cap g tc te) := by
 intro pins s σ H Q I h
 rw [eval_ListComp]
 refine comp_freeX rfl hs (closeL_of (B.cells I.ok)) B.kind B.names (thn (hi pins s σ H _ I h) fun v s1 h1 => thn h1 fun itv s2 h2 => ?_)
 obtain ⟨it, fp, tn, J, H2, e, I2, T, st2, f2, W, ⟨m0, w0⟩, turn⟩ := h2
 subst e
 refine comp_blockX (RR := fun acc C fr => compPostX (model X.prog X.w) X.A X.xe (EP X pins σ Q) acc C fr) hst hfr B hc hg ht he I2 T st2 f2 w0 turn ?_ ?_
 ·intro C L s' H' σ' ys its n hC hL hLC J' rv hz hD
  obtain ⟨m, hn, _⟩ := J'.loc
  have nL := (J'.pin _ (List.mem_append_right _ (List.mem_singleton.mpr rfl))).2.1
  exact ⟨m, hn, fun h' hs' => ⟨.ref L, _, Inv.leave I2 f2 hC hL hLC J' hs' rv hz, rfl, hD L nL⟩⟩
 ·intro C L e s' hC hb
  obtain ⟨pl, σ', H', x, c, dx, t, rfl, J', ex, ox, ot, q⟩ := hb
  unfold notedBy
  rw [note_congr (show (compEnvC scope (closeL X.env.cells scope.names []) C X.env).frame = X.env.frame from rfl)]
  have hfs := I2.ok.frames
  have hk : s'.heap.FunFrames X.base X.stack := J'.stack
  rw [hst] at hfs hk
  refine note_frame (base := X.base) hfs hk hfr ex (.inl rfl) fun h1 t1 a b cc => ?_
  have J1 := inv_but (T := some t) J' ox (fun t' z => by cases z; exact ot) (by show But x (some t) (frs X.stack) _ _; rw [hst]; exact b)
  obtain ⟨m, hn, _⟩ := J1.loc
  obtain ⟨o1, o2, o3⟩ : s2.heap.objs.size ≤ t1 ∧ H' t1 = none ∧ t1 ≠ C := by
   rcases cc with cc | cc
   ·cases cc
    exact ⟨ot.ab, ot.no, ot.lo⟩
   ·exact ⟨Nat.le_trans J'.sz cc, J'.hok.fresh cc, Nat.ne_of_gt (Nat.lt_of_lt_of_le J'.lt cc)⟩
  refine ⟨m, hn, fun h2 sb cenv el ef => ?_⟩
  have a2 := exc_sb a sb ox.lo o3
  have K := leaveX I2 f2 hC J1 sb
  have oxX : Own1 X pins H' x := own1_of I2 ox.ab ox.no
  have otX : Own1 X pins H' t1 := own1_of I2 o1 o2
  unfold PySem.passOn
  obtain ⟨oe, vs, e1, e2, e3, e4, e5, e6⟩ := id a2
  refine wpAny_bind (wpAny_field e1 e4 e5 ?_)
  rw [if_neg (by simp)]
  refine wpAny_bind (set_flight (fr := cenv.frame) a2 fun h3 a3 b3 => wpAny_throw (hx _ _ ?_))
  exact ⟨pins, σ, H', x, c, dx, some t1, _, rfl, inv_but K oxX (fun t' z => by cases z; exact otX) (b3.mono fun _ z => absurd z (by simp)), a3, .inr (by rw [ef, hfr]; rfl), oxX, fun t' z => by cases z; exact otX, q⟩
end
section
variable {X : Cx} {k : Nat} {f : Addr} {fd : FuncData} {ps : List Str} {sp : Sp} {E : XK} {x : Str} {p pos : Pos} {e : Expr} {es : List Expr} {t : TA}
theorem xb_call {pins : List (Addr × Obj)} {σ : St} {H : Hp} {s s' : Shared} {e : Value} (I : Inv X pins σ H s) (h : CX1 X.prog X.w X.stack H s E e s') : XB X E e s' := by
 obtain ⟨x, C, dx, t, H', rfl, os, bare, un, hok, ex, x1, t1, nx, nt, q⟩ := h
 exact ⟨pins, σ, H', x, C, dx, t, rfl, I.call' (ch := []) os un hok bare (fun b z => absurd z (by simp)), ex, own1_of I x1 nx, own1_of I t1 nt, q⟩
theorem xb_self : ∀ e s', XB (X.wish (XB X E)) E e s' → (X.wish (XB X E)).xe e s' := fun _ _ ⟨pins, σ, H, x, C, dx, t, a, I, b, o, ot, q⟩ => ⟨pins, σ, H, x, C, dx, t, a, I.unwish, b, o.unwish, ot.unwish, q⟩
theorem pe_fnB (C : Cal X.prog X.w X.K X.mg X.base (CX1 X.prog X.w) x k ps sp) (hr : Room k X.A) (hx : ∀ e s', XB X E e s' → X.xe e s') (ha : PA X (e :: es) t) (hg : Gl X x := by rfl)
  (hdb : (x == ("__debug__" : Str)) = false := by decide) (he : starEach (e :: es) X.env = (false, eval e X.env) :: starEach es X.env := by rfl) (hpl : (backTo pos (starEach es X.env)).any (·.1) = false := by rfl) :
  PE X (.Call (.Name x p) (e :: es) [] pos) (tCallX sp (fun _ => E) t) := by
 obtain ⟨f, fd, F, b, kp, m⟩ := C.ex
 intro pins s σ H Q I h
 refine wpAny_Call_Name_kw (ld_glob I hg m ?_ hdb)
 refine PySem.W.callWith_K (h₀ := X.base) I.ok.mod.kin kp (thn (ha pos pins s σ H _ I h) fun us s1 ⟨vs, H1, I1, r, q⟩ => ⟨I1.kIn, ?_⟩) he hpl
 have hl : us.length = ps.length := by rw [← r.length]; exact F.len _ _ _ _ q
 have hb' := b s1 us I1.kIn (by rw [List.append_nil]; exact hl)
 rw [List.append_nil] at hb'
 refine wpAny_call (codeAny_mono (F.run X.A X.stack s1 H1 ⟨us, []⟩ us vs Q E hr I1.env0 hb' r q) fun r s' hq => ?_)
 cases r with
 | error e => exact hx e s' (xb_call I1 hq)
 | ok fl =>
  cases fl with
  | ret u => exact I1.after hq
  | _ => exact False.elim hq
end
end L4

namespace Law
open PySem PySem.Spec PyProof.Rows L2 L3 L4
def thV : Th → V
 | .int i => .int i
 | .str z => .str z
 | _ => .non
def txtT : Th → Str
 | .int i => ((toString i : String) : Str)
 | .str z => z
 | _ => ""
def Prt : Th → Prop
 | .int i => 0 ≤ i ∧ i < 10 ^ 40
 | .str z => nameB z.cps.toList = true
 | _ => False
def figH (l : List Nat) : Bool := match l with | [] => false | a :: _ => figC a
def rd1 (w : Str) : Option Th := if w = "" then none else if figH w.cps.toList = true then (numO w.cps.toList).map (fun n => Th.int (n : Nat)) else some (.str w)
def rdAll : List Str → Option (List Th)
 | [] => some []
 | w :: ws => match rd1 w with
  | none => none
  | some t => (rdAll ws).map (t :: ·)
def wdOf (z : Str) : List Str := (splitC 32 z.cps.toList).map stOf
def deedL (ws : List Str) : Option (List Th) := match rdAll ws with
 | none => none
 | some ts => if deedT (.tup ts) = true then some ts else none
theorem rd1_plain {w : Str} {t : Th} (h : rd1 w = some t) : (∃ n : Nat, t = .int (n : Nat) ∧ numO w.cps.toList = some n) ∨ t = .str w := by
 unfold rd1 at h
 split at h
 ·cases h
 ·split at h
  ·cases e : numO w.cps.toList with
   | none => rw [e] at h; cases h
   | some n => rw [e] at h; cases h; exact .inl ⟨n, rfl, rfl⟩
  ·cases h; exact .inr rfl
theorem rdAll_snoc : ∀ {ws : List Str} {ts : List Th} {w : Str}, rdAll ws = some ts → rdAll (ws ++ [w]) = (rd1 w).map (fun t => ts ++ [t])
 | [], ts, w, h => by
  cases h
  show (match rd1 w with | none => none | some t => (rdAll []).map (t :: ·)) = _
  cases rd1 w <;> rfl
 | x :: ws, ts, w, h => by
  have h : (match rd1 x with | none => none | some t => (rdAll ws).map (t :: ·)) = some ts := h
  show (match rd1 x with | none => none | some t => (rdAll (ws ++ [w])).map (t :: ·)) = _
  cases e : rd1 x with
  | none => rw [e] at h; cases h
  | some t =>
   rw [e] at h
   cases e2 : rdAll ws with
   | none => rw [e2] at h; cases h
   | some us =>
    rw [e2] at h
    cases h
    show (rdAll (ws ++ [w])).map (t :: ·) = _
    rw [rdAll_snoc e2]
    cases rd1 w <;> rfl
theorem rdAll_none {w : Str} : ∀ {ws : List Str}, w ∈ ws → rd1 w = none → rdAll ws = none
 | x :: ws, h, e => by
  show (match rd1 x with | none => none | some t => (rdAll ws).map (t :: ·)) = _
  cases e1 : rd1 x with
  | none => rfl
  | some t =>
   rcases List.mem_cons.mp h with h | h
   ·rw [h, e1] at e; cases e
   ·show (rdAll ws).map (t :: ·) = none
    rw [rdAll_none h e]; rfl
theorem rdAll_len : ∀ {ws : List Str} {ts : List Th}, rdAll ws = some ts → ts.length = ws.length
 | [], ts, h => by cases h; rfl
 | x :: ws, ts, h => by
  have h : (match rd1 x with | none => none | some t => (rdAll ws).map (t :: ·)) = some ts := h
  cases e : rd1 x with
  | none => rw [e] at h; cases h
  | some t =>
   rw [e] at h
   cases e2 : rdAll ws with
   | none => rw [e2] at h; cases h
   | some us => rw [e2] at h; cases h; rw [List.length_cons, List.length_cons, rdAll_len e2]
theorem deed_empty {ws : List Str} (h : ("" : Str) ∈ ws) : deedL ws = none := by
 unfold deedL
 rw [rdAll_none h (if_pos rfl)]
theorem let_fig {c : Nat} (h : letC c = true) : 97 ≤ c ∧ c < 128 := by
 have key : ∀ c, c < 128 → letC c = true → 97 ≤ c := by decide +kernel
 have hc : c < 128 := by
  refine Classical.byContradiction fun hc => ?_
  have e : Builtin.Str.occurrences lets ⟨#[c]⟩ 0 lets.length 1 = [] := by
   refine PySem.W.occ_nil_of_no _ _ _ fun i hi => ?_
   have hx : ∀ i, i < 26 → lets.cps.extract i (i + 1) = #[97 + i] := by decide +kernel
   have hi' : i + 1 ≤ 26 := by rw [show lets.length = 26 by decide +kernel] at hi; exact hi
   show (lets.cps.extract i (i + 1) == #[c]) = false
   rw [hx i (by omega)]
   have : ¬ 97 + i = c := by omega
   simpa using this
  unfold letC at h
  rw [e] at h
  cases h
 exact ⟨key c hc h, hc⟩
theorem name_parts {l : List Nat} (h : nameB l = true) : 1 ≤ l.length ∧ l.length ≤ 8 ∧ ∀ c ∈ l, letC c = true := by
 unfold nameB at h
 rw [Bool.and_eq_true, Bool.and_eq_true, decide_eq_true_iff, decide_eq_true_iff] at h
 exact ⟨h.1, h.2.1, fun c hc => List.all_eq_true.mp h.2.2 c hc⟩
theorem name_nofig {l : List Nat} (h : nameB l = true) : figH l = false := by
 obtain ⟨h1, _, h3⟩ := name_parts h
 cases l with
 | nil => exact absurd h1 (by decide)
 | cons a r =>
  show figC a = false
  refine Bool.eq_false_iff.mpr fun z => ?_
  have := (figC_iff a).mp z
  have := let_fig (h3 a List.mem_cons_self)
  omega
theorem str_ne {w : Str} (h : 1 ≤ w.cps.toList.length) : w ≠ "" := fun e => by rw [e] at h; exact absurd h (by decide +kernel)
theorem rd1_name {w : Str} (h : nameB w.cps.toList = true) : rd1 w = some (.str w) := by
 unfold rd1
 rw [if_neg (str_ne (name_parts h).1), name_nofig h, if_neg Bool.false_ne_true]
theorem num_fig {l : List Nat} (h : numB l = true) : figH l = true := by
 obtain ⟨h1, _, h3⟩ := num_parts h
 cases l with
 | nil => exact absurd h1 (by decide)
 | cons a r => exact List.all_eq_true.mp h3 a List.mem_cons_self
theorem numO_some {l : List Nat} {n : Nat} (h : numO l = some n) : numB l = true ∧ NumText.digitsVal l = n := by
 unfold numO at h
 split at h
 ·rename_i c; exact ⟨c, Option.some.inj h⟩
 ·cases h
theorem rd1_num {w : Str} {n : Nat} (h : numO w.cps.toList = some n) : rd1 w = some (.int (n : Nat)) := by
 have hb := (numO_some h).1
 unfold rd1
 rw [if_neg (str_ne (num_parts hb).1), num_fig hb, if_pos rfl, h]; rfl
theorem rd1_txt {t : Th} (h : Prt t) : rd1 (txtT t) = some t := by
 cases t with
 | int i =>
  obtain ⟨h0, h1⟩ := (h : 0 ≤ i ∧ i < 10 ^ 40)
  obtain ⟨n, rfl⟩ := Int.eq_ofNat_of_zero_le h0
  obtain ⟨a, b⟩ := num_str (n := n) (by omega)
  exact rd1_num (w := ((toString (n : Int) : String) : Str)) (by unfold numO; rw [if_pos a, b])
 | str z => exact rd1_name h
 | _ => exact h.elim
theorem txt_noblank {t : Th} (h : Prt t) : ¬ 32 ∈ (txtT t).cps.toList := by
 cases t with
 | int i =>
  obtain ⟨h0, h1⟩ := (h : 0 ≤ i ∧ i < 10 ^ 40)
  obtain ⟨n, rfl⟩ := Int.eq_ofNat_of_zero_le h0
  obtain ⟨a, _⟩ := num_str (n := n) (by omega)
  intro hm
  have := (figC_iff 32).mp (List.all_eq_true.mp (num_parts a).2.2 32 hm)
  omega
 | str z =>
  intro hm
  have := let_fig ((name_parts h).2.2 32 hm)
  omega
 | _ => exact h.elim
theorem rdAll_txt : ∀ {ts : List Th}, (∀ t ∈ ts, Prt t) → rdAll (ts.map txtT) = some ts
 | [], _ => rfl
 | t :: ts, h => by
  show (match rd1 (txtT t) with | none => none | some t => (rdAll (ts.map txtT)).map (t :: ·)) = _
  rw [rd1_txt (h t List.mem_cons_self), rdAll_txt fun u hu => h u (List.mem_cons_of_mem _ hu)]; rfl
theorem wd_join {ts : List Th} (hn : ts ≠ []) (h : ∀ t ∈ ts, Prt t) : wdOf (Txt.join " " (ts.map txtT)) = ts.map txtT := by
 unfold wdOf Txt.join
 rw [StrLaws.glued_eq_join, show (Str.ofString " ") = (⟨#[32]⟩ : Str) by decide +kernel, join_toList, splitC_join]
 ·rw [List.map_map, List.map_map]
  rfl
 ·simpa using hn
 ·intro p hp
  rw [List.map_map] at hp
  obtain ⟨t, ht, rfl⟩ := List.mem_map.mp hp
  exact txt_noblank (h t ht)
theorem deed_back {ts : List Th} (h : ∀ t ∈ ts, Prt t) (hd : deedT (.tup ts) = true) : deedL (wdOf (Txt.join " " (ts.map txtT))) = some ts := by
 have hn : ts ≠ [] := fun e => by rw [e] at hd; cases hd
 unfold deedL
 rw [wd_join hn h, rdAll_txt h]
 show (if deedT (.tup ts) = true then some ts else none) = _
 rw [if_pos hd]
theorem formD_cases {w : Str} {ks : List Str} (h : formD w = some ks) : (w = "carry" ∧ ks = [("number" : Str)]) ∨ (w ∈ ([("ask" : Str), "back", "fall", "rise"] : List Str) ∧ ks = [("name" : Str)]) ∨ (w = "news" ∧ ks = [("name" : Str), "name"]) ∨ (w ∈ ([("write" : Str), "make"] : List Str) ∧ ks = [("name" : Str), "reading"]) := by
 unfold formD at h
 split at h
 ·rename_i e; cases h; rw [e]; exact .inr (.inl ⟨by simp, rfl⟩)
 split at h
 ·rename_i e; cases h; exact .inl ⟨e, rfl⟩
 split at h
 ·rename_i e; cases h; rw [e]; exact .inr (.inr (.inr ⟨by simp, rfl⟩))
 split at h
 ·rename_i e; cases h; rw [e]; exact .inr (.inr (.inr ⟨by simp, rfl⟩))
 split at h
 ·rename_i e; cases h; exact .inr (.inr (.inl ⟨e, rfl⟩))
 split at h
 ·rename_i e; cases h; rw [e]; exact .inr (.inl ⟨by simp, rfl⟩)
 split at h
 ·rename_i e; cases h; rw [e]; exact .inr (.inl ⟨by simp, rfl⟩)
 split at h
 ·rename_i e; cases h; rw [e]; exact .inr (.inl ⟨by simp, rfl⟩)
 cases h
theorem four_name : ∀ w ∈ ([("ask" : Str), "back", "fall", "rise"] : List Str), nameB w.cps.toList = true ∧ formD w = some [("name" : Str)] := by decide +kernel
theorem two_name : ∀ w ∈ ([("write" : Str), "make"] : List Str), nameB w.cps.toList = true ∧ formD w = some [("name" : Str), "reading"] := by decide +kernel
theorem carry_name : nameB (("carry" : Str)).cps.toList = true ∧ formD "carry" = some [("number" : Str)] := by decide +kernel
theorem news_name : nameB (("news" : Str)).cps.toList = true ∧ formD "news" = some [("name" : Str), "name"] := by decide +kernel
theorem form_name {w : Str} {ks : List Str} (h : formD w = some ks) : nameB w.cps.toList = true := by
 rcases formD_cases h with ⟨rfl, _⟩ | ⟨hm, _⟩ | ⟨rfl, _⟩ | ⟨hm, _⟩
 ·exact carry_name.1
 ·exact (four_name w hm).1
 ·exact news_name.1
 ·exact (two_name w hm).1
theorem deed_form (w : Str) (ws : List Str) : deedL (w :: ws) = match formD w with
  | none => none
  | some ks => match rdAll ws with
   | none => none
   | some ts => if kindsB ts ks = true then some (.str w :: ts) else none := by
 have e0 : rdAll (w :: ws) = match rd1 w with | none => none | some t => (rdAll ws).map (t :: ·) := rfl
 unfold deedL
 rw [e0]
 cases ef : formD w with
 | some ks =>
  rw [rd1_name (form_name ef)]
  cases ea : rdAll ws with
  | none => rfl
  | some ts =>
   show (if (match formD w with | none => false | some ks => kindsB ts ks) = true then some (Th.str w :: ts) else none) = _
   rw [ef]
 | none =>
  cases er : rd1 w with
  | none => rfl
  | some t =>
   cases ea : rdAll ws with
   | none => rfl
   | some ts =>
    show (if deedT (.tup (t :: ts)) = true then some (t :: ts) else none) = none
    rcases rd1_plain er with ⟨n, rfl, _⟩ | rfl
    ·rfl
    ·show (if (match formD w with | none => false | some ks => kindsB ts ks) = true then some (Th.str w :: ts) else none) = none
     rw [ef]; rfl
theorem kinds_len {ts : List Th} {ks : List Str} (h : ts.length ≠ ks.length) : kindsB ts ks = false := by
 unfold kindsB
 rw [decide_eq_false h, Bool.false_and]
theorem kname (t : Th) : kindT t "name" = nameT t := rfl
theorem knumber (t : Th) : kindT t "number" = fromT 1 t := rfl
theorem kreading (t : Th) : kindT t "reading" = numT t := rfl
theorem kinds1 (t : Th) (k : Str) : kindsB [t] [k] = kindT t k := by
 unfold kindsB
 show (true && (kindT t k && true)) = _
 rw [Bool.true_and, Bool.and_true]
theorem kinds2 (t u : Th) (k j : Str) : kindsB [t, u] [k, j] = (kindT t k && kindT u j) := by
 unfold kindsB
 show (true && (kindT t k && (kindT u j && true))) = _
 rw [Bool.true_and, Bool.and_true]
theorem rd_name (w : Str) (k : Th → Option (List Th)) : (match rd1 w with | none => none | some t => if nameT t = true then k t else none) = if nameB w.cps.toList = true then k (.str w) else none := by
 cases hn : nameB w.cps.toList with
 | true =>
  rw [rd1_name hn, if_pos rfl]
  show (if nameB w.cps.toList = true then k (.str w) else none) = _
  rw [hn, if_pos rfl]
 | false =>
  rw [if_neg Bool.false_ne_true]
  cases er : rd1 w with
  | none => rfl
  | some t =>
   rcases rd1_plain er with ⟨n, rfl, _⟩ | rfl
   ·rfl
   ·show (if nameB w.cps.toList = true then k (.str w) else none) = none
    rw [hn]; rfl
theorem rd_num (w : Str) (f : Th → Bool) (hf : ∀ z, f (.str z) = false) (k : Th → Option (List Th)) : (match rd1 w with | none => none | some t => if f t = true then k t else none) = match numO w.cps.toList with | none => none | some n => if f (.int (n : Nat)) = true then k (.int (n : Nat)) else none := by
 cases hn : numO w.cps.toList with
 | some n => rw [rd1_num hn]
 | none =>
  cases er : rd1 w with
  | none => rfl
  | some t =>
   rcases rd1_plain er with ⟨n, rfl, e⟩ | rfl
   ·rw [hn] at e; cases e
   ·show (if f (.str w) = true then k (.str w) else none) = none
    rw [hf]; rfl
theorem all1 (w : Str) : rdAll [w] = (rd1 w).map (fun t => [t]) := by
 show (match rd1 w with | none => none | some t => (some []).map (t :: ·)) = _
 cases rd1 w <;> rfl
theorem all2 (w u : Str) : rdAll [w, u] = match rd1 w with | none => none | some t => (rd1 u).map (fun v => [t, v]) := by
 show (match rd1 w with | none => none | some t => (rdAll [u]).map (t :: ·)) = _
 rw [all1]
 cases rd1 w with
 | none => rfl
 | some t => cases rd1 u <;> rfl
theorem deed_one (w : Str) : deedL [w] = none := by
 rw [deed_form]
 cases ef : formD w with
 | none => rfl
 | some ks =>
  show (if kindsB [] ks = true then _ else none) = none
  rw [kinds_len (by rcases formD_cases ef with ⟨_, rfl⟩ | ⟨_, rfl⟩ | ⟨_, rfl⟩ | ⟨_, rfl⟩ <;> simp)]; rfl
theorem deed_carry (w1 : Str) : deedL ["carry", w1] = match numO w1.cps.toList with | none => none | some n => if 1 ≤ n then some [.str "carry", .int (n : Nat)] else none := by
 rw [deed_form, carry_name.2, all1]
 have e := rd_num w1 (fun t => fromT 1 t) (fun _ => rfl) (fun t => some [.str "carry", t])
 have e2 : (match (rd1 w1).map (fun t => [t]) with | none => none | some ts => if kindsB ts [("number" : Str)] = true then some (Th.str "carry" :: ts) else none) = (match rd1 w1 with | none => none | some t => if fromT 1 t = true then some [Th.str "carry", t] else none) := by
  cases rd1 w1 with
  | none => rfl
  | some t => show (if kindsB [t] [("number" : Str)] = true then _ else none) = _; rw [kinds1]; rfl
 show (match (rd1 w1).map (fun t => [t]) with | none => none | some ts => if kindsB ts [("number" : Str)] = true then some (Th.str "carry" :: ts) else none) = _
 rw [e2, e]
 cases numO w1.cps.toList with
 | none => rfl
 | some n =>
  show (if decide ((1 : Int) ≤ ((n : Nat) : Int)) = true then _ else none) = if 1 ≤ n then _ else none
  by_cases h : 1 ≤ n
  ·rw [if_pos h, decide_eq_true (by omega), if_pos rfl]
  ·rw [if_neg h, decide_eq_false (by omega), if_neg Bool.false_ne_true]
theorem deed_four {w : Str} (hm : w ∈ ([("ask" : Str), "back", "fall", "rise"] : List Str)) (w1 : Str) : deedL [w, w1] = if nameB w1.cps.toList = true then some [.str w, .str w1] else none := by
 rw [deed_form, (four_name w hm).2, all1]
 have e := rd_name w1 (fun t => some [.str w, t])
 have e2 : (match (rd1 w1).map (fun t => [t]) with | none => none | some ts => if kindsB ts [("name" : Str)] = true then some (Th.str w :: ts) else none) = (match rd1 w1 with | none => none | some t => if nameT t = true then some [Th.str w, t] else none) := by
  cases rd1 w1 with
  | none => rfl
  | some t => show (if kindsB [t] [("name" : Str)] = true then _ else none) = _; rw [kinds1]; rfl
 show (match (rd1 w1).map (fun t => [t]) with | none => none | some ts => if kindsB ts [("name" : Str)] = true then some (Th.str w :: ts) else none) = _
 rw [e2, e]
theorem deed_two_no {w w1 : Str} (h1 : w ≠ "carry") (h2 : w ∉ ([("ask" : Str), "back", "fall", "rise"] : List Str)) : deedL [w, w1] = none := by
 rw [deed_form, all1]
 cases ef : formD w with
 | none => rfl
 | some ks =>
  have hk : ks.length = 2 := by
   rcases formD_cases ef with ⟨e, _⟩ | ⟨e, _⟩ | ⟨_, rfl⟩ | ⟨_, rfl⟩
   ·exact absurd e h1
   ·exact absurd e h2
   ·rfl
   ·rfl
  cases rd1 w1 with
  | none => rfl
  | some t => show (if kindsB [t] ks = true then _ else none) = none; rw [kinds_len (by rw [hk]; exact (by decide : (1 : Nat) ≠ 2))]; rfl
theorem deed_three (w w1 w2 : Str) (j : Str) (ef : formD w = some [("name" : Str), j]) : deedL [w, w1, w2] = if nameB w1.cps.toList = true then (match rd1 w2 with | none => none | some u => if kindT u j = true then some [.str w, .str w1, u] else none) else none := by
 rw [deed_form, ef, all2]
 have e := rd_name w1 (fun t => match rd1 w2 with | none => none | some u => if kindT u j = true then some [.str w, t, u] else none)
 rw [← e]
 cases rd1 w1 with
 | none => rfl
 | some t =>
  cases rd1 w2 with
  | none =>
   show none = if nameT t = true then none else none
   rw [ite_self]
  | some u =>
   show (if kindsB [t, u] [("name" : Str), j] = true then some [Th.str w, t, u] else none) = if nameT t = true then (if kindT u j = true then some [Th.str w, t, u] else none) else none
   rw [kinds2, kname]
   cases nameT t <;> cases kindT u j <;> rfl
theorem deed_three_no {w w1 w2 : Str} (h1 : w ≠ "news") (h2 : w ∉ ([("write" : Str), "make"] : List Str)) : deedL [w, w1, w2] = none := by
 rw [deed_form]
 cases ef : formD w with
 | none => rfl
 | some ks =>
  have hk : ks.length = 1 := by
   rcases formD_cases ef with ⟨_, rfl⟩ | ⟨_, rfl⟩ | ⟨e, _⟩ | ⟨e, _⟩
   ·rfl
   ·rfl
   ·exact absurd e h1
   ·exact absurd e h2
  cases ea : rdAll [w1, w2] with
  | none => rfl
  | some ts => show (if kindsB ts ks = true then _ else none) = none; rw [kinds_len (by rw [hk, rdAll_len ea]; exact (by decide : (2 : Nat) ≠ 1))]; rfl
theorem deed_name_no {w w1 w2 : Str} (h : nameB w1.cps.toList = false) : deedL [w, w1, w2] = none := by
 by_cases h1 : w = "news"
 ·rw [h1, deed_three "news" w1 w2 "name" news_name.2, h]; rfl
 ·by_cases h2 : w ∈ ([("write" : Str), "make"] : List Str)
  ·rw [deed_three w w1 w2 "reading" (two_name w h2).2, h]; rfl
  ·exact deed_three_no h1 h2
theorem deed_news {w1 w2 : Str} (h : nameB w1.cps.toList = true) : deedL ["news", w1, w2] = if nameB w2.cps.toList = true then some [.str "news", .str w1, .str w2] else none := by
 rw [deed_three "news" w1 w2 "name" news_name.2, h, if_pos rfl]
 exact rd_name w2 (fun u => some [.str "news", .str w1, u])
theorem deed_write {w w1 w2 : Str} (hm : w ∈ ([("write" : Str), "make"] : List Str)) (h : nameB w1.cps.toList = true) : deedL [w, w1, w2] = match numO w2.cps.toList with | none => none | some n => if n ≤ 10 ^ 30 then some [.str w, .str w1, .int (n : Nat)] else none := by
 rw [deed_three w w1 w2 "reading" (two_name w hm).2, h, if_pos rfl]
 have e := rd_num w2 (fun u => numT u) (fun _ => rfl) (fun u => some [.str w, .str w1, u])
 refine Eq.trans (show _ = (match rd1 w2 with | none => none | some t => if numT t = true then some [Th.str w, Th.str w1, t] else none) from rfl) (e.trans ?_)
 cases numO w2.cps.toList with
 | none => rfl
 | some n =>
  show (if (decide (0 ≤ ((n : Nat) : Int)) && decide (((n : Nat) : Int) ≤ 1000000000000000000000000000000)) = true then _ else none) = if n ≤ 10 ^ 30 then _ else none
  have p30 : (10 : Nat) ^ 30 = 1000000000000000000000000000000 := by decide
  rw [decide_eq_true (show 0 ≤ ((n : Nat) : Int) by omega), Bool.true_and]
  by_cases hn : n ≤ 10 ^ 30
  ·rw [if_pos hn, decide_eq_true (by omega), if_pos rfl]
  ·rw [if_neg hn, decide_eq_false (by omega), if_neg Bool.false_ne_true]
theorem deed_more {ws : List Str} (h : 4 ≤ ws.length) : deedL ws = none := by
 cases ws with
 | nil => exact absurd h (by decide)
 | cons w ws =>
  rw [deed_form]
  rw [List.length_cons] at h
  cases ef : formD w with
  | none => rfl
  | some ks =>
   have hk : ks.length ≤ 2 := by rcases formD_cases ef with ⟨_, rfl⟩ | ⟨_, rfl⟩ | ⟨_, rfl⟩ | ⟨_, rfl⟩ <;> simp
   cases ea : rdAll ws with
   | none => rfl
   | some ts => show (if kindsB ts ks = true then _ else none) = none; rw [kinds_len (by rw [rdAll_len ea]; omega)]; rfl
end Law

namespace L4
open PySem PySem.Spec PyProof.Rows L2 L3
def rStrP : RL := fun xs H Q => (∃ i, xs = [.int i] ∧ i.natAbs.log2 < 1920 ∧ Q (.str (toString i)) H) ∨ (∃ z, xs = [.str z] ∧ Q (.str z) H)
theorem c_strP {X : Cx} : CallR X (.type "str") rStrP := by
 intro pins s σ H xs us Q I r h
 rcases h with ⟨i, rfl, hl, q⟩ | ⟨z, rfl, q⟩
 ·obtain ⟨u, rfl, rx⟩ := vals1 r
  obtain ⟨t, rfl⟩ := rx
  exact P.str_of_int hl ⟨.str _, H, I.tok _, ⟨_, rfl⟩, q⟩
 ·obtain ⟨u, rfl, rx⟩ := vals1 r
  obtain ⟨t, rfl⟩ := rx
  exact P.str_of_str ⟨.str _, H, I, ⟨_, rfl⟩, q⟩
theorem g_notInL {K : PySem.W.Frag} {H : Hp} {Q : VK} {p : Addr} {ws : List Str} {z : Str} (s : SqL K H p (ws.map V.str)) (h : Q (.bl (!decide (z ∈ ws))) H) : rIn K true (.str z) (.ref p) H Q :=
 ⟨p, _, rfl, .inl s, rfl, flat_str ws, by rw [if_pos rfl, inV_str]; exact h⟩
end L4
namespace Law
open PySem PySem.Spec PyProof.Rows L2 L3 L4
def deedV : V → Option (List Th)
 | .str z => deedL (wdOf z)
 | _ => none
theorem wd_len (z : Str) : (wdOf z).length ≤ z.length + 1 := by
 have := splitC_len 32 z.cps.toList
 unfold wdOf
 rw [List.length_map, len_of]
 exact this
theorem splitC_sum (c : Nat) : ∀ l, ((splitC c l).map (fun p => p.length + 1)).sum = l.length + 1
 | [] => rfl
 | y :: r => by
  have ih := splitC_sum c r
  by_cases e : y = c
  ·subst e
   rw [splitC_sep, List.map_cons, List.sum_cons, ih, List.length_cons]
   show 0 + 1 + (r.length + 1) = _
   omega
  ·obtain ⟨q, qs, e1, e2⟩ := splitC_cons (c := c) (r := r) e
   rw [e1, List.map_cons, List.sum_cons] at ih
   rw [e2, List.map_cons, List.sum_cons, List.length_cons, List.length_cons]
   omega
theorem sum_two : ∀ {ps : List (List Nat)}, (∀ p ∈ ps, 1 ≤ p.length) → 2 * ps.length ≤ (ps.map (fun p => p.length + 1)).sum
 | [], _ => Nat.le_refl _
 | p :: ps, h => by
  rw [List.length_cons, List.map_cons, List.sum_cons]
  have := h p List.mem_cons_self
  have := sum_two fun q hq => h q (List.mem_cons_of_mem _ hq)
  omega
theorem wd_half {z : Str} (h : ("" : Str) ∉ wdOf z) : 2 * (wdOf z).length ≤ z.length + 1 := by
 have e := splitC_sum 32 z.cps.toList
 have := sum_two (ps := splitC 32 z.cps.toList) fun p hp => by
  cases p with
  | nil => exact absurd (List.mem_map.mpr ⟨[], hp, rfl⟩) h
  | cons a r => simp
 unfold wdOf
 rw [List.length_map, len_of]
 omega
theorem wd_short {z w : Str} (h : w ∈ wdOf z) : w.length ≤ z.length := by
 unfold wdOf at h
 obtain ⟨p, hp, rfl⟩ := List.mem_map.mp h
 have key : ∀ (l : List Nat) (p : List Nat), p ∈ splitC 32 l → p.length ≤ l.length := by
  intro l
  induction l with
  | nil => intro p hp; rw [List.mem_singleton.mp (show p ∈ [[]] from hp)]; exact Nat.le_refl _
  | cons y r ih =>
   intro p hp
   by_cases e : y = 32
   ·subst e
    rw [splitC_sep] at hp
    rcases List.mem_cons.mp hp with hp | hp
    ·rw [hp]; exact Nat.zero_le _
    ·exact Nat.le_succ_of_le (ih p hp)
   ·obtain ⟨q, qs, e1, e2⟩ := splitC_cons (c := 32) (r := r) e
    rw [e2] at hp
    rcases List.mem_cons.mp hp with hp | hp
    ·rw [hp, List.length_cons, List.length_cons]
     exact Nat.succ_le_succ (ih q (by rw [e1]; exact List.mem_cons_self))
    ·exact Nat.le_succ_of_le (ih p (by rw [e1]; exact List.mem_cons_of_mem _ hp))
 have := key _ p hp
 rw [len_of, len_of]
 show p.toArray.toList.length ≤ _
 rw [List.toList_toArray]
 exact this
section
variable {P : Program} {w : World} {K : PySem.W.Frag} {mg : Str → Option Value} {base : Heap} {CX : CXT} {CN : Addr}
theorem sc_words : FnScope ["text", "words"] ["text"] (defScope (top 30)) := by walk_at "s"
def spWords (CN : Addr) : Sp := fun vs H Q E => ∃ v, vs = [v] ∧ Knd H v ∧ (∀ z, v = .str z → z.length ≤ 199) ∧ (∀ z, v = .str z → ("" : Str) ∉ wdOf z → ∀ l H', H' l = some (.lst ((wdOf z).map V.str)) → Same H H' → Q (.ref l) H') ∧ (deedV v = none → ∀ H', Same H H' → E (.ref CN) none H')
theorem ok_words (D : Dat K mg "words_of" "words_of" (top 30) ["text"]) (BT : Bt mg) (NE : NoErr (CX1 P w)) (c_need : Cal P w K mg base (CX1 P w) "need" 1 ["is_right"] (spNeed CN)) : Cal P w K mg base (CX1 P w) "words_of" 2 ["text"] (spWords CN) := by
 have S := sc_words
 refine D.okR S (fun vs H Q E h => ?_) (fun f cdv A outer s H vs Q E hr h => ?_)
 ·obtain ⟨v, rfl, _⟩ := h
  rfl
 obtain ⟨v, rfl, k, hv, qT, qF⟩ := h
 refine ⟨_, (@pss_cons _ _ _ _ _ (@ps_expr _ _ _ _ (@pe_fnX _ _ _ _ _ _ _ _ _ _ _ c_need (hr.mono (by first | decide | omega)) (@paX_self _ _) (@pa_cons _ _ _ _ _ (@pe_isi _ _ _ _ _ _ _ _ BT.isinstance BT.str_ L3.bt_str (@pv _ 0 _ _ (by rfl) (by first | exact Or.inl rfl | exact Or.inr (Or.inl rfl) | exact Or.inr (Or.inr rfl)) (by decide) (by decide)) (by rfl) (by rfl) (by decide) (by decide) (by rfl) (by rfl) (by rfl)) (@pa_nil _) (by rfl)) (by rfl) (by decide) (by rfl) (by rfl)) (by rfl)) (@pss_cons _ _ _ _ _ (@ps_set _ _ 1 _ _ _ _ S.nd rfl (by first | exact Or.inl rfl | exact Or.inr rfl) (@pe_bm _ _ _ _ _ _ _ _ _ _ _ _ PySem.F.plainAttrs_str PySem.F.slot_str_split PySem.F.type_str_split m_split (@pv _ 0 _ _ (by rfl) (by first | exact Or.inl rfl | exact Or.inr (Or.inl rfl) | exact Or.inr (Or.inr rfl)) (by decide) (by decide)) (@pa_cons _ _ _ _ _ (@pe_str _ _ _ _) (@pa_nil _) (by rfl)) (by rfl) (by rfl) (by rfl) (by rfl) (by rfl)) (by rfl) (by first | exact .inl rfl | exact .inr rfl | assumption)) (@pss_cons _ _ _ _ _ (@ps_expr _ _ _ _ (@pe_fnX _ _ _ _ _ _ _ _ _ _ _ c_need (hr.mono (by first | decide | omega)) (@paX_self _ _) (@pa_cons _ _ _ _ _ (@pe_cmpR _ _ _ _ _ _ _ _ (@op_notIn_seq _) (@pe_str _ _ _ _) (@pv _ 1 _ _ (by rfl) (by first | exact Or.inl rfl | exact Or.inr (Or.inl rfl) | exact Or.inr (Or.inr rfl)) (by decide) (by decide)) (by with_unfolding_all rfl)) (@pa_nil _) (by rfl)) (by rfl) (by decide) (by rfl) (by rfl)) (by rfl)) (@pss_one _ _ _ (@ps_ret _ _ _ _ (@pv _ 1 _ _ (by rfl) (by first | exact Or.inl rfl | exact Or.inr (Or.inl rfl) | exact Or.inr (Or.inr rfl)) (by decide) (by decide))))))), ?_⟩
 try dsimp only [xcx, cxOf]
 walk_at "go"
 refine isi_str k (fun z e => ?_) (fun e => ?_)
 rotate_left
 ·have en : deedV v = none := by
   cases v with
   | str z => exact absurd rfl (e z)
   | _ => rfl
  walk_at "go"
  exact use_need (fun z => nomatch z) fun _ => qF en _ (Same.refl _)
 subst e
 have hz := hv z rfl
 walk_at "go"
 refine use_need (fun _ => ?_) (fun z => nomatch z)
 have L := Led.start H (fun _ => False)
 walk_at "go"
 refine g_split L (by decide) (by omega) fun b H1 nb L s1 => ?_
 rw [show Txt.split z (Str.ofString " ") = wdOf z from split_one z (c := 32) (by decide)] at L
 have hb := L.eo (p := b) .head
 try dsimp only [gName]
 walk_at "go"
 refine g_notInL (SqL.of hb) ?_
 walk_at "go"
 refine use_need (fun c => ?_) (fun c => ?_)
 ·walk_at "go"
  exact qT z rfl (by simpa using c) b _ hb s1
 ·exact qF (deed_empty (by simpa using c)) _ s1
theorem sc_ttext : FnScope ["things", "sign"] ["things", "sign"] (defScope (top 32)) := by walk_at "s"
def spTText : Sp := fun vs H Q _ => ∃ (a : Addr) (ts : List Th) (sg : Str), vs = [.ref a, .str sg] ∧ H a = some (.tup (ts.map thV)) ∧ (∀ t ∈ ts, Prt t) ∧ ts.length ≤ 5 ∧ sg.length ≤ 1 ∧ ∀ H', Same H H' → Q (.str (Txt.join sg (ts.map txtT))) H'
theorem log40 {i : Int} (h0 : 0 ≤ i) (h : i < 10 ^ 40) : i.natAbs.log2 < 1920 := by
 by_cases z : i.natAbs = 0
 ·rw [z]; decide
 ·exact (Nat.log2_lt z).mpr (Nat.lt_of_lt_of_le (show i.natAbs < 10 ^ 40 by omega) (by decide +kernel))
theorem prt_len {t : Th} (h : Prt t) : (txtT t).length ≤ 40 := by
 cases t with
 | int i =>
  obtain ⟨h0, h1⟩ := (h : 0 ≤ i ∧ i < 10 ^ 40)
  obtain ⟨n, rfl⟩ := Int.eq_ofNat_of_zero_le h0
  obtain ⟨a, _⟩ := num_str (n := n) (by omega)
  rw [len_of]
  exact (num_parts a).2.1
 | str z =>
  have := (name_parts h).2.1
  rw [len_of]
  show z.cps.toList.length ≤ 40
  omega
 | _ => exact h.elim
theorem sum_le40 : ∀ {zs : List Str}, (∀ z ∈ zs, z.length ≤ 40) → (zs.map (·.length)).sum ≤ 40 * zs.length
 | [], _ => Nat.le_refl _
 | z :: zs, h => by
  rw [List.map_cons, List.sum_cons, List.length_cons]
  have := h z List.mem_cons_self
  have := sum_le40 fun y hy => h y (List.mem_cons_of_mem _ hy)
  omega
theorem str_prt {t : Th} {H : Hp} {Q : VK} (h : Prt t) (q : Q (.str (txtT t)) H) : rStrP [thV t] H Q := by
 cases t with
 | int i => exact .inl ⟨i, rfl, log40 h.1 h.2, q⟩
 | str z => exact .inr ⟨z, rfl, q⟩
 | _ => exact h.elim
theorem ok_ttext (D : Dat K mg "things_text" "things_text" (top 32) ["things", "sign"]) (BT : Bt mg) : Cal P w K mg base CX "things_text" 1 ["things", "sign"] spTText := by
 have S := sc_ttext
 walk_at "d"
 ·obtain ⟨a, ts, sg, rfl, _⟩ := h
  rfl
 obtain ⟨a, ts, sg, rfl, ha, hp, h5, h1, q⟩ := h
 refine ⟨_, (@pss_one _ _ _ (@ps_ret _ _ _ _ (@pe_bm _ _ _ _ _ _ _ _ _ _ _ _ PySem.F.plainAttrs_str PySem.F.slot_str_join PySem.F.type_str_join (@m_join _) (@pv _ 1 _ _ (by rfl) (by first | exact Or.inl rfl | exact Or.inr (Or.inl rfl) | exact Or.inr (Or.inr rfl)) (by decide) (by decide)) (@pa_cons _ _ _ _ _ (@pe_comp _ _ _ _ _ _ _ _ _ _ (gName 0) _ _ rfl (@pi_tup _ _ _ _ (@pv _ 0 _ _ (by rfl) (by first | exact Or.inl rfl | exact Or.inr (Or.inl rfl) | exact Or.inr (Or.inr rfl)) (by decide) (by decide))) (@blk_of _ _ ["thing"] [] (defScope (top 32)).names ["things", "sign"] rfl rfl rfl (by decide +kernel)) (fun _ _ _ _ => (@pg_name _ _ 0 _ (show (blkN ["things", "sign"] ["thing"] []).Nodup by decide +kernel) rfl (by first | exact Or.inl rfl | exact Or.inr rfl) (by first | exact .inl rfl | exact .inr rfl | assumption))) (fun _ _ _ _ => (@pifs_nil _)) (fun _ _ _ _ => (@pe_callTy _ _ _ _ _ _ _ _ _ c_strP rfl BT.str_ L3.bt_str (@pa_cons _ _ _ _ _ (@pv _ 0 _ _ (by rfl) (by first | exact Or.inl rfl | exact Or.inr (Or.inl rfl) | exact Or.inr (Or.inr rfl)) (by decide) (by decide)) (@pa_nil _) (by rfl)) (by decide) (by decide) (by rfl) (by rfl))) (by intro _; rfl)) (@pa_nil _) (by rfl)) (by rfl) (by rfl) (by rfl) (by rfl) (by rfl)))), ?_⟩
 try dsimp only [cxOf]
 walk_at "go"
 refine g_wkTv (SqT.of ha) ?_
 refine g_compT (ts.map thV) (fun i ys H' => ys = ((ts.take i).map txtT).map V.str ∧ H' = H) ⟨rfl, rfl⟩ (fun i ys H' hi ⟨e, e2⟩ => ⟨e2 ▸ SqT.of ha, by rw [e, List.length_map, List.length_map, List.length_take]; exact Nat.le_of_lt (small1000 (by omega))⟩) ?_ ?_
 ·rintro i y ys H' hy ⟨rfl, rfl⟩
  rw [List.getElem?_map] at hy
  cases e : ts[i]? with
  | none => rw [e] at hy; cases hy
  | some t =>
   rw [e] at hy
   cases hy
   try dsimp only [gName]
   walk_at "go"
   refine str_prt (hp t (List.mem_of_getElem? e)) ?_
   walk_at "go"
   exact ⟨by rw [List.take_add_one, e, Option.toList, List.map_append, List.map_append]; rfl, rfl⟩
 rintro ys H' ⟨rfl, rfl⟩ lc nlc
 rw [List.length_map, List.take_length]
 have hs := sum_le40 (zs := ts.map txtT) fun z hz => by
  obtain ⟨t, ht, rfl⟩ := List.mem_map.mp hz
  exact prt_len (hp t ht)
 rw [List.length_map] at hs
 have hm : ts.length * sg.length ≤ 5 * 1 := Nat.mul_le_mul h5 h1
 walk_at "go"
 refine g_join (SqL.of upd_same) (by rw [List.length_map]; omega) ?_
 exact q _ (same_upd0 nlc)
theorem sc_dtext : FnScope ["deed"] ["deed"] (defScope (top 33)) := by walk_at "s"
def spDText : Sp := fun vs H Q _ => ∃ (a : Addr) (ts : List Th), vs = [.ref a] ∧ H a = some (.tup (ts.map thV)) ∧ (∀ t ∈ ts, Prt t) ∧ ts.length ≤ 5 ∧ ∀ H', Same H H' → Q (.str (Txt.join " " (ts.map txtT))) H'
theorem ok_dtext (D : Dat K mg "deed_text" "deed_text" (top 33) ["deed"]) (NE : NoErr CX) (c_things_text : Cal P w K mg base CX "things_text" 1 ["things", "sign"] spTText) : Cal P w K mg base CX "deed_text" 2 ["deed"] spDText := by
 have S := sc_dtext
 walk_at "d"
 ·obtain ⟨a, ts, rfl, _⟩ := h
  rfl
 obtain ⟨a, ts, rfl, ha, hp, h5, q⟩ := h
 refine ⟨_, (@pss_one _ _ _ (@ps_ret _ _ _ _ (@pe_fn _ _ _ _ _ _ _ _ _ _ _ _ c_things_text (hr.mono (by first | decide | omega)) NE.pass (@pa_cons _ _ _ _ _ (@pv _ 0 _ _ (by rfl) (by first | exact Or.inl rfl | exact Or.inr (Or.inl rfl) | exact Or.inr (Or.inr rfl)) (by decide) (by decide)) (@pa_cons _ _ _ _ _ (@pe_str _ _ _ _) (@pa_nil _) (by rfl)) (by rfl)) (by rfl) (by decide) (by rfl) (by rfl)))), ?_⟩
 try dsimp only [cxOf]
 walk_at "go"
 exact ⟨a, ts, _, rfl, ha, hp, h5, by decide +kernel, q⟩
theorem sc_rthing : FnScope ["word"] ["word"] (defScope (top 34)) := by walk_at "s"
def spRThing (CN : Addr) : Sp := fun vs H Q E => ∃ z : Str, vs = [.str z] ∧ z ≠ "" ∧ z.length ≤ 500 ∧ (∀ t, rd1 z = some t → ∀ H', Same H H' → Q (thV t) H') ∧ (rd1 z = none → ∀ H', Same H H' → E (.ref CN) none H')
theorem ok_rthing (D : Dat K mg "read_thing" "read_thing" (top 34) ["word"]) (BT : Bt mg) (NE : NoErr (CX1 P w)) (g_FIGURES : GlV mg "FIGURES" (.str figs)) (c_read_number : Cal P w K mg base (CX1 P w) "read_number" 2 ["word"] (spRNum CN)) : Cal P w K mg base (CX1 P w) "read_thing" 3 ["word"] (spRThing CN) := by
 have S := sc_rthing
 refine D.okR S (fun vs H Q E h => ?_) (fun f cdv A outer s H vs Q E hr h => ?_)
 ·obtain ⟨z, rfl, _⟩ := h
  rfl
 obtain ⟨z, rfl, hne, hz, qT, qF⟩ := h
 refine ⟨_, (@pss_one _ _ _ (@ps_ret _ _ _ _ (@pe_ifExp _ _ _ _ _ _ _ _ (@pt_cmpR _ _ _ _ _ _ _ _ (@o_inS _) (@pe_ix _ _ _ _ _ _ _ (@ix_str _) (@pv _ 0 _ _ (by rfl) (by first | exact Or.inl rfl | exact Or.inr (Or.inl rfl) | exact Or.inr (Or.inr rfl)) (by decide) (by decide)) (@pe_int _ _ _ _) (fun _ _ => rfl)) (@pe_g _ _ _ _ g_FIGURES (by rfl) (by decide)) (by with_unfolding_all rfl)) (@pe_fnX _ _ _ _ _ _ _ _ _ _ _ c_read_number (hr.mono (by first | decide | omega)) (@paX_self _ _) (@pa_cons _ _ _ _ _ (@pv _ 0 _ _ (by rfl) (by first | exact Or.inl rfl | exact Or.inr (Or.inl rfl) | exact Or.inr (Or.inr rfl)) (by decide) (by decide)) (@pa_nil _) (by rfl)) (by rfl) (by decide) (by rfl) (by rfl)) (@pv _ 0 _ _ (by rfl) (by first | exact Or.inl rfl | exact Or.inr (Or.inl rfl) | exact Or.inr (Or.inr rfl)) (by decide) (by decide))))), ?_⟩
 try dsimp only [xcx, cxOf]
 have zs : z.length ≤ sizeLine := Nat.le_of_lt (small1000 (by omega))
 obtain ⟨a, r, hl⟩ : ∃ a r, z.cps.toList = a :: r := by
  cases hl : z.cps.toList with
  | nil => exact absurd (show z = "" by
    have : z.cps = #[] := by rw [← Array.toArray_toList (xs := z.cps), hl]
    show z = Str.empty
    cases z; simp only at this; rw [this]; rfl) hne
  | cons a r => exact ⟨a, r, rfl⟩
 have er : rd1 z = if figC a = true then (numO z.cps.toList).map (fun n => Th.int (n : Nat)) else some (.str z) := by
  unfold rd1
  rw [if_neg hne, hl]; rfl
 walk_at "go"
 refine g_ixS (c := a) zs (by rw [hl]; exact atI_nat (j := 0) rfl) ?_
 walk_at "go"
 refine ⟨_, _, rfl, rfl, ?_⟩
 walk_at "go"
 show if figC a = true then _ else _
 cases hf : figC a with
 | true =>
  rw [hf, if_pos rfl] at er
  refine g_ifT ?_
  walk_at "go"
  refine ⟨_, rfl, .str z, (fun y e => by cases e; exact hz), (fun n e H' s' => ?_), fun e H' s' => qF (by rw [er]; rw [show numO z.cps.toList = none from e]; rfl) H' s'⟩
  exact qT (.int (n : Nat)) (by rw [er, show numO z.cps.toList = some n from e]; rfl) H' s'
 | false =>
  rw [hf, if_neg Bool.false_ne_true] at er
  refine g_ifF ?_
  walk_at "go"
  exact qT _ er _ (Same.refl _)
theorem ths_at {p : Addr} {H : Hp} : ∀ {ts : List Th}, (∀ t ∈ ts, (∃ i, t = .int i) ∨ ∃ z, t = .str z) → Ths p H (ts.map thV) ts
 | [], _ => .nil
 | t :: ts, h => by
  refine .cons ?_ (ths_at fun u hu => h u (List.mem_cons_of_mem _ hu))
  rcases h t List.mem_cons_self with ⟨i, rfl⟩ | ⟨z, rfl⟩
  ·exact .int i
  ·exact .str z
theorem rdAll_plain : ∀ {ws : List Str} {ts : List Th}, rdAll ws = some ts → ∀ t ∈ ts, (∃ i, t = .int i) ∨ ∃ z ∈ ws, t = .str z
 | [], ts, h, t, ht => by cases h; cases ht
 | x :: ws, ts, h, t, ht => by
  have h : (match rd1 x with | none => none | some t => (rdAll ws).map (t :: ·)) = some ts := h
  cases e : rd1 x with
  | none => rw [e] at h; cases h
  | some u =>
   rw [e] at h
   cases e2 : rdAll ws with
   | none => rw [e2] at h; cases h
   | some us =>
    rw [e2] at h
    cases h
    rcases List.mem_cons.mp ht with rfl | ht
    ·rcases rd1_plain e with ⟨n, rfl, _⟩ | rfl
     ·exact .inl ⟨_, rfl⟩
     ·exact .inr ⟨x, List.mem_cons_self, rfl⟩
    ·rcases rdAll_plain e2 t ht with h3 | ⟨z, hz, h3⟩
     ·exact .inl h3
     ·exact .inr ⟨z, List.mem_cons_of_mem _ hz, h3⟩
theorem sc_rdeed : FnScope ["text", "deed"] ["text"] (defScope (top 35)) := by walk_at "s"
def spRDeed (CN : Addr) : Sp := fun vs H Q E => ∃ v, vs = [v] ∧ Knd H v ∧ (∀ z, v = .str z → z.length ≤ 199) ∧ (∀ ts, deedV v = some ts → ∀ a H', H' a = some (.tup (ts.map thV)) → Same H H' → Q (.ref a) H') ∧ (deedV v = none → ∀ H', Same H H' → E (.ref CN) none H')
theorem ok_rdeed (D : Dat K mg "read_deed" "read_deed" (top 35) ["text"]) (BT : Bt mg) (NE : NoErr (CX1 P w)) (c_need : Cal P w K mg base (CX1 P w) "need" 1 ["is_right"] (spNeed CN)) (c_words_of : Cal P w K mg base (CX1 P w) "words_of" 2 ["text"] (spWords CN)) (c_read_thing : Cal P w K mg base (CX1 P w) "read_thing" 3 ["word"] (spRThing CN)) (c_is_deed : Cal P w K mg base (CX1 P w) "is_deed" 6 ["thing"] spDeed) : Cal P w K mg base (CX1 P w) "read_deed" 7 ["text"] (spRDeed CN) := by
 have S := sc_rdeed
 refine D.okR S (fun vs H Q E h => ?_) (fun f cdv A outer s H vs Q E hr h => ?_)
 ·obtain ⟨v, rfl, _⟩ := h
  rfl
 obtain ⟨v, rfl, k, hv, qT, qF⟩ := h
 refine ⟨_, (@pss_cons _ _ _ _ _ (@ps_set _ _ 1 _ _ _ _ S.nd rfl (by first | exact Or.inl rfl | exact Or.inr rfl) (@pe_callTy _ _ _ _ _ _ _ _ _ (@c_tupOf _) rfl BT.tuple_ L3.bt_tuple (@pa_cons _ _ _ _ _ (pe_compX (g := (gName 0)) rfl rfl (@paX_self _ _) rfl (@pi_list _ _ _ _ (@pe_fnX _ _ _ _ _ _ _ _ _ _ _ c_words_of (hr.mono (by first | decide | omega)) (@paX_self _ _) (@pa_cons _ _ _ _ _ (@pv _ 0 _ _ (by rfl) (by first | exact Or.inl rfl | exact Or.inr (Or.inl rfl) | exact Or.inr (Or.inr rfl)) (by decide) (by decide)) (@pa_nil _) (by rfl)) (by rfl) (by decide) (by rfl) (by rfl))) (@blk_of _ _ ["word"] [] (defScope (top 35)).names ["text", "deed"] rfl rfl rfl (by decide +kernel)) (fun _ _ _ _ => (@pg_name _ _ 0 _ (show (blkN ["text", "deed"] ["word"] []).Nodup by decide +kernel) rfl (by first | exact Or.inl rfl | exact Or.inr rfl) (by first | exact .inl rfl | exact .inr rfl | assumption))) (fun _ _ _ _ => (@pifs_nil _)) (fun _ _ _ _ => (pe_fnB c_read_thing (hr.mono (by first | decide | omega)) xb_self (@pa_cons _ _ _ _ _ (@pv _ 0 _ _ (by rfl) (by first | exact Or.inl rfl | exact Or.inr (Or.inl rfl) | exact Or.inr (Or.inr rfl)) (by decide) (by decide)) (@pa_nil _) (by rfl))))) (@pa_nil _) (by rfl)) (by decide) (by decide) (by rfl) (by rfl)) (by rfl) (by first | exact .inl rfl | exact .inr rfl | assumption)) (@pss_cons _ _ _ _ _ (@ps_expr _ _ _ _ (@pe_fnX _ _ _ _ _ _ _ _ _ _ _ c_need (hr.mono (by first | decide | omega)) (@paX_self _ _) (@pa_cons _ _ _ _ _ (@pe_fn _ _ _ _ _ _ _ _ _ _ _ _ c_is_deed (hr.mono (by first | decide | omega)) NE.pass (@pa_cons _ _ _ _ _ (@pv _ 1 _ _ (by rfl) (by first | exact Or.inl rfl | exact Or.inr (Or.inl rfl) | exact Or.inr (Or.inr rfl)) (by decide) (by decide)) (@pa_nil _) (by rfl)) (by rfl) (by decide) (by rfl) (by rfl)) (@pa_nil _) (by rfl)) (by rfl) (by decide) (by rfl) (by rfl)) (by rfl)) (@pss_one _ _ _ (@ps_ret _ _ _ _ (@pv _ 1 _ _ (by rfl) (by first | exact Or.inl rfl | exact Or.inr (Or.inl rfl) | exact Or.inr (Or.inr rfl)) (by decide) (by decide)))))), ?_⟩
 try dsimp only [xcx, cxOf]
 walk_at "go"
 refine ⟨v, rfl, k, hv, fun z e hne l H1 hl s1 => ?_, qF⟩
 subst e
 have hz := hv z rfl
 have hwl := wd_half hne
 walk_at "go"
 refine g_wkLv (SqL.of hl) ?_
 have bad : ∀ H', rdAll (wdOf z) = none → Same H1 H' → E (.ref CN) none H' := fun H' e s' => qF (by show deedL (wdOf z) = none; unfold deedL; rw [e]) H' (s1.trans s')
 refine g_compL ((wdOf z).map V.str) (fun i ys H' => ∃ ts, rdAll ((wdOf z).take i) = some ts ∧ ys = ts.map thV ∧ Same H1 H') ⟨[], rfl, rfl, Same.refl _⟩ (fun i ys H' hi ⟨ts, e, e2, s'⟩ => ⟨SqL.of (s' _ _ hl), by rw [e2, List.length_map, rdAll_len e, List.length_take]; exact Nat.le_of_lt (small1000 (by omega))⟩) ?_ ?_
 ·rintro i y ys H' hy ⟨ts, e, rfl, s'⟩
  rw [List.getElem?_map] at hy
  cases ew : (wdOf z)[i]? with
  | none => rw [ew] at hy; cases hy
  | some x =>
   rw [ew] at hy
   cases hy
   have hm : x ∈ wdOf z := List.mem_of_getElem? ew
   have et : rdAll ((wdOf z).take (i + 1)) = (rd1 x).map (fun t => ts ++ [t]) := by rw [List.take_add_one, ew]; exact rdAll_snoc e
   try dsimp only [gName]
   walk_at "go"
   refine ⟨x, rfl, fun e0 => hne (e0 ▸ hm), by have := wd_short hm; omega, fun t er H2 s2 => ?_, fun er H2 s2 => bad _ (rdAll_none hm er) (s'.trans s2)⟩
   walk_at "go"
   exact ⟨ts ++ [t], by rw [et, er]; rfl, by rw [List.map_append]; rfl, s'.trans s2⟩
 rintro ys H2 ⟨ts, e, rfl, s2⟩ lc nlc
 rw [List.length_map, List.take_length] at e
 have hlen := rdAll_len e
 walk_at "go"
 refine ⟨lc, _, rfl, .inl ⟨SqL.of upd_same, fun t nt => ?_⟩⟩
 have s4 : Same H1 (upd (upd H2 lc (.lst (ts.map thV))) t (.tup (ts.map thV))) := (s2.trans (same_upd0 nlc)).trans (same_upd0 nt)
 have ht : (upd (upd H2 lc (.lst (ts.map thV))) t (.tup (ts.map thV))) t = some (.tup (ts.map thV)) := upd_same
 generalize upd (upd H2 lc (.lst (ts.map thV))) t (.tup (ts.map thV)) = H4 at *
 have pl := rdAll_plain e
 try dsimp only [gName]
 walk_at "go"
 refine ⟨0, _, .tup ts, rfl, .tup ht (ths_at fun u hu => (pl u hu).elim .inl fun ⟨z, _, h⟩ => .inr ⟨z, h⟩), ⟨fun u hu y ey => ?_, by omega⟩, fun H5 s5 => ?_⟩
 ·rcases pl u hu with ⟨i, h⟩ | ⟨x, hx, h⟩
  ·rw [h] at ey; cases ey
  ·rw [h] at ey; cases ey
   have := wd_short hx
   omega
 walk_at "go"
 refine use_need (fun c => ?_) (fun c => ?_)
 ·walk_at "go"
  refine qT ts ?_ t _ (s5 _ _ ht) ((s1.trans s4).trans s5)
  show deedL (wdOf z) = _
  unfold deedL
  rw [e]
  show (if deedT (.tup ts) = true then some ts else none) = _
  rw [if_pos c]
 ·refine qF ?_ _ ((s1.trans s4).trans s5)
  show deedL (wdOf z) = _
  unfold deedL
  rw [e]
  show (if deedT (.tup ts) = true then some ts else none) = _
  rw [c, if_neg Bool.false_ne_true]
end
end Law

namespace Law
open PySem PySem.Spec PyProof.Rows L2 L3 L4
structure Er92 (K : PySem.W.Frag) (CB CR : Addr) (Ds : List Addr) : Prop where
 g : EGet K CB
 m1 : PySem.W.exmOne K (.ref CB) (.ref CB) = some true
 i1 : PySem.W.kitOne K (.ref CB) (.ref CR) = some true
 i4 : PySem.W.kitAny K (.ref CB) (Ds.map Value.ref) = some false
def optN : Option Nat → V
 | none => .non
 | some n => .int (n : Nat)
section
variable {P : Program} {w : World} {K : PySem.W.Frag} {mg : Str → Option Value} {base : Heap} {CX : CXT} {CB CR d1 d2 d3 d4 : Addr}
theorem sc_refused : FnScope ["_law_thing", "e"] ["_law_thing"] (defScope (top 46)) := by walk_at "s"
def spRef92 : Sp := fun vs H Q _ => ∃ v, vs = [v] ∧ Knd H v ∧ (∀ z, v = .str z → z.length ≤ 199) ∧ deedV v = none ∧ ∀ H', Same H H' → Q (.bl true) H'
theorem ok_refused (D : Dat K mg "_law_refused" "_law_refused" (top 46) ["_law_thing"]) (BT : Bt mg) (ER : Er92 K CB CR [d1, d2, d3, d4])
  (hm_NoText : mg "NoText" = some (.ref CB)) (hm_RiseError : mg "RiseError" = some (.ref CR)) (hm_BadDeed : mg "BadDeed" = some (.ref d1)) (hm_NoCode : mg "NoCode" = some (.ref d2)) (hm_NoHand : mg "NoHand" = some (.ref d3)) (hm_NoLine : mg "NoLine" = some (.ref d4))
  (c_read_deed : Cal P w K mg base (CX1 P w) "read_deed" 7 ["text"] (spRDeed CB)) : Cal P w K mg base (CX1 P w) "_law_refused" 10 ["_law_thing"] spRef92 := by
 have S := sc_refused
 walk_at "d"
 ·obtain ⟨v, rfl, _⟩ := h
  rfl
 obtain ⟨v, rfl, kv, hv, h0, q⟩ := h
 refine ⟨_, (@pss_cons _ _ _ _ _ (@ps_tryAsK _ _ _ _ _ _ _ _ _ _ _ _ 1 _ _ rfl rfl rfl hm_NoText S.nd rfl rfl (@paX_no _) (fun _ _ => (@pss_one _ _ _ (@ps_expr _ _ _ _ (@pe_fnX _ _ _ _ _ _ _ _ _ _ _ c_read_deed (hr.mono (by first | decide | omega)) (@paX_self _ _) (@pa_cons _ _ _ _ _ (@pv _ 0 _ _ (by rfl) (by first | exact Or.inl rfl | exact Or.inr (Or.inl rfl) | exact Or.inr (Or.inr rfl)) (by decide) (by decide)) (@pa_nil _) (by rfl)) (by rfl) (by decide) (by rfl) (by rfl)) (by rfl)))) (fun _ => (@pss_one _ _ _ (@ps_ret _ _ _ _ (@pe_and _ _ _ _ _ _ _ (@pe_isiXc _ _ _ _ _ _ _ _ _ rfl BT.isinstance hm_RiseError (@pv _ 1 _ _ (by rfl) (by first | exact Or.inl rfl | exact Or.inr (Or.inl rfl) | exact Or.inr (Or.inr rfl)) (by decide) (by decide)) (by rfl) (by rfl) (by decide) (by rfl) (by rfl) (by rfl)) (@pe_one _ _ _ _ _ (@pe_not _ _ _ _ (@pe_isiXt _ _ _ _ _ _ _ _ _ _ rfl BT.isinstance (@pv _ 1 _ _ (by rfl) (by first | exact Or.inl rfl | exact Or.inr (Or.inl rfl) | exact Or.inr (Or.inr rfl)) (by decide) (by decide)) (@pe_tup _ _ _ _ _ (@pa_cons _ _ _ _ _ (@pe_cl _ _ _ _ hm_BadDeed (by rfl) (by decide)) (@pa_cons _ _ _ _ _ (@pe_cl _ _ _ _ hm_NoCode (by rfl) (by decide)) (@pa_cons _ _ _ _ _ (@pe_cl _ _ _ _ hm_NoHand (by rfl) (by decide)) (@pa_cons _ _ _ _ _ (@pe_cl _ _ _ _ hm_NoLine (by rfl) (by decide)) (@pa_nil _) (by rfl)) (by rfl)) (by rfl)) (by rfl))) (by rfl) (by rfl) (by rfl) (by rfl)))))))) (by rfl) (by decide)) (@pss_one _ _ _ (@ps_ret _ _ _ _ (@pe_bl _ _ _ _)))), ?_⟩
 try dsimp only [cxOf]
 walk_at "go"
 refine ⟨v, rfl, kv, hv, (fun n e => by rw [h0] at e; cases e), fun _ H1 sm1 => ?_⟩
 refine g_handAs ER.m1 fun x nx => ?_
 have sm2 : Same H1 (upd H1 x (ExcO x (.ref CB) none)) := same_new nx _
 have ex : ExA K (upd H1 x (ExcO x (.ref CB) none)) x CB none := ⟨upd_same, ER.g, trivial⟩
 have L := Led.start (upd H1 x (ExcO x (.ref CB) none)) (fun _ => False)
 walk_at "go"
 refine g_isiXc ex ER.i1 ?_
 walk_at "go"
 refine g_isiXt (Ds := [d1, d2, d3, d4]) ⟨L'.same _ _ upd_same, ER.g, trivial⟩ (L'.tup (by walk_at "mem")) ER.i4 ?_
 walk_at "go"
 exact q _ ((sm1.trans sm2).trans L'.same)
theorem sc_lname : FnScope ["_law_word"] ["_law_word"] (defScope (top 43)) := by walk_at "s"
def spLName : Sp := fun vs H Q _ => ∃ z : Str, vs = [.str z] ∧ z.length ≤ 199 ∧ ∀ H', Same H H' → Q (.bl (nameB z.cps.toList)) H'
theorem ok_lname (D : Dat K mg "_law_name" "_law_name" (top 43) ["_law_word"]) (BT : Bt mg) : Cal P w K mg base CX "_law_name" 1 ["_law_word"] spLName := by
 have S := sc_lname
 walk_at "d"
 ·obtain ⟨z, rfl, _⟩ := h
  rfl
 obtain ⟨z, rfl, hz, q⟩ := h
 have zs : z.length ≤ sizeLine := Nat.le_of_lt (small1000 (by omega))
 have hzl := len_of z
 have nb : nameB z.cps.toList = (decide (1 ≤ z.cps.toList.length) && (decide (z.cps.toList.length ≤ 8) && z.cps.toList.all letC)) := rfl
 rw [nb] at q
 refine ⟨_, (@pss_one _ _ _ (@ps_ret _ _ _ _ (@pe_and _ _ _ _ _ _ _ (@pe_chain _ _ _ _ _ _ _ _ _ _ _ _ (@op_le _) (@op_le _) (@pe_int _ _ _ _) (@pe_callB _ _ _ _ _ _ _ _ _ (@c_lenS _) rfl BT.len L3.bt_len (@pa_cons _ _ _ _ _ (@pv _ 0 _ _ (by rfl) (by first | exact Or.inl rfl | exact Or.inr (Or.inl rfl) | exact Or.inr (Or.inr rfl)) (by decide) (by decide)) (@pa_nil _) (by rfl)) (by decide) (by decide) (by rfl) (by rfl)) (@pe_int _ _ _ _) (by with_unfolding_all rfl)) (@pe_one _ _ _ _ _ (@pe_callB _ _ _ _ _ _ _ _ _ (@call_all _ rfl) rfl BT.all L3.bt_all (@pa_cons _ _ _ _ _ (@pe_comp _ _ _ _ _ _ _ _ _ _ (gName 0) _ _ rfl (pi_str (@pv _ 0 _ _ (by rfl) (by first | exact Or.inl rfl | exact Or.inr (Or.inl rfl) | exact Or.inr (Or.inr rfl)) (by decide) (by decide))) (@blk_of _ _ ["_law_sign"] [] (defScope (top 43)).names ["_law_word"] rfl rfl rfl (by decide +kernel)) (fun _ _ _ _ => (@pg_name _ _ 0 _ (show (blkN ["_law_word"] ["_law_sign"] []).Nodup by decide +kernel) rfl (by first | exact Or.inl rfl | exact Or.inr rfl) (by first | exact .inl rfl | exact .inr rfl | assumption))) (fun _ _ _ _ => (@pifs_nil _)) (fun _ _ _ _ => (@pe_cmpR _ _ _ _ _ _ _ _ (@o_inS _) (@pv _ 0 _ _ (by rfl) (by first | exact Or.inl rfl | exact Or.inr (Or.inl rfl) | exact Or.inr (Or.inr rfl)) (by decide) (by decide)) (@pe_str _ _ _ _) (by with_unfolding_all rfl))) (by intro _; rfl)) (@pa_nil _) (by rfl)) (by decide) (by decide) (by rfl) (by rfl)))))), ?_⟩
 try dsimp only [cxOf]
 walk_at "go"
 refine g_ifD (fun c1 => ?_) (fun c1 => ?_)
 rotate_left
 ·walk_at "go"
  rw [decide_eq_false (show ¬ 1 ≤ z.cps.toList.length by omega)] at q
  exact q _ (Same.refl _)
 rw [decide_eq_true (show 1 ≤ z.cps.toList.length by omega), Bool.true_and] at q
 walk_at "go"
 refine g_ifD (fun c2 => ?_) (fun c2 => ?_)
 rotate_left
 ·walk_at "go"
  rw [decide_eq_false (show ¬ z.cps.toList.length ≤ 8 by omega)] at q
  exact q _ (Same.refl _)
 rw [decide_eq_true (show z.cps.toList.length ≤ 8 by omega), Bool.true_and] at q
 walk_at "go"
 refine g_wkS ?_
 walk_at "go"
 refine g_wkSv ?_
 refine g_compSt (fun i ys H' => ys = ((z.cps.toList.take i).map letC).map V.bl ∧ H' = H) ⟨rfl, rfl⟩ (fun i ys H' hi ⟨e, _⟩ => by rw [e, List.length_map, List.length_map, List.length_take]; exact Nat.le_of_lt (small1000 (by omega))) ?_ ?_
 ·rintro i c ys H' hc ⟨rfl, rfl⟩
  try dsimp only [gName]
  walk_at "go"
  refine ⟨_, _, rfl, rfl, ?_⟩
  walk_at "go"
  exact ⟨by rw [List.take_add_one, hc, Option.toList, List.map_append, List.map_append]; rfl, rfl⟩
 rintro ys H' ⟨rfl, rfl⟩ lc nlc
 rw [List.take_length]
 walk_at "go"
 refine g_allB (SqL.of upd_same) ?_
 rw [List.all_map, show (id ∘ letC) = letC from rfl]
 exact q _ (same_upd0 nlc)
theorem sc_lnum : FnScope ["_law_word"] ["_law_word"] (defScope (top 44)) := by walk_at "s"
def spLNumO : Sp := fun vs H Q _ => ∃ z : Str, vs = [.str z] ∧ z.length ≤ 199 ∧ ∀ H', Same H H' → Q (optN (numO z.cps.toList)) H'
theorem ok_lnum (D : Dat K mg "_law_number" "_law_number" (top 44) ["_law_word"]) (BT : Bt mg) : Cal P w K mg base CX "_law_number" 1 ["_law_word"] spLNumO := by
 have S := sc_lnum
 walk_at "d"
 ·obtain ⟨z, rfl, _⟩ := h
  rfl
 obtain ⟨z, rfl, hz, q⟩ := h
 have zs : z.length ≤ sizeLine := Nat.le_of_lt (small1000 (by omega))
 have hzl := len_of z
 have no : ∀ H', numB z.cps.toList = false → Same H H' → Q .non H' := fun H' h s' => by
  have e : numO z.cps.toList = none := by unfold numO; rw [h, if_neg Bool.false_ne_true]
  rw [e] at q
  exact q H' s'
 have nb : numB z.cps.toList = (decide (1 ≤ z.cps.toList.length) && (decide (z.cps.toList.length ≤ 40) && (z.cps.toList.all figC && (!decide (z.cps.toList.head? = some 48) || decide (z.cps.toList.length = 1))))) := rfl
 refine ⟨_, (@pss_cons _ _ _ _ _ (@ps_if _ _ _ _ _ _ _ _ (@PW.pt _ _ _ (@pw_or _ _ _ _ _ _ _ (@pt_not _ _ _ _ (@pt_chain _ _ _ _ _ _ _ _ _ _ _ _ (@op_le _) (@op_le _) (@pe_int _ _ _ _) (@pe_callB _ _ _ _ _ _ _ _ _ (@c_lenS _) rfl BT.len L3.bt_len (@pa_cons _ _ _ _ _ (@pv _ 0 _ _ (by rfl) (by first | exact Or.inl rfl | exact Or.inr (Or.inl rfl) | exact Or.inr (Or.inr rfl)) (by decide) (by decide)) (@pa_nil _) (by rfl)) (by decide) (by decide) (by rfl) (by rfl)) (@pe_int _ _ _ _) (by with_unfolding_all rfl))) (@pw_or1 _ _ _ _ (@pt_not _ _ _ _ (@pt_val _ _ _ (@pe_callB _ _ _ _ _ _ _ _ _ (@call_all _ rfl) rfl BT.all L3.bt_all (@pa_cons _ _ _ _ _ (@pe_comp _ _ _ _ _ _ _ _ _ _ (gName 0) _ _ rfl (pi_str (@pv _ 0 _ _ (by rfl) (by first | exact Or.inl rfl | exact Or.inr (Or.inl rfl) | exact Or.inr (Or.inr rfl)) (by decide) (by decide))) (@blk_of _ _ ["_law_sign"] [] (defScope (top 44)).names ["_law_word"] rfl rfl rfl (by decide +kernel)) (fun _ _ _ _ => (@pg_name _ _ 0 _ (show (blkN ["_law_word"] ["_law_sign"] []).Nodup by decide +kernel) rfl (by first | exact Or.inl rfl | exact Or.inr rfl) (by first | exact .inl rfl | exact .inr rfl | assumption))) (fun _ _ _ _ => (@pifs_nil _)) (fun _ _ _ _ => (@pe_cmpR _ _ _ _ _ _ _ _ (@o_inS _) (@pv _ 0 _ _ (by rfl) (by first | exact Or.inl rfl | exact Or.inr (Or.inl rfl) | exact Or.inr (Or.inr rfl)) (by decide) (by decide)) (@pe_str _ _ _ _) (by with_unfolding_all rfl))) (by intro _; rfl)) (@pa_nil _) (by rfl)) (by decide) (by decide) (by rfl) (by rfl)) (by intro _; rfl)))))) (@pss_one _ _ _ (@ps_ret _ _ _ _ (@pe_non _ _ _))) (@pss_nil _)) (@pss_cons _ _ _ _ _ (@ps_if _ _ _ _ _ _ _ _ (@PW.pt _ _ _ (@pw_and _ _ _ _ _ _ _ (@pt_cmpR _ _ _ _ _ _ _ _ (@op_eq _) (@pe_ix _ _ _ _ _ _ _ (@ix_str _) (@pv _ 0 _ _ (by rfl) (by first | exact Or.inl rfl | exact Or.inr (Or.inl rfl) | exact Or.inr (Or.inr rfl)) (by decide) (by decide)) (@pe_int _ _ _ _) (fun _ _ => rfl)) (@pe_str _ _ _ _) (@nomark _ _ (by decide) (by decide))) (@pw_and1 _ _ _ _ (@pt_cmpR _ _ _ _ _ _ _ _ (@op_gt _) (@pe_callB _ _ _ _ _ _ _ _ _ (@c_lenS _) rfl BT.len L3.bt_len (@pa_cons _ _ _ _ _ (@pv _ 0 _ _ (by rfl) (by first | exact Or.inl rfl | exact Or.inr (Or.inl rfl) | exact Or.inr (Or.inr rfl)) (by decide) (by decide)) (@pa_nil _) (by rfl)) (by decide) (by decide) (by rfl) (by rfl)) (@pe_int _ _ _ _) (@nomark _ _ (by decide) (by decide)))))) (@pss_one _ _ _ (@ps_ret _ _ _ _ (@pe_non _ _ _))) (@pss_nil _)) (@pss_one _ _ _ (@ps_ret _ _ _ _ (@pe_callTy _ _ _ _ _ _ _ _ _ c_intT rfl BT.int_ L3.bt_int (@pa_cons _ _ _ _ _ (@pv _ 0 _ _ (by rfl) (by first | exact Or.inl rfl | exact Or.inr (Or.inl rfl) | exact Or.inr (Or.inr rfl)) (by decide) (by decide)) (@pa_nil _) (by rfl)) (by decide) (by decide) (by rfl) (by rfl)))))), ?_⟩
 try dsimp only [cxOf]
 walk_at "go"
 refine g_ifD (fun c1 => ?_) (fun c1 => ?_)
 rotate_left
 ·walk_at "go"
  exact no _ (by rw [nb, decide_eq_false (show ¬ 1 ≤ z.cps.toList.length by omega)]; rfl) (Same.refl _)
 walk_at "go"
 refine g_ifN (fun c2 => ?_) (fun c2 => ?_)
 rotate_left
 ·walk_at "go"
  exact no _ (by rw [nb, decide_eq_false (show ¬ z.cps.toList.length ≤ 40 by omega), Bool.false_and, Bool.and_false]) (Same.refl _)
 rw [decide_eq_true (show 1 ≤ z.cps.toList.length by omega), decide_eq_true (show z.cps.toList.length ≤ 40 by omega), Bool.true_and, Bool.true_and] at nb
 walk_at "go"
 refine g_wkS ?_
 walk_at "go"
 refine g_wkSv ?_
 refine g_compSt (fun i ys H' => ys = ((z.cps.toList.take i).map figC).map V.bl ∧ H' = H) ⟨rfl, rfl⟩ (fun i ys H' hi ⟨e, _⟩ => by rw [e, List.length_map, List.length_map, List.length_take]; exact Nat.le_of_lt (small1000 (by omega))) ?_ ?_
 ·rintro i c ys H' hc ⟨rfl, rfl⟩
  try dsimp only [gName]
  walk_at "go"
  refine ⟨_, _, rfl, rfl, ?_⟩
  walk_at "go"
  exact ⟨by rw [List.take_add_one, hc, Option.toList, List.map_append, List.map_append]; rfl, rfl⟩
 rintro ys H' ⟨rfl, rfl⟩ lc nlc
 rw [List.take_length]
 walk_at "go"
 refine g_allB (SqL.of upd_same) ?_
 rw [List.all_map, show (id ∘ figC) = figC from rfl]
 have sm := same_new nlc (.lst ((z.cps.toList.map figC).map V.bl))
 generalize upd H' lc (.lst ((z.cps.toList.map figC).map V.bl)) = H2 at *
 walk_at "go"
 cases hall : z.cps.toList.all figC with
 | false =>
  walk_at "go"
  exact no _ (by rw [nb, hall]; rfl) sm
 | true =>
 rw [hall, Bool.true_and] at nb
 walk_at "go"
 obtain ⟨a, r, hl⟩ : ∃ a r, z.cps.toList = a :: r := by
  cases hl : z.cps.toList with
  | nil => rw [hl] at hzl; simp at hzl; omega
  | cons a r => exact ⟨a, r, rfl⟩
 have eh : decide (z.cps.toList.head? = some 48) = decide (({ cps := #[a] } : Str) = Str.ofString "0") := by
  rw [hl]
  by_cases h : a = 48
  ·rw [decide_eq_true ((e48 a).mpr h), h]; rfl
  ·rw [decide_eq_false (fun x => h ((e48 a).mp x))]; simp [h]
 have el : decide (z.cps.toList.length = 1) = decide ((z.length : Int) = 1) := by
  rw [← hzl]
  by_cases h : z.length = 1
  ·rw [decide_eq_true h, decide_eq_true (by omega)]
  ·rw [decide_eq_false h, decide_eq_false (by omega)]
 rw [eh, el] at nb
 refine g_ixS (c := a) zs (by rw [hl]; exact atI_nat (j := 0) rfl) ?_
 walk_at "go"
 have fin : numB z.cps.toList = true → rIntT [V.str z] H2 Q := fun h => g_intT (num_int h) (by omega) (by
  have e : numO z.cps.toList = some (NumText.digitsVal z.cps.toList) := by unfold numO; rw [if_pos h]
  rw [e] at q
  exact q _ sm)
 refine g_ifD (fun c4 => ?_) (fun c4 => ?_)
 ·walk_at "go"
  refine g_ifD (fun c5 => ?_) (fun c5 => ?_)
  ·walk_at "go"
   exact no _ (by rw [nb, decide_eq_true c4, decide_eq_false (by omega)]; rfl) sm
  ·walk_at "go"
   exact fin (by rw [nb, decide_eq_true (show (z.length : Int) = 1 by omega), Bool.or_true])
 ·walk_at "go"
  exact fin (by rw [nb, decide_eq_false c4]; rfl)
def DlV (H : Hp) (v : V) : Option (List Th) → Prop
 | none => v = .non
 | some ts => ∃ a, v = .ref a ∧ H a = some (.tup (ts.map thV))
theorem DlV.same {H H' : Hp} {v : V} {o : Option (List Th)} (h : DlV H v o) (s : Same H H') : DlV H' v o := by
 cases o with
 | none => exact h
 | some ws =>
  obtain ⟨a, e, ha⟩ := h
  exact ⟨a, e, s _ _ ha⟩
theorem g_inTu {H : Hp} {Q : VK} {p : Addr} {ws : List Str} {z : Str} (s : H p = some (.tup (ws.map V.str))) (h : Q (.bl (decide (z ∈ ws))) H) : rIn K false (.str z) (.ref p) H Q := g_inT (SqT.of s) h
theorem g_notInTu {H : Hp} {Q : VK} {p : Addr} {ws : List Str} {z : Str} (s : H p = some (.tup (ws.map V.str))) (h : Q (.bl (!decide (z ∈ ws))) H) : rIn K true (.str z) (.ref p) H Q :=
 ⟨p, _, rfl, .inr (SqT.of s), rfl, flat_str ws, by rw [if_pos rfl, inV_str]; exact h⟩
end
end Law

namespace Law
open PySem PySem.Spec PyProof.Rows L2 L3 L4
section
variable {P : Program} {w : World} {K : PySem.W.Frag} {mg : Str → Option Value} {base : Heap} {CX : CXT} {CB CR d1 d2 d3 d4 : Addr}
theorem sc_ldue : FnScope ["_law_text", "_law_words", "_law_number_here"] ["_law_text"] (defScope (top 45)) := by walk_at "s"
def spLDue : Sp := fun vs H Q _ => ∃ z : Str, vs = [.str z] ∧ z.length ≤ 199 ∧ ∀ v H', DlV H' v (deedL (wdOf z)) → Same H H' → Q v H'
theorem ok_ldue (D : Dat K mg "_law_due" "_law_due" (top 45) ["_law_text"]) (BT : Bt mg) (NE : NoErr CX) (c__law_name : Cal P w K mg base CX "_law_name" 1 ["_law_word"] spLName) (c__law_number : Cal P w K mg base CX "_law_number" 1 ["_law_word"] spLNumO) : Cal P w K mg base CX "_law_due" 2 ["_law_text"] spLDue := by
 have S := sc_ldue
 walk_at "d"
 ·obtain ⟨z, rfl, _⟩ := h
  rfl
 obtain ⟨z, rfl, hz, q⟩ := h
 refine ⟨_, (@pss_cons _ _ _ _ _ (@ps_set _ _ 1 _ _ _ _ S.nd rfl (by first | exact Or.inl rfl | exact Or.inr rfl) (@pe_bm _ _ _ _ _ _ _ _ _ _ _ _ PySem.F.plainAttrs_str PySem.F.slot_str_split PySem.F.type_str_split m_split (@pv _ 0 _ _ (by rfl) (by first | exact Or.inl rfl | exact Or.inr (Or.inl rfl) | exact Or.inr (Or.inr rfl)) (by decide) (by decide)) (@pa_cons _ _ _ _ _ (@pe_str _ _ _ _) (@pa_nil _) (by rfl)) (by rfl) (by rfl) (by rfl) (by rfl) (by rfl)) (by rfl) (by first | exact .inl rfl | exact .inr rfl | assumption)) (@pss_cons _ _ _ _ _ (@ps_if _ _ _ _ _ _ _ _ (@PW.pt _ _ _ (@pw_and _ _ _ _ _ _ _ (@pt_cmpR _ _ _ _ _ _ _ _ (@op_eq _) (@pe_ix _ _ _ _ _ _ _ (@ix_list _) (@pv _ 1 _ _ (by rfl) (by first | exact Or.inl rfl | exact Or.inr (Or.inl rfl) | exact Or.inr (Or.inr rfl)) (by decide) (by decide)) (@pe_int _ _ _ _) (fun _ _ => rfl)) (@pe_str _ _ _ _) (@nomark _ _ (by decide) (by decide))) (@pw_and1 _ _ _ _ (@pt_cmpR _ _ _ _ _ _ _ _ (@op_eq _) (@pe_callB _ _ _ _ _ _ _ _ _ (@c_len _) rfl BT.len L3.bt_len (@pa_cons _ _ _ _ _ (@pv _ 1 _ _ (by rfl) (by first | exact Or.inl rfl | exact Or.inr (Or.inl rfl) | exact Or.inr (Or.inr rfl)) (by decide) (by decide)) (@pa_nil _) (by rfl)) (by decide) (by decide) (by rfl) (by rfl)) (@pe_int _ _ _ _) (@nomark _ _ (by decide) (by decide)))))) (@pss_cons _ _ _ _ _ (@ps_set _ _ 2 _ _ _ _ S.nd rfl (by first | exact Or.inl rfl | exact Or.inr rfl) (@pe_fn _ _ _ _ _ _ _ _ _ _ _ _ c__law_number (hr.mono (by first | decide | omega)) NE.pass (@pa_cons _ _ _ _ _ (@pe_ix _ _ _ _ _ _ _ (@ix_list _) (@pv _ 1 _ _ (by rfl) (by first | exact Or.inl rfl | exact Or.inr (Or.inl rfl) | exact Or.inr (Or.inr rfl)) (by decide) (by decide)) (@pe_int _ _ _ _) (fun _ _ => rfl)) (@pa_nil _) (by rfl)) (by rfl) (by decide) (by rfl) (by rfl)) (by rfl) (by first | exact .inl rfl | exact .inr rfl | assumption)) (@pss_cons _ _ _ _ _ (@ps_if _ _ _ _ _ _ _ _ (@PW.pt _ _ _ (@pw_or _ _ _ _ _ _ _ (@pt_cmp _ _ _ _ _ _ (@pc_isN _ _ _ _ _ (@pv _ 2 _ _ (by rfl) (by first | exact Or.inl rfl | exact Or.inr (Or.inl rfl) | exact Or.inr (Or.inr rfl)) (by decide) (by decide))) (by first | exact nobehind _ (by decide) (by decide) | rfl)) (@pw_or1 _ _ _ _ (@pt_cmpR _ _ _ _ _ _ _ _ (@op_eq _) (@pv _ 2 _ _ (by rfl) (by first | exact Or.inl rfl | exact Or.inr (Or.inl rfl) | exact Or.inr (Or.inr rfl)) (by decide) (by decide)) (@pe_int _ _ _ _) (@nomark _ _ (by decide) (by decide)))))) (@pss_one _ _ _ (@ps_ret _ _ _ _ (@pe_non _ _ _))) (@pss_nil _)) (@pss_one _ _ _ (@ps_ret _ _ _ _ (@pe_tup _ _ _ _ _ (@pa_cons _ _ _ _ _ (@pe_str _ _ _ _) (@pa_cons _ _ _ _ _ (@pv _ 2 _ _ (by rfl) (by first | exact Or.inl rfl | exact Or.inr (Or.inl rfl) | exact Or.inr (Or.inr rfl)) (by decide) (by decide)) (@pa_nil _) (by rfl)) (by rfl))))))) (@pss_nil _)) (@pss_cons _ _ _ _ _ (@ps_if _ _ _ _ _ _ _ _ (@PW.pt _ _ _ (@pw_and _ _ _ _ _ _ _ (@pt_cmpR _ _ _ _ _ _ _ _ (@op_in_seq _) (@pe_ix _ _ _ _ _ _ _ (@ix_list _) (@pv _ 1 _ _ (by rfl) (by first | exact Or.inl rfl | exact Or.inr (Or.inl rfl) | exact Or.inr (Or.inr rfl)) (by decide) (by decide)) (@pe_int _ _ _ _) (fun _ _ => rfl)) (@pe_tup _ _ _ _ _ (@pa_cons _ _ _ _ _ (@pe_str _ _ _ _) (@pa_cons _ _ _ _ _ (@pe_str _ _ _ _) (@pa_cons _ _ _ _ _ (@pe_str _ _ _ _) (@pa_cons _ _ _ _ _ (@pe_str _ _ _ _) (@pa_nil _) (by rfl)) (by rfl)) (by rfl)) (by rfl))) (by with_unfolding_all rfl)) (@pw_and _ _ _ _ _ _ _ (@pt_cmpR _ _ _ _ _ _ _ _ (@op_eq _) (@pe_callB _ _ _ _ _ _ _ _ _ (@c_len _) rfl BT.len L3.bt_len (@pa_cons _ _ _ _ _ (@pv _ 1 _ _ (by rfl) (by first | exact Or.inl rfl | exact Or.inr (Or.inl rfl) | exact Or.inr (Or.inr rfl)) (by decide) (by decide)) (@pa_nil _) (by rfl)) (by decide) (by decide) (by rfl) (by rfl)) (@pe_int _ _ _ _) (@nomark _ _ (by decide) (by decide))) (@pw_and1 _ _ _ _ (@pt_val _ _ _ (@pe_fn _ _ _ _ _ _ _ _ _ _ _ _ c__law_name (hr.mono (by first | decide | omega)) NE.pass (@pa_cons _ _ _ _ _ (@pe_ix _ _ _ _ _ _ _ (@ix_list _) (@pv _ 1 _ _ (by rfl) (by first | exact Or.inl rfl | exact Or.inr (Or.inl rfl) | exact Or.inr (Or.inr rfl)) (by decide) (by decide)) (@pe_int _ _ _ _) (fun _ _ => rfl)) (@pa_nil _) (by rfl)) (by rfl) (by decide) (by rfl) (by rfl)) (by intro _; rfl)))))) (@pss_one _ _ _ (@ps_ret _ _ _ _ (@pe_tup _ _ _ _ _ (@pa_cons _ _ _ _ _ (@pe_ix _ _ _ _ _ _ _ (@ix_list _) (@pv _ 1 _ _ (by rfl) (by first | exact Or.inl rfl | exact Or.inr (Or.inl rfl) | exact Or.inr (Or.inr rfl)) (by decide) (by decide)) (@pe_int _ _ _ _) (fun _ _ => rfl)) (@pa_cons _ _ _ _ _ (@pe_ix _ _ _ _ _ _ _ (@ix_list _) (@pv _ 1 _ _ (by rfl) (by first | exact Or.inl rfl | exact Or.inr (Or.inl rfl) | exact Or.inr (Or.inr rfl)) (by decide) (by decide)) (@pe_int _ _ _ _) (fun _ _ => rfl)) (@pa_nil _) (by rfl)) (by rfl))))) (@pss_nil _)) (@pss_cons _ _ _ _ _ (@ps_if _ _ _ _ _ _ _ _ (@PW.pt _ _ _ (@pw_or _ _ _ _ _ _ _ (@pt_cmpR _ _ _ _ _ _ _ _ (@op_ne _) (@pe_callB _ _ _ _ _ _ _ _ _ (@c_len _) rfl BT.len L3.bt_len (@pa_cons _ _ _ _ _ (@pv _ 1 _ _ (by rfl) (by first | exact Or.inl rfl | exact Or.inr (Or.inl rfl) | exact Or.inr (Or.inr rfl)) (by decide) (by decide)) (@pa_nil _) (by rfl)) (by decide) (by decide) (by rfl) (by rfl)) (@pe_int _ _ _ _) (@nomark _ _ (by decide) (by decide))) (@pw_or1 _ _ _ _ (@pt_not _ _ _ _ (@pt_val _ _ _ (@pe_fn _ _ _ _ _ _ _ _ _ _ _ _ c__law_name (hr.mono (by first | decide | omega)) NE.pass (@pa_cons _ _ _ _ _ (@pe_ix _ _ _ _ _ _ _ (@ix_list _) (@pv _ 1 _ _ (by rfl) (by first | exact Or.inl rfl | exact Or.inr (Or.inl rfl) | exact Or.inr (Or.inr rfl)) (by decide) (by decide)) (@pe_int _ _ _ _) (fun _ _ => rfl)) (@pa_nil _) (by rfl)) (by rfl) (by decide) (by rfl) (by rfl)) (by intro _; rfl)))))) (@pss_one _ _ _ (@ps_ret _ _ _ _ (@pe_non _ _ _))) (@pss_nil _)) (@pss_cons _ _ _ _ _ (@ps_if _ _ _ _ _ _ _ _ (@PW.pt _ _ _ (@pw_and _ _ _ _ _ _ _ (@pt_cmpR _ _ _ _ _ _ _ _ (@op_eq _) (@pe_ix _ _ _ _ _ _ _ (@ix_list _) (@pv _ 1 _ _ (by rfl) (by first | exact Or.inl rfl | exact Or.inr (Or.inl rfl) | exact Or.inr (Or.inr rfl)) (by decide) (by decide)) (@pe_int _ _ _ _) (fun _ _ => rfl)) (@pe_str _ _ _ _) (@nomark _ _ (by decide) (by decide))) (@pw_and1 _ _ _ _ (@pt_val _ _ _ (@pe_fn _ _ _ _ _ _ _ _ _ _ _ _ c__law_name (hr.mono (by first | decide | omega)) NE.pass (@pa_cons _ _ _ _ _ (@pe_ix _ _ _ _ _ _ _ (@ix_list _) (@pv _ 1 _ _ (by rfl) (by first | exact Or.inl rfl | exact Or.inr (Or.inl rfl) | exact Or.inr (Or.inr rfl)) (by decide) (by decide)) (@pe_int _ _ _ _) (fun _ _ => rfl)) (@pa_nil _) (by rfl)) (by rfl) (by decide) (by rfl) (by rfl)) (by intro _; rfl))))) (@pss_one _ _ _ (@ps_ret _ _ _ _ (@pe_tup _ _ _ _ _ (@pa_cons _ _ _ _ _ (@pe_ix _ _ _ _ _ _ _ (@ix_list _) (@pv _ 1 _ _ (by rfl) (by first | exact Or.inl rfl | exact Or.inr (Or.inl rfl) | exact Or.inr (Or.inr rfl)) (by decide) (by decide)) (@pe_int _ _ _ _) (fun _ _ => rfl)) (@pa_cons _ _ _ _ _ (@pe_ix _ _ _ _ _ _ _ (@ix_list _) (@pv _ 1 _ _ (by rfl) (by first | exact Or.inl rfl | exact Or.inr (Or.inl rfl) | exact Or.inr (Or.inr rfl)) (by decide) (by decide)) (@pe_int _ _ _ _) (fun _ _ => rfl)) (@pa_cons _ _ _ _ _ (@pe_ix _ _ _ _ _ _ _ (@ix_list _) (@pv _ 1 _ _ (by rfl) (by first | exact Or.inl rfl | exact Or.inr (Or.inl rfl) | exact Or.inr (Or.inr rfl)) (by decide) (by decide)) (@pe_int _ _ _ _) (fun _ _ => rfl)) (@pa_nil _) (by rfl)) (by rfl)) (by rfl))))) (@pss_nil _)) (@pss_cons _ _ _ _ _ (@ps_if _ _ _ _ _ _ _ _ (@pt_cmpR _ _ _ _ _ _ _ _ (@op_notIn_seq _) (@pe_ix _ _ _ _ _ _ _ (@ix_list _) (@pv _ 1 _ _ (by rfl) (by first | exact Or.inl rfl | exact Or.inr (Or.inl rfl) | exact Or.inr (Or.inr rfl)) (by decide) (by decide)) (@pe_int _ _ _ _) (fun _ _ => rfl)) (@pe_tup _ _ _ _ _ (@pa_cons _ _ _ _ _ (@pe_str _ _ _ _) (@pa_cons _ _ _ _ _ (@pe_str _ _ _ _) (@pa_nil _) (by rfl)) (by rfl))) (by with_unfolding_all rfl)) (@pss_one _ _ _ (@ps_ret _ _ _ _ (@pe_non _ _ _))) (@pss_nil _)) (@pss_cons _ _ _ _ _ (@ps_set _ _ 2 _ _ _ _ S.nd rfl (by first | exact Or.inl rfl | exact Or.inr rfl) (@pe_fn _ _ _ _ _ _ _ _ _ _ _ _ c__law_number (hr.mono (by first | decide | omega)) NE.pass (@pa_cons _ _ _ _ _ (@pe_ix _ _ _ _ _ _ _ (@ix_list _) (@pv _ 1 _ _ (by rfl) (by first | exact Or.inl rfl | exact Or.inr (Or.inl rfl) | exact Or.inr (Or.inr rfl)) (by decide) (by decide)) (@pe_int _ _ _ _) (fun _ _ => rfl)) (@pa_nil _) (by rfl)) (by rfl) (by decide) (by rfl) (by rfl)) (by rfl) (by first | exact .inl rfl | exact .inr rfl | assumption)) (@pss_cons _ _ _ _ _ (@ps_if _ _ _ _ _ _ _ _ (@PW.pt _ _ _ (@pw_or _ _ _ _ _ _ _ (@pt_cmp _ _ _ _ _ _ (@pc_isN _ _ _ _ _ (@pv _ 2 _ _ (by rfl) (by first | exact Or.inl rfl | exact Or.inr (Or.inl rfl) | exact Or.inr (Or.inr rfl)) (by decide) (by decide))) (by first | exact nobehind _ (by decide) (by decide) | rfl)) (@pw_or1 _ _ _ _ (@pt_cmpR _ _ _ _ _ _ _ _ (@op_gt _) (@pv _ 2 _ _ (by rfl) (by first | exact Or.inl rfl | exact Or.inr (Or.inl rfl) | exact Or.inr (Or.inr rfl)) (by decide) (by decide)) (@pe_op _ _ _ _ _ _ _ _ (@op_pow _) (@pe_int _ _ _ _) (@pe_int _ _ _ _)) (@nomark _ _ (by decide) (by decide)))))) (@pss_one _ _ _ (@ps_ret _ _ _ _ (@pe_non _ _ _))) (@pss_nil _)) (@pss_one _ _ _ (@ps_ret _ _ _ _ (@pe_tup _ _ _ _ _ (@pa_cons _ _ _ _ _ (@pe_ix _ _ _ _ _ _ _ (@ix_list _) (@pv _ 1 _ _ (by rfl) (by first | exact Or.inl rfl | exact Or.inr (Or.inl rfl) | exact Or.inr (Or.inr rfl)) (by decide) (by decide)) (@pe_int _ _ _ _) (fun _ _ => rfl)) (@pa_cons _ _ _ _ _ (@pe_ix _ _ _ _ _ _ _ (@ix_list _) (@pv _ 1 _ _ (by rfl) (by first | exact Or.inl rfl | exact Or.inr (Or.inl rfl) | exact Or.inr (Or.inr rfl)) (by decide) (by decide)) (@pe_int _ _ _ _) (fun _ _ => rfl)) (@pa_cons _ _ _ _ _ (@pv _ 2 _ _ (by rfl) (by first | exact Or.inl rfl | exact Or.inr (Or.inl rfl) | exact Or.inr (Or.inr rfl)) (by decide) (by decide)) (@pa_nil _) (by rfl)) (by rfl)) (by rfl))))))))))))), ?_⟩
 try dsimp only [cxOf]
 have L := Led.start H (fun _ => False)
 walk_at "go"
 refine g_split L (by decide) (by omega) fun b H1 nb L s1 => ?_
 rw [show Txt.split z (Str.ofString " ") = wdOf z from split_one z (c := 32) (by decide)] at L
 have hsh : ∀ x ∈ wdOf z, x.length ≤ 199 := fun x hx => Nat.le_trans (wd_short hx) hz
 have no : ∀ H', deedL (wdOf z) = none → Same H H' → Q .non H' := fun H' h sm => q _ _ (by rw [h]; rfl) sm
 have yes : ∀ (ts : List Th) (a : Addr) (H' : Hp), deedL (wdOf z) = some ts → H' a = some (.tup (ts.map thV)) → Same H H' → Q (.ref a) H' := fun ts a H' h ha sm => q _ _ (by rw [h]; exact ⟨a, rfl, ha⟩) sm
 obtain ⟨w0, ws, ew⟩ : ∃ w0 ws, wdOf z = w0 :: ws := by
  cases e : wdOf z with
  | nil =>
   unfold wdOf at e
   exact absurd (List.map_eq_nil_iff.mp e) (splitC_ne 32 _)
  | cons a r => exact ⟨a, r, rfl⟩
 rw [ew] at no yes hsh L
 have hwl := wd_len z
 rw [ew, List.length_cons] at hwl
 match ws, L, no, yes, hsh, hwl with
 | [], L, no, yes, hsh, _ =>
  have L : Led (fun _ => False) H H1 [(b, Eo (.lst [.str w0]))] [] := L
  try dsimp only [gName]
  have fin : ∀ H', Same H H' → Q .non H' := fun H' sm => no H' (deed_one w0) sm
  walk_at "go"
  refine g_ifD (fun c1 => ?_) (fun c1 => ?_)
  ·walk_at "go"
   refine g_inTu (ws := ["ask", "back", "fall", "rise"]) (L'.tup (by walk_at "mem")) ?_
   walk_at "go"
   refine g_ifD (fun c2 => ?_) (fun c2 => ?_)
   ·walk_at "go"
    exact fin _ L'.same
   ·walk_at "go"
    exact fin _ L'.same
  ·walk_at "go"
   refine g_inTu (ws := ["ask", "back", "fall", "rise"]) (L'.tup (by walk_at "mem")) ?_
   walk_at "go"
   refine g_ifD (fun c2 => ?_) (fun c2 => ?_)
   ·walk_at "go"
    exact fin _ L'.same
   ·walk_at "go"
    exact fin _ L'.same
 | [w1], L, no, yes, hsh, _ =>
  have L : Led (fun _ => False) H H1 [(b, Eo (.lst [.str w0, .str w1]))] [] := L
  have h1 := hsh w1 (by simp)
  try dsimp only [gName]
  walk_at "go"
  refine g_ifD (fun c1 => ?_) (fun c1 => ?_)
  ·subst c1
   have ec := deed_carry w1
   walk_at "go"
   refine ⟨w1, rfl, h1, fun H2 s2 => ?_⟩
   have LA := L.keep s2
   try dsimp only [gName]
   clear L
   walk_at "go"
   cases en : numO w1.cps.toList with
   | none =>
    rw [en] at ec
    refine g_ifDT rfl ?_
    walk_at "go"
    exact no _ ec LA.same
   | some n =>
    rw [en] at ec
    have ec : deedL [Str.ofString "carry", w1] = if 1 ≤ n then some [.str "carry", .int (n : Nat)] else none := ec
    refine g_ifDF (fun z => nomatch z) ?_
    walk_at "go"
    show rEq (V.int (n : Nat)) (V.int 0) _ _
    refine g_eqI ?_
    walk_at "go"
    refine g_ifD (fun c2 => ?_) (fun c2 => ?_)
    ·walk_at "go"
     exact no _ (by rw [ec, if_neg (by omega)]) LA.same
    ·walk_at "go"
     exact yes [.str "carry", .int (n : Nat)] _ _ (by rw [ec, if_pos (by omega)]) (L'.tup (by walk_at "mem")) L'.same
  ·walk_at "go"
   refine g_inTu (ws := ["ask", "back", "fall", "rise"]) (L'.tup (by walk_at "mem")) ?_
   walk_at "go"
   refine g_ifD (fun c2 => ?_) (fun c2 => ?_)
   ·have ef := deed_four c2 w1
    walk_at "go"
    refine ⟨w1, rfl, h1, fun H2 s2 => ?_⟩
    have LA := L'.keep s2
    clear L L'
    walk_at "go"
    cases hn : nameB w1.cps.toList with
    | true =>
     rw [hn, if_pos rfl] at ef
     walk_at "go"
     exact yes [.str w0, .str w1] _ _ ef (L'.tup (by walk_at "mem")) L'.same
    | false =>
     rw [hn, if_neg Bool.false_ne_true] at ef
     walk_at "go"
     exact no _ ef LA.same
   ·walk_at "go"
    exact no _ (deed_two_no c1 c2) L'.same
 | [w1, w2], L, no, yes, hsh, _ =>
  have L : Led (fun _ => False) H H1 [(b, Eo (.lst [.str w0, .str w1, .str w2]))] [] := L
  have h1 := hsh w1 (by simp)
  have h2 := hsh w2 (by simp)
  try dsimp only [gName]
  walk_at "one"
  refine seq_mid (fun σ' Hx => σ' = [some (.str z), some (.ref b), none] ∧ Led (fun _ => False) H Hx [(b, Eo (.lst [.str w0, .str w1, .str w2]))] []) (fun nx kk => ?_) ?_
  ·walk_at "go"
   refine g_ifD (fun c1 => ?_) (fun c1 => ?_)
   ·walk_at "go"
    exact kk _ _ ⟨rfl, L⟩
   ·walk_at "go"
    exact kk _ _ ⟨rfl, L⟩
  rintro σ' H2 ⟨rfl, LA⟩
  clear L
  refine seq_mid (fun σ' Hx => σ' = [some (.str z), some (.ref b), none] ∧ Led (fun _ => False) H Hx [(b, Eo (.lst [.str w0, .str w1, .str w2]))] []) (fun nx kk => ?_) ?_
  ·walk_at "go"
   refine g_inTu (ws := ["ask", "back", "fall", "rise"]) (L'.tup (by walk_at "mem")) ?_
   walk_at "go"
   refine g_ifD (fun c2 => ?_) (fun c2 => ?_)
   ·walk_at "go"
    exact kk _ _ ⟨rfl, L'.less _ (fun f hf => by simp at hf)⟩
   ·walk_at "go"
    exact kk _ _ ⟨rfl, L'.less _ (fun f hf => by simp at hf)⟩
  rintro σ' H3 ⟨rfl, LB⟩
  clear LA
  walk_at "go"
  refine ⟨w1, rfl, h1, fun H4 s4 => ?_⟩
  have LC := LB.keep s4
  clear LB
  walk_at "go"
  cases hn : nameB w1.cps.toList with
  | false =>
   walk_at "go"
   exact no _ (deed_name_no hn) LC.same
  | true =>
  walk_at "go"
  have wr : ∀ (LX : Led (fun _ => False) H H4 [(b, Eo (.lst [.str w0, .str w1, .str w2]))] []), True := fun _ => trivial
  refine g_ifD (fun c1 => ?_) (fun c1 => ?_)
  ·subst c1
   have en := deed_news (w1 := w1) (w2 := w2) hn
   walk_at "go"
   refine ⟨w2, rfl, h2, fun H5 s5 => ?_⟩
   have LD := LC.keep s5
   clear LC
   walk_at "go"
   cases hn2 : nameB w2.cps.toList with
   | true =>
    rw [hn2, if_pos rfl] at en
    walk_at "go"
    exact yes [.str "news", .str w1, .str w2] _ _ en (L'.tup (by walk_at "mem")) L'.same
   | false =>
    rw [hn2, if_neg Bool.false_ne_true] at en
    walk_at "go"
    refine g_notInTu (ws := ["write", "make"]) (L'.tup (by walk_at "mem")) ?_
    rw [decide_eq_false (show ¬ (Str.ofString "news") ∈ ([("write" : Str), "make"] : List Str) by decide +kernel)]
    walk_at "go"
    exact no _ en L'.same
  ·walk_at "go"
   refine g_notInTu (ws := ["write", "make"]) (L'.tup (by walk_at "mem")) ?_
   walk_at "go"
   refine g_ifN (fun c2 => ?_) (fun c2 => ?_)
   rotate_left
   ·walk_at "go"
    exact no _ (deed_three_no c1 c2) L'.same
   have ew := deed_write (w2 := w2) c2 hn
   walk_at "go"
   refine ⟨w2, rfl, h2, fun H5 s5 => ?_⟩
   have LD := L'.keep s5
   clear LC L'
   try dsimp only [gName]
   walk_at "go"
   cases en : numO w2.cps.toList with
   | none =>
    rw [en] at ew
    refine g_ifDT rfl ?_
    walk_at "go"
    exact no _ ew LD.same
   | some n =>
    rw [en] at ew
    have ew : deedL [w0, w1, w2] = if n ≤ 10 ^ 30 then some [.str w0, .str w1, .int (n : Nat)] else none := ew
    refine g_ifDF (fun z => nomatch z) ?_
    walk_at "go"
    refine ⟨((n : Nat) : Int), _, rfl, rfl, ?_⟩
    have tp : (10 : Int) ^ Int.toNat 30 = 10 ^ 30 := rfl
    rw [tp]
    have p30 : (10 : Nat) ^ 30 = 1000000000000000000000000000000 := by decide
    have p30' : (10 : Int) ^ 30 = 1000000000000000000000000000000 := by decide
    walk_at "go"
    refine g_ifD (fun c3 => ?_) (fun c3 => ?_)
    ·walk_at "go"
     exact no _ (by rw [ew, if_neg (by omega)]) LD.same
    ·walk_at "go"
     exact yes [.str w0, .str w1, .int (n : Nat)] _ _ (by rw [ew, if_pos (by omega)]) (L'.tup (by walk_at "mem")) L'.same
 | w1 :: w2 :: w3 :: r, L, no, yes, hsh, hwl =>
  have fin : ∀ H', Same H H' → Q .non H' := fun H' sm => no H' (deed_more (by simp)) sm
  have ix : ∀ {H' : Hp} {Q' : VK}, H' b = some (.lst ((w0 :: w1 :: w2 :: w3 :: r).map V.str)) → Q' (.str w0) H' → rIxL K (.ref b) (.int 0) H' Q' := fun h q => g_ixSq (SqL.of h) (atI_nat (j := 0) rfl) q
  try dsimp only [gName]
  walk_at "go"
  refine ix (L.eo .head) ?_
  walk_at "go"
  refine g_ifD (fun c1 => ?_) (fun c1 => ?_)
  ·walk_at "go"
   refine ix (L.eo .head) ?_
   walk_at "go"
   refine g_inTu (ws := ["ask", "back", "fall", "rise"]) (L'.tup (by walk_at "mem")) ?_
   walk_at "go"
   refine g_ifD (fun c2 => ?_) (fun c2 => ?_)
   ·walk_at "go"
    exact fin _ L'.same
   ·walk_at "go"
    exact fin _ L'.same
  ·walk_at "go"
   refine ix (L.eo .head) ?_
   walk_at "go"
   refine g_inTu (ws := ["ask", "back", "fall", "rise"]) (L'.tup (by walk_at "mem")) ?_
   walk_at "go"
   refine g_ifD (fun c2 => ?_) (fun c2 => ?_)
   ·walk_at "go"
    exact fin _ L'.same
   ·walk_at "go"
    exact fin _ L'.same
theorem sc_reads : FnScope ["_law_text", "_law_due_here", "_law_found"] ["_law_text", "_law_due_here"] (defScope (top 47)) := by walk_at "s"
def spReads : Sp := fun vs H Q _ => ∃ (z : Str) (dv : V), vs = [.str z, dv] ∧ z.length ≤ 199 ∧ DlV H dv (deedL (wdOf z)) ∧ ∀ H', Same H H' → Q (.bl true) H'
theorem pl_ats {H : Hp} : ∀ {ts : List Th}, (∀ t ∈ ts, (∃ i, t = .int i) ∨ ∃ z, t = .str z) → ∃ ds, Ats K H (ts.map thV) ds ∧ deps ds = 0
 | [], _ => ⟨[], .nil, rfl⟩
 | t :: ts, h => by
  obtain ⟨ds, a, b⟩ := pl_ats (ts := ts) fun u hu => h u (List.mem_cons_of_mem _ hu)
  rcases h t List.mem_cons_self with ⟨i, rfl⟩ | ⟨z, rfl⟩
  ·exact ⟨.int i :: ds, .cons (.int i) a, by rw [deps, b]; rfl⟩
  ·exact ⟨.str z :: ds, .cons (.str z) a, by rw [deps, b]; rfl⟩
theorem pl_ats2 {H : Hp} : ∀ {ts : List Th} {ds : List Dt} {H' : Hp}, (∀ t ∈ ts, (∃ i, t = .int i) ∨ ∃ z, t = .str z) → Ats K H (ts.map thV) ds → Ats K H' (ts.map thV) ds
 | [], _, _, _, .nil => .nil
 | t :: ts, _, H', h, .cons a r => by
  refine .cons ?_ (pl_ats2 (fun u hu => h u (List.mem_cons_of_mem _ hu)) r)
  rcases h t List.mem_cons_self with ⟨i, rfl⟩ | ⟨z, rfl⟩
  ·cases a; exact .int i
  ·cases a; exact .str z
theorem ok_reads (D : Dat K mg "_law_reads" "_law_reads" (top 47) ["_law_text", "_law_due_here"]) (BT : Bt mg) (NE : NoErr (CX1 P w)) (c__law_refused : Cal P w K mg base (CX1 P w) "_law_refused" 10 ["_law_thing"] spRef92) (c__law_whole : Cal P w K mg base (CX1 P w) "_law_whole" 1 ["_law_found"] spWholeI) (c_read_deed : Cal P w K mg base (CX1 P w) "read_deed" 7 ["text"] (spRDeed CB)) : Cal P w K mg base (CX1 P w) "_law_reads" 11 ["_law_text", "_law_due_here"] spReads := by
 have S := sc_reads
 walk_at "d"
 ·obtain ⟨z, dv, rfl, _⟩ := h
  rfl
 obtain ⟨z, dv, rfl, hz, hd, q⟩ := h
 refine ⟨_, (@pss_cons _ _ _ _ _ (@ps_if _ _ _ _ _ _ _ _ (@pt_cmp _ _ _ _ _ _ (@pc_isN _ _ _ _ _ (@pv _ 1 _ _ (by rfl) (by first | exact Or.inl rfl | exact Or.inr (Or.inl rfl) | exact Or.inr (Or.inr rfl)) (by decide) (by decide))) (by first | exact nobehind _ (by decide) (by decide) | rfl)) (@pss_one _ _ _ (@ps_ret _ _ _ _ (@pe_fn _ _ _ _ _ _ _ _ _ _ _ _ c__law_refused (hr.mono (by first | decide | omega)) NE.pass (@pa_cons _ _ _ _ _ (@pv _ 0 _ _ (by rfl) (by first | exact Or.inl rfl | exact Or.inr (Or.inl rfl) | exact Or.inr (Or.inr rfl)) (by decide) (by decide)) (@pa_nil _) (by rfl)) (by rfl) (by decide) (by rfl) (by rfl)))) (@pss_nil _)) (@pss_cons _ _ _ _ _ (@ps_set _ _ 2 _ _ _ _ S.nd rfl (by first | exact Or.inl rfl | exact Or.inr rfl) (@pe_fn _ _ _ _ _ _ _ _ _ _ _ _ c_read_deed (hr.mono (by first | decide | omega)) NE.pass (@pa_cons _ _ _ _ _ (@pv _ 0 _ _ (by rfl) (by first | exact Or.inl rfl | exact Or.inr (Or.inl rfl) | exact Or.inr (Or.inr rfl)) (by decide) (by decide)) (@pa_nil _) (by rfl)) (by rfl) (by decide) (by rfl) (by rfl)) (by rfl) (by first | exact .inl rfl | exact .inr rfl | assumption)) (@pss_cons _ _ _ _ _ (@ps_if _ _ _ _ _ _ _ _ (@PW.pt _ _ _ (@pw_or _ _ _ _ _ _ _ (@pt_not _ _ _ _ (@pt_val _ _ _ (@pe_isi _ _ _ _ _ _ _ _ BT.isinstance BT.tuple_ L3.bt_tuple (@pv _ 2 _ _ (by rfl) (by first | exact Or.inl rfl | exact Or.inr (Or.inl rfl) | exact Or.inr (Or.inr rfl)) (by decide) (by decide)) (by rfl) (by rfl) (by decide) (by decide) (by rfl) (by rfl) (by rfl)) (by intro _; rfl))) (@pw_or1 _ _ _ _ (@pt_cmpR _ _ _ _ _ _ _ _ (@op_neD _ (hr.mono (Nat.zero_le _))) (@pv _ 2 _ _ (by rfl) (by first | exact Or.inl rfl | exact Or.inr (Or.inl rfl) | exact Or.inr (Or.inr rfl)) (by decide) (by decide)) (@pv _ 1 _ _ (by rfl) (by first | exact Or.inl rfl | exact Or.inr (Or.inl rfl) | exact Or.inr (Or.inr rfl)) (by decide) (by decide)) (@nomark _ _ (by decide) (by decide)))))) (@pss_one _ _ _ (@ps_ret _ _ _ _ (@pe_bl _ _ _ _))) (@pss_nil _)) (@pss_one _ _ _ (@ps_ret _ _ _ _ (@pe_callB _ _ _ _ _ _ _ _ _ (@call_all _ rfl) rfl BT.all L3.bt_all (@pa_cons _ _ _ _ _ (@pe_comp _ _ _ _ _ _ _ _ _ _ (gName 0) _ _ rfl (@pi_tup _ _ _ _ (@pv _ 2 _ _ (by rfl) (by first | exact Or.inl rfl | exact Or.inr (Or.inl rfl) | exact Or.inr (Or.inr rfl)) (by decide) (by decide))) (@blk_of _ _ ["_law_thing"] [] (defScope (top 47)).names ["_law_text", "_law_due_here", "_law_found"] rfl rfl rfl (by decide +kernel)) (fun _ _ _ _ => (@pg_name _ _ 0 _ (show (blkN ["_law_text", "_law_due_here", "_law_found"] ["_law_thing"] []).Nodup by decide +kernel) rfl (by first | exact Or.inl rfl | exact Or.inr rfl) (by first | exact .inl rfl | exact .inr rfl | assumption))) (fun _ _ _ _ => (@pifs_nil _)) (fun _ _ _ _ => (@pe_or _ _ _ _ _ _ _ (pe_isiH (K := K) rfl BT.isinstance BT.str_ L3.bt_str (@pv _ 0 _ _ (by rfl) (by first | exact Or.inl rfl | exact Or.inr (Or.inl rfl) | exact Or.inr (Or.inr rfl)) (by decide) (by decide))) (@pe_one _ _ _ _ _ (@pe_fn _ _ _ _ _ _ _ _ _ _ _ _ c__law_whole (hr.mono (by first | decide | omega)) NE.pass (@pa_cons _ _ _ _ _ (@pv _ 0 _ _ (by rfl) (by first | exact Or.inl rfl | exact Or.inr (Or.inl rfl) | exact Or.inr (Or.inr rfl)) (by decide) (by decide)) (@pa_nil _) (by rfl)) (by rfl) (by decide) (by rfl) (by rfl))))) (by intro _; rfl)) (@pa_nil _) (by rfl)) (by decide) (by decide) (by rfl) (by rfl))))))), ?_⟩
 try dsimp only [cxOf]
 walk_at "go"
 cases ed : deedL (wdOf z) with
 | none =>
  rw [ed] at hd
  have e : dv = .non := hd
  subst e
  refine g_ifDT rfl ?_
  walk_at "go"
  exact ⟨_, rfl, .str z, (fun y e => by cases e; exact hz), ed, q⟩
 | some ts =>
  rw [ed] at hd
  obtain ⟨a, rfl, ha⟩ := hd
  have pl : ∀ t ∈ ts, (∃ i, t = .int i) ∨ ∃ z, t = .str z := by
   unfold deedL at ed
   cases er : rdAll (wdOf z) with
   | none => rw [er] at ed; cases ed
   | some us =>
    rw [er] at ed
    have ed : (if deedT (.tup us) = true then some us else none) = some ts := ed
    split at ed
    ·cases ed
     exact fun t ht => (rdAll_plain er t ht).elim .inl fun ⟨z, _, h⟩ => .inr ⟨z, h⟩
    ·cases ed
  have hlen : ts.length ≤ 300 := by
   unfold deedL at ed
   cases er : rdAll (wdOf z) with
   | none => rw [er] at ed; cases ed
   | some us =>
    rw [er] at ed
    have ed : (if deedT (.tup us) = true then some us else none) = some ts := ed
    split at ed
    ·cases ed
     rw [rdAll_len er]
     have := wd_len z
     omega
    ·cases ed
  obtain ⟨ds, ats, dps⟩ := pl_ats (K := K) (H := H) pl
  refine g_ifDF (fun z => nomatch z) ?_
  walk_at "go"
  refine ⟨_, rfl, .str z, (fun y e => by cases e; exact hz), (fun us e t H1 ht s1 => ?_), fun e => by rw [show deedV (.str z) = some ts from ed] at e; cases e⟩
  rw [show deedV (.str z) = some ts from ed] at e
  cases e
  try dsimp only [gName]
  walk_at "go"
  refine g_isiI (b := true) (T := "tuple") (.tup ht) rfl ?_
  walk_at "go"
  refine g_neDF (d := .tup ds) (.tup (SqT.of ht) (pl_ats2 pl ats)) (.tup (SqT.of (s1 _ _ ha)) (pl_ats2 pl ats)) (by rw [dep, dps]; decide) ?_
  walk_at "go"
  refine g_wkTv (SqT.of ht) ?_
  refine g_compT (ts.map thV) (fun i ys H' => ys = (List.replicate i true).map V.bl ∧ H' = H1 ∧ i ≤ ts.length) ⟨rfl, rfl, Nat.zero_le _⟩ (fun i ys H' hi ⟨e, e2, _⟩ => ⟨e2 ▸ SqT.of ht, by rw [e, List.length_map, List.length_replicate]; rw [List.length_map] at hi; exact Nat.le_of_lt (small1000 (by omega))⟩) ?_ ?_
  ·rintro i y ys H' hy ⟨rfl, rfl, hi⟩
   rw [List.getElem?_map] at hy
   cases e : ts[i]? with
   | none => rw [e] at hy; cases hy
   | some u =>
    rw [e] at hy
    cases hy
    have hi2 : i + 1 ≤ ts.length := (List.getElem?_eq_some_iff.mp e).1
    try dsimp only [gName]
    walk_at "go"
    rcases pl u (List.mem_of_getElem? e) with ⟨n, rfl⟩ | ⟨x, rfl⟩
    ·refine g_isiI (b := false) (T := "str") (.int n) rfl ?_
     walk_at "go"
     refine ⟨n, rfl, ?_⟩
     walk_at "go"
     exact ⟨by rw [List.replicate_succ', List.map_append]; rfl, rfl, hi2⟩
    ·refine g_isiI (b := true) (T := "str") (.str x) rfl ?_
     walk_at "go"
     exact ⟨by rw [List.replicate_succ', List.map_append]; rfl, rfl, hi2⟩
  rintro ys H2 ⟨rfl, rfl, _⟩ lc nlc
  walk_at "go"
  refine g_allB (SqL.of upd_same) ?_
  rw [show (List.replicate (ts.map thV).length true).all id = true by simp]
  exact q _ (s1.trans (same_upd0 nlc))
end
end Law

namespace Law
open PySem PySem.Spec PyProof.Rows L2 L3 L4
structure DeedOk (ts : List Th) : Prop where
 p : ∀ t ∈ ts, Prt t
 d : deedT (.tup ts) = true
 s : ((ts.map txtT).map (·.length)).sum ≤ 60
 l2 : 2 ≤ ts.length
 l3 : ts.length ≤ 3
theorem nm8 {z : Str} (h : nameB z.cps.toList = true) : z.length ≤ 8 := by rw [len_of]; exact (name_parts h).2.1
theorem deed_mk1 {w : Str} {t : Th} (hw : nameB w.cps.toList = true) (ht : Prt t) (hd : deedT (.tup [.str w, t]) = true) : DeedOk [.str w, t] := by
 refine ⟨fun u hu => ?_, hd, ?_, by simp, by simp⟩
 ·rcases List.mem_cons.mp hu with rfl | hu
  ·exact hw
  ·rw [List.mem_singleton.mp hu]; exact ht
 ·have := nm8 hw
  have := prt_len ht
  show w.length + ((txtT t).length + 0) ≤ 60
  omega
theorem deed_mk2 {w x : Str} {t : Th} (hw : nameB w.cps.toList = true) (hx : nameB x.cps.toList = true) (ht : Prt t) (hd : deedT (.tup [.str w, .str x, t]) = true) : DeedOk [.str w, .str x, t] := by
 refine ⟨fun u hu => ?_, hd, ?_, by simp, by simp⟩
 ·rcases List.mem_cons.mp hu with rfl | hu
  ·exact hw
  ·rcases List.mem_cons.mp hu with rfl | hu
   ·exact hx
   ·rw [List.mem_singleton.mp hu]; exact ht
 ·have := nm8 hw
  have := nm8 hx
  have := prt_len ht
  show w.length + (x.length + ((txtT t).length + 0)) ≤ 60
  omega
theorem ok_carry {n : Int} (h1 : 1 ≤ n) (h2 : n < 10 ^ 40) : DeedOk [.str "carry", .int n] := deed_mk1 carry_name.1 ⟨by omega, h2⟩ (by
 show (match formD "carry" with | none => false | some ks => kindsB [Th.int n] ks) = true
 rw [carry_name.2]
 show kindsB [Th.int n] [("number" : Str)] = true
 rw [kinds1, knumber]
 exact decide_eq_true h1)
theorem ok_four {w x : Str} (hw : w ∈ ([("ask" : Str), "back", "fall", "rise"] : List Str)) (hx : nameB x.cps.toList = true) : DeedOk [.str w, .str x] := deed_mk1 (four_name w hw).1 hx (by
 show (match formD w with | none => false | some ks => kindsB [Th.str x] ks) = true
 rw [(four_name w hw).2]
 show kindsB [Th.str x] [("name" : Str)] = true
 rw [kinds1, kname]
 exact hx)
theorem ok_news {x y : Str} (hx : nameB x.cps.toList = true) (hy : nameB y.cps.toList = true) : DeedOk [.str "news", .str x, .str y] := deed_mk2 news_name.1 hx hy (by
 show (match formD "news" with | none => false | some ks => kindsB [Th.str x, Th.str y] ks) = true
 rw [news_name.2]
 show kindsB [Th.str x, Th.str y] [("name" : Str), "name"] = true
 rw [kinds2, kname, kname]
 show (nameB x.cps.toList && nameB y.cps.toList) = true
 rw [hx, hy]; rfl)
theorem ok_write {w x : Str} {n : Int} (hw : w ∈ ([("write" : Str), "make"] : List Str)) (hx : nameB x.cps.toList = true) (h0 : 0 ≤ n) (h1 : n ≤ 10 ^ 30) : DeedOk [.str w, .str x, .int n] := deed_mk2 (two_name w hw).1 hx ⟨h0, by omega⟩ (by
 show (match formD w with | none => false | some ks => kindsB [Th.str x, Th.int n] ks) = true
 rw [(two_name w hw).2]
 show kindsB [Th.str x, Th.int n] [("name" : Str), "reading"] = true
 rw [kinds2, kname, kreading]
 show (nameB x.cps.toList && (decide (0 ≤ n) && decide (n ≤ 1000000000000000000000000000000))) = true
 rw [hx, decide_eq_true h0, decide_eq_true (by omega)]; rfl)
theorem atI_mem {xs : List V} {r : Int} (h0 : 0 ≤ r) (h1 : r < xs.length) : ∃ v, atI xs r = some v ∧ v ∈ xs := by
 obtain ⟨n, rfl⟩ := Int.eq_ofNat_of_zero_le h0
 have hn : n < xs.length := by omega
 exact ⟨xs[n], atI_nat (List.getElem?_eq_getElem hn), List.getElem_mem hn⟩
theorem strs_at {ws : List Str} {r : Int} (h0 : 0 ≤ r) (h1 : r < ws.length) : ∃ x, atI (ws.map V.str) r = some (.str x) ∧ x ∈ ws := by
 obtain ⟨v, hv, hm⟩ := atI_mem (xs := ws.map V.str) h0 (by rw [List.length_map]; exact h1)
 obtain ⟨x, hx, rfl⟩ := List.mem_map.mp hm
 exact ⟨x, hv, hx⟩
theorem many_at {r : Int} (h0 : 0 ≤ r) (h1 : r < 3) : ∃ m : Int, atI [V.int 5, V.int 1000, V.int (10 ^ Int.toNat 30 + 1)] r = some (.int m) ∧ 0 < m ∧ m ≤ 10 ^ 30 + 1 := by
 obtain rfl | rfl | rfl : r = 0 ∨ r = 1 ∨ r = 2 := by omega
 ·exact ⟨_, rfl, by decide, by decide⟩
 ·exact ⟨_, rfl, by decide, by decide⟩
 ·exact ⟨_, rfl, by decide, by decide⟩
theorem mul_at {r : Int} (h0 : 0 ≤ r) (h1 : r < 2) : ∃ m : Int, atI [V.int 1, V.int (10 ^ Int.toNat 9)] r = some (.int m) ∧ 0 < m ∧ m ≤ 10 ^ 9 := by
 obtain rfl | rfl : r = 0 ∨ r = 1 := by omega
 ·exact ⟨_, rfl, by decide, by decide⟩
 ·exact ⟨_, rfl, by decide, by decide⟩
section
variable {P : Program} {w : World} {K : PySem.W.Frag} {mg : Str → Option Value} {base : Heap} {CX : CXT}
theorem sc_ldeed : FnScope ["_law_cell", "_law_names_here", "_law_way", "_law_name_here", "_law_number_here"] ["_law_cell", "_law_names_here"] (defScope (top 41)) := by walk_at "s"
def spLDeed : Sp := fun vs H Q _ => ∃ (p : Addr) (b : Int) (nq : Addr) (ns : List Str), vs = [.ref p, .ref nq] ∧ HandAt H p b ∧ b ≤ 1000000 ∧ nq ≠ p ∧ H nq = some (.lst (ns.map V.str)) ∧ (∀ z ∈ ns, NmOk z) ∧ 1 ≤ ns.length ∧ ns.length ≤ 10 ∧ ∀ (a : Addr) (ts : List Th) (H' : Hp), H' a = some (.tup (ts.map thV)) → DeedOk ts → HandAt H' p (b + 5120) → Oth p H H' → Q (.ref a) H'
theorem ok_ldeed (D : Dat K mg "_law_deed" "_law_deed" (top 41) ["_law_cell", "_law_names_here"]) (BT : Bt mg) (NE : NoErr CX) (c__law_pick : Cal P w K mg base CX "_law_pick" 11 ["_law_hand_here", "_law_many"] spPick) : Cal P w K mg base CX "_law_deed" 12 ["_law_cell", "_law_names_here"] spLDeed := by
 have S := sc_ldeed
 walk_at "d"
 ·obtain ⟨p, b, nq, ns, rfl, _⟩ := h
  rfl
 obtain ⟨p, b, nq, ns, rfl, hh, hb, hne, hn, hnm, n1, n10, q⟩ := h
 refine ⟨_, (@pss_cons _ _ _ _ _ (@ps_set _ _ 2 _ _ _ _ S.nd rfl (by first | exact Or.inl rfl | exact Or.inr rfl) (@pe_fn _ _ _ _ _ _ _ _ _ _ _ _ c__law_pick (hr.mono (by first | decide | omega)) NE.pass (@pa_cons _ _ _ _ _ (@pv _ 0 _ _ (by rfl) (by first | exact Or.inl rfl | exact Or.inr (Or.inl rfl) | exact Or.inr (Or.inr rfl)) (by decide) (by decide)) (@pa_cons _ _ _ _ _ (@pe_int _ _ _ _) (@pa_nil _) (by rfl)) (by rfl)) (by rfl) (by decide) (by rfl) (by rfl)) (by rfl) (by first | exact .inl rfl | exact .inr rfl | assumption)) (@pss_cons _ _ _ _ _ (@ps_set _ _ 3 _ _ _ _ S.nd rfl (by first | exact Or.inl rfl | exact Or.inr rfl) (@pe_ix _ _ _ _ _ _ _ (@ix_list _) (@pv _ 1 _ _ (by rfl) (by first | exact Or.inl rfl | exact Or.inr (Or.inl rfl) | exact Or.inr (Or.inr rfl)) (by decide) (by decide)) (@pe_fn _ _ _ _ _ _ _ _ _ _ _ _ c__law_pick (hr.mono (by first | decide | omega)) NE.pass (@pa_cons _ _ _ _ _ (@pv _ 0 _ _ (by rfl) (by first | exact Or.inl rfl | exact Or.inr (Or.inl rfl) | exact Or.inr (Or.inr rfl)) (by decide) (by decide)) (@pa_cons _ _ _ _ _ (@pe_callB _ _ _ _ _ _ _ _ _ (@c_len _) rfl BT.len L3.bt_len (@pa_cons _ _ _ _ _ (@pv _ 1 _ _ (by rfl) (by first | exact Or.inl rfl | exact Or.inr (Or.inl rfl) | exact Or.inr (Or.inr rfl)) (by decide) (by decide)) (@pa_nil _) (by rfl)) (by decide) (by decide) (by rfl) (by rfl)) (@pa_nil _) (by rfl)) (by rfl)) (by rfl) (by decide) (by rfl) (by rfl)) (fun _ _ => rfl)) (by rfl) (by first | exact .inl rfl | exact .inr rfl | assumption)) (@pss_cons _ _ _ _ _ (@ps_set _ _ 4 _ _ _ _ S.nd rfl (by first | exact Or.inl rfl | exact Or.inr rfl) (@pe_fn _ _ _ _ _ _ _ _ _ _ _ _ c__law_pick (hr.mono (by first | decide | omega)) NE.pass (@pa_cons _ _ _ _ _ (@pv _ 0 _ _ (by rfl) (by first | exact Or.inl rfl | exact Or.inr (Or.inl rfl) | exact Or.inr (Or.inr rfl)) (by decide) (by decide)) (@pa_cons _ _ _ _ _ (@pe_ix _ _ _ _ _ _ _ (@ix_list _) (@pe_lst _ _ _ _ (@pa_cons _ _ _ _ _ (@pe_int _ _ _ _) (@pa_cons _ _ _ _ _ (@pe_int _ _ _ _) (@pa_cons _ _ _ _ _ (@pe_op _ _ _ _ _ _ _ _ (@op_add _) (@pe_op _ _ _ _ _ _ _ _ (@op_pow _) (@pe_int _ _ _ _) (@pe_int _ _ _ _)) (@pe_int _ _ _ _)) (@pa_nil _) (by rfl)) (by rfl)) (by rfl))) (@pe_fn _ _ _ _ _ _ _ _ _ _ _ _ c__law_pick (hr.mono (by first | decide | omega)) NE.pass (@pa_cons _ _ _ _ _ (@pv _ 0 _ _ (by rfl) (by first | exact Or.inl rfl | exact Or.inr (Or.inl rfl) | exact Or.inr (Or.inr rfl)) (by decide) (by decide)) (@pa_cons _ _ _ _ _ (@pe_int _ _ _ _) (@pa_nil _) (by rfl)) (by rfl)) (by rfl) (by decide) (by rfl) (by rfl)) (fun _ _ => rfl)) (@pa_nil _) (by rfl)) (by rfl)) (by rfl) (by decide) (by rfl) (by rfl)) (by rfl) (by first | exact .inl rfl | exact .inr rfl | assumption)) (@pss_cons _ _ _ _ _ (@ps_if _ _ _ _ _ _ _ _ (@pt_cmpR _ _ _ _ _ _ _ _ (@op_eq _) (@pv _ 2 _ _ (by rfl) (by first | exact Or.inl rfl | exact Or.inr (Or.inl rfl) | exact Or.inr (Or.inr rfl)) (by decide) (by decide)) (@pe_int _ _ _ _) (@nomark _ _ (by decide) (by decide))) (@pss_one _ _ _ (@ps_ret _ _ _ _ (@pe_tup _ _ _ _ _ (@pa_cons _ _ _ _ _ (@pe_str _ _ _ _) (@pa_cons _ _ _ _ _ (@pe_op _ _ _ _ _ _ _ _ (@op_add _) (@pe_int _ _ _ _) (@pe_op _ _ _ _ _ _ _ _ (@op_mulB _) (@pv _ 4 _ _ (by rfl) (by first | exact Or.inl rfl | exact Or.inr (Or.inl rfl) | exact Or.inr (Or.inr rfl)) (by decide) (by decide)) (@pe_ix _ _ _ _ _ _ _ (@ix_list _) (@pe_lst _ _ _ _ (@pa_cons _ _ _ _ _ (@pe_int _ _ _ _) (@pa_cons _ _ _ _ _ (@pe_op _ _ _ _ _ _ _ _ (@op_pow _) (@pe_int _ _ _ _) (@pe_int _ _ _ _)) (@pa_nil _) (by rfl)) (by rfl))) (@pe_fn _ _ _ _ _ _ _ _ _ _ _ _ c__law_pick (hr.mono (by first | decide | omega)) NE.pass (@pa_cons _ _ _ _ _ (@pv _ 0 _ _ (by rfl) (by first | exact Or.inl rfl | exact Or.inr (Or.inl rfl) | exact Or.inr (Or.inr rfl)) (by decide) (by decide)) (@pa_cons _ _ _ _ _ (@pe_int _ _ _ _) (@pa_nil _) (by rfl)) (by rfl)) (by rfl) (by decide) (by rfl) (by rfl)) (fun _ _ => rfl)))) (@pa_nil _) (by rfl)) (by rfl))))) (@pss_nil _)) (@pss_cons _ _ _ _ _ (@ps_if _ _ _ _ _ _ _ _ (@pt_cmpR _ _ _ _ _ _ _ _ (@op_lt _) (@pv _ 2 _ _ (by rfl) (by first | exact Or.inl rfl | exact Or.inr (Or.inl rfl) | exact Or.inr (Or.inr rfl)) (by decide) (by decide)) (@pe_int _ _ _ _) (@nomark _ _ (by decide) (by decide))) (@pss_one _ _ _ (@ps_ret _ _ _ _ (@pe_tup _ _ _ _ _ (@pa_cons _ _ _ _ _ (@pe_ix _ _ _ _ _ _ _ (@ix_list _) (@pe_lst _ _ _ _ (@pa_cons _ _ _ _ _ (@pe_str _ _ _ _) (@pa_cons _ _ _ _ _ (@pe_str _ _ _ _) (@pa_nil _) (by rfl)) (by rfl))) (@pe_op _ _ _ _ _ _ _ _ (@op_sub _) (@pv _ 2 _ _ (by rfl) (by first | exact Or.inl rfl | exact Or.inr (Or.inl rfl) | exact Or.inr (Or.inr rfl)) (by decide) (by decide)) (@pe_int _ _ _ _)) (fun _ _ => rfl)) (@pa_cons _ _ _ _ _ (@pv _ 3 _ _ (by rfl) (by first | exact Or.inl rfl | exact Or.inr (Or.inl rfl) | exact Or.inr (Or.inr rfl)) (by decide) (by decide)) (@pa_cons _ _ _ _ _ (@pv _ 4 _ _ (by rfl) (by first | exact Or.inl rfl | exact Or.inr (Or.inl rfl) | exact Or.inr (Or.inr rfl)) (by decide) (by decide)) (@pa_nil _) (by rfl)) (by rfl)) (by rfl))))) (@pss_nil _)) (@pss_cons _ _ _ _ _ (@ps_if _ _ _ _ _ _ _ _ (@pt_cmpR _ _ _ _ _ _ _ _ (@op_eq _) (@pv _ 2 _ _ (by rfl) (by first | exact Or.inl rfl | exact Or.inr (Or.inl rfl) | exact Or.inr (Or.inr rfl)) (by decide) (by decide)) (@pe_int _ _ _ _) (@nomark _ _ (by decide) (by decide))) (@pss_one _ _ _ (@ps_ret _ _ _ _ (@pe_tup _ _ _ _ _ (@pa_cons _ _ _ _ _ (@pe_str _ _ _ _) (@pa_cons _ _ _ _ _ (@pv _ 3 _ _ (by rfl) (by first | exact Or.inl rfl | exact Or.inr (Or.inl rfl) | exact Or.inr (Or.inr rfl)) (by decide) (by decide)) (@pa_cons _ _ _ _ _ (@pe_ix _ _ _ _ _ _ _ (@ix_list _) (@pv _ 1 _ _ (by rfl) (by first | exact Or.inl rfl | exact Or.inr (Or.inl rfl) | exact Or.inr (Or.inr rfl)) (by decide) (by decide)) (@pe_fn _ _ _ _ _ _ _ _ _ _ _ _ c__law_pick (hr.mono (by first | decide | omega)) NE.pass (@pa_cons _ _ _ _ _ (@pv _ 0 _ _ (by rfl) (by first | exact Or.inl rfl | exact Or.inr (Or.inl rfl) | exact Or.inr (Or.inr rfl)) (by decide) (by decide)) (@pa_cons _ _ _ _ _ (@pe_callB _ _ _ _ _ _ _ _ _ (@c_len _) rfl BT.len L3.bt_len (@pa_cons _ _ _ _ _ (@pv _ 1 _ _ (by rfl) (by first | exact Or.inl rfl | exact Or.inr (Or.inl rfl) | exact Or.inr (Or.inr rfl)) (by decide) (by decide)) (@pa_nil _) (by rfl)) (by decide) (by decide) (by rfl) (by rfl)) (@pa_nil _) (by rfl)) (by rfl)) (by rfl) (by decide) (by rfl) (by rfl)) (fun _ _ => rfl)) (@pa_nil _) (by rfl)) (by rfl)) (by rfl))))) (@pss_nil _)) (@pss_one _ _ _ (@ps_ret _ _ _ _ (@pe_tup _ _ _ _ _ (@pa_cons _ _ _ _ _ (@pe_ix _ _ _ _ _ _ _ (@ix_list _) (@pe_lst _ _ _ _ (@pa_cons _ _ _ _ _ (@pe_str _ _ _ _) (@pa_cons _ _ _ _ _ (@pe_str _ _ _ _) (@pa_cons _ _ _ _ _ (@pe_str _ _ _ _) (@pa_cons _ _ _ _ _ (@pe_str _ _ _ _) (@pa_nil _) (by rfl)) (by rfl)) (by rfl)) (by rfl))) (@pe_op _ _ _ _ _ _ _ _ (@op_sub _) (@pv _ 2 _ _ (by rfl) (by first | exact Or.inl rfl | exact Or.inr (Or.inl rfl) | exact Or.inr (Or.inr rfl)) (by decide) (by decide)) (@pe_int _ _ _ _)) (fun _ _ => rfl)) (@pa_cons _ _ _ _ _ (@pv _ 3 _ _ (by rfl) (by first | exact Or.inl rfl | exact Or.inr (Or.inl rfl) | exact Or.inr (Or.inr rfl)) (by decide) (by decide)) (@pa_nil _) (by rfl)) (by rfl))))))))))), ?_⟩
 try dsimp only [cxOf]
 have L := led_hand hh
 walk_at "go"
 refine use_pick L .head (by decide) (by decide) (by omega) fun r1 H1 a0 a1 L _ => ?_
 have hn1 := L.fr _ _ hn hne
 walk_at "go"
 refine g_lenSq (SqL.of hn1) ?_
 rw [List.length_map]
 walk_at "go"
 refine use_pick L .head (by omega) (by omega) (by omega) fun r2 H2 b0 b1 L _ => ?_
 have hn2 := L.fr _ _ hn hne
 obtain ⟨nm, hnm1, hnm2⟩ := strs_at (ws := ns) b0 b1
 refine g_ixSq (SqL.of hn2) hnm1 ?_
 have hname : nameB nm.cps.toList = true := hnm nm hnm2
 try dsimp only [gName]
 walk_at "go"
 refine use_pick L' (by walk_at "put") (by decide) (by decide) (by omega) fun r3 H3 c0 c1 L _ => ?_
 obtain ⟨m, hm, m0, m1⟩ := many_at c0 c1
 refine g_ixSq (SqL.of (L.eo (by walk_at "put"))) hm ?_
 walk_at "go"
 refine use_pick L (by walk_at "put") m0 (by omega) (by omega) fun n H4 e0 e1 L _ => ?_
 have hn4 := L.fr _ _ hn hne
 have o4 : Oth p H H4 := L.fr
 have h4 := HandO.at (L.at_ (p, HandO _) (by walk_at "mem"))
 have hn30 : n ≤ 10 ^ 30 := by omega
 clear L L'
 have L := led_hand h4
 have fin : ∀ (a : Addr) (ts : List Th) (H' : Hp) (b' : Int), H' a = some (.tup (ts.map thV)) → DeedOk ts → HandAt H' p b' → b' ≤ b + 5120 → Oth p H4 H' → Q (.ref a) H' := fun a ts H' b' ha hd hh' hb' o' => q a ts H' ha hd (hh'.mono hb') (o4.trans o')
 try dsimp only [gName]
 walk_at "go"
 refine g_ifD (fun c => ?_) (fun c => ?_)
 ·walk_at "go"
  refine use_pick L' (by walk_at "put") (by decide) (by decide) (by omega) fun r5 H5 d0 d1 L _ => ?_
  obtain ⟨k, hk, k0, k1⟩ := mul_at d0 d1
  refine g_ixSq (SqL.of (L.eo (by walk_at "put"))) hk ?_
  walk_at "go"
  have g1 : n * k ≤ 10 ^ 30 * 10 ^ 9 := Int.mul_le_mul hn30 k1 (by omega) (by decide)
  have g0 : 0 ≤ n * k := Int.mul_nonneg e0 (by omega)
  have g2 : (10 : Int) ^ 30 * 10 ^ 9 < 10 ^ 40 - 1 := by decide
  exact fin _ [.str "carry", .int (1 + n * k)] _ _ (L'.tup (by walk_at "mem")) (ok_carry (by omega) (by omega)) (HandO.at (L'.at_ (p, HandO _) (by walk_at "mem"))) (by omega) L'.fr
 walk_at "go"
 refine g_ifD (fun c2 => ?_) (fun c2 => ?_)
 ·obtain rfl | rfl : r1 = 1 ∨ r1 = 2 := by omega
  ·walk_at "go"
   exact fin _ [.str "write", .str nm, .int n] _ _ (L'.tup (by walk_at "mem")) (ok_write (by simp) hname e0 hn30) (HandO.at (L'.at_ (p, HandO _) (by walk_at "mem"))) (by omega) L'.fr
  ·walk_at "go"
   exact fin _ [.str "make", .str nm, .int n] _ _ (L'.tup (by walk_at "mem")) (ok_write (by simp) hname e0 hn30) (HandO.at (L'.at_ (p, HandO _) (by walk_at "mem"))) (by omega) L'.fr
 walk_at "go"
 refine g_ifD (fun c3 => ?_) (fun c3 => ?_)
 ·walk_at "go"
  refine g_lenSq (SqL.of hn4) ?_
  rw [List.length_map]
  walk_at "go"
  refine use_pick L .head (by omega) (by omega) (by omega) fun r5 H5 d0 d1 L _ => ?_
  have hn5 := L.fr _ _ hn4 hne
  obtain ⟨nx, hx1, hx2⟩ := strs_at (ws := ns) d0 d1
  refine g_ixSq (SqL.of hn5) hx1 ?_
  walk_at "go"
  exact fin _ [.str "news", .str nm, .str nx] _ _ (L'.tup (by walk_at "mem")) (ok_news hname (hnm nx hx2)) (HandO.at (L'.at_ (p, HandO _) (by walk_at "mem"))) (by omega) L'.fr
 obtain rfl | rfl | rfl | rfl : r1 = 4 ∨ r1 = 5 ∨ r1 = 6 ∨ r1 = 7 := by omega
 ·walk_at "go"
  exact fin _ [.str "ask", .str nm] _ _ (L'.tup (by walk_at "mem")) (ok_four (by simp) hname) (HandO.at (L'.at_ (p, HandO _) (by walk_at "mem"))) (by omega) L'.fr
 ·walk_at "go"
  exact fin _ [.str "back", .str nm] _ _ (L'.tup (by walk_at "mem")) (ok_four (by simp) hname) (HandO.at (L'.at_ (p, HandO _) (by walk_at "mem"))) (by omega) L'.fr
 ·walk_at "go"
  exact fin _ [.str "fall", .str nm] _ _ (L'.tup (by walk_at "mem")) (ok_four (by simp) hname) (HandO.at (L'.at_ (p, HandO _) (by walk_at "mem"))) (by omega) L'.fr
 ·walk_at "go"
  exact fin _ [.str "rise", .str nm] _ _ (L'.tup (by walk_at "mem")) (ok_four (by simp) hname) (HandO.at (L'.at_ (p, HandO _) (by walk_at "mem"))) (by omega) L'.fr
end
end Law

namespace Law
open PySem PySem.Spec PyProof.Rows L2 L3 L4
def lsum (ws : List Str) : Nat := (ws.map (·.length)).sum
theorem lsum_app (a b : List Str) : lsum (a ++ b) = lsum a + lsum b := by unfold lsum; rw [List.map_append, List.sum_append]
theorem lsum_take (n : Nat) (ws : List Str) : lsum (ws.take n) ≤ lsum ws := by
 have h := lsum_app (ws.take n) (ws.drop n)
 rw [List.take_append_drop] at h
 omega
theorem lsum_drop (n : Nat) (ws : List Str) : lsum (ws.drop n) ≤ lsum ws := by
 have h := lsum_app (ws.take n) (ws.drop n)
 rw [List.take_append_drop] at h
 omega
theorem cut_part (ws : List Str) (lo hi : Option Int) : ∃ zs : List Str, cutV (ws.map V.str) lo hi = zs.map V.str ∧ zs.length ≤ ws.length ∧ lsum zs ≤ lsum ws := by
 unfold cutV
 refine ⟨(ws.drop _).take _, by rw [List.map_take, List.map_drop], ?_, Nat.le_trans (lsum_take _ _) (lsum_drop _ _)⟩
 rw [List.length_take, List.length_drop]
 omega
theorem join_len (ws : List Str) : (Txt.join " " ws).length ≤ lsum ws + ws.length := by
 have h := StrLaws.join_length_le " " ws
 unfold Txt.join
 rw [StrLaws.glued_eq_join]
 rw [show (Str.ofString " ").length = 1 by decide +kernel] at h
 unfold lsum
 omega
theorem g_catE {p r : Addr} {xs ys : List V} {H : Hp} {Q : VK} (h1 : H p = some (.lst xs)) (h2 : H r = some (.lst ys)) (hz : xs.length + ys.length ≤ sizeLine) (h : ∀ b H', H b = none → H' b = some (.lst (xs ++ ys)) → Same H H' → Q (.ref b) H') : rCat (.ref p) (.ref r) H Q :=
 ⟨p, r, xs, ys, rfl, rfl, h1, h2, hz, fun b nb => h b _ nb upd_same (same_upd0 nb)⟩
theorem g_slE {K : PySem.W.Frag} {p : Addr} {ws : List Str} {lo hi : Option Int} {H : Hp} {Q : VK} (s : H p = some (.lst (ws.map V.str))) (h : ∀ b zs H', H b = none → zs.length ≤ ws.length → lsum zs ≤ lsum ws → H' b = some (.lst (zs.map V.str)) → Same H H' → Q (.ref b) H') : rSlL K (.ref p) lo hi H Q := by
 obtain ⟨zs, e, h1, h2⟩ := cut_part ws lo hi
 exact ⟨p, _, rfl, SqL.of s, fun b nb => by rw [e]; exact h b zs _ nb h1 h2 upd_same (same_upd0 nb)⟩
theorem g_newE {xs : List V} {H : Hp} {Q : VK} (hz : xs.length ≤ sizeLine) (h : ∀ p H', H p = none → H' p = some (.lst xs) → Same H H' → Q (.ref p) H') : NewL xs H Q := ⟨hz, fun p np => h p _ np upd_same (same_upd0 np)⟩
theorem g_catS {p r : Addr} {xs ys : List Str} {H : Hp} {Q : VK} (h1 : H p = some (.lst (xs.map V.str))) (h2 : H r = some (.lst (ys.map V.str))) (hz : xs.length + ys.length ≤ 900) (h : ∀ b H', H b = none → H' b = some (.lst ((xs ++ ys).map V.str)) → Same H H' → Q (.ref b) H') : rCat (.ref p) (.ref r) H Q :=
 g_catE h1 h2 (by rw [List.length_map, List.length_map]; exact Nat.le_of_lt (small1000 (by omega))) fun b H' nb hb s => h b H' nb (by rw [List.map_append]; exact hb) s
theorem g_joinB {K : PySem.W.Frag} {p : Addr} {ys : List Str} {H : Hp} {Q : VK} (h1 : H p = some (.lst (ys.map V.str))) (hl : ys.length ≤ 20) (hs : lsum ys ≤ 190) (h : (Txt.join " " ys).length ≤ lsum ys + ys.length → Q (.str (Txt.join " " ys)) H) : rJoin K (.str (Str.ofString " ")) [.ref p] H Q :=
 g_join (SqL.of h1) (by rw [show (Str.ofString " ").length = 1 by decide +kernel]; unfold lsum at hs; omega) (h (join_len ys))
section
variable {P : Program} {w : World} {K : PySem.W.Frag} {mg : Str → Option Value} {base : Heap} {CX : CXT}
theorem sc_lspoilt : FnScope ["_law_words", "_law_cell", "_law_way", "_law_at", "_law_odd"] ["_law_words", "_law_cell"] (defScope (top 42)) := by walk_at "s"
def spLSpo : Sp := fun vs H Q _ => ∃ (lw : Addr) (ws : List Str) (p : Addr) (b : Int), vs = [.ref lw, .ref p] ∧ H lw = some (.lst (ws.map V.str)) ∧ lw ≠ p ∧ 2 ≤ ws.length ∧ ws.length ≤ 3 ∧ lsum ws ≤ 60 ∧ HandAt H p b ∧ b ≤ 10000000 ∧ ∀ (x : Str) (H' : Hp), x.length ≤ 199 → HandAt H' p (b + 4096) → Oth p H H' → Q (.str x) H'
theorem len_lsum {ws : List Str} {x : Str} (h : x ∈ ws) : x.length ≤ lsum ws := by
 induction ws with
 | nil => cases h
 | cons y ws ih =>
  have e : lsum (y :: ws) = y.length + lsum ws := by unfold lsum; rw [List.map_cons, List.sum_cons]
  rcases List.mem_cons.mp h with rfl | h
  ·omega
  ·have := ih h
   omega
theorem ok_lspo (D : Dat K mg "_law_spoilt" "_law_spoilt" (top 42) ["_law_words", "_law_cell"]) (BT : Bt mg) (NE : NoErr CX) (c__law_pick : Cal P w K mg base CX "_law_pick" 11 ["_law_hand_here", "_law_many"] spPick) : Cal P w K mg base CX "_law_spoilt" 12 ["_law_words", "_law_cell"] spLSpo := by
 have S := sc_lspoilt
 walk_at "d"
 ·obtain ⟨lw, ws, p, b, rfl, _⟩ := h
  rfl
 obtain ⟨lw, ws, p, b, rfl, hl, hne, n2, n3, hs, hh, hb, q⟩ := h
 refine ⟨_, (@pss_cons _ _ _ _ _ (@ps_set _ _ 2 _ _ _ _ S.nd rfl (by first | exact Or.inl rfl | exact Or.inr rfl) (@pe_fn _ _ _ _ _ _ _ _ _ _ _ _ c__law_pick (hr.mono (by first | decide | omega)) NE.pass (@pa_cons _ _ _ _ _ (@pv _ 1 _ _ (by rfl) (by first | exact Or.inl rfl | exact Or.inr (Or.inl rfl) | exact Or.inr (Or.inr rfl)) (by decide) (by decide)) (@pa_cons _ _ _ _ _ (@pe_int _ _ _ _) (@pa_nil _) (by rfl)) (by rfl)) (by rfl) (by decide) (by rfl) (by rfl)) (by rfl) (by first | exact .inl rfl | exact .inr rfl | assumption)) (@pss_cons _ _ _ _ _ (@ps_set _ _ 3 _ _ _ _ S.nd rfl (by first | exact Or.inl rfl | exact Or.inr rfl) (@pe_fn _ _ _ _ _ _ _ _ _ _ _ _ c__law_pick (hr.mono (by first | decide | omega)) NE.pass (@pa_cons _ _ _ _ _ (@pv _ 1 _ _ (by rfl) (by first | exact Or.inl rfl | exact Or.inr (Or.inl rfl) | exact Or.inr (Or.inr rfl)) (by decide) (by decide)) (@pa_cons _ _ _ _ _ (@pe_callB _ _ _ _ _ _ _ _ _ (@c_len _) rfl BT.len L3.bt_len (@pa_cons _ _ _ _ _ (@pv _ 0 _ _ (by rfl) (by first | exact Or.inl rfl | exact Or.inr (Or.inl rfl) | exact Or.inr (Or.inr rfl)) (by decide) (by decide)) (@pa_nil _) (by rfl)) (by decide) (by decide) (by rfl) (by rfl)) (@pa_nil _) (by rfl)) (by rfl)) (by rfl) (by decide) (by rfl) (by rfl)) (by rfl) (by first | exact .inl rfl | exact .inr rfl | assumption)) (@pss_cons _ _ _ _ _ (@ps_set _ _ 4 _ _ _ _ S.nd rfl (by first | exact Or.inl rfl | exact Or.inr rfl) (@pe_ix _ _ _ _ _ _ _ (@ix_list _) (@pe_lst _ _ _ _ (@pa_cons _ _ _ _ _ (@pe_str _ _ _ _) (@pa_cons _ _ _ _ _ (@pe_str _ _ _ _) (@pa_cons _ _ _ _ _ (@pe_str _ _ _ _) (@pa_cons _ _ _ _ _ (@pe_str _ _ _ _) (@pa_cons _ _ _ _ _ (@pe_str _ _ _ _) (@pa_cons _ _ _ _ _ (@pe_str _ _ _ _) (@pa_cons _ _ _ _ _ (@pe_str _ _ _ _) (@pa_cons _ _ _ _ _ (@pe_op _ _ _ _ _ _ _ _ (@o_addS _) (@pe_str _ _ _ _) (@pe_ix _ _ _ _ _ _ _ (@ix_list _) (@pv _ 0 _ _ (by rfl) (by first | exact Or.inl rfl | exact Or.inr (Or.inl rfl) | exact Or.inr (Or.inr rfl)) (by decide) (by decide)) (@pv _ 3 _ _ (by rfl) (by first | exact Or.inl rfl | exact Or.inr (Or.inl rfl) | exact Or.inr (Or.inr rfl)) (by decide) (by decide)) (fun _ _ => rfl))) (@pa_nil _) (by rfl)) (by rfl)) (by rfl)) (by rfl)) (by rfl)) (by rfl)) (by rfl)) (by rfl))) (@pe_fn _ _ _ _ _ _ _ _ _ _ _ _ c__law_pick (hr.mono (by first | decide | omega)) NE.pass (@pa_cons _ _ _ _ _ (@pv _ 1 _ _ (by rfl) (by first | exact Or.inl rfl | exact Or.inr (Or.inl rfl) | exact Or.inr (Or.inr rfl)) (by decide) (by decide)) (@pa_cons _ _ _ _ _ (@pe_int _ _ _ _) (@pa_nil _) (by rfl)) (by rfl)) (by rfl) (by decide) (by rfl) (by rfl)) (fun _ _ => rfl)) (by rfl) (by first | exact .inl rfl | exact .inr rfl | assumption)) (@pss_cons _ _ _ _ _ (@ps_if _ _ _ _ _ _ _ _ (@pt_cmpR _ _ _ _ _ _ _ _ (@op_lt _) (@pv _ 2 _ _ (by rfl) (by first | exact Or.inl rfl | exact Or.inr (Or.inl rfl) | exact Or.inr (Or.inr rfl)) (by decide) (by decide)) (@pe_int _ _ _ _) (@nomark _ _ (by decide) (by decide))) (@pss_one _ _ _ (@ps_ret _ _ _ _ (@pe_bm _ _ _ _ _ _ _ _ _ _ _ _ PySem.F.plainAttrs_str PySem.F.slot_str_join PySem.F.type_str_join (@m_join _) (@pe_str _ _ _ _) (@pa_cons _ _ _ _ _ (@pe_op _ _ _ _ _ _ _ _ (@op_cat _) (@pe_op _ _ _ _ _ _ _ _ (@op_cat _) (@pe_slice _ _ _ _ _ _ _ _ _ _ (@sl_list _) (@pv _ 0 _ _ (by rfl) (by first | exact Or.inl rfl | exact Or.inr (Or.inl rfl) | exact Or.inr (Or.inr rfl)) (by decide) (by decide)) (@po_none _) (@po_some _ _ _ (@pv _ 3 _ _ (by rfl) (by first | exact Or.inl rfl | exact Or.inr (Or.inl rfl) | exact Or.inr (Or.inr rfl)) (by decide) (by decide)))) (@pe_lst _ _ _ _ (@pa_cons _ _ _ _ _ (@pv _ 4 _ _ (by rfl) (by first | exact Or.inl rfl | exact Or.inr (Or.inl rfl) | exact Or.inr (Or.inr rfl)) (by decide) (by decide)) (@pa_nil _) (by rfl)))) (@pe_slice _ _ _ _ _ _ _ _ _ _ (@sl_list _) (@pv _ 0 _ _ (by rfl) (by first | exact Or.inl rfl | exact Or.inr (Or.inl rfl) | exact Or.inr (Or.inr rfl)) (by decide) (by decide)) (@po_some _ _ _ (@pe_op _ _ _ _ _ _ _ _ (@op_add _) (@pv _ 3 _ _ (by rfl) (by first | exact Or.inl rfl | exact Or.inr (Or.inl rfl) | exact Or.inr (Or.inr rfl)) (by decide) (by decide)) (@pe_int _ _ _ _))) (@po_none _))) (@pa_nil _) (by rfl)) (by rfl) (by rfl) (by rfl) (by rfl) (by rfl)))) (@pss_nil _)) (@pss_cons _ _ _ _ _ (@ps_if _ _ _ _ _ _ _ _ (@pt_cmpR _ _ _ _ _ _ _ _ (@op_eq _) (@pv _ 2 _ _ (by rfl) (by first | exact Or.inl rfl | exact Or.inr (Or.inl rfl) | exact Or.inr (Or.inr rfl)) (by decide) (by decide)) (@pe_int _ _ _ _) (@nomark _ _ (by decide) (by decide))) (@pss_one _ _ _ (@ps_ret _ _ _ _ (@pe_bm _ _ _ _ _ _ _ _ _ _ _ _ PySem.F.plainAttrs_str PySem.F.slot_str_join PySem.F.type_str_join (@m_join _) (@pe_str _ _ _ _) (@pa_cons _ _ _ _ _ (@pe_op _ _ _ _ _ _ _ _ (@op_cat _) (@pe_slice _ _ _ _ _ _ _ _ _ _ (@sl_list _) (@pv _ 0 _ _ (by rfl) (by first | exact Or.inl rfl | exact Or.inr (Or.inl rfl) | exact Or.inr (Or.inr rfl)) (by decide) (by decide)) (@po_none _) (@po_some _ _ _ (@pv _ 3 _ _ (by rfl) (by first | exact Or.inl rfl | exact Or.inr (Or.inl rfl) | exact Or.inr (Or.inr rfl)) (by decide) (by decide)))) (@pe_slice _ _ _ _ _ _ _ _ _ _ (@sl_list _) (@pv _ 0 _ _ (by rfl) (by first | exact Or.inl rfl | exact Or.inr (Or.inl rfl) | exact Or.inr (Or.inr rfl)) (by decide) (by decide)) (@po_some _ _ _ (@pe_op _ _ _ _ _ _ _ _ (@op_add _) (@pv _ 3 _ _ (by rfl) (by first | exact Or.inl rfl | exact Or.inr (Or.inl rfl) | exact Or.inr (Or.inr rfl)) (by decide) (by decide)) (@pe_int _ _ _ _))) (@po_none _))) (@pa_nil _) (by rfl)) (by rfl) (by rfl) (by rfl) (by rfl) (by rfl)))) (@pss_nil _)) (@pss_cons _ _ _ _ _ (@ps_if _ _ _ _ _ _ _ _ (@pt_cmpR _ _ _ _ _ _ _ _ (@op_eq _) (@pv _ 2 _ _ (by rfl) (by first | exact Or.inl rfl | exact Or.inr (Or.inl rfl) | exact Or.inr (Or.inr rfl)) (by decide) (by decide)) (@pe_int _ _ _ _) (@nomark _ _ (by decide) (by decide))) (@pss_one _ _ _ (@ps_ret _ _ _ _ (@pe_bm _ _ _ _ _ _ _ _ _ _ _ _ PySem.F.plainAttrs_str PySem.F.slot_str_join PySem.F.type_str_join (@m_join _) (@pe_str _ _ _ _) (@pa_cons _ _ _ _ _ (@pe_op _ _ _ _ _ _ _ _ (@op_cat _) (@pe_op _ _ _ _ _ _ _ _ (@op_cat _) (@pe_slice _ _ _ _ _ _ _ _ _ _ (@sl_list _) (@pv _ 0 _ _ (by rfl) (by first | exact Or.inl rfl | exact Or.inr (Or.inl rfl) | exact Or.inr (Or.inr rfl)) (by decide) (by decide)) (@po_none _) (@po_some _ _ _ (@pv _ 3 _ _ (by rfl) (by first | exact Or.inl rfl | exact Or.inr (Or.inl rfl) | exact Or.inr (Or.inr rfl)) (by decide) (by decide)))) (@pe_lst _ _ _ _ (@pa_cons _ _ _ _ _ (@pv _ 4 _ _ (by rfl) (by first | exact Or.inl rfl | exact Or.inr (Or.inl rfl) | exact Or.inr (Or.inr rfl)) (by decide) (by decide)) (@pa_nil _) (by rfl)))) (@pe_slice _ _ _ _ _ _ _ _ _ _ (@sl_list _) (@pv _ 0 _ _ (by rfl) (by first | exact Or.inl rfl | exact Or.inr (Or.inl rfl) | exact Or.inr (Or.inr rfl)) (by decide) (by decide)) (@po_some _ _ _ (@pv _ 3 _ _ (by rfl) (by first | exact Or.inl rfl | exact Or.inr (Or.inl rfl) | exact Or.inr (Or.inr rfl)) (by decide) (by decide))) (@po_none _))) (@pa_nil _) (by rfl)) (by rfl) (by rfl) (by rfl) (by rfl) (by rfl)))) (@pss_nil _)) (@pss_cons _ _ _ _ _ (@ps_if _ _ _ _ _ _ _ _ (@pt_cmpR _ _ _ _ _ _ _ _ (@op_eq _) (@pv _ 2 _ _ (by rfl) (by first | exact Or.inl rfl | exact Or.inr (Or.inl rfl) | exact Or.inr (Or.inr rfl)) (by decide) (by decide)) (@pe_int _ _ _ _) (@nomark _ _ (by decide) (by decide))) (@pss_one _ _ _ (@ps_ret _ _ _ _ (@pe_bm _ _ _ _ _ _ _ _ _ _ _ _ PySem.F.plainAttrs_str PySem.F.slot_str_join PySem.F.type_str_join (@m_join _) (@pe_str _ _ _ _) (@pa_cons _ _ _ _ _ (@pe_op _ _ _ _ _ _ _ _ (@op_cat _) (@pv _ 0 _ _ (by rfl) (by first | exact Or.inl rfl | exact Or.inr (Or.inl rfl) | exact Or.inr (Or.inr rfl)) (by decide) (by decide)) (@pe_slice _ _ _ _ _ _ _ _ _ _ (@sl_list _) (@pv _ 0 _ _ (by rfl) (by first | exact Or.inl rfl | exact Or.inr (Or.inl rfl) | exact Or.inr (Or.inr rfl)) (by decide) (by decide)) (@po_some _ _ _ (@pe_un _ _ _ _ _ _ (@un_neg _) (@pe_int _ _ _ _))) (@po_none _))) (@pa_nil _) (by rfl)) (by rfl) (by rfl) (by rfl) (by rfl) (by rfl)))) (@pss_nil _)) (@pss_one _ _ _ (@ps_ret _ _ _ _ (@pe_ix _ _ _ _ _ _ _ (@ix_list _) (@pe_lst _ _ _ _ (@pa_cons _ _ _ _ _ (@pe_op _ _ _ _ _ _ _ _ (@o_addS _) (@pe_bm _ _ _ _ _ _ _ _ _ _ _ _ PySem.F.plainAttrs_str PySem.F.slot_str_join PySem.F.type_str_join (@m_join _) (@pe_str _ _ _ _) (@pa_cons _ _ _ _ _ (@pv _ 0 _ _ (by rfl) (by first | exact Or.inl rfl | exact Or.inr (Or.inl rfl) | exact Or.inr (Or.inr rfl)) (by decide) (by decide)) (@pa_nil _) (by rfl)) (by rfl) (by rfl) (by rfl) (by rfl) (by rfl)) (@pe_str _ _ _ _)) (@pa_cons _ _ _ _ _ (@pe_bm _ _ _ _ _ _ _ _ _ _ _ _ PySem.F.plainAttrs_str PySem.F.slot_str_join PySem.F.type_str_join (@m_join _) (@pe_str _ _ _ _) (@pa_cons _ _ _ _ _ (@pe_op _ _ _ _ _ _ _ _ (@op_cat _) (@pe_slice _ _ _ _ _ _ _ _ _ _ (@sl_list _) (@pv _ 0 _ _ (by rfl) (by first | exact Or.inl rfl | exact Or.inr (Or.inl rfl) | exact Or.inr (Or.inr rfl)) (by decide) (by decide)) (@po_none _) (@po_some _ _ _ (@pe_un _ _ _ _ _ _ (@un_neg _) (@pe_int _ _ _ _)))) (@pe_lst _ _ _ _ (@pa_cons _ _ _ _ _ (@pe_callTy _ _ _ _ _ _ _ _ _ (@c_strI _) rfl BT.str_ L3.bt_str (@pa_cons _ _ _ _ _ (@pe_op _ _ _ _ _ _ _ _ (@op_add _) (@pe_op _ _ _ _ _ _ _ _ (@op_pow _) (@pe_int _ _ _ _) (@pe_int _ _ _ _)) (@pe_fn _ _ _ _ _ _ _ _ _ _ _ _ c__law_pick (hr.mono (by first | decide | omega)) NE.pass (@pa_cons _ _ _ _ _ (@pv _ 1 _ _ (by rfl) (by first | exact Or.inl rfl | exact Or.inr (Or.inl rfl) | exact Or.inr (Or.inr rfl)) (by decide) (by decide)) (@pa_cons _ _ _ _ _ (@pe_int _ _ _ _) (@pa_nil _) (by rfl)) (by rfl)) (by rfl) (by decide) (by rfl) (by rfl))) (@pa_nil _) (by rfl)) (by decide) (by decide) (by rfl) (by rfl)) (@pa_nil _) (by rfl)))) (@pa_nil _) (by rfl)) (by rfl) (by rfl) (by rfl) (by rfl) (by rfl)) (@pa_nil _) (by rfl)) (by rfl))) (@pe_op _ _ _ _ _ _ _ _ (@op_sub _) (@pv _ 2 _ _ (by rfl) (by first | exact Or.inl rfl | exact Or.inr (Or.inl rfl) | exact Or.inr (Or.inr rfl)) (by decide) (by decide)) (@pe_int _ _ _ _)) (fun _ _ => rfl))))))))))), ?_⟩
 try dsimp only [cxOf]
 have L := led_hand hh
 walk_at "go"
 refine use_pick L .head (by decide) (by decide) (by omega) fun r1 H1 a0 a1 L _ => ?_
 have hl1 := L.fr _ _ hl hne
 walk_at "go"
 refine g_lenSq (SqL.of hl1) ?_
 rw [List.length_map]
 walk_at "go"
 refine use_pick L .head (by omega) (by omega) (by omega) fun at' H2 b0 b1 L _ => ?_
 have hl2 := L.fr _ _ hl hne
 obtain ⟨x0, hx1, hx2⟩ := strs_at (ws := ws) b0 b1
 have hx3 := len_lsum hx2
 walk_at "go"
 refine g_ixSq (SqL.of hl2) hx1 ?_
 walk_at "go"
 have l0 : (Str.ofString "0").length = 1 := by decide +kernel
 refine g_addS (Nat.le_of_lt (small1000 (by rw [l0]; omega))) ?_
 walk_at "go"
 refine use_pick L' (by walk_at "put") (by decide) (by decide) (by omega) fun r3 H3 c0 c1 L _ => ?_
 obtain ⟨xs8, hx8, hn8, hk8⟩ : ∃ xs : List V, H3 l' = some (.lst xs) ∧ xs.length = 8 ∧ ∀ v ∈ xs, ∃ y : Str, v = .str y ∧ y.length ≤ 61 := by
  refine ⟨_, L.eo (p := l') (by walk_at "put"), rfl, fun v hm => ?_⟩
  simp only [List.mem_cons, List.not_mem_nil, or_false] at hm
  rcases hm with rfl | rfl | rfl | rfl | rfl | rfl | rfl | rfl
  ·exact ⟨_, rfl, by decide +kernel⟩
  ·exact ⟨_, rfl, by decide +kernel⟩
  ·exact ⟨_, rfl, by decide +kernel⟩
  ·exact ⟨_, rfl, by decide +kernel⟩
  ·exact ⟨_, rfl, by decide +kernel⟩
  ·exact ⟨_, rfl, by decide +kernel⟩
  ·exact ⟨_, rfl, by decide +kernel⟩
  ·exact ⟨_, rfl, by rw [Str.length_append, l0]; omega⟩
 obtain ⟨v, hv, hvm⟩ := atI_mem (xs := xs8) c0 (by rw [hn8]; exact c1)
 obtain ⟨odd, rfl, hodd⟩ := hk8 v hvm
 refine g_ixSq (SqL.of hx8) hv ?_
 have o3 : Oth p H H3 := L.fr
 have h3 := HandO.at (L.at_ (p, HandO _) (by walk_at "mem"))
 have hl3 := L.fr _ _ hl hne
 clear L L'
 have fin : ∀ (x : Str) (H' : Hp), x.length ≤ 199 → Same H3 H' → Q (.str x) H' := fun x H' hx s => q x H' hx ((h3.same s).mono (by omega)) (o3.trans fun q o h _ => s q o h)
 have so : lsum [odd] = odd.length := by unfold lsum; simp
 have z1 : ∀ v : V, ([v] : List V).length ≤ sizeLine := fun _ => Nat.le_of_lt (small1000 (by simp))
 try dsimp only [gName]
 walk_at "go"
 refine g_ifD (fun c => ?_) (fun c => ?_)
 ·walk_at "go"
  refine g_slE hl3 fun b1 z1s G1 nb1 k1 m1 g1 t1 => ?_
  walk_at "go"
  refine g_newE (z1 _) fun b2 G2 nb2 g2 t2 => ?_
  refine g_catS (t2 _ _ g1) (ys := [odd]) g2 (by simp; omega) fun b3 G3 nb3 g3 t3 => ?_
  walk_at "go"
  refine g_slE (t3 _ _ (t2 _ _ (t1 _ _ hl3))) fun b4 z4s G4 nb4 k4 m4 g4 t4 => ?_
  refine g_catS (t4 _ _ g3) g4 (by rw [List.length_append]; simp; omega) fun b5 G5 nb5 g5 t5 => ?_
  walk_at "go"
  have e1 : lsum (z1s ++ [odd] ++ z4s) ≤ 60 + 61 + 60 := by rw [lsum_app, lsum_app, so]; omega
  have e2 : (z1s ++ [odd] ++ z4s).length ≤ 7 := by rw [List.length_append, List.length_append, List.length_singleton]; omega
  refine g_joinB g5 (by omega) (by omega) fun hj => ?_
  exact fin _ _ (by omega) ((((t1.trans t2).trans t3).trans t4).trans t5)
 walk_at "go"
 refine g_ifD (fun c => ?_) (fun c => ?_)
 ·walk_at "go"
  refine g_slE hl3 fun b1 z1s G1 nb1 k1 m1 g1 t1 => ?_
  walk_at "go"
  refine g_slE (t1 _ _ hl3) fun b4 z4s G4 nb4 k4 m4 g4 t4 => ?_
  refine g_catS (t4 _ _ g1) g4 (by omega) fun b5 G5 nb5 g5 t5 => ?_
  walk_at "go"
  have e1 : lsum (z1s ++ z4s) ≤ 60 + 60 := by rw [lsum_app]; omega
  have e2 : (z1s ++ z4s).length ≤ 6 := by rw [List.length_append]; omega
  refine g_joinB g5 (by omega) (by omega) fun hj => ?_
  exact fin _ _ (by omega) ((t1.trans t4).trans t5)
 walk_at "go"
 refine g_ifD (fun c => ?_) (fun c => ?_)
 ·walk_at "go"
  refine g_slE hl3 fun b1 z1s G1 nb1 k1 m1 g1 t1 => ?_
  walk_at "go"
  refine g_newE (z1 _) fun b2 G2 nb2 g2 t2 => ?_
  refine g_catS (t2 _ _ g1) (ys := [odd]) g2 (by simp; omega) fun b3 G3 nb3 g3 t3 => ?_
  walk_at "go"
  refine g_slE (t3 _ _ (t2 _ _ (t1 _ _ hl3))) fun b4 z4s G4 nb4 k4 m4 g4 t4 => ?_
  refine g_catS (t4 _ _ g3) g4 (by rw [List.length_append]; simp; omega) fun b5 G5 nb5 g5 t5 => ?_
  walk_at "go"
  have e1 : lsum (z1s ++ [odd] ++ z4s) ≤ 60 + 61 + 60 := by rw [lsum_app, lsum_app, so]; omega
  have e2 : (z1s ++ [odd] ++ z4s).length ≤ 7 := by rw [List.length_append, List.length_append, List.length_singleton]; omega
  refine g_joinB g5 (by omega) (by omega) fun hj => ?_
  exact fin _ _ (by omega) ((((t1.trans t2).trans t3).trans t4).trans t5)
 walk_at "go"
 refine g_ifD (fun c => ?_) (fun c => ?_)
 ·walk_at "go"
  refine g_slE hl3 fun b1 z1s G1 nb1 k1 m1 g1 t1 => ?_
  refine g_catS (t1 _ _ hl3) g1 (by omega) fun b5 G5 nb5 g5 t5 => ?_
  walk_at "go"
  have e1 : lsum (ws ++ z1s) ≤ 60 + 60 := by rw [lsum_app]; omega
  have e2 : (ws ++ z1s).length ≤ 6 := by rw [List.length_append]; omega
  refine g_joinB g5 (by omega) (by omega) fun hj => ?_
  exact fin _ _ (by omega) (t1.trans t5)
 walk_at "go"
 refine g_joinB hl3 (by omega) (by omega) fun hj1 => ?_
 walk_at "go"
 have lb : (Str.ofString " ").length = 1 := by decide +kernel
 refine g_addS (Nat.le_of_lt (small1000 (by rw [lb]; omega))) ?_
 walk_at "go"
 refine g_slE hl3 fun b1 z1s G1 nb1 k1 m1 g1 t1 => ?_
 have h1 := h3.same t1
 have L := led_hand h1
 walk_at "go"
 refine use_pick L .head (by decide) (by decide) (by omega) fun r5 H6 d0 d1 L _ => ?_
 have o6 : Oth p G1 H6 := L.fr
 have h6 := HandO.at (L.at_ (p, HandO _) (by walk_at "mem"))
 have nb1p : b1 ≠ p := fun z => by
  obtain ⟨_, _, _, e, _⟩ := h3
  rw [z, e] at nb1
  cases nb1
 have g6 := o6 _ _ g1 nb1p
 have tp : (10 : Int) ^ Int.toNat 30 = 1000000000000000000000000000000 := by decide
 have p40 : (10 : Int) ^ 40 = 10000000000000000000000000000000000000000 := by decide
 walk_at "go"
 refine g_strI (log40 (by rw [tp]; omega) (by rw [tp, p40]; omega)) ?_
 obtain ⟨nn, enn⟩ := Int.eq_ofNat_of_zero_le (show 0 ≤ (10 : Int) ^ Int.toNat 30 + r5 by rw [tp]; omega)
 have hsl : ((toString ((10 : Int) ^ Int.toNat 30 + r5) : String) : Str).length ≤ 40 := by
  rw [enn]
  have hb40 : nn < 10 ^ 40 := by
   rw [tp] at enn
   have e40 : (10 : Nat) ^ 40 = 10000000000000000000000000000000000000000 := by decide
   omega
  rw [len_of]
  exact (num_parts (num_str hb40).1).2.1
 generalize ((toString ((10 : Int) ^ Int.toNat 30 + r5) : String) : Str) = big at *
 clear L
 walk_at "go"
 refine g_newE (z1 _) fun b2 G2 nb2 g2 t2 => ?_
 have sb : lsum [big] = big.length := by unfold lsum; simp
 refine g_catS (t2 _ _ g6) (ys := [big]) g2 (by simp; omega) fun b3 G3 nb3 g3 t3 => ?_
 walk_at "go"
 have e1 : lsum (z1s ++ [big]) ≤ 60 + 40 := by rw [lsum_app, sb]; omega
 have e2 : (z1s ++ [big]).length ≤ 4 := by rw [List.length_append, List.length_singleton]; omega
 refine g_joinB g3 (by omega) (by omega) fun hj2 => ?_
 walk_at "go"
 refine g_newE (Nat.le_of_lt (small1000 (by simp))) fun b4 G4 nb4 g4 t4 => ?_
 walk_at "go"
 have sH : Same H6 G4 := (t2.trans t3).trans t4
 have fin2 : ∀ (x : Str), x.length ≤ 199 → Q (.str x) G4 := fun x hx => q x G4 hx ((h6.same sH).mono (by omega)) (fun r o e n => sH _ _ (o6 r o (t1 _ _ (o3 r o e n)) n))
 obtain rfl | rfl : r1 = 6 ∨ r1 = 7 := by omega
 ·refine g_ixSq (SqL.of g4) (by with_unfolding_all exact rfl) ?_
  exact fin2 _ (by rw [Str.length_append, lb]; omega)
 ·refine g_ixSq (SqL.of g4) (by with_unfolding_all exact rfl) ?_
  exact fin2 _ (by omega)
end
end Law

namespace Law
open PySem PySem.Spec PyProof.Rows L2 L3 L4
theorem g_dnewK {σ : St} {H : Hp} {Q : VK} (h : ∀ p, H p = none → Q (.ref p) (upd H p (.dK []))) : tDNewK σ H Q := h
section
variable {P : Program} {w : World} {K : PySem.W.Frag} {mg : Str → Option Value} {base : Heap}
theorem sc_law : FnScope ["_law_script", "_law_cell", "_law_names_here", "_law_k", "_law_deed_here", "_law_words", "_law_text", "_law_turn", "_law_spoilt_here", "_law_thing"] ["_law_script"] (defScope (top 48)) := by walk_at "s"
def spLaw (K : PySem.W.Frag) : Sp := fun vs H Q _ => ∃ (a : Addr) (ns : List Int), vs = [.ref a] ∧ SqL K H a (ns.map V.int) ∧ ns.length ≤ 63 ∧ ∀ H', Q (.bl true) H'
theorem ok_law {f : Addr} {fd : FuncData} (F : Fun K "law" "law" (top 48) f fd) (BT : Bt mg) (NE : NoErr (CX1 P w)) (c__law_hand : Cal P w K mg base (CX1 P w) "_law_hand" 1 ["_law_script", "_law_k"] (spHand K)) (c__law_pick : Cal P w K mg base (CX1 P w) "_law_pick" 11 ["_law_hand_here", "_law_many"] spPick) (c__law_names : Cal P w K mg base (CX1 P w) "_law_names" 12 ["_law_cell", "_law_many"] spNames)
  (c__law_deed : Cal P w K mg base (CX1 P w) "_law_deed" 12 ["_law_cell", "_law_names_here"] spLDeed) (c_deed_text : Cal P w K mg base (CX1 P w) "deed_text" 2 ["deed"] spDText) (c__law_reads : Cal P w K mg base (CX1 P w) "_law_reads" 11 ["_law_text", "_law_due_here"] spReads) (c__law_spoilt : Cal P w K mg base (CX1 P w) "_law_spoilt" 12 ["_law_words", "_law_cell"] spLSpo)
  (c__law_due : Cal P w K mg base (CX1 P w) "_law_due" 2 ["_law_text"] spLDue) (c__law_refused : Cal P w K mg base (CX1 P w) "_law_refused" 10 ["_law_thing"] spRef92) : FnOk P w K mg base (CX1 P w) 15 f fd ["_law_script"] (spLaw K) := by
 have S := sc_law
 refine fun_ok F S (fun vs H Q E h => ?_) (fun f cdv A outer s H vs Q E hr h => ?_)
 ·obtain ⟨a, ns, rfl, _⟩ := h
  rfl
 obtain ⟨a, ns, rfl, hS, h63, q⟩ := h
 refine ⟨_, (@pss_cons _ _ _ _ _ (@ps_set _ _ 1 _ _ _ _ S.nd rfl (by first | exact Or.inl rfl | exact Or.inr rfl) (@pe_fn _ _ _ _ _ _ _ _ _ _ _ _ c__law_hand (hr.mono (by first | decide | omega)) NE.pass (@pa_cons _ _ _ _ _ (@pv _ 0 _ _ (by rfl) (by first | exact Or.inl rfl | exact Or.inr (Or.inl rfl) | exact Or.inr (Or.inr rfl)) (by decide) (by decide)) (@pa_cons _ _ _ _ _ (@pe_int _ _ _ _) (@pa_nil _) (by rfl)) (by rfl)) (by rfl) (by decide) (by rfl) (by rfl)) (by rfl) (by first | exact .inl rfl | exact .inr rfl | assumption)) (@pss_cons _ _ _ _ _ (@ps_set _ _ 2 _ _ _ _ S.nd rfl (by first | exact Or.inl rfl | exact Or.inr rfl) (@pe_fn _ _ _ _ _ _ _ _ _ _ _ _ c__law_names (hr.mono (by first | decide | omega)) NE.pass (@pa_cons _ _ _ _ _ (@pv _ 1 _ _ (by rfl) (by first | exact Or.inl rfl | exact Or.inr (Or.inl rfl) | exact Or.inr (Or.inr rfl)) (by decide) (by decide)) (@pa_cons _ _ _ _ _ (@pe_op _ _ _ _ _ _ _ _ (@op_add _) (@pe_int _ _ _ _) (@pe_fn _ _ _ _ _ _ _ _ _ _ _ _ c__law_pick (hr.mono (by first | decide | omega)) NE.pass (@pa_cons _ _ _ _ _ (@pv _ 1 _ _ (by rfl) (by first | exact Or.inl rfl | exact Or.inr (Or.inl rfl) | exact Or.inr (Or.inr rfl)) (by decide) (by decide)) (@pa_cons _ _ _ _ _ (@pe_int _ _ _ _) (@pa_nil _) (by rfl)) (by rfl)) (by rfl) (by decide) (by rfl) (by rfl))) (@pa_nil _) (by rfl)) (by rfl)) (by rfl) (by decide) (by rfl) (by rfl)) (by rfl) (by first | exact .inl rfl | exact .inr rfl | assumption)) (@pss_cons _ _ _ _ _ (@ps_for _ _ _ _ _ _ _ _ PassesOwn.never rfl (@pi_range2 _ _ _ _ _ _ _ rfl BT.range (@pa_cons _ _ _ _ _ (@pe_int _ _ _ _) (@pa_cons _ _ _ _ _ (@pe_callB _ _ _ _ _ _ _ _ _ (@c_max _ rfl) rfl BT.max L3.bt_max (@pa_cons _ _ _ _ _ (@pe_int _ _ _ _) (@pa_cons _ _ _ _ _ (@pe_callB _ _ _ _ _ _ _ _ _ (@c_min _ rfl) rfl BT.min L3.bt_min (@pa_cons _ _ _ _ _ (@pe_int _ _ _ _) (@pa_cons _ _ _ _ _ (@pe_callB _ _ _ _ _ _ _ _ _ (@c_len _) rfl BT.len L3.bt_len (@pa_cons _ _ _ _ _ (@pv _ 0 _ _ (by rfl) (by first | exact Or.inl rfl | exact Or.inr (Or.inl rfl) | exact Or.inr (Or.inr rfl)) (by decide) (by decide)) (@pa_nil _) (by rfl)) (by decide) (by decide) (by rfl) (by rfl)) (@pa_nil _) (by rfl)) (by rfl)) (by decide) (by decide) (by rfl) (by rfl)) (@pa_nil _) (by rfl)) (by rfl)) (by decide) (by decide) (by rfl) (by rfl)) (@pa_nil _) (by rfl)) (by rfl)) (by rfl) (by rfl)) (@pg_name _ _ 3 _ S.nd rfl (by first | exact Or.inl rfl | exact Or.inr rfl) (by first | exact .inl rfl | exact .inr rfl | assumption)) (@pss_cons _ _ _ _ _ (@ps_set _ _ 1 _ _ _ _ S.nd rfl (by first | exact Or.inl rfl | exact Or.inr rfl) (@pe_fn _ _ _ _ _ _ _ _ _ _ _ _ c__law_hand (hr.mono (by first | decide | omega)) NE.pass (@pa_cons _ _ _ _ _ (@pv _ 0 _ _ (by rfl) (by first | exact Or.inl rfl | exact Or.inr (Or.inl rfl) | exact Or.inr (Or.inr rfl)) (by decide) (by decide)) (@pa_cons _ _ _ _ _ (@pv _ 3 _ _ (by rfl) (by first | exact Or.inl rfl | exact Or.inr (Or.inl rfl) | exact Or.inr (Or.inr rfl)) (by decide) (by decide)) (@pa_nil _) (by rfl)) (by rfl)) (by rfl) (by decide) (by rfl) (by rfl)) (by rfl) (by first | exact .inl rfl | exact .inr rfl | assumption)) (@pss_cons _ _ _ _ _ (@ps_set _ _ 4 _ _ _ _ S.nd rfl (by first | exact Or.inl rfl | exact Or.inr rfl) (@pe_fn _ _ _ _ _ _ _ _ _ _ _ _ c__law_deed (hr.mono (by first | decide | omega)) NE.pass (@pa_cons _ _ _ _ _ (@pv _ 1 _ _ (by rfl) (by first | exact Or.inl rfl | exact Or.inr (Or.inl rfl) | exact Or.inr (Or.inr rfl)) (by decide) (by decide)) (@pa_cons _ _ _ _ _ (@pv _ 2 _ _ (by rfl) (by first | exact Or.inl rfl | exact Or.inr (Or.inl rfl) | exact Or.inr (Or.inr rfl)) (by decide) (by decide)) (@pa_nil _) (by rfl)) (by rfl)) (by rfl) (by decide) (by rfl) (by rfl)) (by rfl) (by first | exact .inl rfl | exact .inr rfl | assumption)) (@pss_cons _ _ _ _ _ (@ps_compS _ _ _ _ _ _ _ _ _ _ (gName 0) _ _ 5 _ _ _ rfl S.nd rfl (by first | exact Or.inl rfl | exact Or.inr rfl) (@pi_tup _ _ _ _ (@pv _ 4 _ _ (by rfl) (by first | exact Or.inl rfl | exact Or.inr (Or.inl rfl) | exact Or.inr (Or.inr rfl)) (by decide) (by decide))) (@blk_of _ _ ["_law_thing"] [] (defScope (top 48)).names ["_law_script", "_law_cell", "_law_names_here", "_law_k", "_law_deed_here", "_law_words", "_law_text", "_law_turn", "_law_spoilt_here", "_law_thing"] rfl rfl rfl (by decide +kernel)) (fun _ _ _ _ => (@pg_name _ _ 0 _ (show (blkN ["_law_script", "_law_cell", "_law_names_here", "_law_k", "_law_deed_here", "_law_words", "_law_text", "_law_turn", "_law_spoilt_here", "_law_thing"] ["_law_thing"] []).Nodup by decide +kernel) rfl (by first | exact Or.inl rfl | exact Or.inr rfl) (by first | exact .inl rfl | exact .inr rfl | assumption))) (fun _ _ _ _ => (@pifs_nil _)) (fun _ _ _ _ => (@pe_callTy _ _ _ _ _ _ _ _ _ c_strP rfl BT.str_ L3.bt_str (@pa_cons _ _ _ _ _ (@pv _ 0 _ _ (by rfl) (by first | exact Or.inl rfl | exact Or.inr (Or.inl rfl) | exact Or.inr (Or.inr rfl)) (by decide) (by decide)) (@pa_nil _) (by rfl)) (by decide) (by decide) (by rfl) (by rfl))) (by with_unfolding_all rfl) (by first | exact .inl rfl | exact .inr rfl | assumption) (by intro _; rfl)) (@pss_cons _ _ _ _ _ (@ps_set _ _ 6 _ _ _ _ S.nd rfl (by first | exact Or.inl rfl | exact Or.inr rfl) (@pe_fn _ _ _ _ _ _ _ _ _ _ _ _ c_deed_text (hr.mono (by first | decide | omega)) NE.pass (@pa_cons _ _ _ _ _ (@pv _ 4 _ _ (by rfl) (by first | exact Or.inl rfl | exact Or.inr (Or.inl rfl) | exact Or.inr (Or.inr rfl)) (by decide) (by decide)) (@pa_nil _) (by rfl)) (by rfl) (by decide) (by rfl) (by rfl)) (by rfl) (by first | exact .inl rfl | exact .inr rfl | assumption)) (@pss_cons _ _ _ _ _ (@ps_if _ _ _ _ _ _ _ _ (@PW.pt _ _ _ (@pw_or _ _ _ _ _ _ _ (@pt_not _ _ _ _ (@pt_val _ _ _ (@pe_isi _ _ _ _ _ _ _ _ BT.isinstance BT.str_ L3.bt_str (@pv _ 6 _ _ (by rfl) (by first | exact Or.inl rfl | exact Or.inr (Or.inl rfl) | exact Or.inr (Or.inr rfl)) (by decide) (by decide)) (by rfl) (by rfl) (by decide) (by decide) (by rfl) (by rfl) (by rfl)) (by intro _; rfl))) (@pw_or _ _ _ _ _ _ _ (@pt_cmpR _ _ _ _ _ _ _ _ (@op_ne _) (@pv _ 6 _ _ (by rfl) (by first | exact Or.inl rfl | exact Or.inr (Or.inl rfl) | exact Or.inr (Or.inr rfl)) (by decide) (by decide)) (@pe_bm _ _ _ _ _ _ _ _ _ _ _ _ PySem.F.plainAttrs_str PySem.F.slot_str_join PySem.F.type_str_join (@m_join _) (@pe_str _ _ _ _) (@pa_cons _ _ _ _ _ (@pv _ 5 _ _ (by rfl) (by first | exact Or.inl rfl | exact Or.inr (Or.inl rfl) | exact Or.inr (Or.inr rfl)) (by decide) (by decide)) (@pa_nil _) (by rfl)) (by rfl) (by rfl) (by rfl) (by rfl) (by rfl)) (@nomark _ _ (by decide) (by decide))) (@pw_or1 _ _ _ _ (@pt_not _ _ _ _ (@pt_val _ _ _ (@pe_fn _ _ _ _ _ _ _ _ _ _ _ _ c__law_reads (hr.mono (by first | decide | omega)) NE.pass (@pa_cons _ _ _ _ _ (@pv _ 6 _ _ (by rfl) (by first | exact Or.inl rfl | exact Or.inr (Or.inl rfl) | exact Or.inr (Or.inr rfl)) (by decide) (by decide)) (@pa_cons _ _ _ _ _ (@pv _ 4 _ _ (by rfl) (by first | exact Or.inl rfl | exact Or.inr (Or.inl rfl) | exact Or.inr (Or.inr rfl)) (by decide) (by decide)) (@pa_nil _) (by rfl)) (by rfl)) (by rfl) (by decide) (by rfl) (by rfl)) (by intro _; rfl))))))) (@pss_one _ _ _ (@ps_ret _ _ _ _ (@pe_bl _ _ _ _))) (@pss_nil _)) (@pss_cons _ _ _ _ _ (@ps_for _ _ _ _ _ _ _ _ PassesOwn.never rfl (@pi_range1 _ _ _ _ _ _ rfl BT.range (@pa_cons _ _ _ _ _ (@pe_int _ _ _ _) (@pa_nil _) (by rfl)) (by rfl)) (@pg_name _ _ 7 _ S.nd rfl (by first | exact Or.inl rfl | exact Or.inr rfl) (by first | exact .inl rfl | exact .inr rfl | assumption)) (@pss_cons _ _ _ _ _ (@ps_set _ _ 8 _ _ _ _ S.nd rfl (by first | exact Or.inl rfl | exact Or.inr rfl) (@pe_fn _ _ _ _ _ _ _ _ _ _ _ _ c__law_spoilt (hr.mono (by first | decide | omega)) NE.pass (@pa_cons _ _ _ _ _ (@pv _ 5 _ _ (by rfl) (by first | exact Or.inl rfl | exact Or.inr (Or.inl rfl) | exact Or.inr (Or.inr rfl)) (by decide) (by decide)) (@pa_cons _ _ _ _ _ (@pv _ 1 _ _ (by rfl) (by first | exact Or.inl rfl | exact Or.inr (Or.inl rfl) | exact Or.inr (Or.inr rfl)) (by decide) (by decide)) (@pa_nil _) (by rfl)) (by rfl)) (by rfl) (by decide) (by rfl) (by rfl)) (by rfl) (by first | exact .inl rfl | exact .inr rfl | assumption)) (@pss_one _ _ _ (@ps_if _ _ _ _ _ _ _ _ (@pt_not _ _ _ _ (@pt_val _ _ _ (@pe_fn _ _ _ _ _ _ _ _ _ _ _ _ c__law_reads (hr.mono (by first | decide | omega)) NE.pass (@pa_cons _ _ _ _ _ (@pv _ 8 _ _ (by rfl) (by first | exact Or.inl rfl | exact Or.inr (Or.inl rfl) | exact Or.inr (Or.inr rfl)) (by decide) (by decide)) (@pa_cons _ _ _ _ _ (@pe_fn _ _ _ _ _ _ _ _ _ _ _ _ c__law_due (hr.mono (by first | decide | omega)) NE.pass (@pa_cons _ _ _ _ _ (@pv _ 8 _ _ (by rfl) (by first | exact Or.inl rfl | exact Or.inr (Or.inl rfl) | exact Or.inr (Or.inr rfl)) (by decide) (by decide)) (@pa_nil _) (by rfl)) (by rfl) (by decide) (by rfl) (by rfl)) (@pa_nil _) (by rfl)) (by rfl)) (by rfl) (by decide) (by rfl) (by rfl)) (by intro _; rfl))) (@pss_one _ _ _ (@ps_ret _ _ _ _ (@pe_bl _ _ _ _))) (@pss_nil _)))) (by intro _; rfl)) (@pss_cons _ _ _ _ _ (@ps_set _ _ 9 _ _ _ _ S.nd rfl (by first | exact Or.inl rfl | exact Or.inr rfl) (@pe_ix _ _ _ _ _ _ _ (@ix_list _) (@pe_lst _ _ _ _ (@pa_cons _ _ _ _ _ (@pe_non _ _ _) (@pa_cons _ _ _ _ _ (@pv _ 4 _ _ (by rfl) (by first | exact Or.inl rfl | exact Or.inr (Or.inl rfl) | exact Or.inr (Or.inr rfl)) (by decide) (by decide)) (@pa_cons _ _ _ _ _ (@pv _ 5 _ _ (by rfl) (by first | exact Or.inl rfl | exact Or.inr (Or.inl rfl) | exact Or.inr (Or.inr rfl)) (by decide) (by decide)) (@pa_cons _ _ _ _ _ (@pe_bl _ _ _ _) (@pa_cons _ _ _ _ _ (@pe_int _ _ _ _) (@pa_cons _ _ _ _ _ (@pe_dnewK _ _) (@pa_cons _ _ _ _ _ (@pe_str _ _ _ _) (@pa_cons _ _ _ _ _ (@pe_str _ _ _ _) (@pa_nil _) (by rfl)) (by rfl)) (by rfl)) (by rfl)) (by rfl)) (by rfl)) (by rfl)) (by rfl))) (@pe_fn _ _ _ _ _ _ _ _ _ _ _ _ c__law_pick (hr.mono (by first | decide | omega)) NE.pass (@pa_cons _ _ _ _ _ (@pv _ 1 _ _ (by rfl) (by first | exact Or.inl rfl | exact Or.inr (Or.inl rfl) | exact Or.inr (Or.inr rfl)) (by decide) (by decide)) (@pa_cons _ _ _ _ _ (@pe_int _ _ _ _) (@pa_nil _) (by rfl)) (by rfl)) (by rfl) (by decide) (by rfl) (by rfl)) (fun _ _ => rfl)) (by rfl) (by first | exact .inl rfl | exact .inr rfl | assumption)) (@pss_one _ _ _ (@ps_if _ _ _ _ _ _ _ _ (@pt_not _ _ _ _ (@pt_val _ _ _ (@pe_fn _ _ _ _ _ _ _ _ _ _ _ _ c__law_refused (hr.mono (by first | decide | omega)) NE.pass (@pa_cons _ _ _ _ _ (@pv _ 9 _ _ (by rfl) (by first | exact Or.inl rfl | exact Or.inr (Or.inl rfl) | exact Or.inr (Or.inr rfl)) (by decide) (by decide)) (@pa_nil _) (by rfl)) (by rfl) (by decide) (by rfl) (by rfl)) (by intro _; rfl))) (@pss_one _ _ _ (@ps_ret _ _ _ _ (@pe_bl _ _ _ _))) (@pss_nil _)))))))))) (by intro _; rfl)) (@pss_one _ _ _ (@ps_ret _ _ _ _ (@pe_bl _ _ _ _)))))), ?_⟩
 have L := Led.start H (fun _ => False)
 dsimp only [cxOf]
 walk_at "go"
 refine use_hand L (L.seq hS not_false) h63 (by decide) fun p H1 np L s1 => ?_
 try dsimp only [gName]
 walk_at "go"
 refine use_pick L .head (by decide) (by decide) (by decide) fun r1 H2 a0 a1 L _ => ?_
 have h2 := HandO.at (L.at_ (p, HandO _) (by walk_at "mem"))
 have s2 : Same H H2 := L.same
 clear L
 walk_at "go"
 refine ⟨p, _, _, rfl, h2, by decide, by omega, by omega, fun nq nms H3 nnq hnq hnm n1 n10 _ h3 o3 => ?_⟩
 have s3 : Same H H3 := o3.same s2 np
 have nnH : H nq = none := by
  cases e : H nq with
  | none => rfl
  | some o => rw [s2 _ _ e] at nnq; cases nnq
 try dsimp only [gName]
 have L := Led.start H3 (fun _ => False)
 have hS3 := s3.seq hS
 walk_at "go"
 refine g_forR (fun i σ Hx => ∃ (u1 u3 u4 u5 u6 u7 u8 u9 : Option V), σ = [some (.ref a), u1, some (.ref nq), u3, u4, u5, u6, u7, u8, u9] ∧ Same H3 Hx) ⟨_, _, _, _, _, _, _, _, rfl, Same.refl _⟩ ?_ ?_
 ·rintro i σ HG hi ⟨u1, u3, u4, u5, u6, u7, u8, u9, rfl, sG⟩
  have hi41 : i < 41 := by omega
  have hnqG := sG _ _ hnq
  clear L
  have L := Led.start HG (fun _ => False)
  try dsimp only [gName]
  walk_at "go"
  refine use_hand L (sG.seq hS3) h63 (by omega) fun p2 H4 np2 L s4 => ?_
  have h4 := HandO.at (L.at_ (p2, HandO _) (by walk_at "mem"))
  have nqp : nq ≠ p2 := fun z => by rw [z, np2] at hnqG; cases hnqG
  clear L
  try dsimp only [gName]
  walk_at "go"
  refine ⟨p2, 0, nq, nms, rfl, h4, by decide, nqp, s4 _ _ hnqG, hnm, n1, n10, fun da ts H5 hda hok h5 o5 => ?_⟩
  have s5 : Same HG H5 := o5.same s4 np2
  try dsimp only [gName]
  walk_at "go"
  refine g_wkTv (SqT.of hda) ?_
  refine g_compT (ts.map thV) (fun i ys H' => ys = ((ts.take i).map txtT).map V.str ∧ H' = H5) ⟨rfl, rfl⟩ (fun i ys H' hi ⟨e, e2⟩ => ⟨e2 ▸ SqT.of hda, by rw [e, List.length_map, List.length_map, List.length_take]; exact Nat.le_of_lt (small1000 (by have := hok.l3; omega))⟩) ?_ ?_
  ·rintro j y ys H' hy ⟨rfl, rfl⟩
   rw [List.getElem?_map] at hy
   cases e : ts[j]? with
   | none => rw [e] at hy; cases hy
   | some t =>
    rw [e] at hy
    cases hy
    try dsimp only [gName]
    walk_at "go"
    refine str_prt (hok.p t (List.mem_of_getElem? e)) ?_
    walk_at "go"
    exact ⟨by rw [List.take_add_one, e, Option.toList, List.map_append, List.map_append]; rfl, rfl⟩
  rintro ys H' ⟨rfl, rfl⟩ lw nlw
  rw [List.length_map, List.take_length]
  have s6 : Same H' (upd H' lw (.lst ((ts.map txtT).map V.str))) := same_upd0 nlw
  have hlw : (upd H' lw (.lst ((ts.map txtT).map V.str))) lw = some (.lst ((ts.map txtT).map V.str)) := upd_same
  have nlp : lw ≠ p2 := fun z => by
   obtain ⟨_, _, _, e, _⟩ := h5
   rw [z, e] at nlw
   cases nlw
  generalize upd H' lw (.lst ((ts.map txtT).map V.str)) = H6 at *
  have h6 := h5.same s6
  have hda6 := s6 _ _ hda
  have sG6 := s5.trans s6
  have hsum : lsum (ts.map txtT) ≤ 60 := hok.s
  have hl3 := hok.l3
  have hl2 := hok.l2
  have hjl := join_len (ts.map txtT)
  rw [List.length_map] at hjl
  have blank : (Str.ofString " ").length = 1 := by decide +kernel
  try dsimp only [gName]
  walk_at "go"
  refine ⟨da, ts, rfl, hda6, hok.p, by omega, fun H7 s7 => ?_⟩
  have hlw7 := s7 _ _ hlw
  have h7 := h6.same s7
  have hda7 := s7 _ _ hda6
  have sG7 := sG6.trans s7
  try dsimp only [gName]
  walk_at "one"
  refine seq_mid (fun σ' Hy => σ' = [some (.ref a), some (.ref p2), some (.ref nq), some (.int (1 + (i : Int))), some (.ref da), some (.ref lw), some (.str (Txt.join " " (ts.map txtT))), u7, u8, u9] ∧ Same H7 Hy) (fun nx kk => ?_) ?_
  ·walk_at "go"
   refine g_isiI (b := true) (T := "str") (.str _) rfl ?_
   walk_at "go"
   refine g_join (ys := ts.map txtT) (SqL.of hlw7) (by rw [blank, List.length_map]; unfold lsum at hsum; omega) ?_
   walk_at "go"
   refine ⟨_, _, rfl, by omega, by rw [deed_back hok.p hok.d]; exact ⟨da, rfl, hda7⟩, fun H8 s8 => ?_⟩
   walk_at "go"
   exact kk _ _ ⟨rfl, s8⟩
  rintro σ' H8 ⟨rfl, s8⟩
  have h8 := h7.same s8
  have hlw8 := s8 _ _ hlw7
  have hda8 := s8 _ _ hda7
  have sG8 := sG7.trans s8
  walk_at "go"
  refine g_forR (fun j σ Hy => ∃ (v7 v8 : Option V), σ = [some (.ref a), some (.ref p2), some (.ref nq), some (.int (1 + (i : Int))), some (.ref da), some (.ref lw), some (.str (Txt.join " " (ts.map txtT))), v7, v8, u9] ∧ HandAt Hy p2 (0 + 5120 + 4096 * j) ∧ Oth p2 H8 Hy) ⟨_, _, rfl, h8.mono (by omega), Oth.refl _ _⟩ ?_ ?_
  ·rintro j σ HJ hj ⟨v7, v8, rfl, hJ, oJ⟩
   have hj2 : j < 2 := by omega
   try dsimp only [gName]
   walk_at "go"
   refine ⟨lw, ts.map txtT, p2, _, rfl, oJ _ _ hlw8 nlp, nlp, by rw [List.length_map]; omega, by rw [List.length_map]; omega, hsum, hJ, by omega, fun x H9 hx h9 o9 => ?_⟩
   try dsimp only [gName]
   walk_at "go"
   refine ⟨x, rfl, hx, fun v H10 dl s10 => ?_⟩
   walk_at "go"
   refine ⟨x, v, rfl, hx, dl, fun H11 s11 => ?_⟩
   walk_at "go"
   exact ⟨_, _, rfl, ((h9.same s10).same s11).mono (by push_cast; omega), (oJ.trans o9).trans fun r o e _ => s11 _ _ (s10 _ _ e)⟩
  rintro σ H9 ⟨v7, v8, rfl, h9, o9⟩
  have hlw9 := o9 _ _ hlw8 nlp
  have hda9 := o9 _ _ hda8 (fun z => by
   obtain ⟨_, _, _, e, _⟩ := h8
   rw [z, e] at hda8
   cases hda8)
  have sG9 := o9.same sG8 np2
  have L := led_hand h9
  walk_at "go"
  refine g_dnewK fun d nd => ?_
  have LD := L.newO (a := Eo (.dK [])) nd rfl
  generalize upd H9 d (.dK []) = HD at *
  clear L
  walk_at "go"
  refine use_pick L' (by walk_at "put") (by decide) (by decide) (by decide) fun r8 H15 e0 e1 L _ => ?_
  have h8l := L.eo (by walk_at "put")
  have hl15 := L.fr _ _ hlw9 nlp
  have hd15 := L.fr _ _ hda9 (fun z => by
   obtain ⟨_, _, _, e, _⟩ := h9
   rw [z, e] at hda9
   cases hda9)
  have o15 : Oth p2 H9 H15 := L.fr
  obtain ⟨xs8, hx8, hn8, hk8⟩ : ∃ xs : List V, H15 l' = some (.lst xs) ∧ xs.length = 8 ∧ ∀ v ∈ xs, Knd H15 v ∧ (∀ z, v = .str z → z.length ≤ 199) ∧ deedV v = none := by
   refine ⟨_, h8l, rfl, fun v hm => ?_⟩
   simp only [List.mem_cons, List.not_mem_nil, or_false] at hm
   rcases hm with rfl | rfl | rfl | rfl | rfl | rfl | rfl | rfl
   ·exact ⟨.non, (fun _ z => nomatch z), rfl⟩
   ·exact ⟨.tup hd15, (fun _ z => nomatch z), rfl⟩
   ·exact ⟨.lst hl15, (fun _ z => nomatch z), rfl⟩
   ·exact ⟨.bl _, (fun _ z => nomatch z), rfl⟩
   ·exact ⟨.int _, (fun _ z => nomatch z), rfl⟩
   ·exact ⟨.dK (L.eo (by walk_at "put")), (fun _ z => nomatch z), rfl⟩
   ·exact ⟨.str _, (fun y z => by cases z; decide +kernel), (show deedL (wdOf "") = none from deed_empty (show ("" : Str) ∈ wdOf "" by decide +kernel))⟩
   ·exact ⟨.str _, (fun y z => by cases z; decide +kernel), (show deedL (wdOf " ") = none from deed_empty (show ("" : Str) ∈ wdOf " " by decide +kernel))⟩
  obtain ⟨v, hv, hvm⟩ := atI_mem (xs := xs8) e0 (by rw [hn8]; exact e1)
  obtain ⟨kv, nv, dv⟩ := hk8 v hvm
  refine g_ixSq (SqL.of hx8) hv ?_
  try dsimp only [gName]
  walk_at "go"
  refine ⟨v, rfl, kv, nv, dv, fun H16 s16 => ?_⟩
  walk_at "go"
  exact ⟨_, _, _, _, _, _, _, _, rfl, sG.trans ((o15.same sG9 np2).trans s16)⟩
 ·rintro σ HG ⟨u1, u3, u4, u5, u6, u7, u8, u9, rfl, sG⟩
  walk_at "go"
  exact q _
end
end Law

namespace Law
open PySem PySem.Spec PyProof.Rows L2 L3 L4
theorem isKey {e : DictEntry} {x z : Str} {t : Tok} (k : e.key = .str z t) : (Value.isStrOf x e.key = true ↔ x = z) := by
 rw [k]
 show ((z == x) = true ↔ x = z)
 exact ⟨fun h => (beq_iff_eq.mp h).symm, fun h => beq_iff_eq.mpr h.symm⟩
theorem find8 {e1 e2 e3 e4 e5 e6 e7 e8 : DictEntry} {z1 z2 z3 z4 z5 z6 z7 z8 x : Str} {t1 t2 t3 t4 t5 t6 t7 t8 : Tok} (k1 : e1.key = .str z1 t1) (k2 : e2.key = .str z2 t2) (k3 : e3.key = .str z3 t3) (k4 : e4.key = .str z4 t4) (k5 : e5.key = .str z5 t5) (k6 : e6.key = .str z6 t6) (k7 : e7.key = .str z7 t7) (k8 : e8.key = .str z8 t8) :
  findBy Value.isStrOf #[e1, e2, e3, e4, e5, e6, e7, e8] x = if x = z1 then some e1.val else if x = z2 then some e2.val else if x = z3 then some e3.val else if x = z4 then some e4.val else if x = z5 then some e5.val else if x = z6 then some e6.val else if x = z7 then some e7.val else if x = z8 then some e8.val else none := by
 unfold findBy
 rw [List.find?_toArray]
 by_cases h1 : x = z1
 ·rw [if_pos h1, List.find?_cons_of_pos (p := fun e : DictEntry => Value.isStrOf x e.key) ((isKey k1).mpr h1)]; rfl
 rw [if_neg h1, List.find?_cons_of_neg (p := fun e : DictEntry => Value.isStrOf x e.key) (fun z => h1 ((isKey k1).mp z))]
 by_cases h2 : x = z2
 ·rw [if_pos h2, List.find?_cons_of_pos (p := fun e : DictEntry => Value.isStrOf x e.key) ((isKey k2).mpr h2)]; rfl
 rw [if_neg h2, List.find?_cons_of_neg (p := fun e : DictEntry => Value.isStrOf x e.key) (fun z => h2 ((isKey k2).mp z))]
 by_cases h3 : x = z3
 ·rw [if_pos h3, List.find?_cons_of_pos (p := fun e : DictEntry => Value.isStrOf x e.key) ((isKey k3).mpr h3)]; rfl
 rw [if_neg h3, List.find?_cons_of_neg (p := fun e : DictEntry => Value.isStrOf x e.key) (fun z => h3 ((isKey k3).mp z))]
 by_cases h4 : x = z4
 ·rw [if_pos h4, List.find?_cons_of_pos (p := fun e : DictEntry => Value.isStrOf x e.key) ((isKey k4).mpr h4)]; rfl
 rw [if_neg h4, List.find?_cons_of_neg (p := fun e : DictEntry => Value.isStrOf x e.key) (fun z => h4 ((isKey k4).mp z))]
 by_cases h5 : x = z5
 ·rw [if_pos h5, List.find?_cons_of_pos (p := fun e : DictEntry => Value.isStrOf x e.key) ((isKey k5).mpr h5)]; rfl
 rw [if_neg h5, List.find?_cons_of_neg (p := fun e : DictEntry => Value.isStrOf x e.key) (fun z => h5 ((isKey k5).mp z))]
 by_cases h6 : x = z6
 ·rw [if_pos h6, List.find?_cons_of_pos (p := fun e : DictEntry => Value.isStrOf x e.key) ((isKey k6).mpr h6)]; rfl
 rw [if_neg h6, List.find?_cons_of_neg (p := fun e : DictEntry => Value.isStrOf x e.key) (fun z => h6 ((isKey k6).mp z))]
 by_cases h7 : x = z7
 ·rw [if_pos h7, List.find?_cons_of_pos (p := fun e : DictEntry => Value.isStrOf x e.key) ((isKey k7).mpr h7)]; rfl
 rw [if_neg h7, List.find?_cons_of_neg (p := fun e : DictEntry => Value.isStrOf x e.key) (fun z => h7 ((isKey k7).mp z))]
 by_cases h8 : x = z8
 ·rw [if_pos h8, List.find?_cons_of_pos (p := fun e : DictEntry => Value.isStrOf x e.key) ((isKey k8).mpr h8)]; rfl
 rw [if_neg h8, List.find?_cons_of_neg (p := fun e : DictEntry => Value.isStrOf x e.key) (fun z => h8 ((isKey k8).mp z))]
 rfl
open PySem.W in
theorem tupA {K : Frag} {a : Addr} {dd : Option Addr} {its : Array Value} {n : Nat} {sl : Array (Option Value)} {xs : List V} (n2 : K.lookup a = some ⟨.type "tuple", dd, .seq its n, sl⟩) (n3 : Vals xs its.toList) (hz : its.size ≤ sizeLine) : ∀ H, SqT K H a xs := fun _ => .inr ⟨_, its, n, n2, rfl, rfl, hz, n3⟩
open PySem.W in
theorem fmd_mk {K : Frag} {h : Heap} {mg : Str → Option Value} {prm : Params} {aF a1 a2 a3 a4 a5 a6 a7 a8 : Addr} {e1 e2 e3 e4 e5 e6 e7 e8 : DictEntry} {n : Nat} {t1 t2 t3 t4 t5 t6 t7 t8 : Tok} (X : K.In h) (G : h.Ns mainGlobals mg) (n1 : nsIn K mainGlobals "FORMS" = some (some (.ref aF))) (lk : K.lookup aF = some ⟨.type "dict", none, .dict #[e1, e2, e3, e4, e5, e6, e7, e8] n, #[]⟩)
  (k1 : e1.key = .str "ask" t1 ∧ e1.hash = PyData.keyHash prm "ask" ∧ e1.val = .ref a1) (k2 : e2.key = .str "carry" t2 ∧ e2.hash = PyData.keyHash prm "carry" ∧ e2.val = .ref a2) (k3 : e3.key = .str "write" t3 ∧ e3.hash = PyData.keyHash prm "write" ∧ e3.val = .ref a3) (k4 : e4.key = .str "make" t4 ∧ e4.hash = PyData.keyHash prm "make" ∧ e4.val = .ref a4) (k5 : e5.key = .str "news" t5 ∧ e5.hash = PyData.keyHash prm "news" ∧ e5.val = .ref a5) (k6 : e6.key = .str "back" t6 ∧ e6.hash = PyData.keyHash prm "back" ∧ e6.val = .ref a6) (k7 : e7.key = .str "fall" t7 ∧ e7.hash = PyData.keyHash prm "fall" ∧ e7.val = .ref a7) (k8 : e8.key = .str "rise" t8 ∧ e8.hash = PyData.keyHash prm "rise" ∧ e8.val = .ref a8)
  (hs : (aF == sysModules) = false) (h1 : ∀ H, SqT K H a1 ([("name" : Str)].map V.str)) (h2 : ∀ H, SqT K H a2 ([("number" : Str)].map V.str)) (h3 : ∀ H, SqT K H a3 ([("name" : Str), "reading"].map V.str)) (h4 : ∀ H, SqT K H a4 ([("name" : Str), "reading"].map V.str)) (h5 : ∀ H, SqT K H a5 ([("name" : Str), "name"].map V.str)) (h6 : ∀ H, SqT K H a6 ([("name" : Str)].map V.str)) (h7 : ∀ H, SqT K H a7 ([("name" : Str)].map V.str)) (h8 : ∀ H, SqT K H a8 ([("name" : Str)].map V.str)) :
  ∃ aF g, GlV mg "FORMS" (.ref aF) ∧ FmD K prm aF g := by
 refine ⟨aF, fun x => if x = "ask" then some (.ref a1) else if x = "carry" then some (.ref a2) else if x = "write" then some (.ref a3) else if x = "make" then some (.ref a4) else if x = "news" then some (.ref a5) else if x = "back" then some (.ref a6) else if x = "fall" then some (.ref a7) else if x = "rise" then some (.ref a8) else none, ⟨_, mg_of X G n1, rfl⟩, ⟨_, n, lk, ⟨⟨_, _, k1.1, k1.2.1⟩, ⟨_, _, k2.1, k2.2.1⟩, ⟨_, _, k3.1, k3.2.1⟩, ⟨_, _, k4.1, k4.2.1⟩, ⟨_, _, k5.1, k5.2.1⟩, ⟨_, _, k6.1, k6.2.1⟩, ⟨_, _, k7.1, k7.2.1⟩, ⟨_, _, k8.1, k8.2.1⟩, trivial⟩, hs, fun x => ?_⟩, fun z hz => ?_, fun z v hz => ?_⟩
 ·rw [find8 k1.1 k2.1 k3.1 k4.1 k5.1 k6.1 k7.1 k8.1, k1.2.2, k2.2.2, k3.2.2, k4.2.2, k5.2.2, k6.2.2, k7.2.2, k8.2.2]
  try dsimp only
  by_cases c1 : x = "ask"
  ·rw [if_pos c1, if_pos c1]; exact rfl
  rw [if_neg c1, if_neg c1]
  by_cases c2 : x = "carry"
  ·rw [if_pos c2, if_pos c2]; exact rfl
  rw [if_neg c2, if_neg c2]
  by_cases c3 : x = "write"
  ·rw [if_pos c3, if_pos c3]; exact rfl
  rw [if_neg c3, if_neg c3]
  by_cases c4 : x = "make"
  ·rw [if_pos c4, if_pos c4]; exact rfl
  rw [if_neg c4, if_neg c4]
  by_cases c5 : x = "news"
  ·rw [if_pos c5, if_pos c5]; exact rfl
  rw [if_neg c5, if_neg c5]
  by_cases c6 : x = "back"
  ·rw [if_pos c6, if_pos c6]; exact rfl
  rw [if_neg c6, if_neg c6]
  by_cases c7 : x = "fall"
  ·rw [if_pos c7, if_pos c7]; exact rfl
  rw [if_neg c7, if_neg c7]
  by_cases c8 : x = "rise"
  ·rw [if_pos c8, if_pos c8]; exact rfl
  rw [if_neg c8, if_neg c8]
  exact trivial
 ·try dsimp only at hz
  unfold formD
  by_cases c1 : z = "ask"
  ·rw [if_pos c1] at hz; cases hz
  rw [if_neg c1] at hz ⊢
  by_cases c2 : z = "carry"
  ·rw [if_pos c2] at hz; cases hz
  rw [if_neg c2] at hz ⊢
  by_cases c3 : z = "write"
  ·rw [if_pos c3] at hz; cases hz
  rw [if_neg c3] at hz ⊢
  by_cases c4 : z = "make"
  ·rw [if_pos c4] at hz; cases hz
  rw [if_neg c4] at hz ⊢
  by_cases c5 : z = "news"
  ·rw [if_pos c5] at hz; cases hz
  rw [if_neg c5] at hz ⊢
  by_cases c6 : z = "back"
  ·rw [if_pos c6] at hz; cases hz
  rw [if_neg c6] at hz ⊢
  by_cases c7 : z = "fall"
  ·rw [if_pos c7] at hz; cases hz
  rw [if_neg c7] at hz ⊢
  by_cases c8 : z = "rise"
  ·rw [if_pos c8] at hz; cases hz
  rw [if_neg c8]
 ·try dsimp only at hz
  unfold formD
  by_cases c1 : z = "ask"
  ·rw [if_pos c1] at hz ⊢; cases hz; exact ⟨a1, _, rfl, rfl, h1⟩
  rw [if_neg c1] at hz ⊢
  by_cases c2 : z = "carry"
  ·rw [if_pos c2] at hz ⊢; cases hz; exact ⟨a2, _, rfl, rfl, h2⟩
  rw [if_neg c2] at hz ⊢
  by_cases c3 : z = "write"
  ·rw [if_pos c3] at hz ⊢; cases hz; exact ⟨a3, _, rfl, rfl, h3⟩
  rw [if_neg c3] at hz ⊢
  by_cases c4 : z = "make"
  ·rw [if_pos c4] at hz ⊢; cases hz; exact ⟨a4, _, rfl, rfl, h4⟩
  rw [if_neg c4] at hz ⊢
  by_cases c5 : z = "news"
  ·rw [if_pos c5] at hz ⊢; cases hz; exact ⟨a5, _, rfl, rfl, h5⟩
  rw [if_neg c5] at hz ⊢
  by_cases c6 : z = "back"
  ·rw [if_pos c6] at hz ⊢; cases hz; exact ⟨a6, _, rfl, rfl, h6⟩
  rw [if_neg c6] at hz ⊢
  by_cases c7 : z = "fall"
  ·rw [if_pos c7] at hz ⊢; cases hz; exact ⟨a7, _, rfl, rfl, h7⟩
  rw [if_neg c7] at hz ⊢
  by_cases c8 : z = "rise"
  ·rw [if_pos c8] at hz ⊢; cases hz; exact ⟨a8, _, rfl, rfl, h8⟩
  rw [if_neg c8] at hz; cases hz
open PySem.W in
theorem er92_mk {K : Frag} {h : Heap} {mg : Str → Option Value} {cb : _} {CB CR d1 d2 d3 d4 : Addr} (X : K.In h) (G : h.Ns mainGlobals mg) (a0 : nsIn K mainGlobals "NoText" = some (some (.ref CB))) (a1 : nsIn K mainGlobals "RiseError" = some (some (.ref CR))) (a2 : nsIn K mainGlobals "BadDeed" = some (some (.ref d1))) (a3 : nsIn K mainGlobals "NoCode" = some (some (.ref d2))) (a4 : nsIn K mainGlobals "NoHand" = some (some (.ref d3))) (a5 : nsIn K mainGlobals "NoLine" = some (some (.ref d4)))
  (o1 : excIn K CB vErr "ValueError.__new__" = true) (o2 : findIn K (.ref CB) "__init__" = some (some (.builtin "ValueError.__init__"))) (o3 : keepIn K (.ref CB) = true)
  (g1 : findIn K (.ref CB) "__getattribute__" = some (some (.builtin "BaseException.__getattribute__"))) (g2 : findIn K (.ref CB) "__getattr__" = some none) (g3 : mroIn K CB (.type "BaseException") = some true) (g4 : mroIn K CB (.type "object") = some true)
  (g5 : findIn K (.ref CB) "__class__" = some (some (.builtin "object.__class__"))) (g6 : specialIn K (.builtin "object.__class__") "__get__" = some (some (.builtin "getset_descriptor.__get__"))) (g7 : takesIn K (.builtin "object.__class__") = some true) (g8 : clsIn K CB = some cb)
  (e1 : exmOne K (.ref CB) (.ref CB) = some true) (e3 : kitOne K (.ref CB) (.ref CR) = some true)
  (e6 : kitAny K (.ref CB) [.ref d1, .ref d2, .ref d3, .ref d4] = some false) : ∃ CB CR d1 d2 d3 d4 : Addr, mg "NoText" = some (.ref CB) ∧ mg "RiseError" = some (.ref CR) ∧ mg "BadDeed" = some (.ref d1) ∧ mg "NoCode" = some (.ref d2) ∧ mg "NoHand" = some (.ref d3) ∧ mg "NoLine" = some (.ref d4) ∧ ECls K mg "NoText" CB ∧ Er92 K CB CR [d1, d2, d3, d4] :=
 ⟨CB, CR, d1, d2, d3, d4, mg_of X G a0, mg_of X G a1, mg_of X G a2, mg_of X G a3, mg_of X G a4, mg_of X G a5, ⟨exc1_ofIn o1, o2, o3, mg_of X G a0⟩, ⟨g1, g2, g3, g4, g5, g6, g7, some_is g8⟩, e1, e3, e6⟩
end Law
open PySem PySem.W PyProof.Rows
local macro_rules | `(tactic| walk_at "dat") => `(tactic| (dsimp only [L2.KOf]; refine' L3.dat_mk KX G ?a ?l ?c ?k ?b; (case a => k_is); (case l => k_is); (case c => k_is); (case k => k_is); (case b => first | exact (fun _ _ _ _ _ _ us hl => match us, hl with | [_], _ => rfl) | exact (fun _ _ _ _ _ _ us hl => match us, hl with | [_, _], _ => rfl) | exact (fun _ _ _ _ _ _ us hl => match us, hl with | [_, _, _], _ => rfl) | exact (fun _ _ _ _ _ _ us hl => match us, hl with | [_, _, _, _], _ => rfl) | exact (fun _ _ _ _ _ _ us hl => match us, hl with | [_, _, _, _, _], _ => rfl))))
namespace PySem.W.Fast
def tw1043640086029773644 : Unit := ()
def tw17646121220452874523 : Unit := ()
def tw12248304784356387638 : Unit := ()
def tw13261489854901122355 : Unit := ()
def tw8494446675057606518 : Unit := ()
def tw2793236777084676664 : Unit := ()
def tw13937011688490759836 : Unit := ()
def tw16737804054925827699 : Unit := ()
def tw5642084912281106864 : Unit := ()
def tw5418340787564397036 : Unit := ()
def tw8122850841660346740 : Unit := ()
def tw6542052923575845338 : Unit := ()
def tw13541002869177883979 : Unit := ()
def tw15565814329733331863 : Unit := ()
def tw8398407620779684292 : Unit := ()
def tw13364855102343801679 : Unit := ()
def tw1651744322226854881 : Unit := ()
def tw1938323339789824689 : Unit := ()
def tw174191246568918257 : Unit := ()
def tw14022915497047303590 : Unit := ()
def tw4351115657882184181 : Unit := ()
def tw5272854778848060272 : Unit := ()
def tw10522764022279964007 : Unit := ()
def tw9384491832177353027 : Unit := ()
def tw3933959157742758130 : Unit := ()
def tw5572326382875787343 : Unit := ()
def tw14839167904966831149 : Unit := ()
def tw16302627580109986094 : Unit := ()
def tw18119329919949678367 : Unit := ()
def tw16891968100249861285 : Unit := ()
def tw3991782729934405176 : Unit := ()
def tw10127718455108417223 : Unit := ()
def tw15335547173703620230 : Unit := ()
def tw1544758674951326893 : Unit := ()
def tw2439094606565111476 : Unit := ()
def tw11046248254763327965 : Unit := ()
def tw1539574054587977174 : Unit := ()
def tw1587676054482646964 : Unit := ()
def tw160060923922010423 : Unit := ()
def tw7766470494780032092 : Unit := ()
def tw5315542236310266259 : Unit := ()
def tw18068190005276194696 : Unit := ()
def tw17292891492510264539 : Unit := ()
def tw5944662072324694226 : Unit := ()
def tw594345275426249432 : Unit := ()
def tw1626992466100406404 : Unit := ()
def tw3345400451642095172 : Unit := ()
def tw13382792873850066499 : Unit := ()
def tw3599160323920166404 : Unit := ()
def tw15020477111762795499 : Unit := ()
def tw3242718286745105329 : Unit := ()
def tw13326566603948266994 : Unit := ()
def tw8683695882601860958 : Unit := ()
def tw15527783180368441415 : Unit := ()
def tw108440718923872280 : Unit := ()
def tw16788528712574362415 : Unit := ()
def tw15858482927030633592 : Unit := ()
def tw13699031488994546639 : Unit := ()
def tw17816048882736681624 : Unit := ()
def tw17943549472699239580 : Unit := ()
def tw14505561607916561027 : Unit := ()
def tw9969605302915221393 : Unit := ()
end PySem.W.Fast
set_option maxHeartbeats 0 in
theorem PySem.Challenge.cw_risemarks_k92_deeds_written_holds : PySem.Challenge.rw_risemarks_k92_deeds_written.Holds := by
 w_on; o_law; k_head; (case hw => w_witness2)
 k_fill
 refine L4.walk_ofX (l := PySem.Challenge.rw_risemarks_k92_deeds_written) (n := 63) (k := 15) (x := "_law_script") (CX := L4.CX1) (sp := Law.spLaw) rfl (by decide) rfl ⟨rfl, by decide, by decide⟩ (fun w h Y => PySem.W.kIn_of Y) ?F ?S ?C
 case S => exact fun K H a ns hl hO hS => ⟨a, ns, rfl, hS, hl, fun _ => rfl⟩
 case C => exact fun P w H s e s' z => L4.noErr1 _ _ _ _ _ z
 case F =>
  intro w mg fa h KX G hmg
  have BT : L3.Bt mg := by
   refine' ⟨?_, ?_, ?_, ?_, ?_, ?_, ?_, ?_, ?_, ?_, ?_, ?_, ?_, ?_, ?_, ?_, ?_, ?_⟩ <;> refine' PySem.W.mg_none_of KX G ?_ <;> k_is
  have D_is_whole : L3.Dat (L2.KOf KX) mg "is_whole" "is_whole" (Law.top 11) ["thing"] := by walk_at "dat"
  have D_is_whole_from : L3.Dat (L2.KOf KX) mg "is_whole_from" "is_whole_from" (Law.top 12) ["thing", "least"] := by walk_at "dat"
  have D_is_number : L3.Dat (L2.KOf KX) mg "is_number" "is_number" (Law.top 13) ["thing"] := by walk_at "dat"
  have D_is_name : L3.Dat (L2.KOf KX) mg "is_name" "is_name" (Law.top 14) ["thing"] := by walk_at "dat"
  have D_first_of : L3.Dat (L2.KOf KX) mg "first_of" "first_of" (Law.top 16) ["area"] := by walk_at "dat"
  have D_end_of : L3.Dat (L2.KOf KX) mg "end_of" "end_of" (Law.top 17) ["area"] := by walk_at "dat"
  have D_is_stretch : L3.Dat (L2.KOf KX) mg "is_stretch" "is_stretch" (Law.top 19) ["thing"] := by walk_at "dat"
  have D_is_of_kind : L3.Dat (L2.KOf KX) mg "is_of_kind" "is_of_kind" (Law.top 20) ["thing", "kind"] := by walk_at "dat"
  have D_are_of_kinds : L3.Dat (L2.KOf KX) mg "are_of_kinds" "are_of_kinds" (Law.top 21) ["things", "kinds"] := by walk_at "dat"
  have D_has_word : L3.Dat (L2.KOf KX) mg "has_word" "has_word" (Law.top 22) ["thing"] := by walk_at "dat"
  have D_is_deed : L3.Dat (L2.KOf KX) mg "is_deed" "is_deed" (Law.top 25) ["thing"] := by walk_at "dat"
  have D_need : L3.Dat (L2.KOf KX) mg "need" "need" (Law.top 29) ["is_right"] := by walk_at "dat"
  have D_words_of : L3.Dat (L2.KOf KX) mg "words_of" "words_of" (Law.top 30) ["text"] := by walk_at "dat"
  have D_read_number : L3.Dat (L2.KOf KX) mg "read_number" "read_number" (Law.top 31) ["word"] := by walk_at "dat"
  have D_things_text : L3.Dat (L2.KOf KX) mg "things_text" "things_text" (Law.top 32) ["things", "sign"] := by walk_at "dat"
  have D_deed_text : L3.Dat (L2.KOf KX) mg "deed_text" "deed_text" (Law.top 33) ["deed"] := by walk_at "dat"
  have D_read_thing : L3.Dat (L2.KOf KX) mg "read_thing" "read_thing" (Law.top 34) ["word"] := by walk_at "dat"
  have D_read_deed : L3.Dat (L2.KOf KX) mg "read_deed" "read_deed" (Law.top 35) ["text"] := by walk_at "dat"
  have D__law_hand : L3.Dat (L2.KOf KX) mg "_law_hand" "_law_hand" (Law.top 37) ["_law_script", "_law_k"] := by walk_at "dat"
  have D__law_pick : L3.Dat (L2.KOf KX) mg "_law_pick" "_law_pick" (Law.top 38) ["_law_hand_here", "_law_many"] := by walk_at "dat"
  have D__law_whole : L3.Dat (L2.KOf KX) mg "_law_whole" "_law_whole" (Law.top 39) ["_law_found"] := by walk_at "dat"
  have D__law_names : L3.Dat (L2.KOf KX) mg "_law_names" "_law_names" (Law.top 40) ["_law_cell", "_law_many"] := by walk_at "dat"
  have D__law_deed : L3.Dat (L2.KOf KX) mg "_law_deed" "_law_deed" (Law.top 41) ["_law_cell", "_law_names_here"] := by walk_at "dat"
  have D__law_spoilt : L3.Dat (L2.KOf KX) mg "_law_spoilt" "_law_spoilt" (Law.top 42) ["_law_words", "_law_cell"] := by walk_at "dat"
  have D__law_name : L3.Dat (L2.KOf KX) mg "_law_name" "_law_name" (Law.top 43) ["_law_word"] := by walk_at "dat"
  have D__law_number : L3.Dat (L2.KOf KX) mg "_law_number" "_law_number" (Law.top 44) ["_law_word"] := by walk_at "dat"
  have D__law_due : L3.Dat (L2.KOf KX) mg "_law_due" "_law_due" (Law.top 45) ["_law_text"] := by walk_at "dat"
  have D__law_refused : L3.Dat (L2.KOf KX) mg "_law_refused" "_law_refused" (Law.top 46) ["_law_thing"] := by walk_at "dat"
  have D__law_reads : L3.Dat (L2.KOf KX) mg "_law_reads" "_law_reads" (Law.top 47) ["_law_text", "_law_due_here"] := by walk_at "dat"
  have D_law : L3.Dat (L2.KOf KX) mg "law" "law" (Law.top 48) ["_law_script"] := by walk_at "dat"
  have g_FIG : L3.GlV mg "FIGURES" (.str Law.figs) := by
   refine' ⟨_, PySem.W.mg_of KX G ?_, ?_⟩
   rotate_left
   ·k_is
   ·exact ⟨_, rfl⟩
  have g_MOST : L3.GlV mg "MOST_FIGURES" (.int 40) := by
   refine' ⟨_, PySem.W.mg_of KX G ?_, ?_⟩
   rotate_left
   ·k_is
   ·exact ⟨_, rfl⟩
  have g_LAST : L3.GlV mg "LAST" (.int 1000000000000000000000000000000) := by
   refine' ⟨_, PySem.W.mg_of KX G ?_, ?_⟩
   rotate_left
   ·k_is
   ·exact ⟨_, rfl⟩
  have g_LETTERS : L3.GlV mg "LETTERS" (.str Law.lets) := by
   refine' ⟨_, PySem.W.mg_of KX G ?_, ?_⟩
   rotate_left
   ·k_is
   ·exact ⟨_, rfl⟩
  have g_LONG : L3.GlV mg "LONGEST_NAME" (.int 8) := by
   refine' ⟨_, PySem.W.mg_of KX G ?_, ?_⟩
   rotate_left
   ·k_is
   ·exact ⟨_, rfl⟩
  obtain ⟨aF, g, g_FORMS, FM⟩ : ∃ aF g, L3.GlV mg "FORMS" (.ref aF) ∧ Law.FmD (L2.KOf KX) w.params aF g := by
   dsimp only [L2.KOf]
   refine' Law.fmd_mk KX G ?n1 ?lk ?k1 ?k2 ?k3 ?k4 ?k5 ?k6 ?k7 ?k8 ?hs (Law.tupA ?p1 ?q1 ?r1) (Law.tupA ?p2 ?q2 ?r2) (Law.tupA ?p3 ?q3 ?r3) (Law.tupA ?p4 ?q4 ?r4) (Law.tupA ?p5 ?q5 ?r5) (Law.tupA ?p6 ?q6 ?r6) (Law.tupA ?p7 ?q7 ?r7) (Law.tupA ?p8 ?q8 ?r8)
   (case n1 => k_is); (case lk => k_is); (case k1 => exact ⟨rfl, rfl, rfl⟩); (case k2 => exact ⟨rfl, rfl, rfl⟩); (case k3 => exact ⟨rfl, rfl, rfl⟩); (case k4 => exact ⟨rfl, rfl, rfl⟩); (case k5 => exact ⟨rfl, rfl, rfl⟩); (case k6 => exact ⟨rfl, rfl, rfl⟩); (case k7 => exact ⟨rfl, rfl, rfl⟩); (case k8 => exact ⟨rfl, rfl, rfl⟩); (case hs => rfl)
   (case p1 => k_is); (case p2 => k_is); (case p3 => k_is); (case p4 => k_is); (case p5 => k_is); (case p6 => k_is); (case p7 => k_is); (case p8 => k_is)
   (case q1 => exact .cons ⟨_, rfl⟩ .nil); (case q2 => exact .cons ⟨_, rfl⟩ .nil); (case q3 => exact .cons ⟨_, rfl⟩ (.cons ⟨_, rfl⟩ .nil)); (case q4 => exact .cons ⟨_, rfl⟩ (.cons ⟨_, rfl⟩ .nil)); (case q5 => exact .cons ⟨_, rfl⟩ (.cons ⟨_, rfl⟩ .nil)); (case q6 => exact .cons ⟨_, rfl⟩ .nil); (case q7 => exact .cons ⟨_, rfl⟩ .nil); (case q8 => exact .cons ⟨_, rfl⟩ .nil)
   (case r1 => exact Nat.le_of_lt (L2.small1000 (by decide))); (case r2 => exact Nat.le_of_lt (L2.small1000 (by decide))); (case r3 => exact Nat.le_of_lt (L2.small1000 (by decide))); (case r4 => exact Nat.le_of_lt (L2.small1000 (by decide))); (case r5 => exact Nat.le_of_lt (L2.small1000 (by decide))); (case r6 => exact Nat.le_of_lt (L2.small1000 (by decide))); (case r7 => exact Nat.le_of_lt (L2.small1000 (by decide))); (case r8 => exact Nat.le_of_lt (L2.small1000 (by decide)))
  obtain ⟨CB, CR, d1, d2, d3, d4, h_NoText, h_RiseError, h_BadDeed, h_NoCode, h_NoHand, h_NoLine, OB, ER⟩ : ∃ CB CR d1 d2 d3 d4 : PySem.Addr, mg "NoText" = some (.ref CB) ∧ mg "RiseError" = some (.ref CR) ∧ mg "BadDeed" = some (.ref d1) ∧ mg "NoCode" = some (.ref d2) ∧ mg "NoHand" = some (.ref d3) ∧ mg "NoLine" = some (.ref d4) ∧ L4.ECls (L2.KOf KX) mg "NoText" CB ∧ Law.Er92 (L2.KOf KX) CB CR [d1, d2, d3, d4] := by
   dsimp only [L2.KOf]
   refine' Law.er92_mk KX G ?a0 ?a1 ?a2 ?a3 ?a4 ?a5 ?o1 ?o2 ?o3 ?g1 ?g2 ?g3 ?g4 ?g5 ?g6 ?g7 ?g8 ?e1 ?e3 ?e6
   (case a0 => k_is); (case a1 => k_is); (case a2 => k_is); (case a3 => k_is); (case a4 => k_is); (case a5 => k_is); (case o1 => k_exc); (case o2 => k_is); (case o3 => k_is); (case g1 => k_is); (case g2 => k_is); (case g3 => k_is); (case g4 => k_is); (case g5 => k_is); (case g6 => k_is); (case g7 => k_is); (case g8 => k_is); (case e1 => kts_exm); (case e3 => kit_is); (case e6 => kit_is)
  obtain ⟨f, fd, F, b, m⟩ := D_law.ex
  have e := hmg.symm.trans m
  cases e
  obtain ⟨oc, od, kV, doc, pm, an, cdv, ct, osl, rfl, lk, hcd⟩ := id F.ex
  refine ⟨PySem.W.fnOf "law" "law" (L2.defArgs (Law.top 48)) (L2.defBody (Law.top 48)) (L2.defScope (Law.top 48)) .none kV doc pm an cdv ct, fun s u => .of_eq rfl, fun base kb nb => ?_⟩
  have NE := @L4.noErr1 PySem.Challenge.rw_risemarks_k92_deeds_written.prog w
  have c_pick := Law.ok_pick (P := PySem.Challenge.rw_risemarks_k92_deeds_written.prog) (w := w) (base := base) D__law_pick NE
  have c_need := Law.ok_need (P := PySem.Challenge.rw_risemarks_k92_deeds_written.prog) (w := w) (base := base) D_need OB
  have c_num := Law.ok_rnum D_read_number BT NE g_FIG g_MOST c_need
  have c_whole := Law.ok_whole (P := PySem.Challenge.rw_risemarks_k92_deeds_written.prog) (w := w) (base := base) (CX := L4.CX1 PySem.Challenge.rw_risemarks_k92_deeds_written.prog w) D_is_whole BT
  have c_from := Law.ok_from D_is_whole_from NE c_whole
  have c_name := Law.ok_name (P := PySem.Challenge.rw_risemarks_k92_deeds_written.prog) (w := w) (base := base) (CX := L4.CX1 PySem.Challenge.rw_risemarks_k92_deeds_written.prog w) D_is_name BT NE g_LETTERS g_LONG
  have c_first := Law.ok_first (P := PySem.Challenge.rw_risemarks_k92_deeds_written.prog) (w := w) (base := base) (CX := L4.CX1 PySem.Challenge.rw_risemarks_k92_deeds_written.prog w) D_first_of
  have c_end := Law.ok_end (P := PySem.Challenge.rw_risemarks_k92_deeds_written.prog) (w := w) (base := base) (CX := L4.CX1 PySem.Challenge.rw_risemarks_k92_deeds_written.prog w) D_end_of
  have c_kinds := Law.ok_kinds D_are_of_kinds BT NE (Law.ok_kind D_is_of_kind NE c_name (Law.ok_isnum D_is_number NE g_LAST c_from) (Law.ok_stretch D_is_stretch BT NE c_from c_first c_end) c_from)
  have c_deed := Law.ok_deed D_is_deed BT NE FM g_FORMS (Law.ok_hasword D_has_word BT) c_kinds
  have c_words := Law.ok_words D_words_of BT NE c_need
  have c_thing := Law.ok_rthing D_read_thing BT NE g_FIG c_num
  have c_rdeed := Law.ok_rdeed D_read_deed BT NE c_need c_words c_thing c_deed
  have c_ref := Law.ok_refused D__law_refused BT ER h_NoText h_RiseError h_BadDeed h_NoCode h_NoHand h_NoLine c_rdeed
  have c_reads := Law.ok_reads D__law_reads BT NE c_ref (Law.ok_lwhole D__law_whole BT).cal c_rdeed
  have c_ttext := Law.ok_ttext (P := PySem.Challenge.rw_risemarks_k92_deeds_written.prog) (w := w) (base := base) (CX := L4.CX1 PySem.Challenge.rw_risemarks_k92_deeds_written.prog w) D_things_text BT
  have c_lname := Law.ok_lname (P := PySem.Challenge.rw_risemarks_k92_deeds_written.prog) (w := w) (base := base) (CX := L4.CX1 PySem.Challenge.rw_risemarks_k92_deeds_written.prog w) D__law_name BT
  have c_lnum := Law.ok_lnum (P := PySem.Challenge.rw_risemarks_k92_deeds_written.prog) (w := w) (base := base) (CX := L4.CX1 PySem.Challenge.rw_risemarks_k92_deeds_written.prog w) D__law_number BT
  exact Law.ok_law F BT NE (Law.ok_hand D__law_hand BT) c_pick (Law.ok_names D__law_names BT NE c_pick) (Law.ok_ldeed D__law_deed BT NE c_pick) (Law.ok_dtext D_deed_text NE c_ttext) c_reads (Law.ok_lspo D__law_spoilt BT NE c_pick) (Law.ok_ldue D__law_due BT NE c_lname c_lnum) c_ref
end

