import PyProof.Rows.All
import Wide.All
import OpenK.AllK
import Wide.FinOn
import PyProof.EqAt
import PyProof.EqKinds
import PyProof.TupleCall
import Lean
import PySem.Challenge.RW_risemarks_k46_whole_none_meet
section
set_option Elab.async false
set_option linter.all false
set_option maxRecDepth 100000
set_option maxHeartbeats 4000000
namespace L2
open PySem PySem.Spec PyProof.Rows

abbrev Key := Sum Int Str
def keyIs : Key → Value → Bool
  | .inl k, v => Value.isInt k v
  | .inr x, v => Value.isStrOf x v
def keyH (w : World) : Key → Int
  | .inl k => hashInt k
  | .inr x => hashStr w x
theorem keyIs_shape : ∀ {k : Key} {v : Value}, keyIs k v = true → (∃ i t, k = Sum.inl i ∧ v = Value.int i t) ∨ (∃ x t, k = Sum.inr x ∧ v = Value.str x t)
  | .inl i, v, h => by
    obtain ⟨t, e⟩ := Value.isInt_shape (k := i) (v := v) h
    exact .inl ⟨i, t, rfl, e⟩
  | .inr x, v, h => by
    obtain ⟨t, e⟩ := Value.isStrOf_shape (x := x) (v := v) h
    exact .inr ⟨x, t, rfl, e⟩
theorem keyIs_int (i : Int) (t : Tok) : keyIs (.inl i) (.int i t) = true := by simp [keyIs, Value.isInt]
theorem keyIs_str (x : Str) (t : Tok) : keyIs (.inr x) (.str x t) = true := by simp [keyIs, Value.isStrOf]
theorem key_ll (a b : Int) : decide ((Sum.inl a : Key) = Sum.inl b) = (a == b) := by
  by_cases e : a = b
  · subst e; simp
  · have h : ¬ (Sum.inl a : Key) = Sum.inl b := fun q => e (Sum.inl.inj q)
    rw [decide_eq_false h]
    exact (beq_eq_false_iff_ne.mpr e).symm
theorem key_rr (a b : Str) : decide ((Sum.inr a : Key) = Sum.inr b) = decide (a = b) := by
  by_cases e : a = b
  · subst e; simp
  · have h : ¬ (Sum.inr a : Key) = Sum.inr b := fun q => e (Sum.inr.inj q)
    rw [decide_eq_false h, decide_eq_false e]
theorem key_lr (a : Int) (b : Str) : decide ((Sum.inl a : Key) = Sum.inr b) = false := decide_eq_false (fun q => nomatch q)
theorem key_rl (a : Str) (b : Int) : decide ((Sum.inr a : Key) = Sum.inl b) = false := decide_eq_false (fun q => nomatch q)

def mixKind (prog : Program) (w : World) : PySem.KeyKind prog w Key where
  is := keyIs
  hash := keyH w
  inj := fun v a b ha hb => by
    rcases keyIs_shape ha with ⟨i, t, rfl, rfl⟩ | ⟨x, t, rfl, rfl⟩
    · rcases keyIs_shape hb with ⟨j, u, rfl, e⟩ | ⟨y, u, rfl, e⟩
      · injection e with e1 _; rw [e1]
      · exact nomatch e
    · rcases keyIs_shape hb with ⟨j, u, rfl, e⟩ | ⟨y, u, rfl, e⟩
      · exact nomatch e
      · injection e with e1 _; rw [e1]
  byValue := fun k v h => by
    rcases keyIs_shape h with ⟨i, t, rfl, rfl⟩ | ⟨x, t, rfl, rfl⟩ <;> rfl
  pyHash := fun hv h => by
    rcases keyIs_shape hv with ⟨i, t, rfl, rfl⟩ | ⟨x, t, rfl, rfl⟩
    · exact wpAny_pyHash_int h
    · exact wpAny_pyHash_str h
  eqBool := fun hu hv h => by
    rcases keyIs_shape hu with ⟨i, t, rfl, rfl⟩ | ⟨x, t, rfl, rfl⟩
    · rcases keyIs_shape hv with ⟨j, u, rfl, rfl⟩ | ⟨y, u, rfl, rfl⟩
      · rw [key_ll] at h; exact wpAny_eqBool_int h
      · rw [key_lr] at h; exact SeqAt.EqAt.int_str i t y u _ _ _ _ h
    · rcases keyIs_shape hv with ⟨j, u, rfl, rfl⟩ | ⟨y, u, rfl, rfl⟩
      · rw [key_rl] at h; exact SeqAt.EqAt.str_int x t j u _ _ _ _ h
      · rw [key_rr] at h; exact wpAny_eqBool_str h
  «strs» := fun k x t v h => by
    rcases keyIs_shape h with ⟨i, u, rfl, e⟩ | ⟨y, u, rfl, e⟩
    · exact nomatch e
    · injection e with e1 _
      subst e1
      cases v <;> rfl

theorem mixKind_is (prog : Program) (w : World) (k : Key) (v : Value) : (mixKind prog w).is k v = keyIs k v := rfl
theorem mixKind_int (prog : Program) (w : World) (i : Int) (t : Tok) : (mixKind prog w).is (.inl i) (.int i t) = true := keyIs_int i t
theorem mixKind_str (prog : Program) (w : World) (x : Str) (t : Tok) : (mixKind prog w).is (.inr x) (.str x t) = true := keyIs_str x t
end L2

namespace L2
open PySem PySem.Spec PyProof.Rows

inductive V where
  | non | bl (b : Bool) | int (i : Int) | str (x : Str) | byt (b : Array UInt8) | flt (b : UInt64) | ref (a : Addr) | ty (n : String)
  deriving DecidableEq

def RelV : V → Value → Prop
  | .non, u => u = Value.none
  | .bl b, u => u = Value.bool b
  | .int i, u => ∃ t, u = Value.int i t
  | .str x, u => ∃ t, u = Value.str x t
  | .byt b, u => ∃ t, u = Value.bytes b t
  | .flt b, u => ∃ t, u = Value.float b t
  | .ref a, u => u = Value.ref a
  | .ty n, u => u = Value.type n

abbrev Vals : List V → List Value → Prop := Paired RelV
theorem Vals.length {xs : List V} {us : List Value} (r : Vals xs us) : xs.length = us.length := Paired.length r
theorem Vals.get : ∀ {xs : List V} {us : List Value} {i : Nat} {x : V}, Vals xs us → xs[i]? = some x → ∃ u, us[i]? = some u ∧ RelV x u
  | _, _, _, _, .nil, e => by simp at e
  | _, _, 0, _, .cons r _, e => by simp at e; subst e; exact ⟨_, rfl, r⟩
  | _, _, i + 1, x, .cons _ t, e => by
    obtain ⟨u, h1, h2⟩ := Vals.get (i := i) (x := x) t (by simpa using e)
    exact ⟨u, by simpa using h1, h2⟩
theorem Vals.set {x : V} {u : Value} (r : RelV x u) : ∀ {xs : List V} {us : List Value} (i : Nat), Vals xs us → Vals (xs.set i x) (us.set i u)
  | _, _, _, .nil => .nil
  | _, _, 0, .cons _ t => .cons r t
  | _, _, i + 1, .cons q t => .cons q (Vals.set r i t)
theorem Vals.append : ∀ {xs ys : List V} {us ws : List Value}, Vals xs us → Vals ys ws → Vals (xs ++ ys) (us ++ ws)
  | _, _, _, _, .nil, s => s
  | _, _, _, _, .cons r t, s => .cons r (Vals.append t s)
theorem Vals.take : ∀ {xs : List V} {us : List Value} (n : Nat), Vals xs us → Vals (xs.take n) (us.take n)
  | _, _, 0, _ => .nil
  | _, _, _ + 1, .nil => .nil
  | _, _, n + 1, .cons r t => .cons r (Vals.take n t)
theorem Vals.drop : ∀ {xs : List V} {us : List Value} (n : Nat), Vals xs us → Vals (xs.drop n) (us.drop n)
  | _, _, 0, r => r
  | _, _, _ + 1, .nil => .nil
  | _, _, n + 1, .cons _ t => Vals.drop n t
def RelO : Option V → Option Value → Prop
  | some v, some u => RelV v u
  | none, none => True
  | _, _ => False
def KV {κ : Type} : List (κ × V) → List (κ × Value) → Prop := Paired fun (p : κ × V) (q : κ × Value) => p.1 = q.1 ∧ RelV p.2 q.2

def kV : Key → V
  | .inl i => .int i
  | .inr x => .str x

inductive HO where
    | lst (xs : List V)
    | tup (xs : List V)
    | dK (kvs : List (Key × V)) | dT (kvs : List (List Key × V))
    | set (S : Int → Bool) (n : Nat)
    | ins (C dx : Addr) (fs : List (Str × V))
    | own (x : Addr)
    | xd (fs : List (Str × V))
    | met (f x : Addr)
    | rng (lo hi : Int)
    | frz (o : Obj) (u : HO)
    | tbl (ps : Array Value)
    | ext (φ : Heap → Prop)

abbrev Hp := Addr → Option HO
def upd (H : Hp) (a : Addr) (o : HO) : Hp := fun b => if b = a then some o else H b
theorem upd_same {H : Hp} {a : Addr} {o : HO} : upd H a o a = some o := by unfold upd; rw [if_pos rfl]
theorem upd_ne {H : Hp} {a b : Addr} {o : HO} (h : b ≠ a) : upd H a o b = H b := by unfold upd; rw [if_neg h]
theorem upd_upd {H : Hp} {a : Addr} {o u : HO} : upd (upd H a o) a u = upd H a u := by
  funext b; unfold upd; split <;> rfl
theorem ne_of {H : Hp} {a b : Addr} {o u : HO} (h : H a = some o) (h' : H b = some u) (d : o ≠ u) : a ≠ b := by
  intro e; subst e; rw [h] at h'; exact d (Option.some.inj h')
theorem ne_of_none {H : Hp} {a b : Addr} {o : HO} (h : H a = some o) (h' : H b = none) : a ≠ b := by
  intro e; subst e; rw [h] at h'; cases h'

section
variable (P : Program) (w : World)
def ObjOk (H : Hp) (h : Heap) (a : Addr) : HO → Prop
  | .lst xs => xs.length ≤ sizeLine ∧ ∃ (its : List Value) (n : Nat), Vals xs its ∧ h.get? a = some { cls := .type "list", data := .seq its.toArray n }
  | .tup xs => xs.length ≤ sizeLine ∧ ∃ its : List Value, Vals xs its ∧ IsTup h a its.toArray
  | .dK kvs => kvs.length ≤ sizeLine ∧ (a == sysModules) = false ∧ ∃ vs, KV kvs vs ∧ h.DictOf (mixKind P w) a vs
  | .dT kvs => kvs.length ≤ sizeLine ∧ (a == sysModules) = false ∧ ∃ xs : List (List Key × Addr × Value),
      Paired (fun (p : List Key × V) (q : List Key × Addr × Value) => p.1 = q.1 ∧ H q.2.1 = some (.tup (p.1.map kV)) ∧ RelV p.2 q.2.2) kvs xs ∧
      ∃ o es ep, h.get? a = some o ∧ o.ExactDict ∧ o.data = .dict es ep ∧ es.toList = xs.map (entryOfKey (tupleKind (mixKind P w))) ∧ (xs.map (·.1)).Nodup
  | .set S n => h.SetOf (intKind P w) a S n
  | .ins C dx fs => H dx = some (.own a) ∧ fs.length ≤ 1000 ∧ dx ≠ a ∧ h.get? a = some (PySem.W.instObj C dx) ∧
      ∃ mA, h.Ns1 dx mA ∧ (∀ f, RelO (fs.lookup f) (mA f)) ∧ PySem.Within mA (fs.map (·.1))
  | .own _ => ∃ o, h.get? a = some o
  | .xd fs => ∃ mA, h.Ns1 a mA ∧ ∀ f, RelO (fs.lookup f) (mA f)
  | .rng lo hi => ∃ t u v, h.get? a = some { cls := .type "range", data := .fields #[.int lo t, .int hi u, .int 1 v] }
  | .frz o u => h.get? a = some o ∧ ObjOk H h a u
  | .tbl ps => h.get? a = some { cls := .none, data := .fields ps }
  | .met f x => h.get? a = some (PySem.W.methodObj (.ref f) (.ref x))
  | .ext φ => φ h ∧ (∃ o, h.get? a = some o) ∧ ∀ h1 h2 : Heap, φ h1 → (∀ o, h1.get? a = some o → h2.get? a = some o) → φ h2
def HOk (H : Hp) (h : Heap) : Prop := ∀ a o, H a = some o → ObjOk P w H h a o
end

section
variable {P : Program} {w : World} {H H' : Hp} {h h' : Heap} {a : Addr} {o : HO}
theorem ObjOk.lt (x : ObjOk P w H h a o) : a < h.objs.size := by
  cases o with
  | lst xs => obtain ⟨_, _, _, _, e⟩ := x; exact Heap.lt_size e
  | tup xs => obtain ⟨_, _, _, p⟩ := x; exact p.lt
  | dK kvs => obtain ⟨_, _, _, _, o, _, _, e, _⟩ := x; exact Heap.lt_size e
  | dT kvs => obtain ⟨_, _, _, _, o, _, _, e, _⟩ := x; exact Heap.lt_size e
  | set S n => obtain ⟨o, _, _, _, e, _⟩ := x; exact Heap.lt_size e
  | ins C dx fs => obtain ⟨_, _, _, e, _⟩ := x; exact Heap.lt_size e
  | own y => obtain ⟨_, e⟩ := x; exact Heap.lt_size e
  | xd fs => obtain ⟨_, ⟨_, _, _, e, _⟩, _⟩ := x; exact Heap.lt_size e
  | rng lo hi => obtain ⟨_, _, _, e⟩ := x; exact Heap.lt_size e
  | frz ob u => obtain ⟨e, _⟩ := x; exact Heap.lt_size e
  | tbl ps => exact Heap.lt_size (show h.get? a = some _ from x)
  | met f y => exact Heap.lt_size (show h.get? a = some _ from x)
  | ext φ => obtain ⟨_, ⟨_, e⟩, _⟩ := x; exact Heap.lt_size e
theorem Paired.mapP {α β : Type} {F G : α → β → Prop} : ∀ {l₁ : List α} {l₂ : List β}, Paired F l₁ l₂ → (∀ a b, F a b → G a b) → Paired G l₁ l₂
  | _, _, .nil, _ => .nil
  | _, _, .cons r t, f => .cons (f _ _ r) (Paired.mapP t f)
theorem ObjOk.stay (x : ObjOk P w H h a o) (k : ∀ b u, (b = a ∨ H b = some (.own a)) → h.get? b = some u → h'.get? b = some u)
    (ho : ∀ b, H b = some (.own a) → H' b = some (.own a)) (ht : ∀ b xs, H b = some (.tup xs) → H' b = some (.tup xs)) : ObjOk P w H' h' a o := by
  induction o with
  | lst xs => obtain ⟨z, its, n, r, e⟩ := x; exact ⟨z, its, n, r, k _ _ (.inl rfl) e⟩
  | tup xs => obtain ⟨z, its, r, ob, e, c⟩ := x; exact ⟨z, its, r, ob, k _ _ (.inl rfl) e, c⟩
  | dK kvs => obtain ⟨z, y, vs, r, ob, es, ep, e, c⟩ := x; exact ⟨z, y, vs, r, ob, es, ep, k _ _ (.inl rfl) e, c⟩
  | dT kvs =>
    obtain ⟨z, y, xs, r, ob, es, ep, e, c⟩ := x
    exact ⟨z, y, xs, Paired.mapP r fun p q z => ⟨z.1, ht _ _ z.2.1, z.2.2⟩, ob, es, ep, k _ _ (.inl rfl) e, c⟩
  | set S n => obtain ⟨ob, es, ep, t, e, c⟩ := x; exact ⟨ob, es, ep, t, k _ _ (.inl rfl) e, c⟩
  | ins C dx fs =>
    obtain ⟨d, z, ne, e, mA, ⟨od, es, ep, e2, c⟩, r⟩ := x
    exact ⟨ho _ d, z, ne, k _ _ (.inl rfl) e, mA, ⟨od, es, ep, k _ _ (.inr d) e2, c⟩, r⟩
  | own y => obtain ⟨ob, e⟩ := x; exact ⟨ob, k _ _ (.inl rfl) e⟩
  | xd fs => obtain ⟨mA, ⟨od, es, ep, e, c⟩, r⟩ := x; exact ⟨mA, ⟨od, es, ep, k _ _ (.inl rfl) e, c⟩, r⟩
  | rng lo hi => obtain ⟨t, u, v, e⟩ := x; exact ⟨t, u, v, k _ _ (.inl rfl) e⟩
  | frz ob u ih => obtain ⟨e, q⟩ := x; exact ⟨k _ _ (.inl rfl) e, ih q⟩
  | tbl ps =>
    have e : h.get? a = some { cls := .none, data := .fields ps } := x
    show h'.get? a = some { cls := .none, data := .fields ps }
    exact k a _ (.inl rfl) e
  | met f y =>
    have e : h.get? a = some (PySem.W.methodObj (.ref f) (.ref y)) := x
    show h'.get? a = some (PySem.W.methodObj (.ref f) (.ref y))
    exact k a _ (.inl rfl) e
  | ext φ => obtain ⟨p, ⟨o, e⟩, st⟩ := x; exact ⟨st _ _ p fun o q => k _ _ (.inl rfl) q, ⟨o, k _ _ (.inl rfl) e⟩, st⟩
theorem HOk.lt (x : HOk P w H h) (e : H a = some o) : a < h.objs.size := (x a o e).lt
theorem HOk.fresh (x : HOk P w H h) (e : h.objs.size ≤ a) : H a = none := by
  cases q : H a with
  | none => rfl
  | some u => exact absurd (Nat.lt_of_lt_of_le (x.lt q) e) (Nat.lt_irrefl _)
theorem HOk.kept (x : HOk P w H h) (k : ∀ b u, h.get? b = some u → h'.get? b = some u) : HOk P w H h' := fun a o e =>
  (x a o e).stay (fun b u _ q => k b u q) (fun _ q => q) fun _ _ q => q
theorem HOk.laid (x : HOk P w H h) (k : ∀ b u, h.get? b = some u → h'.get? b = some u) (hp : h.objs.size ≤ a) (new : ObjOk P w (upd H a o) h' a o) : HOk P w (upd H a o) h' := fun b u e => by
  have hn := x.fresh hp
  by_cases hb : b = a
  · subst hb; rw [upd_same] at e; cases e; exact new
  · rw [upd_ne hb] at e
    exact (x b u e).stay (fun c v _ q => k c v q) (fun c q => by rw [upd_ne (ne_of_none q hn)]; exact q) fun c xs q => by rw [upd_ne (ne_of_none q hn)]; exact q
end

def Rd (H : Hp) (a : Addr) (u : HO) : Prop := H a = some u ∨ ∃ o, H a = some (.frz o u)
theorem Rd.of {H : Hp} {a : Addr} {u : HO} (h : H a = some u) : Rd H a u := .inl h
theorem Rd.ok {P : Program} {w : World} {H : Hp} {h : Heap} {a : Addr} {u : HO} (r : Rd H a u) (x : HOk P w H h) : ObjOk P w H h a u := by
  rcases r with r | ⟨o, r⟩
  · exact x a u r
  · obtain ⟨_, q⟩ := x a _ r
    exact q
def Mut : Option HO → Prop
  | some (.lst _) => True
  | some (.dK _) => True
  | some (.dT _) => True
  | some (.set _ _) => True
  | some (.ins _ _ _) => True
  | some (.ext _) => True
  | _ => False
section
variable {P : Program} {w : World} {H : Hp} {h h' : Heap} {x e : Addr} {o' : HO}
theorem HOk.write (ok : HOk P w H h) (mu : Mut (H x)) (he : e = x ∨ H e = some (.own x)) (k : ∀ b u, b ≠ e → h.get? b = some u → h'.get? b = some u) (heo : ∃ u, h'.get? e = some u)
    (new : ObjOk P w (upd H x o') h' x o') : HOk P w (upd H x o') h' := fun b u q => by
  have nown : ∀ c y, H c = some (.own y) → c ≠ x := fun c y r z => by subst z; rw [r] at mu; exact mu
  have ntup : ∀ c xs, H c = some (.tup xs) → c ≠ x := fun c xs r z => by subst z; rw [r] at mu; exact mu
  by_cases hb : b = x
  · subst hb; rw [upd_same] at q; cases q; exact new
  · rw [upd_ne hb] at q
    by_cases hbe : b = e
    · have q' : H b = some (.own x) := by
        rcases he with z | z
        · exact absurd (hbe.trans z) hb
        · rw [hbe]; exact z
      rw [q] at q'; cases q'
      obtain ⟨v, hv⟩ := heo
      exact ⟨v, by rw [hbe]; exact hv⟩
    · refine (ok b u q).stay (fun c v hc r => k c v ?_ r) (fun c r => by rw [upd_ne (nown c b r)]; exact r) fun c xs r => by rw [upd_ne (ntup c xs r)]; exact r
      rcases hc with rfl | hc
      · exact hbe
      · rintro rfl
        rcases he with z | z
        · exact nown c b hc z
        · rw [hc] at z; cases z; exact hb rfl
end

structure Un (fs ex : List Addr) (H H' : Hp) (h h' : Heap) : Prop where
  keep : ∀ b o, h.get? b = some o → H b = none → b ∉ fs → b ∉ ex → h'.get? b = some o
  slot : ∀ b o, h.get? b = some o → H b = none → b ∈ fs → b ∉ ex → ∃ sl, h'.get? b = some { o with slots := sl }
  free : ∀ b o, h.get? b = some o → H b = none → b ∉ ex → H' b = none
  there : ∀ b o, h.get? b = some o → b ∉ ex → ∃ o', h'.get? b = some o'
  tups : ∀ b xs, H b = some (.tup xs) → H' b = some (.tup xs)
  frzs : ∀ b o u, H b = some (.frz o u) → H' b = some (.frz o u)
  tbls : ∀ b ps, H b = some (.tbl ps) → ∃ more, H' b = some (.tbl (ps ++ more))
section
variable {fs fs' ex ex' : List Addr} {H H1 H2 : Hp} {h h1 h2 h' : Heap} {a x e : Addr} {o : HO}
theorem Un.any (u : Un fs ex H H1 h h1) {b : Addr} {ob : Obj} (q : h.get? b = some ob) (n : H b = none) (hx : b ∉ ex) : ∃ sl, h1.get? b = some { ob with slots := sl } := by
  by_cases hb : b ∈ fs
  · exact u.slot b ob q n hb hx
  · exact ⟨ob.slots, u.keep b ob q n hb hx⟩
theorem Un.trans (a : Un fs ex H H1 h h1) (b : Un fs ex H1 H2 h1 h2) : Un fs ex H H2 h h2 where
  keep := fun c ob q n hc hx => b.keep c ob (a.keep c ob q n hc hx) (a.free c ob q n hx) hc hx
  slot := fun c ob q n hc hx => by
    obtain ⟨sl, e1⟩ := a.slot c ob q n hc hx
    obtain ⟨sl', e2⟩ := b.slot c _ e1 (a.free c ob q n hx) hc hx
    exact ⟨sl', e2⟩
  free := fun c ob q n hx => by
    obtain ⟨o', e1⟩ := a.there c ob q hx
    exact b.free c o' e1 (a.free c ob q n hx) hx
  there := fun c ob q hx => by
    obtain ⟨o', e1⟩ := a.there c ob q hx
    exact b.there c o' e1 hx
  tups := fun c xs q => b.tups c xs (a.tups c xs q)
  frzs := fun c ob xs q => b.frzs c ob xs (a.frzs c ob xs q)
  tbls := fun c ps q => by
    obtain ⟨m1, e1⟩ := a.tbls c ps q
    obtain ⟨m2, e2⟩ := b.tbls c _ e1
    exact ⟨m1 ++ m2, by rw [e2, Array.append_assoc]⟩
theorem Un.kept (k : ∀ b u, h.get? b = some u → h'.get? b = some u) : Un fs ex H H h h' :=
  ⟨fun b ob q _ _ _ => k b ob q, fun b ob q _ _ _ => ⟨ob.slots, k b ob q⟩, fun _ _ _ n _ => n, fun b ob q _ => ⟨ob, k b ob q⟩, fun _ _ q => q, fun _ _ _ q => q, fun _ ps q => ⟨#[], by rw [q]; simp⟩⟩
theorem Un.refl : Un fs ex H H h h := Un.kept fun _ _ q => q
theorem Un.laid (k : ∀ b u, h.get? b = some u → h'.get? b = some u) (hp : h.objs.size ≤ a) (hn : H a = none) : Un fs ex H (upd H a o) h h' where
  keep := fun b u q _ _ _ => k b u q
  slot := fun b u q _ _ _ => ⟨u.slots, k b u q⟩
  free := fun b u q n _ => by rw [upd_ne (Nat.ne_of_lt (Nat.lt_of_lt_of_le (Heap.lt_size q) hp))]; exact n
  there := fun b u q _ => ⟨u, k b u q⟩
  tups := fun b xs q => by rw [upd_ne (ne_of_none q hn)]; exact q
  frzs := fun b u xs q => by rw [upd_ne (ne_of_none q hn)]; exact q
  tbls := fun b ps q => ⟨#[], by rw [upd_ne (ne_of_none q hn), q]; simp⟩
theorem Un.write (mu : Mut (H x)) (he : e = x ∨ H e = some (.own x)) (k : ∀ b u, b ≠ e → h.get? b = some u → h'.get? b = some u) (heo : ∃ u, h'.get? e = some u) : Un fs ex H (upd H x o) h h' := by
  have hx : ∀ b, H b = none → b ≠ x := fun b n z => by subst z; rw [n] at mu; exact mu
  have hb : ∀ b, H b = none → b ≠ e := fun b n z => by
    subst z
    rcases he with r | r
    · exact hx b n r
    · rw [n] at r; cases r
  have hm : ∀ b u, H b = some u → ¬ Mut (some u) → b ≠ x := fun b u q nm z => by subst z; rw [q] at mu; exact nm mu
  refine ⟨fun b u q n _ _ => k b u (hb b n) q, fun b u q n _ _ => ⟨u.slots, k b u (hb b n) q⟩, fun b u q n _ => by rw [upd_ne (hx b n)]; exact n, fun b u q _ => ?_,
    fun b xs q => by rw [upd_ne (hm b _ q fun z => z)]; exact q, fun b u xs q => by rw [upd_ne (hm b _ q fun z => z)]; exact q, fun b ps q => ⟨#[], by rw [upd_ne (hm b _ q fun z => z), q]; simp⟩⟩
  by_cases hbe : b = e
  · subst hbe; exact heo
  · exact ⟨u, k b u hbe q⟩
end

def trk (h : Heap) (H : Hp) : List Addr := (List.range h.objs.size).filter fun a => (H a).isSome
def hidT (h : Heap) (H : Hp) : Heap := PySem.W.hideAll h (trk h H)
theorem hidT_size (h : Heap) (H : Hp) : (hidT h H).objs.size = h.objs.size := PySem.W.hideAll_size _ _
theorem hidT_get {h : Heap} {H : Hp} {b : Addr} {o : Obj} (e : h.get? b = some o) (n : H b = none) : (hidT h H).get? b = some o :=
  PySem.W.hideAll_get _ e fun hm => by
    have q : (H b).isSome = true := (List.mem_filter.mp hm).2
    rw [n] at q; simp at q
theorem of_hidT {h : Heap} {H : Hp} {b : Addr} {o : Obj} (e : (hidT h H).get? b = some o) : h.get? b = some o ∧ H b = none := by
  have e' : h.get? b = some o := PySem.W.of_hideAll (trk h H) e
  refine ⟨e', ?_⟩
  cases q : H b with
  | none => rfl
  | some x =>
    have hm : b ∈ trk h H := List.mem_filter.mpr ⟨List.mem_range.mpr (Heap.lt_size e'), by simp [q]⟩
    have z : (hidT h H).get? b = none := PySem.W.hideAll_none (trk h H) hm
    rw [z] at e; cases e

end L2

namespace L2
open PySem PySem.Spec PyProof.Rows

structure Mod (K : PySem.W.Frag) (mg : Str → Option Value) (base : Heap) : Prop where
  kin : K.In base
  glob : base.Ns mainGlobals mg
  blt : ∃ mb, base.Ns builtinsNs mb ∧ ∀ x : Str, x ≠ "__name__" → mb x = bootBuiltins x
  nolimit : base.NoLimit

structure Cx where
  prog : Program
  w : World
  K : PySem.W.Frag
  mg : Str → Option Value
  base : Heap
  A : Around
  N : List Str
  s₀ : Shared
  H₀ : Hp
  env : Env
  outer : List Env
  stack : List Env
  ex : List Addr
  fn : Str → Bool
  calm : Bool
  pn : List (Addr × Obj)
  xe : Value → Shared → Prop
def frs (l : List Env) : List Addr := l.filterMap (·.frame)
abbrev Cx.fs (X : Cx) : List Addr := frs X.outer

def Vis (sc : Scope) (x : Str) : Prop := sc.names.lookup x = some .local ∨ sc.names.lookup x = some .cell ∨ sc.names.lookup x = some .free
def Loc (sc : Scope) (x : Str) : Prop := sc.names.lookup x = some .local ∨ sc.names.lookup x = some .cell
def Look (env : Env) (h : Heap) (m : Str → Option Value) (x : Str) (u : Value) : Prop :=
  (env.kindOf x = some .local ∧ m x = some u) ∨ ((env.kindOf x = some .cell ∨ env.kindOf x = some .free) ∧ ∃ c, env.cells.lookup x = some c ∧ h.IsCell c (some u))

structure Cx.Ok (X : Cx) : Prop where
  mod : Mod X.K X.mg X.base
  kind : X.env.scope.kind = .function
  glob : X.env.globals = mainGlobals
  blt : X.env.builtins = builtinsNs
  above : X.s₀.heap.objs.size ≤ X.env.locals
  inj : ∀ x y c, X.env.cells.lookup x = some c → X.env.cells.lookup y = some c → x = y
  has : ∀ x, (X.env.kindOf x = some .cell ∨ X.env.kindOf x = some .free) → ∃ c, X.env.cells.lookup x = some c
  cab : ∀ x c, X.fn x = true → X.env.cells.lookup x = some c → X.s₀.heap.objs.size ≤ c
  hd : X.calm = true → X.A.handled = none
  frames : X.A.frames = some X.stack
  stk : X.stack = X.outer ∨ (X.stack = X.env :: X.outer ∧ X.env.frame = some X.env.locals)
  exf : ∀ b ∈ X.ex, b ≠ X.env.locals ∧ ∀ x c, X.env.cells.lookup x = some c → c ≠ b
  bs : ∀ b o, X.base.get? b = some o → X.s₀.heap.get? b = some o ∧ X.H₀ b = none
  bsz : X.base.objs.size ≤ X.s₀.heap.objs.size
  noex : ∀ b o, X.base.get? b = some o → b ∉ X.ex
  exfs : ∀ b ∈ X.ex, b ∉ X.fs
  funs : X.s₀.heap.FunFrames X.base X.outer
  frf : ∀ b ∈ X.fs, X.H₀ b = none

structure Inv (X : Cx) (pins : List (Addr × Obj)) (σ : List (Option V)) (H : Hp) (s : Shared) : Prop where
  ok : X.Ok
  os : s.os = X.s₀.os
  bare : AllBare s.gens
  base : Un X.fs X.ex X.H₀ H X.s₀.heap s.heap
  loc : ∃ m, s.heap.Ns X.env.locals m ∧ ∀ (i : Nat) (x : Str) (v : V), X.N[i]? = some x → σ[i]? = some (some v) → Vis X.env.scope x → ∃ u, RelV v u ∧ Look X.env s.heap m x u
  cell : ∀ x c, X.env.cells.lookup x = some c → ∃ v, s.heap.IsCell c v
  free : H X.env.locals = none
  freeC : ∀ x c, X.env.cells.lookup x = some c → H c = none
  pin : ∀ p ∈ X.pn ++ pins, s.heap.get? p.1 = some p.2 ∧ H p.1 = none ∧ p.1 ≠ X.env.locals ∧ p.1 ∉ X.fs ∧ ∀ v, p.2.data ≠ .cell v
  hok : HOk X.prog X.w H s.heap
  len : σ.length = X.N.length

section
variable {X : Cx} {pins : List (Addr × Obj)} {σ : List (Option V)} {H H' : Hp} {s : Shared} {h' : Heap}

theorem Cx.Ok.nofr (ok : X.Ok) {b : Addr} {o : Obj} (e : X.base.get? b = some o) : b ∉ X.fs := fun hb => by
  have := (ok.funs.mem hb).1
  rw [e] at this; cases this
theorem Inv.bs (I : Inv X pins σ H s) : ∀ b o, X.base.get? b = some o → s.heap.get? b = some o ∧ H b = none := fun b o e =>
  ⟨I.base.keep b o (I.ok.bs b o e).1 (I.ok.bs b o e).2 (I.ok.nofr e) (I.ok.noex b o e), I.base.free b o (I.ok.bs b o e).1 (I.ok.bs b o e).2 (I.ok.noex b o e)⟩
theorem Inv.bk (I : Inv X pins σ H s) : ∀ b o, X.base.get? b = some o → s.heap.get? b = some o := fun b o e => (I.bs b o e).1
theorem Inv.mod (I : Inv X pins σ H s) : Mod X.K X.mg X.base := I.ok.mod
theorem Inv.kIn (I : Inv X pins σ H s) : X.K.In s.heap := I.ok.mod.kin.keeps I.bk
theorem Inv.lt (I : Inv X pins σ H s) : X.env.locals < s.heap.objs.size := let ⟨_, hn, _⟩ := I.loc; hn.lt
theorem Inv.sz (I : Inv X pins σ H s) : X.s₀.heap.objs.size ≤ s.heap.objs.size := Nat.le_trans I.ok.above (Nat.le_of_lt I.lt)
theorem Inv.nofs (I : Inv X pins σ H s) {a : Addr} (h : s.heap.objs.size ≤ a) : a ∉ X.fs := fun hb => by
  obtain ⟨_, o, ho, _⟩ := I.ok.funs.mem hb
  exact absurd (Nat.lt_of_lt_of_le (Heap.lt_size ho) (Nat.le_trans I.sz h)) (Nat.lt_irrefl _)
theorem Inv.cne (I : Inv X pins σ H s) : ∀ x c, X.env.cells.lookup x = some c → c ≠ X.env.locals := fun x c e z => by
  obtain ⟨v, o, ho, hd⟩ := I.cell x c e
  obtain ⟨m, ⟨o', es, ep, ho', hd', _⟩, _⟩ := I.loc
  rw [z, ho'] at ho; cases ho; rw [hd'] at hd; cases hd
theorem Inv.funs (I : Inv X pins σ H s) : s.heap.FunFrames X.base X.outer := by
  have all : ∀ (l : List Env), (∀ b ∈ frs l, b ∈ X.fs) → X.s₀.heap.FunFrames X.base l → s.heap.FunFrames X.base l := by
    intro l
    induction l with
    | nil => intro _ _; trivial
    | cons env r ih =>
      intro hs hl
      obtain ⟨hk, ⟨L, o, hf, hn, ho, hd⟩, hr⟩ := hl
      have hL : L ∈ X.fs := hs L (by unfold frs; rw [List.filterMap_cons, hf]; exact List.mem_cons_self)
      obtain ⟨sl, e⟩ := I.base.slot L o ho (I.ok.frf L hL) hL fun z => I.ok.exfs L z hL
      exact ⟨hk, ⟨L, _, hf, hn, e, hd⟩, ih (fun b hb => hs b (by unfold frs; rw [List.filterMap_cons, hf]; exact List.mem_cons_of_mem _ hb)) hr⟩
  exact all X.outer (fun _ hb => hb) I.ok.funs

theorem Inv.stack (I : Inv X pins σ H s) : s.heap.FunFrames X.base X.stack := by
  rcases I.ok.stk with e | ⟨e, hf⟩
  · rw [e]; exact I.funs
  · rw [e]
    obtain ⟨m, hn, _⟩ := I.loc
    refine .cons (by rw [I.ok.kind]; decide) hf hn ?_ I.funs
    exact Heap.get?_none_of_le (Nat.le_trans I.ok.bsz I.ok.above)
theorem Inv.stkSub (I : Inv X pins σ H s) : ∀ b ∈ frs X.stack, b ∈ X.env.locals :: X.fs := fun b hb => by
  rcases I.ok.stk with e | ⟨e, hf⟩
  · rw [e] at hb; exact List.mem_cons_of_mem _ hb
  · rw [e] at hb
    unfold frs at hb
    rw [List.filterMap_cons, hf] at hb
    exact hb
theorem Inv.stkFree (I : Inv X pins σ H s) : ∀ b ∈ frs X.stack, H b = none := fun b hb => by
  rcases List.mem_cons.mp (I.stkSub b hb) with e | hb
  · rw [e]; exact I.free
  · obtain ⟨_, o, ho, _⟩ := I.ok.funs.mem hb
    exact I.base.free b o ho (I.ok.frf b hb) fun z => I.ok.exfs b z hb

theorem Inv.step {g' : Array GenState} {t' : Nat} {d' : Drawn} {ch : List Addr} (I : Inv X pins σ H s)
    (hch : ∀ b ∈ ch, (b ∈ X.ex ∨ X.s₀.heap.objs.size ≤ b) ∧ b ≠ X.env.locals ∧ (∀ x c, X.env.cells.lookup x = some c → c ≠ b) ∧ ∀ p ∈ X.pn ++ pins, p.1 ≠ b)
    (keep : ∀ b o, b ≠ X.env.locals → b ∉ X.fs → b ∉ ch → s.heap.get? b = some o → H b = none → h'.get? b = some o)
    (slot : ∀ b o, b ≠ X.env.locals → b ∈ X.fs → b ∉ ch → s.heap.get? b = some o → H b = none → ∃ sl, h'.get? b = some { o with slots := sl }) (free : ∀ b o, b ∉ ch → s.heap.get? b = some o → H b = none → H' b = none)
    (there : ∀ b o, b ∉ ch → s.heap.get? b = some o → ∃ o', h'.get? b = some o')
    (tups : ∀ b xs, H b = some (.tup xs) → H' b = some (.tup xs)) (frzs : ∀ b o u, H b = some (.frz o u) → H' b = some (.frz o u)) (tbls : ∀ b ps, H b = some (.tbl ps) → ∃ more, H' b = some (.tbl (ps ++ more)))
    (ns : ∀ m, s.heap.Ns X.env.locals m → h'.Ns X.env.locals m) (hok : HOk X.prog X.w H' h') (hg : AllBare g') :
    Inv X pins σ H' { s with heap := h', gens := g', drawn := d', toks := t' } := by
  have neL : ∀ b o, X.s₀.heap.get? b = some o → b ≠ X.env.locals := fun b o e => Nat.ne_of_lt (Nat.lt_of_lt_of_le (Heap.lt_size e) I.ok.above)
  have neC : ∀ b o, X.s₀.heap.get? b = some o → b ∉ X.ex → b ∉ ch := fun b o e hx hb => by
    rcases (hch b hb).1 with z | z
    · exact hx z
    · exact absurd (Nat.lt_of_lt_of_le (Heap.lt_size e) z) (Nat.lt_irrefl _)
  have cellK : ∀ x c, X.env.cells.lookup x = some c → ∀ v, s.heap.IsCell c v → h'.IsCell c v := fun x c e v ⟨o, ho, hd⟩ => by
    have nch : c ∉ ch := fun z => (hch c z).2.2.1 x c e rfl
    by_cases hc : c ∈ X.fs
    · obtain ⟨sl, q⟩ := slot c o (I.cne x c e) hc nch ho (I.freeC x c e)
      exact ⟨_, q, hd⟩
    · exact ⟨o, keep c o (I.cne x c e) hc nch ho (I.freeC x c e), hd⟩
  refine ⟨I.ok, I.os, hg, ⟨fun b o e n hb hx => ?_, fun b o e n hb hx => ?_, fun b o e n hx => ?_, fun b o e hx => ?_, fun b xs e => tups b xs (I.base.tups b xs e), fun b o xs e => frzs b o xs (I.base.frzs b o xs e), fun b ps e => ?_⟩, ?_, fun x c e => ?_, ?_, fun x c e => ?_, fun p hp => ?_, hok, I.len⟩
  · exact keep b o (neL b o e) hb (neC b o e hx) (I.base.keep b o e n hb hx) (I.base.free b o e n hx)
  · obtain ⟨sl, e1⟩ := I.base.slot b o e n hb hx
    obtain ⟨sl', e2⟩ := slot b _ (neL b o e) hb (neC b o e hx) e1 (I.base.free b o e n hx)
    exact ⟨sl', e2⟩
  · obtain ⟨o', e1⟩ := I.base.there b o e hx
    exact free b o' (neC b o e hx) e1 (I.base.free b o e n hx)
  · obtain ⟨o', e1⟩ := I.base.there b o e hx
    exact there b o' (neC b o e hx) e1
  · obtain ⟨m1, e1⟩ := I.base.tbls b ps e
    obtain ⟨m2, e2⟩ := tbls b _ e1
    exact ⟨m1 ++ m2, by rw [e2, Array.append_assoc]⟩
  · obtain ⟨m, hn, hl⟩ := I.loc
    refine ⟨m, ns m hn, fun i x v e1 e2 e3 => ?_⟩
    obtain ⟨u, r, l⟩ := hl i x v e1 e2 e3
    refine ⟨u, r, ?_⟩
    rcases l with l | ⟨k, c, e, z⟩
    · exact .inl l
    · exact .inr ⟨k, c, e, cellK x c e _ z⟩
  · obtain ⟨v, z⟩ := I.cell x c e
    exact ⟨v, cellK x c e v z⟩
  · obtain ⟨m, ⟨o, _, _, ho, _⟩, _⟩ := I.loc
    exact free _ o (fun z => (hch _ z).2.1 rfl) ho I.free
  · obtain ⟨v, o, ho, hd⟩ := I.cell x c e
    exact free c o (fun z => (hch c z).2.2.1 x c e rfl) ho (I.freeC x c e)
  · obtain ⟨e, n, ne, nf, d⟩ := I.pin p hp
    have nch : p.1 ∉ ch := fun z => (hch p.1 z).2.2.2 p hp rfl
    exact ⟨keep p.1 p.2 ne nf nch e n, free p.1 p.2 nch e n, ne, nf, d⟩
theorem Inv.un {t' : Nat} (I : Inv X pins σ H s) (u : Un X.fs [] H H' s.heap h') (hok : HOk X.prog X.w H' h') : Inv X pins σ H' { s with heap := h', toks := t' } := by
  obtain ⟨m, ⟨o, es, ep, ho, r⟩, _⟩ := id I.loc
  obtain ⟨sl, hL⟩ := u.any ho I.free (by simp)
  exact I.step (g' := s.gens) (d' := s.drawn) (ch := []) (fun _ z => nomatch z) (fun b o _ hb _ e n => u.keep b o e n hb (by simp)) (fun b o _ hb _ e n => u.slot b o e n hb (by simp)) (fun b o _ e n => u.free b o e n (by simp)) (fun b o _ e => u.there b o e (by simp)) u.tups u.frzs u.tbls (fun m' hm => by
    obtain ⟨o', es', ep', ho', r'⟩ := hm
    rw [ho] at ho'; cases ho'
    exact ⟨_, es', ep', hL, r'⟩) hok I.bare
theorem Inv.call {g' : Array GenState} {t' : Nat} {d' : Drawn} {ch : List Addr} (I : Inv X pins σ H s) (u : Un (frs X.stack) ch H H' s.heap h') (hok : HOk X.prog X.w H' h') (hg : AllBare g')
    (hch : ∀ b ∈ ch, (b ∈ X.ex ∨ X.s₀.heap.objs.size ≤ b) ∧ b ≠ X.env.locals ∧ (∀ x c, X.env.cells.lookup x = some c → c ≠ b) ∧ ∀ p ∈ X.pn ++ pins, p.1 ≠ b) :
    Inv X pins σ H' { s with heap := h', gens := g', drawn := d', toks := t' } := by
  obtain ⟨m, ⟨o, es, ep, ho, r⟩, _⟩ := id I.loc
  obtain ⟨sl, hL⟩ := u.any ho I.free fun z => (hch _ z).2.1 rfl
  exact I.step (ch := ch) hch (fun b o hL hb hc e n => u.keep b o e n (fun z => (List.mem_cons.mp (I.stkSub b z)).elim hL hb) hc) (fun b o _ _ hc e n => u.any e n hc) (fun b o hc e n => u.free b o e n hc) (fun b o hc e => u.there b o e hc) u.tups u.frzs u.tbls (fun m' hm => by
    obtain ⟨o', es', ep', ho', r'⟩ := hm
    rw [ho] at ho'; cases ho'
    exact ⟨_, es', ep', hL, r'⟩) hok hg
theorem Inv.turned {t' : Nat} {it : Addr} (I : Inv X pins σ H s) (k : ∀ b o, b ≠ it → s.heap.get? b = some o → h'.get? b = some o) (hn : H it = none) (hL : it ≠ X.env.locals)
    (h1 : it ∈ X.ex ∨ X.s₀.heap.objs.size ≤ it) (h2 : ∀ x c, X.env.cells.lookup x = some c → c ≠ it) (h3 : ∀ p ∈ X.pn ++ pins, p.1 ≠ it) : Inv X pins σ H { s with heap := h', toks := t' } := by
  have nit : ∀ b u, H b = some u → b ≠ it := fun b u e z => by rw [z, hn] at e; cases e
  refine I.step (g' := s.gens) (d' := s.drawn) (ch := [it]) (fun b hb => ?_) (fun b o _ _ hc e _ => k b o (fun z => hc (by simp [z])) e) (fun b o _ _ hc e _ => ⟨o.slots, k b o (fun z => hc (by simp [z])) e⟩) (fun _ _ _ _ n => n)
    (fun b o hc e => ⟨o, k b o (fun z => hc (by simp [z])) e⟩) (fun _ _ e => e) (fun _ _ _ e => e) (fun b ps e => ⟨#[], by rw [e]; simp⟩) (fun m hm => ?_) (fun b u e => ?_) I.bare
  · have e : b = it := by simpa using hb
    subst e
    exact ⟨h1, hL, h2, h3⟩
  · obtain ⟨o, es, ep, ho, r⟩ := hm
    exact ⟨o, es, ep, k _ o (Ne.symm hL) ho, r⟩
  · refine (I.hok b u e).stay (fun c v hc q => k c v ?_ q) (fun _ q => q) fun _ _ q => q
    rcases hc with z | z
    · rw [z]; exact nit b u e
    · exact nit c _ z
theorem Inv.tok (I : Inv X pins σ H s) (t : Nat) : Inv X pins σ H { s with toks := t } := I.un (h' := s.heap) (t' := t) Un.refl I.hok
theorem Inv.kept {t' : Nat} (I : Inv X pins σ H s) (k : ∀ b u, s.heap.get? b = some u → h'.get? b = some u) : Inv X pins σ H { s with heap := h', toks := t' } := I.un (Un.kept k) (I.hok.kept k)
theorem Inv.laid {a : Addr} {o : HO} {t' : Nat} (I : Inv X pins σ H s) (k : ∀ b u, s.heap.get? b = some u → h'.get? b = some u) (hp : s.heap.objs.size ≤ a) (new : ObjOk X.prog X.w (upd H a o) h' a o) :
    Inv X pins σ (upd H a o) { s with heap := h', toks := t' } := I.un (Un.laid k hp (I.hok.fresh hp)) (I.hok.laid k hp new)
theorem Inv.write {x e : Addr} {o : HO} {t' : Nat} (I : Inv X pins σ H s) (mu : Mut (H x)) (he : e = x ∨ H e = some (.own x)) (k : ∀ b u, b ≠ e → s.heap.get? b = some u → h'.get? b = some u) (heo : ∃ u, h'.get? e = some u)
    (new : ObjOk X.prog X.w (upd H x o) h' x o) : Inv X pins σ (upd H x o) { s with heap := h', toks := t' } := I.un (Un.write mu he k heo) (I.hok.write mu he k heo new)
theorem Inv.pins_of {pins' : List (Addr × Obj)} (I : Inv X pins σ H s) (h : ∀ p ∈ pins', s.heap.get? p.1 = some p.2 ∧ H p.1 = none ∧ p.1 ≠ X.env.locals ∧ p.1 ∉ X.fs ∧ ∀ v, p.2.data ≠ .cell v) : Inv X pins' σ H s :=
  ⟨I.ok, I.os, I.bare, I.base, I.loc, I.cell, I.free, I.freeC, fun p hp => (List.mem_append.mp hp).elim (fun z => I.pin p (List.mem_append_left _ z)) (h p), I.hok, I.len⟩

theorem nodup_ix {N : List Str} (hN : N.Nodup) {i j : Nat} {x : Str} (a : N[i]? = some x) (b : N[j]? = some x) : i = j := by
  obtain ⟨h1, e1⟩ := List.getElem?_eq_some_iff.mp a
  obtain ⟨h2, e2⟩ := List.getElem?_eq_some_iff.mp b
  exact (List.getElem_inj hN).mp (e1.trans e2.symm)

theorem store_ok2 {M : Model} {A : Around} {E : Value → Shared → Prop} {i : Nat} {x : Str} {v : V} {u : Value} {Q : Unit → Shared → Prop} (I : Inv X pins σ H s) (hN : X.N.Nodup) (hi : X.N[i]? = some x) (hx : Loc X.env.scope x) (r : RelV v u)
    (h : ∀ s', Inv X pins (σ.set i (some v)) H s' → (∃ a, Heap.SameBut a s.heap s'.heap ∧ (a = X.env.locals ∨ X.env.cells.lookup x = some a)) → Q () s') (hf : X.fn x = true ∨ X.env.scope.names.lookup x = some .local := by first | exact .inl rfl | exact .inr rfl | assumption) : wpAny M A (storeName X.env x u) Q E s := by
  obtain ⟨m, hn, hl⟩ := id I.loc
  have hcls : (X.env.scope.kind == .class || (X.env.scope.kind == .module && X.env.locals != X.env.globals)) = false := by rw [I.ok.kind]; rfl
  have hiσ : i < σ.length := by rw [I.len]; exact (List.getElem?_eq_some_iff.mp hi).1
  have cne := I.cne
  have tracked : ∀ {a : Addr} {h' : Heap}, (∃ o, s.heap.get? a = some o ∧ H a = none) → Heap.SameBut a s.heap h' → HOk X.prog X.w H h' := fun {a h'} ha hs b ob e => by
    obtain ⟨_, _, hfree⟩ := ha
    refine (I.hok b ob e).stay (fun c w' hc q => (hs.2 c ?_).trans q) (fun _ q => q) fun _ _ q => q
    rintro rfl
    rcases hc with rfl | hc
    · rw [hfree] at e; cases e
    · rw [hfree] at hc; cases hc
  rcases hx with hk | hk
  · refine wpAny_storeName_local hk hn (fun h' hn' hs => ?_) hcls
    obtain ⟨oL, _, _, hoL, _⟩ := id hn
    refine h _ ⟨I.ok, I.os, I.bare, ⟨fun b o e n hb hx => ?_, fun b o e n hb hx => ?_, I.base.free, fun b o e hx => ?_, I.base.tups, I.base.frzs, I.base.tbls⟩, ⟨_, hn', fun j y v' e1 e2 e3 => ?_⟩, fun y c e => ?_, I.free, I.freeC, fun p hp => ?_, tracked ⟨oL, hoL, I.free⟩ hs, by simpa using I.len⟩ ⟨_, hs, .inl rfl⟩
    · exact (hs.2 b (Nat.ne_of_lt (Nat.lt_of_lt_of_le (Heap.lt_size e) I.ok.above))).trans (I.base.keep b o e n hb hx)
    · obtain ⟨sl, e1⟩ := I.base.slot b o e n hb hx
      exact ⟨sl, (hs.2 b (Nat.ne_of_lt (Nat.lt_of_lt_of_le (Heap.lt_size e) I.ok.above))).trans e1⟩
    · obtain ⟨o', e1⟩ := I.base.there b o e hx
      exact ⟨o', (hs.2 b (Nat.ne_of_lt (Nat.lt_of_lt_of_le (Heap.lt_size e) I.ok.above))).trans e1⟩
    · by_cases hj : j = i
      · subst hj
        rw [hi] at e1; cases e1
        rw [List.getElem?_set_self hiσ] at e2
        cases e2
        exact ⟨u, r, .inl ⟨hk, by simp⟩⟩
      · rw [List.getElem?_set_ne (Ne.symm hj)] at e2
        obtain ⟨u', r', q⟩ := hl j y v' e1 e2 e3
        refine ⟨u', r', ?_⟩
        rcases q with ⟨k, e⟩ | ⟨k, c, e, z⟩
        · refine .inl ⟨k, ?_⟩
          have : y ≠ x := fun e => hj (nodup_ix hN e1 (e ▸ hi))
          simp [this, e]
        · exact .inr ⟨k, c, e, z.sameBut hs (cne y c e)⟩
    · obtain ⟨w', z⟩ := I.cell y c e
      exact ⟨w', z.sameBut hs (cne y c e)⟩
    · obtain ⟨e, n, ne, nf, d⟩ := I.pin p hp
      exact ⟨(hs.2 p.1 ne).trans e, n, ne, nf, d⟩
  · have hfn : X.fn x = true := by
      rcases hf with z | z
      · exact z
      · rw [z] at hk; cases hk
    obtain ⟨c, hc⟩ := I.ok.has x (.inl hk)
    obtain ⟨w', z⟩ := I.cell x c hc
    refine wpAny_storeName_cell I.ok.kind hk hc z (fun h' hc' hs => ?_)
    obtain ⟨oc, hoc, hocd⟩ := id z
    refine h { s with heap := h' } ⟨I.ok, I.os, I.bare, ⟨fun b o e n hb hx => ?_, fun b o e n hb hx => ?_, I.base.free, fun b o e hx => ?_, I.base.tups, I.base.frzs, I.base.tbls⟩, ⟨m, hn.sameBut hs (Ne.symm (cne x c hc)), fun j y v' e1 e2 e3 => ?_⟩, fun y c' e => ?_, I.free, I.freeC, fun p hp => ?_, tracked ⟨oc, hoc, I.freeC x c hc⟩ hs, by simpa using I.len⟩ ⟨c, hs, .inr hc⟩
    · exact (hs.2 b (Nat.ne_of_lt (Nat.lt_of_lt_of_le (Heap.lt_size e) (I.ok.cab x c hfn hc)))).trans (I.base.keep b o e n hb hx)
    · obtain ⟨sl, e1⟩ := I.base.slot b o e n hb hx
      exact ⟨sl, (hs.2 b (Nat.ne_of_lt (Nat.lt_of_lt_of_le (Heap.lt_size e) (I.ok.cab x c hfn hc)))).trans e1⟩
    · obtain ⟨o', e1⟩ := I.base.there b o e hx
      exact ⟨o', (hs.2 b (Nat.ne_of_lt (Nat.lt_of_lt_of_le (Heap.lt_size e) (I.ok.cab x c hfn hc)))).trans e1⟩
    · by_cases hj : j = i
      · subst hj
        rw [hi] at e1; cases e1
        rw [List.getElem?_set_self hiσ] at e2
        cases e2
        exact ⟨u, r, .inr ⟨.inl hk, c, hc, hc'⟩⟩
      · rw [List.getElem?_set_ne (Ne.symm hj)] at e2
        obtain ⟨u', r', q⟩ := hl j y v' e1 e2 e3
        refine ⟨u', r', ?_⟩
        rcases q with q | ⟨k, c', e, z'⟩
        · exact .inl q
        · refine .inr ⟨k, c', e, z'.sameBut hs ?_⟩
          rintro rfl
          exact hj (nodup_ix hN e1 (I.ok.inj _ _ _ e hc ▸ hi))
    · by_cases hcc : c' = c
      · subst hcc; exact ⟨_, hc'⟩
      · obtain ⟨w2, z2⟩ := I.cell y c' e
        exact ⟨w2, z2.sameBut hs hcc⟩
    · obtain ⟨e, n, ne, nf, d⟩ := I.pin p hp
      refine ⟨(hs.2 p.1 ?_).trans e, n, ne, nf, d⟩
      intro q
      rw [q, hoc] at e
      have q' : oc = p.2 := Option.some.inj e
      exact d w' (by rw [← q']; exact hocd)
theorem store_ok {M : Model} {A : Around} {E : Value → Shared → Prop} {i : Nat} {x : Str} {v : V} {u : Value} {Q : Unit → Shared → Prop} (I : Inv X pins σ H s) (hN : X.N.Nodup) (hi : X.N[i]? = some x) (hx : Loc X.env.scope x) (r : RelV v u)
    (h : ∀ s', Inv X pins (σ.set i (some v)) H s' → Q () s') (hf : X.fn x = true ∨ X.env.scope.names.lookup x = some .local := by first | exact .inl rfl | exact .inr rfl | assumption) : wpAny M A (storeName X.env x u) Q E s :=
  store_ok2 I hN hi hx r (fun s' I' _ => h s' I') hf
theorem Inv.call' {s' : Shared} {ch : List Addr} (I : Inv X pins σ H s) (ho : s'.os = s.os) (u : Un (frs X.stack) ch H H' s.heap s'.heap) (hok : HOk X.prog X.w H' s'.heap) (hg : AllBare s'.gens)
    (hch : ∀ b ∈ ch, (b ∈ X.ex ∨ X.s₀.heap.objs.size ≤ b) ∧ b ≠ X.env.locals ∧ (∀ x c, X.env.cells.lookup x = some c → c ≠ b) ∧ ∀ p ∈ X.pn ++ pins, p.1 ≠ b) : Inv X pins σ H' s' := by
  obtain ⟨h', g', d', t', o'⟩ := s'
  have e : o' = s.os := ho
  subst e
  exact I.call (g' := g') (t' := t') (d' := d') u hok hg hch
end

abbrev XK := Value → Option Addr → Hp → Prop
abbrev St := List (Option V)
abbrev VK := V → Hp → Prop
abbrev TE := St → Hp → VK → Prop
abbrev TT := St → Hp → (Bool → Hp → Prop) → Prop
abbrev TA := St → Hp → (List V → Hp → Prop) → Prop
structure Ends where
  nx : St → Hp → Prop
  rt : VK
  bk : St → Hp → Prop := fun _ _ => False
  ct : St → Hp → Prop := fun _ _ => False
abbrev TS := Ends → St → Hp → Prop

def EP (X : Cx) (pins : List (Addr × Obj)) (σ : St) (Q : VK) (u : Value) (s' : Shared) : Prop := ∃ v H', Inv X pins σ H' s' ∧ RelV v u ∧ Q v H'
def TP (X : Cx) (pins : List (Addr × Obj)) (σ : St) (Q : Bool → Hp → Prop) (b : Bool) (s' : Shared) : Prop := ∃ H', Inv X pins σ H' s' ∧ Q b H'
def AP (X : Cx) (pins : List (Addr × Obj)) (σ : St) (Q : List V → Hp → Prop) (us : List Value) (s' : Shared) : Prop := ∃ vs H', Inv X pins σ H' s' ∧ Vals vs us ∧ Q vs H'
def SP (X : Cx) (pins : List (Addr × Obj)) (D : Ends) (f : Flow) (s' : Shared) : Prop :=
  match f with
  | .next => ∃ σ' H', Inv X pins σ' H' s' ∧ D.nx σ' H'
  | .brk => ∃ σ' H', Inv X pins σ' H' s' ∧ D.bk σ' H'
  | .cont => ∃ σ' H', Inv X pins σ' H' s' ∧ D.ct σ' H'
  | .ret u => ∃ v σ' H', Inv X pins σ' H' s' ∧ RelV v u ∧ D.rt v H'

def PE (X : Cx) (e : Expr) (t : TE) : Prop :=
  ∀ (pins : List (Addr × Obj)) (s : Shared) (σ : St) (H : Hp) (Q : VK), Inv X pins σ H s → t σ H Q → wpAny (model X.prog X.w) X.A (eval e X.env) (EP X pins σ Q) X.xe s
def PT (X : Cx) (e : Expr) (t : TT) : Prop :=
  ∀ (pins : List (Addr × Obj)) (s : Shared) (σ : St) (H : Hp) (Q : Bool → Hp → Prop), Inv X pins σ H s → t σ H Q → wpAny (model X.prog X.w) X.A (isTrue e X.env (eval e X.env)) (TP X pins σ Q) X.xe s
def PW (X : Cx) (e : Expr) (t : TT) : Prop :=
  ∀ (whole : Sem Value) (pins : List (Addr × Obj)) (s : Shared) (σ : St) (H : Hp) (Q : Bool → Hp → Prop), Inv X pins σ H s → t σ H Q → wpAny (model X.prog X.w) X.A (isTrue e X.env whole) (TP X pins σ Q) X.xe s
theorem PW.pt {X : Cx} {e : Expr} {t : TT} (h : PW X e t) : PT X e t := h _
def PA (X : Cx) (es : List Expr) (t : TA) : Prop :=
  ∀ (pos : Pos) (pins : List (Addr × Obj)) (s : Shared) (σ : St) (H : Hp) (Q : List V → Hp → Prop), Inv X pins σ H s → t σ H Q → wpAny (model X.prog X.w) X.A (spliced (backTo pos (starEach es X.env))) (AP X pins σ Q) X.xe s
def PS (X : Cx) (st : Stmt) (t : TS) : Prop :=
  ∀ (pins : List (Addr × Obj)) (s : Shared) (σ : St) (H : Hp) (D : Ends), Inv X pins σ H s → t D σ H → wpAny (model X.prog X.w) X.A (exec st X.env) (SP X pins D) X.xe s
def PSs (X : Cx) (st : List Stmt) (t : TS) : Prop :=
  ∀ (pins : List (Addr × Obj)) (s : Shared) (σ : St) (H : Hp) (D : Ends), Inv X pins σ H s → t D σ H → wpAny (model X.prog X.w) X.A (execs st X.env) (SP X pins D) X.xe s
theorem thn {α : Type} {t : Sem α} {Q Q' : α → Shared → Prop} {M : Model} {A : Around} {E : Value → Shared → Prop} {s : Shared} (h : wpAny M A t Q E s) (hQ : ∀ a s, Q a s → Q' a s) : wpAny M A t Q' E s := wpAny_mono h hQ fun _ _ x => x
end L2

namespace L2
open PySem PySem.Spec PyProof.Rows
section
variable {X : Cx}

def tVar (i : Nat) : TE := fun σ H Q => ∃ v, σ[i]? = some (some v) ∧ Q v H
def tC (v : V) : TE := fun _ H Q => Q v H
theorem pe_var {i : Nat} {x : Str} {pos : Pos} (hN : X.N[i]? = some x) (hv : Vis X.env.scope x) (hd : (x == ("__debug__" : Str)) = false := by decide) (hcd : (x == ("__classdict__" : Str)) = false := by decide) : PE X (.Name x pos) (tVar i) := by
  intro pins s σ H Q I h
  obtain ⟨v, e, h⟩ := h
  obtain ⟨m, hn, hl⟩ := I.loc
  obtain ⟨u, r, l⟩ := hl i x v hN e hv
  have fin : EP X pins σ Q u s := ⟨v, H, I, r, h⟩
  rcases l with ⟨hk, hm⟩ | ⟨hk, c, hc, hcell⟩
  · exact wpAny_Name (wpAny_loadName_local I.ok.kind hk hn hm fin) hd
  · rcases hk with hk | hk
    · exact wpAny_Name (wpAny_loadName_cell I.ok.kind hk hc hcell fin) hd
    · exact wpAny_Name (wpAny_loadName_free I.ok.kind hk hc hcell fin hcd) hd
theorem pe_int {i j pos} : PE X (.Constant (.int i) j pos) (tC (.int i)) := fun _ _ _ H _ I h => wpAny_Constant_int ⟨.int i, H, I.tok _, ⟨_, rfl⟩, h⟩
theorem pe_bl {b j pos} : PE X (.Constant (.bool b) j pos) (tC (.bl b)) := fun _ _ _ H _ I h => Constant_bool ⟨.bl b, H, I, rfl, h⟩
theorem pe_non {j pos} : PE X (.Constant .none j pos) (tC .non) := fun _ _ _ H _ I h => Constant_none ⟨.non, H, I, rfl, h⟩
theorem pe_str {x j pos} : PE X (.Constant (.str x) j pos) (tC (.str x)) := fun _ _ _ H _ I h => Calls.Constant_str ⟨.str x, H, I.tok _, ⟨_, rfl⟩, h⟩

def Gl (X : Cx) (x : Str) : Prop := X.env.kindOf x = some .globalImplicit
theorem ld_glob {E : Value → Shared → Prop} {pins : List (Addr × Obj)} {s : Shared} {σ : St} {H : Hp} {x : Str} {u : Value} {pos : Pos} {Q : Value → Shared → Prop} (I : Inv X pins σ H s) (hg : Gl X x) (hm : X.mg x = some u) (h : Q u s)
    (hd : (x == ("__debug__" : Str)) = false := by decide) : wpAny (model X.prog X.w) X.A (eval (.Name x pos) X.env) Q E s :=
  Calls.Name_function_global I.ok.kind hg (Calls.loadGlobal_global (by rw [I.ok.glob]; exact I.mod.glob.keeps I.bk) hm h) hd
theorem ld_blt {E : Value → Shared → Prop} {pins : List (Addr × Obj)} {s : Shared} {σ : St} {H : Hp} {x : Str} {u : Value} {pos : Pos} {Q : Value → Shared → Prop} (I : Inv X pins σ H s) (hg : Gl X x) (hm : X.mg x = none) (hv : bootBuiltins x = some u) (h : Q u s)
    (hn : x ≠ "__name__" := by decide) (hd : (x == ("__debug__" : Str)) = false := by decide) : wpAny (model X.prog X.w) X.A (eval (.Name x pos) X.env) Q E s := by
  obtain ⟨mb, h1, h2⟩ := I.mod.blt
  exact Calls.Name_function_global I.ok.kind hg (Calls.loadGlobal_builtin (by rw [I.ok.glob]; exact I.mod.glob.keeps I.bk) hm (by rw [I.ok.blt]; exact h1.keeps I.bk) ((h2 x hn).trans hv) h) hd
theorem pe_glob {x : Str} {v : V} {u : Value} {pos : Pos} (hg : Gl X x) (hm : X.mg x = some u) (r : RelV v u) (hd : (x == ("__debug__" : Str)) = false := by decide) : PE X (.Name x pos) (tC v) :=
  fun _ _ _ H _ I h => ld_glob I hg hm ⟨v, H, I, r, h⟩ hd
theorem pe_bltn {x : Str} {v : V} {u : Value} {pos : Pos} (hg : Gl X x) (hm : X.mg x = none) (hv : bootBuiltins x = some u) (r : RelV v u) (hn : x ≠ "__name__" := by decide) (hd : (x == ("__debug__" : Str)) = false := by decide) : PE X (.Name x pos) (tC v) :=
  fun _ _ _ H _ I h => ld_blt I hg hm hv ⟨v, H, I, r, h⟩ hn hd

variable {a b : Expr} {ta tb : TE} {pos : Pos}
def PC (X : Cx) (op : CmpOp) (a b : Expr) (t : TE) : Prop :=
  ∀ (pins : List (Addr × Obj)) (s : Shared) (σ : St) (H : Hp) (Q : VK), Inv X pins σ H s → t σ H Q →
    wpAny (model X.prog X.w) X.A (eval a X.env) (fun v s₁ => wpAny (model X.prog X.w) X.A (eval b X.env) (fun u s₂ => wpAny (model X.prog X.w) X.A (compareOp op v u) (EP X pins σ Q) X.xe s₂) X.xe s₁) X.xe s
theorem nobehind (b : Expr) {op : CmpOp} (h : op ≠ .In) (h2 : op ≠ .NotIn) : behindInMarks op b = false := by
  have e1 : (op == CmpOp.In) = false := by cases op <;> first | rfl | exact absurd rfl h
  have e2 : (op == CmpOp.NotIn) = false := by cases op <;> first | rfl | exact absurd rfl h2
  cases b <;> simp [behindInMarks, e1, e2]
def tIsN (ta : TE) : TE := fun σ H Q => ta σ H fun x H1 => Q (.bl (decide (x = .non))) H1
def tNotN (ta : TE) : TE := fun σ H Q => ta σ H fun x H1 => Q (.bl (!decide (x = .non))) H1
theorem RelV.none_iff {x : V} {v : Value} (r : RelV x v) : (v == Value.none) = decide (x = .non) := by
  cases x with
  | non => cases r; rfl
  | bl _ => cases r; rfl
  | int _ => obtain ⟨t, rfl⟩ := r; rfl
  | str _ => obtain ⟨t, rfl⟩ := r; rfl
  | byt _ => obtain ⟨t, rfl⟩ := r; rfl
  | flt _ => obtain ⟨t, rfl⟩ := r; rfl
  | ref _ => cases r; rfl
  | ty _ => cases r; rfl
theorem pc_isN {j pos'} (ha : PE X a ta) : PC X .Is a (.Constant .none j pos') (tIsN ta) := by
  intro pins s σ H Q I h
  refine thn (ha pins s σ H _ I h) fun v s1 ⟨x, H1, I1, r1, q1⟩ => ?_
  exact Constant_none (is_none_gen ⟨.bl _, H1, I1, by rw [r1.none_iff]; rfl, q1⟩)
theorem pc_notN {j pos'} (ha : PE X a ta) : PC X .IsNot a (.Constant .none j pos') (tNotN ta) := by
  intro pins s σ H Q I h
  refine thn (ha pins s σ H _ I h) fun v s1 ⟨x, H1, I1, r1, q1⟩ => ?_
  exact Constant_none (isnot_none_gen ⟨.bl _, H1, I1, by rw [r1.none_iff]; rfl, q1⟩)
def tB (t : TE) : TT := fun σ H Q => t σ H fun x H1 => ∃ c, x = .bl c ∧ Q c H1
theorem pe_cmp {op : CmpOp} {t : TE} (h : PC X op a b t) (h1 : behindInMarks op b = false := by first | exact nobehind _ (by decide) (by decide) | rfl) : PE X (.Compare a [op] [b] pos) t := fun pins s σ H Q I hw => wpAny_Compare1 (h pins s σ H Q I hw) h1
theorem pt_cmp {op : CmpOp} {t : TE} (h : PC X op a b t) (h1 : behindInMarks op b = false := by first | exact nobehind _ (by decide) (by decide) | rfl) : PT X (.Compare a [op] [b] pos) (tB t) := by
  intro pins s σ H Q I hw
  refine wpAny_isTrue_Compare1 (thn (h pins s σ H _ I hw) fun v s1 h1 => thn h1 fun u s2 h2 => thn h2 fun c s3 ⟨x, H1, I1, r1, q1⟩ => ?_) h1
  obtain ⟨d, rfl, q⟩ := q1
  cases r1
  exact wpAny_truthy_bool ⟨H1, I1, q⟩
theorem pt_val {e : Expr} {t : TE} (h : PE X e t) (he : ∀ whole, isTrue e X.env whole = (do let v ← whole; standAt e.pos; holding [v] (truthy v)) := by intro _; rfl) : PT X e (tB t) := by
  intro pins s σ H Q I hw
  refine isTrue_plain (thn (h pins s σ H _ I hw) fun v s1 ⟨x, H1, I1, r1, q1⟩ => ?_) (he _)
  obtain ⟨d, rfl, q⟩ := q1
  cases r1
  exact wpAny_truthy_bool ⟨H1, I1, q⟩

variable {tA tB' : TT} {rest : List Expr}
def tAnd (t u : TT) : TT := fun σ H Q => t σ H fun c H1 => if c = true then u σ H1 Q else Q false H1
def tOr (t u : TT) : TT := fun σ H Q => t σ H fun c H1 => if c = true then Q true H1 else u σ H1 Q
def tNot (t : TT) : TT := fun σ H Q => t σ H fun c H1 => Q (!c) H1
theorem pw_and1 (ha : PT X a tA) : PW X (.BoolOp .And [a] pos) tA := by
  intro wh pins s σ H Q I h
  refine isTrue_and (thn (ha pins s σ H Q I h) fun c s1 e => ?_)
  cases c with
  | true => exact isTrue_and_nil e
  | false => exact e
theorem pw_or1 (ha : PT X a tA) : PW X (.BoolOp .Or [a] pos) tA := by
  intro wh pins s σ H Q I h
  refine isTrue_or (thn (ha pins s σ H Q I h) fun c s1 e => ?_)
  cases c with
  | false => exact isTrue_or_nil e
  | true => exact e
theorem pw_and (ha : PT X a tA) (hb : PW X (.BoolOp .And (b :: rest) pos) tB') : PW X (.BoolOp .And (a :: b :: rest) pos) (tAnd tA tB') := by
  intro wh pins s σ H Q I h
  refine isTrue_and (thn (ha pins s σ H _ I h) fun c s1 ⟨H1, I1, q1⟩ => ?_)
  cases c with
  | true => exact hb wh pins s1 σ H1 Q I1 q1
  | false => exact ⟨H1, I1, q1⟩
theorem pw_or (ha : PT X a tA) (hb : PW X (.BoolOp .Or (b :: rest) pos) tB') : PW X (.BoolOp .Or (a :: b :: rest) pos) (tOr tA tB') := by
  intro wh pins s σ H Q I h
  refine isTrue_or (thn (ha pins s σ H _ I h) fun c s1 ⟨H1, I1, q1⟩ => ?_)
  cases c with
  | true => exact ⟨H1, I1, q1⟩
  | false => exact hb wh pins s1 σ H1 Q I1 q1
theorem pt_not (ha : PT X a tA) : PT X (.UnaryOp .Not a pos) (tNot tA) := by
  intro pins s σ H Q I h
  exact isTrue_not (ha pins s σ H (fun c H1 => Q (!c) H1) I h)
def tAndV (ta tb : TE) : TE := fun σ H Q => ta σ H fun x H1 => ∃ c, x = .bl c ∧ if c = true then tb σ H1 Q else Q (.bl false) H1
def tOrV (ta tb : TE) : TE := fun σ H Q => ta σ H fun x H1 => ∃ c, x = .bl c ∧ if c = true then Q (.bl true) H1 else tb σ H1 Q
def tNotV (ta : TE) : TE := fun σ H Q => ta σ H fun x H1 => ∃ c, x = .bl c ∧ Q (.bl (!c)) H1
theorem pe_one {op} {t : TE} (h : PE X a t) : PE X (.BoolOp op [a] pos) t := fun pins s σ H Q I hw => BoolOp_one (h pins s σ H Q I hw)
theorem pe_and (ha : PE X a ta) (hb : PE X (.BoolOp .And (b :: rest) pos) tb) : PE X (.BoolOp .And (a :: b :: rest) pos) (tAndV ta tb) := by
  intro pins s σ H Q I h
  refine BoolOp_and (thn (ha pins s σ H _ I h) fun v s1 ⟨x, H1, I1, r1, q1⟩ => ?_)
  obtain ⟨c, rfl, q1⟩ := q1
  cases r1
  refine wpAny_truthy_bool ?_
  cases c with
  | true => exact hb pins s1 σ H1 Q I1 q1
  | false => exact ⟨.bl false, H1, I1, rfl, q1⟩
theorem pe_or (ha : PE X a ta) (hb : PE X (.BoolOp .Or (b :: rest) pos) tb) : PE X (.BoolOp .Or (a :: b :: rest) pos) (tOrV ta tb) := by
  intro pins s σ H Q I h
  refine BoolOp_or (thn (ha pins s σ H _ I h) fun v s1 ⟨x, H1, I1, r1, q1⟩ => ?_)
  obtain ⟨c, rfl, q1⟩ := q1
  cases r1
  refine wpAny_truthy_bool ?_
  cases c with
  | false => exact hb pins s1 σ H1 Q I1 q1
  | true => exact ⟨.bl true, H1, I1, rfl, q1⟩
theorem pe_not (ha : PE X a ta) : PE X (.UnaryOp .Not a pos) (tNotV ta) := by
  intro pins s σ H Q I h
  refine UnaryOp_ (thn (ha pins s σ H _ I h) fun v s1 ⟨x, H1, I1, r1, q1⟩ => ?_)
  obtain ⟨c, rfl, q1⟩ := q1
  cases r1
  exact not_of (wpAny_truthy_bool ⟨.bl (!c), H1, I1, rfl, q1⟩)
def tIf (t : TT) (ta tb : TE) : TE := fun σ H Q => t σ H fun c H1 => if c = true then ta σ H1 Q else tb σ H1 Q
theorem pe_ifExp {c : Expr} (hc : PT X c tA) (ha : PE X a ta) (hb : PE X b tb) : PE X (.IfExp c a b pos) (tIf tA ta tb) := by
  intro pins s σ H Q I h
  refine wpAny_IfExp (thn (hc pins s σ H _ I h) fun d s1 ⟨H1, I1, q1⟩ => ?_)
  cases d with
  | true => exact ha pins s1 σ H1 Q I1 q1
  | false => exact hb pins s1 σ H1 Q I1 q1
end
end L2

namespace L2
open PySem PySem.Spec PyProof.Rows

def SqL (K : PySem.W.Frag) (H : Hp) (a : Addr) (xs : List V) : Prop :=
  Rd H a (.lst xs) ∨
    ∃ (o : Obj) (its : Array Value) (n : Nat), K.lookup a = some o ∧ o.cls = .type "list" ∧ o.dict = none ∧ o.data = .seq its n ∧ its.size ≤ sizeLine ∧ Vals xs its.toList
def SqT (K : PySem.W.Frag) (H : Hp) (a : Addr) (xs : List V) : Prop :=
  Rd H a (.tup xs) ∨
    ∃ (o : Obj) (its : Array Value) (n : Nat), K.lookup a = some o ∧ o.cls = .type "tuple" ∧ o.data = .seq its n ∧ its.size ≤ sizeLine ∧ Vals xs its.toList
def absV : Value → Option V
  | .none => some .non
  | .bool b => some (.bl b)
  | .int i _ => some (.int i)
  | .str x _ => some (.str x)
  | .bytes b _ => some (.byt b)
  | .float b _ => some (.flt b)
  | .ref a => some (.ref a)
  | .type n => some (.ty n)
  | _ => none
theorem RelV.abs {x : V} {u : Value} (r : RelV x u) : absV u = some x := by
  cases x with
  | non => cases r; rfl
  | bl _ => cases r; rfl
  | int _ => obtain ⟨t, rfl⟩ := r; rfl
  | str _ => obtain ⟨t, rfl⟩ := r; rfl
  | byt _ => obtain ⟨t, rfl⟩ := r; rfl
  | flt _ => obtain ⟨t, rfl⟩ := r; rfl
  | ref _ => cases r; rfl
  | ty _ => cases r; rfl
theorem RelV.inj {x y : V} {u : Value} (r : RelV x u) (q : RelV y u) : x = y := Option.some.inj (r.abs.symm.trans q.abs)
theorem Vals.inj : ∀ {xs ys : List V} {us : List Value}, Vals xs us → Vals ys us → xs = ys
  | _, _, _, .nil, .nil => rfl
  | _, _, _, .cons r t, .cons r' t' => by rw [r.inj r', Vals.inj t t']
section
variable {X : Cx} {pins : List (Addr × Obj)} {σ : St} {H : Hp} {s : Shared} {a : Addr} {xs ys : List V}
theorem SqL.of {K : PySem.W.Frag} (h : H a = some (.lst xs)) : SqL K H a xs := .inl (.inl h)
theorem SqT.of {K : PySem.W.Frag} (h : H a = some (.tup xs)) : SqT K H a xs := .inl (.inl h)
theorem Inv.list (I : Inv X pins σ H s) (h : SqL X.K H a xs) : ∃ its : List Value, Vals xs its ∧ PlainL s.heap a its.toArray ∧ xs.length ≤ sizeLine := by
  rcases h with h | ⟨o, its, n, hk, hc, hd, hs, hz, r⟩
  · obtain ⟨z, its, n, r, e⟩ := h.ok I.hok
    exact ⟨its, r, ⟨_, n, e, rfl, rfl, rfl⟩, z⟩
  · refine ⟨its.toList, r, ⟨o, n, I.kIn a o hk, hc, hd, by simpa using hs⟩, ?_⟩
    have e := r.length
    simp only [Array.length_toList] at e
    omega
theorem Inv.tuple (I : Inv X pins σ H s) (h : SqT X.K H a xs) : ∃ its : List Value, Vals xs its ∧ IsTup s.heap a its.toArray ∧ xs.length ≤ sizeLine := by
  rcases h with h | ⟨o, its, n, hk, hc, hs, hz, r⟩
  · obtain ⟨z, its, r, p⟩ := h.ok I.hok
    exact ⟨its, r, p, z⟩
  · refine ⟨its.toList, r, ⟨o, I.kIn a o hk, hc, n, by simpa using hs⟩, ?_⟩
    have e := r.length
    simp only [Array.length_toList] at e
    omega
theorem Inv.list_inj (I : Inv X pins σ H s) (h : SqL X.K H a xs) (h' : SqL X.K H a ys) : xs = ys := by
  obtain ⟨its, r, ⟨o, n, e, _, _, d⟩, _⟩ := I.list h
  obtain ⟨its', r', ⟨o', n', e', _, _, d'⟩, _⟩ := I.list h'
  rw [e] at e'; cases e'
  rw [d] at d'
  injection d' with d1 _
  have : its = its' := by simpa using congrArg Array.toList d1
  subst this
  exact r.inj r'
theorem Inv.tuple_inj (I : Inv X pins σ H s) (h : SqT X.K H a xs) (h' : SqT X.K H a ys) : xs = ys := by
  obtain ⟨its, r, ⟨o, e, _, n, d⟩, _⟩ := I.tuple h
  obtain ⟨its', r', ⟨o', e', _, n', d'⟩, _⟩ := I.tuple h'
  rw [e] at e'; cases e'
  rw [d] at d'
  injection d' with d1 _
  have : its = its' := by simpa using congrArg Array.toList d1
  subst this
  exact r.inj r'
end

abbrev Cx.wish (X : Cx) (E : Value → Shared → Prop) : Cx := { X with xe := E }
abbrev Cx.nox (X : Cx) : Cx := X.wish fun _ _ => False
theorem Cx.Ok.wish {X : Cx} (ok : X.Ok) (E : Value → Shared → Prop) : (X.wish E).Ok :=
  ⟨ok.mod, ok.kind, ok.glob, ok.blt, ok.above, ok.inj, ok.has, ok.cab, ok.hd, ok.frames, ok.stk, ok.exf, ok.bs, ok.bsz, ok.noex, ok.exfs, ok.funs, ok.frf⟩
theorem Cx.Ok.unwish {X : Cx} {E : Value → Shared → Prop} (ok : (X.wish E).Ok) : X.Ok :=
  ⟨ok.mod, ok.kind, ok.glob, ok.blt, ok.above, ok.inj, ok.has, ok.cab, ok.hd, ok.frames, ok.stk, ok.exf, ok.bs, ok.bsz, ok.noex, ok.exfs, ok.funs, ok.frf⟩
section
variable {X : Cx} {pins : List (Addr × Obj)} {σ : St} {H : Hp} {s : Shared} {E : Value → Shared → Prop}
theorem Inv.wish (I : Inv X pins σ H s) (E : Value → Shared → Prop) : Inv (X.wish E) pins σ H s := ⟨I.ok.wish E, I.os, I.bare, I.base, I.loc, I.cell, I.free, I.freeC, I.pin, I.hok, I.len⟩
theorem Inv.unwish (I : Inv (X.wish E) pins σ H s) : Inv X pins σ H s := ⟨I.ok.unwish, I.os, I.bare, I.base, I.loc, I.cell, I.free, I.freeC, I.pin, I.hok, I.len⟩
theorem SP.unwish {D : Ends} {f : Flow} {s' : Shared} (h : SP (X.wish E) pins D f s') : SP X pins D f s' := by
  cases f with
  | next => obtain ⟨σ', H', I, q⟩ := h; exact ⟨σ', H', I.unwish, q⟩
  | brk => obtain ⟨σ', H', I, q⟩ := h; exact ⟨σ', H', I.unwish, q⟩
  | cont => obtain ⟨σ', H', I, q⟩ := h; exact ⟨σ', H', I.unwish, q⟩
  | ret u => obtain ⟨v, σ', H', I, r, q⟩ := h; exact ⟨v, σ', H', I.unwish, r, q⟩
theorem PSs.nox {st : List Stmt} {t : TS} (h : PSs X.nox st t) : PSs X st t := fun pins s σ H D I hw =>
  wpAny_mono (h pins s σ H D (I.wish _) hw) (fun _ _ q => q.unwish) fun _ _ z => False.elim z
end

section
variable {X : Cx} {st : Stmt} {rest : List Stmt} {t u : TS} {e : Expr} {te : TE} {pos : Pos}
def tNext : TS := fun D σ H => D.nx σ H
def tSeq (t u : TS) : TS := fun D σ H => t { D with nx := u D } σ H
theorem pss_nil : PSs X [] tNext := fun _ _ σ H _ I h => wpAny_execs_nil ⟨σ, H, I, h⟩
theorem pss_cons (h1 : PS X st t) (h2 : PSs X rest u) : PSs X (st :: rest) (tSeq t u) := by
  intro pins s σ H D I h
  refine wpAny_execs_cons (thn (h1 pins s σ H { D with nx := u D } I h) fun f s1 q => ?_)
  cases f with
  | next =>
    obtain ⟨σ', H', I', q⟩ := q
    exact h2 pins s1 σ' H' D I' q
  | ret v => exact q
  | brk => exact q
  | cont => exact q
theorem pss_one (h1 : PS X st t) : PSs X [st] t := by
  intro pins s σ H D I h
  refine wpAny_execs_cons (thn (h1 pins s σ H D I h) fun f s1 q => ?_)
  cases f with
  | next => exact wpAny_execs_nil q
  | ret v => exact q
  | brk => exact q
  | cont => exact q
theorem Inv.quiet {pins : List (Addr × Obj)} {σ : St} {H : Hp} {s : Shared} (I : Inv X pins σ H s) : interactive X.env = false := by simp [interactive, I.ok.kind]
def tDrop (te : TE) : TS := fun D σ H => te σ H fun _ H1 => D.nx σ H1
theorem ps_expr (he : PE X e te) (hs : swapsWith e none pos.line X.env = pure false := by rfl) : PS X (.Expr e pos) (tDrop te) := by
  intro pins s σ H D I h
  exact wpAny_Expr_any (thn (he pins s σ H _ I h) fun v s1 ⟨x, H1, I1, r1, q1⟩ => ⟨σ, H1, I1, q1⟩) I.quiet hs
def tRet (te : TE) : TS := fun D σ H => te σ H D.rt
theorem ps_ret (he : PE X e te) : PS X (.Return (some e) pos) (tRet te) := by
  intro pins s σ H D I h
  exact wpAny_Return_some (thn (he pins s σ H _ I h) fun v s1 ⟨x, H1, I1, r1, q1⟩ => ⟨x, σ, H1, I1, r1, q1⟩)
def tIfS (c : TT) (t u : TS) : TS := fun D σ H => c σ H fun b H1 => if b = true then t D σ H1 else u D σ H1
theorem ps_if {c : Expr} {a b : List Stmt} {tc : TT} (hc : PT X c tc) (ha : PSs X a t) (hb : PSs X b u) : PS X (.If c a b pos) (tIfS tc t u) := by
  intro pins s σ H D I h
  refine wpAny_If (thn (hc pins s σ H _ I h) fun d s1 ⟨H1, I1, q1⟩ => ?_)
  cases d with
  | true => exact ha pins s1 σ H1 D I1 q1
  | false => exact hb pins s1 σ H1 D I1 q1
def tNever : TS := fun _ _ _ => False
theorem ps_never : PS X st tNever := fun _ _ _ _ _ _ h => h.elim
end

abbrev TG := V → St → Hp → (St → Hp → Prop) → Prop
abbrev TGs := List V → St → Hp → (St → Hp → Prop) → Prop
def PG (X : Cx) (target : Expr) (t : TG) : Prop :=
  ∀ (pins : List (Addr × Obj)) (s : Shared) (σ : St) (H : Hp) (v : V) (u : Value) (Q : St → Hp → Prop), Inv X pins σ H s → RelV v u → t v σ H Q →
    wpAny (model X.prog X.w) X.A (assign target X.env u) (fun _ s' => ∃ σ' H', Inv X pins σ' H' s' ∧ Q σ' H') X.xe s
def PGs (X : Cx) (ts : List Expr) (t : TGs) : Prop :=
  ∀ (pins : List (Addr × Obj)) (s : Shared) (σ : St) (H : Hp) (vs : List V) (us : List Value) (Q : St → Hp → Prop), Inv X pins σ H s → Vals vs us → t vs σ H Q →
    wpAny (model X.prog X.w) X.A (assignInOrder ((assignEach ts X.env).map (·.2)) us) (fun _ s' => ∃ σ' H', Inv X pins σ' H' s' ∧ Q σ' H') X.xe s
abbrev TSet := V → V → V → Hp → (Hp → Prop) → Prop
def PSet (X : Cx) (t : TSet) : Prop :=
  ∀ (pins : List (Addr × Obj)) (s : Shared) (σ : St) (H : Hp) (o i v : V) (ov iv u : Value) (Q : Hp → Prop), Inv X pins σ H s → RelV o ov → RelV i iv → RelV v u → t o i v H Q →
    wpAny (model X.prog X.w) X.A (setItem ov iv u) (fun _ s' => ∃ H', Inv X pins σ H' s' ∧ Q H') X.xe s
section
variable {X : Cx} {pos : Pos}
abbrev gName (i : Nat) : TG := fun v σ H Q => Q (σ.set i (some v)) H
theorem pg_name {i : Nat} {x : Str} (hN : X.N.Nodup) (hi : X.N[i]? = some x) (hx : Loc X.env.scope x) (hf : X.fn x = true ∨ X.env.scope.names.lookup x = some .local := by first | exact .inl rfl | exact .inr rfl | assumption) : PG X (.Name x pos) (gName i) := by
  intro pins s σ H v u Q I r h
  exact wpAny_assign_Name (store_ok I hN hi hx r (fun s' I' => ⟨_, H, I', h⟩) hf)
def gNil : TGs := fun vs σ H Q => vs = [] ∧ Q σ H
def gCons (t : TG) (u : TGs) : TGs := fun vs σ H Q => ∃ v r, vs = v :: r ∧ t v σ H fun σ' H' => u r σ' H' Q
theorem pgs_nil : PGs X [] gNil := by
  intro pins s σ H vs us Q I r h
  obtain ⟨e, h⟩ := h
  subst e
  cases r
  exact assignInOrder_nil ⟨σ, H, I, h⟩
theorem pgs_cons {e : Expr} {es : List Expr} {t : TG} {u : TGs} (h1 : PG X e t) (h2 : PGs X es u)
    (hs : (assignEach (e :: es) X.env).map (·.2) = assign e X.env :: (assignEach es X.env).map (·.2) := by rfl) : PGs X (e :: es) (gCons t u) := by
  intro pins s σ H vs us Q I r h
  obtain ⟨v, vr, e1, h⟩ := h
  subst e1
  cases r with
  | cons r rr =>
    rw [hs]
    refine assignInOrder_cons (thn (h1 pins s σ H _ _ _ I r h) fun _ s1 ⟨σ1, H1, I1, q1⟩ => ?_)
    exact h2 pins s1 σ1 H1 _ _ Q I1 rr q1
def gTup (K : PySem.W.Frag) (n : Nat) (t : TGs) : TG := fun v σ H Q => ∃ a xs, v = .ref a ∧ SqT K H a xs ∧ xs.length = n ∧ t xs σ H Q
theorem pg_tup {es : List Expr} {k : Nat} {t : TGs} {n : Nat} (hc : X.calm = true) (h : PGs X es t)
    (hn : (assignEach es X.env).length = n := by rfl) (hst : (assignEach es X.env).findIdx? (·.1) = none := by rfl) : PG X (.Tuple es k pos) (gTup X.K n t) := by
  intro pins s σ H v u Q I r hw
  obtain ⟨a, xs, e1, hq, hl, hw⟩ := hw
  subst e1
  cases r
  obtain ⟨its, rv, ht, hz⟩ := I.tuple hq
  refine assign_Tuple_tuple (I.ok.hd hc) ht (by simp [hn, ← hl, rv.length]) hst fun h' hx => ?_
  have I1 : Inv X pins σ H { s with heap := h' } := I.kept (t' := s.toks) fun b o e => hx b o (Nat.ne_of_lt (Heap.lt_size e)) e
  exact h pins _ σ H xs _ Q I1 (by simpa using rv) hw
def gSub (to ti : TE) (t : TSet) : TG := fun v σ H Q => to σ H fun o H1 => ti σ H1 fun i H2 => t o i v H2 fun H3 => Q σ H3
theorem pg_sub {o i : Expr} {to ti : TE} {t : TSet} (ho : PE X o to) (hi : PE X i ti) (hs : PSet X t)
    (ha : ∀ v, assign (.Subscript o i pos) X.env v = (do
      let ov ← holding [v] (eval o X.env)
      let iv ← holding [v, ov] (eval i X.env)
      standAt pos
      holding [v, ov, iv] (setItem ov iv v)
      release [v, ov, iv] []) := by intro _; rfl) : PG X (.Subscript o i pos) (gSub to ti t) := by
  intro pins s σ H v u Q I r h
  rw [ha]
  refine wpAny_bind (wpAny_holding (thn (ho pins s σ H _ I h) fun ov s1 ⟨x, H1, I1, r1, q1⟩ => ?_))
  refine wpAny_bind (wpAny_holding (thn (hi pins s1 σ H1 _ I1 q1) fun iv s2 ⟨y, H2, I2, r2, q2⟩ => ?_))
  refine wpAny_bind (wpAny_standAt (wpAny_bind (wpAny_holding (thn (hs pins s2 σ H2 x y v ov iv u _ I2 r1 r2 r q2) fun _ s3 ⟨H3, I3, q3⟩ => ?_))))
  exact wpAny_release ⟨σ, H3, I3, q3⟩
def tAsg (te : TE) (g : TG) : TS := fun D σ H => te σ H fun x H1 => g x σ H1 D.nx
theorem ps_asg {tg e : Expr} {te : TE} {g : TG} (he : PE X e te) (hg : PG X tg g) (hs : swapsWithSole [tg] e pos.line X.env = pure false := by rfl) (hw : swappedStores [tg] e X.env = pure none := by rfl)
    (h1 : (assignEach [tg] X.env).map (·.2) = [assign tg X.env] := by rfl) : PS X (.Assign [tg] e pos) (tAsg te g) := by
  intro pins s σ H D I h
  refine wpAny_Assign_stores (thn (he pins s σ H _ I h) fun v s1 ⟨x, H1, I1, r1, q1⟩ => ?_) hs hw
  rw [h1]
  exact thn (hg pins s1 σ H1 x v _ I1 r1 q1) fun _ s2 q => q
theorem ps_set {i : Nat} {x : Str} {e : Expr} {te : TE} {pos' : Pos} (hN : X.N.Nodup) (hi : X.N[i]? = some x) (hx : Loc X.env.scope x) (he : PE X e te) (hs : swapsWith e (some (.Name x pos')) pos.line X.env = pure false := by rfl) (hf : X.fn x = true ∨ X.env.scope.names.lookup x = some .local := by first | exact .inl rfl | exact .inr rfl | assumption) :
    PS X (.Assign [.Name x pos'] e pos) (tAsg te (gName i)) := by
  intro pins s σ H D I h
  refine wpAny_Assign_Name (thn (he pins s σ H _ I h) fun v s1 ⟨y, H1, I1, r1, q1⟩ => ?_) hs
  exact store_ok I1 hN hi hx r1 (fun s2 I2 => ⟨_, H1, I2, q1⟩) hf
end

section
variable {X : Cx} {pos : Pos}
end

structure It where
  go : Nat → Hp → Prop
  yld : Nat → Hp → V → Hp → Prop
  stop : Nat → Hp → Prop
def FpOk (X : Cx) (pins : List (Addr × Obj)) (H : Hp) (b : Addr) : Prop :=
  H b = none ∧ b ≠ X.env.locals ∧ b ∉ X.fs ∧ (b ∈ X.ex ∨ X.s₀.heap.objs.size ≤ b) ∧ (∀ x c, X.env.cells.lookup x = some c → c ≠ b) ∧ ∀ p ∈ X.pn ++ pins, p.1 ≠ b
theorem Inv.fpOk {X : Cx} {pins : List (Addr × Obj)} {σ : St} {H H' : Hp} {s : Shared} {b : Addr} (I : Inv X pins σ H s) (hb : s.heap.objs.size ≤ b) (hn : H' b = none) : FpOk X pins H' b := by
  refine ⟨hn, Nat.ne_of_gt (Nat.lt_of_lt_of_le I.lt hb), I.nofs hb, .inr (Nat.le_trans I.sz hb), fun x c e z => ?_, fun p hp z => ?_⟩
  · obtain ⟨v, q⟩ := I.cell x c e
    exact absurd (Nat.lt_of_lt_of_le q.lt (by rw [z]; exact hb)) (Nat.lt_irrefl _)
  · exact absurd (Nat.lt_of_lt_of_le (Heap.lt_size (I.pin p hp).1) (by rw [z]; exact hb)) (Nat.lt_irrefl _)
structure Turn (P : Program) (w : World) (K : PySem.W.Frag) (tg : Expr) (J : It) (fp : List Addr) (it : Addr) (tn : Nat → Heap → Prop) : Prop where
  mem : it ∈ fp
  obj : ∀ i h, tn i h → ∀ b ∈ fp, ∃ o, h.get? b = some o ∧ ∀ v, o.data ≠ .cell v
  keep : ∀ i h h', tn i h → (∀ b ∈ fp, ∀ o, h.get? b = some o → h'.get? b = some o) → tn i h'
  item : ∀ (X : Cx), X.prog = P → X.w = w → X.K = K → X.calm = true → ∀ (i : Nat) (pins : List (Addr × Obj)) (s : Shared) (σ : St) (H : Hp) (E : Value → Shared → Prop), Inv X pins σ H s → (∀ b ∈ fp, FpOk X pins H b) → tn i s.heap → J.go i H →
    wpAny (model P w) X.A (pyNext (.ref it)) (fun r s1 => ∃ u, r = some u ∧
      wpAny (model P w) X.A (letOwnedTupleGo tg (.ref it) u) (fun _ s2 => ∃ x H', Inv X pins σ H' s2 ∧ RelV x u ∧ J.yld i H x H' ∧ tn (i + 1) s2.heap ∧ ∀ b ∈ fp, H' b = none) E s1) E s
  done : ∀ (X : Cx), X.prog = P → X.w = w → X.K = K → X.calm = true → ∀ (i : Nat) (pins : List (Addr × Obj)) (s : Shared) (σ : St) (H : Hp) (E : Value → Shared → Prop), Inv X pins σ H s → (∀ b ∈ fp, FpOk X pins H b) → tn i s.heap → J.stop i H →
    wpAny (model P w) X.A (pyNext (.ref it)) (fun r s1 => r = none ∧ Inv X pins σ H s1) E s
  self : ∀ (A : Around) (i : Nat) (s : Shared) (Q : Value → Shared → Prop) (E : Value → Shared → Prop), tn i s.heap → Q (.ref it) s → wpAny (model P w) A (pyIter (.ref it)) Q E s
abbrev TI := St → Hp → (It → Hp → Prop) → Prop
def PIE (X : Cx) (pins : List (Addr × Obj)) (σ : St) (tg : Expr) (R : It → Hp → Prop) (itv : Value) (s2 : Shared) : Prop :=
  ∃ (it : Addr) (fp : List Addr) (tn : Nat → Heap → Prop) (J : It) (H' : Hp), itv = .ref it ∧ Inv X pins σ H' s2 ∧ Turn X.prog X.w X.K tg J fp it tn ∧ tn 0 s2.heap ∧ (∀ b ∈ fp, FpOk X pins H' b) ∧ R J H'
def PI (X : Cx) (tg iter : Expr) (wi : TI) : Prop :=
  ∀ (pins : List (Addr × Obj)) (s : Shared) (σ : St) (H : Hp) (R : It → Hp → Prop), Inv X pins σ H s → wi σ H R →
    wpAny (model X.prog X.w) X.A (eval iter X.env) (fun v s1 => wpAny (model X.prog X.w) X.A (pyIter v) (PIE X pins σ tg R) X.xe s1) X.xe s

theorem go_of {M : Model} {A : Around} {E : Value → Shared → Prop} {s : Shared} {tg : Expr} {it : Addr} {u : Value} {o : Obj} {n : String} {vs : Array Value} {Q : Unit → Shared → Prop} (ho : s.heap.get? it = some o) (hc : o.cls = .type n) (hd : o.data = .fields vs)
    (hn : ["enumerate", "zip", "dict_itemiterator", "dict_reverseitemiterator", "odict_iterator", "itertools.zip_longest", "itertools.pairwise"].contains n = false) (hQ : Q () s) : wpAny M A (letOwnedTupleGo tg (.ref it) u) Q E s := by
  unfold letOwnedTupleGo
  cases tg <;> first
    | exact wpAny_pure hQ
    | (cases u <;> first
        | exact wpAny_pure hQ
        | (refine wpAny_bind (wpAny_load ho ?_)
           rw [hc, hd]
           show wpAny M A (if (["enumerate", "zip", "dict_itemiterator", "dict_reverseitemiterator", "odict_iterator", "itertools.zip_longest", "itertools.pairwise"].contains n && vs[0]? == some (rawInt _)) = true then _ else _) Q E s
           rw [if_neg (by intro h; rw [hn, Bool.false_and] at h; cases h)]
           exact wpAny_pure hQ))

def Itl (K : PySem.W.Frag) (a : Addr) : It :=
  ⟨fun i H => ∃ xs x, SqL K H a xs ∧ xs[i]? = some x, fun i H x H' => H' = H ∧ ∀ xs, SqL K H a xs → xs[i]? = some x, fun i H => ∃ xs, SqL K H a xs ∧ xs.length ≤ i⟩
def Itr (lo : Int) (n : Nat) : It := ⟨fun i _ => i < n, fun i H x H' => H' = H ∧ x = .int (lo + i), fun i _ => n ≤ i⟩
theorem turn_list {P : Program} {w : World} {K : PySem.W.Frag} {tg : Expr} (a it : Addr) : Turn P w K tg (Itl K a) [it] it (fun i h => h.IsListIter it a i) where
  mem := by simp
  obj := fun i h st b hb => by
    have e : b = it := by simpa using hb
    subst e
    obtain ⟨o, e, c, d⟩ := st
    exact ⟨o, e, fun v z => by rw [d] at z; cases z⟩
  keep := fun i h h' st k => st.at fun o e => k it (by simp) o e
  item := by
    intro X hP hw hK hc i pins s σ H E I hf st hg
    subst hP hw hK
    obtain ⟨xs, x, hq, hx⟩ := hg
    obtain ⟨its, rv, p, hz⟩ := I.list hq
    obtain ⟨u, hu, ru⟩ := rv.get hx
    obtain ⟨f0, f1, f2, f3, f4, f5⟩ := hf it (by simp)
    refine wpAny_pyNext_list_item st p.isList (x := u) (by simpa using hu) fun h' st' sb => ?_
    have I1 : Inv X pins σ H { s with heap := h' } := I.turned (t' := s.toks) (fun b o hb e => (sb.2 b hb).trans e) f0 f1 f3 f4 f5
    obtain ⟨o, e, c, d⟩ := id st'
    exact ⟨u, rfl, go_of (s := { s with heap := h' }) e c d (by decide) ⟨x, H, I1, ru, ⟨rfl, fun ys hy => by rw [I.list_inj hy hq]; exact hx⟩, st', fun b hb => (hf b hb).1⟩⟩
  done := by
    intro X hP hw hK hc i pins s σ H E I hf st hg
    subst hP hw hK
    obtain ⟨xs, hq, hx⟩ := hg
    obtain ⟨its, rv, p, hz⟩ := I.list hq
    obtain ⟨f0, f1, f2, f3, f4, f5⟩ := hf it (by simp)
    have hl := rv.length
    exact wpAny_pyNext_list_end (I.ok.hd hc) st p.isList (by simp; omega) fun h' eb => ⟨rfl, I.turned (t' := s.toks) (fun b o hb e => eb b o hb e) f0 f1 f3 f4 f5⟩
  self := fun _ _ _ _ _ st h => wpAny_pyIter_listiter st h
theorem turn_range {P : Program} {w : World} {K : PySem.W.Frag} {tg : Expr} (it : Addr) (lo : Int) (n : Nat) : Turn P w K tg (Itr lo n) [it] it (fun i h => IsRangeIter h it (lo + (i : Nat) * 1) ((n : Int) - (i : Nat)) 1) where
  mem := by simp
  obj := fun i h st b hb => by
    have e : b = it := by simpa using hb
    subst e
    exact ⟨_, st, fun v z => by
      have z' : Data.fields _ = Data.cell v := z
      cases z'⟩
  keep := fun i h h' st k => k it (by simp) _ st
  item := by
    intro X hP hw hK hc i pins s σ H E I hf st hg
    subst hP hw hK
    obtain ⟨f0, f1, f2, f3, f4, f5⟩ := hf it (by simp)
    have W := Walks.range (prog := X.prog) (w := X.w) (I.ok.hd hc) it lo 1 n
    refine W.item i s _ _ hg st fun v h' tk hv st' kk => ?_
    obtain ⟨t, rfl⟩ := hv
    have I1 : Inv X pins σ H { s with heap := h', toks := tk } := I.turned (fun b o hb e => kk b o (by simpa using hb) e) f0 f1 f3 f4 f5
    refine ⟨_, rfl, go_of (s := { s with heap := h', toks := tk }) (n := "range_iterator") st' rfl rfl (by decide) ⟨.int (lo + i), H, I1, ⟨t, ?_⟩, ⟨rfl, rfl⟩, st', fun b hb => (hf b hb).1⟩⟩
    rw [Int.mul_one]
  done := by
    intro X hP hw hK hc i pins s σ H E I hf st hg
    subst hP hw hK
    obtain ⟨f0, f1, f2, f3, f4, f5⟩ := hf it (by simp)
    exact wpAny_pyNext_range_end (I.ok.hd hc) st (by have : n ≤ i := hg; omega) fun h' eb => ⟨rfl, I.turned (t' := s.toks) (fun b o hb e => eb b o hb e) f0 f1 f3 f4 f5⟩
  self := fun _ _ _ _ _ st h => wpAny_pyIter_rangeiter st h
end L2

namespace L2
open PySem PySem.Spec PyProof.Rows
section
variable {X : Cx} {tg : Expr}
def iList (K : PySem.W.Frag) (tl : TE) : TI := fun σ H R => tl σ H fun x H1 => ∃ a, x = .ref a ∧ (∃ xs, SqL K H1 a xs) ∧ R (Itl K a) H1
theorem pi_list {l : Expr} {tl : TE} (hl : PE X l tl) : PI X tg l (iList X.K tl) := by
  intro pins s σ H R I h
  refine thn (hl pins s σ H _ I h) fun v s1 ⟨x, H1, I1, r1, q1⟩ => ?_
  obtain ⟨a, e, ⟨xs, hq⟩, q⟩ := q1
  subst e
  cases r1
  obtain ⟨its, rv, p, hz⟩ := I1.list hq
  refine wpAny_pyIter_list p.isList ?_
  refine ⟨s1.heap.objs.size, [s1.heap.objs.size], _, _, H1, rfl, I1.kept (t' := s1.toks) fun b o e => Heap.get?_push_of_some _ e, turn_list a _, ⟨_, Heap.get?_push_size _ rfl, rfl, rfl⟩, fun b hb => ?_, q⟩
  have e : b = s1.heap.objs.size := by simpa using hb
  subst e
  exact I1.fpOk (Nat.le_refl _) (I1.hok.fresh (Nat.le_refl _))
theorem range_it {pins : List (Addr × Obj)} {σ : St} {H : Hp} {s : Shared} {R : It → Hp → Prop} {E : Value → Shared → Prop} {lo hi : Int} {t u v : Tok} {tk : Nat} (I : Inv X pins σ H s) (h1 : -(2 ^ 62) ≤ lo) (h2 : lo < 2 ^ 62) (h3 : -(2 ^ 62) ≤ hi) (h4 : hi < 2 ^ 62)
    (q : R (Itr lo (hi - lo).toNat) H) : wpAny (model X.prog X.w) X.A (pyIter (.ref s.heap.objs.size)) (PIE X pins σ tg R) E { s with heap := s.heap.push { cls := .type "range", data := .fields #[.int lo t, .int hi u, .int 1 v] }, toks := tk } := by
  refine wpAny_pyIter_range (IsRange.new ..) (small_one h1 h2 h3 h4) ?_
  have I1 : Inv X pins σ H { s with heap := s.heap.push { cls := .type "range", data := .fields #[.int lo t, .int hi u, .int 1 v] }, toks := tk } := I.kept fun b o e => Heap.get?_push_of_some _ e
  refine ⟨(s.heap.push { cls := .type "range", data := .fields #[.int lo t, .int hi u, .int 1 v] }).objs.size, [(s.heap.push { cls := .type "range", data := .fields #[.int lo t, .int hi u, .int 1 v] }).objs.size], _, _, H, rfl,
    I1.kept (t' := tk) fun b o e => Heap.get?_push_of_some _ e, turn_range _ lo (hi - lo).toNat, ?_, fun b hb => ?_, q⟩
  · have e1 : lo + ((0 : Nat) : Int) * 1 = lo := by simp
    have e2 : (((hi - lo).toNat : Nat) : Int) - ((0 : Nat) : Int) = Builtin.Range.rangeSize lo hi 1 := by rw [rangeSize_one]; split <;> omega
    show IsRangeIter _ _ (lo + ((0 : Nat) : Int) * 1) ((((hi - lo).toNat : Nat) : Int) - ((0 : Nat) : Int)) 1
    rw [e1, e2]
    exact Heap.get?_push_size _ rfl
  · have e : b = (s.heap.push { cls := .type "range", data := .fields #[.int lo t, .int hi u, .int 1 v] }).objs.size := by simpa using hb
    subst e
    exact I1.fpOk (Nat.le_refl _) (I1.hok.fresh (Nat.le_refl _))
def iRng1 (ta : TA) : TI := fun σ H R => ta σ H fun vs H1 => ∃ j : Int, vs = [.int j] ∧ -(2 ^ 62) ≤ j ∧ j < 2 ^ 62 ∧ R (Itr 0 j.toNat) H1
def iRng2 (ta : TA) : TI := fun σ H R => ta σ H fun vs H1 => ∃ i j : Int, vs = [.int i, .int j] ∧ (-(2 ^ 62) ≤ i ∧ i < 2 ^ 62 ∧ -(2 ^ 62) ≤ j ∧ j < 2 ^ 62) ∧ R (Itr i (j - i).toNat) H1
theorem pi_range1 {a : Expr} {ta : TA} {p pos : Pos} (hg : Gl X "range") (hm : X.mg "range" = none) (ha : PA X [a] ta) (hs : starEach [a] X.env = [(false, eval a X.env)] := by rfl) : PI X tg (.Call (.Name "range" p) [a] [] pos) (iRng1 ta) := by
  intro pins s σ H R I h
  refine Call_ (ld_blt I hg hm boot_range (PyProof.Rows.callWith_type1 (thn (ha pos pins s σ H _ I h) fun us s1 ⟨vs, H1, I1, r1, q1⟩ => ?_) hs rfl))
  obtain ⟨j, e, q1, q2, q⟩ := q1
  subst e
  cases r1 with
  | cons r rr =>
    cases rr
    obtain ⟨t, rfl⟩ := r
    exact call_range_1 (range_it I1 (by omega) (by omega) q1 q2 (by simpa using q))
theorem pi_range2 {a b : Expr} {ta : TA} {p pos : Pos} (hg : Gl X "range") (hm : X.mg "range" = none) (ha : PA X [a, b] ta) (hs : starEach [a, b] X.env = [(false, eval a X.env), (false, eval b X.env)] := by rfl) (hs2 : starEach [b] X.env = [(false, eval b X.env)] := by rfl) :
    PI X tg (.Call (.Name "range" p) [a, b] [] pos) (iRng2 ta) := by
  intro pins s σ H R I h
  refine Call_ (ld_blt I hg hm boot_range (PyProof.Rows.callWith_type1 (thn (ha pos pins s σ H _ I h) fun us s1 ⟨vs, H1, I1, r1, q1⟩ => ?_) (by rw [hs, hs2]) (by rw [hs2]; rfl)))
  obtain ⟨i, j, e, ⟨q1, q2, q3, q4⟩, q⟩ := q1
  subst e
  cases r1 with
  | cons r rr =>
    cases rr with
    | cons r' rr =>
      cases rr
      obtain ⟨t, rfl⟩ := r
      obtain ⟨t', rfl⟩ := r'
      exact call_range_2 (range_it I1 q1 q2 q3 q4 q)

def tFor (wi : TI) (g : TG) (tb : TS) : TS := fun D σ H => wi σ H fun J H1 => ∃ W : Nat → Nat → St → Hp → Prop, (∃ m, W 0 m σ H1) ∧ ∀ i m σ H, W i m σ H →
  (J.stop i H ∧ D.nx σ H) ∨ (J.go i H ∧ ∃ N : St → Hp → Prop, (∀ σ' H', N σ' H' → ∃ m', m' < m ∧ W (i + 1) m' σ' H') ∧ ∀ x H', J.yld i H x H' → g x σ H' fun σ2 H2 => tb { D with nx := N, ct := N, bk := D.nx } σ2 H2)
def pinsAt (fp : List Addr) (h : Heap) : List (Addr × Obj) := fp.filterMap fun b => (h.get? b).map fun o => (b, o)
theorem mem_pinsAt {fp : List Addr} {h : Heap} {b : Addr} {o : Obj} (hb : b ∈ fp) (e : h.get? b = some o) : (b, o) ∈ pinsAt fp h := List.mem_filterMap.mpr ⟨b, hb, by rw [e]; rfl⟩
theorem of_pinsAt {fp : List Addr} {h : Heap} {p : Addr × Obj} (hp : p ∈ pinsAt fp h) : p.1 ∈ fp ∧ h.get? p.1 = some p.2 := by
  obtain ⟨b, hb, e⟩ := List.mem_filterMap.mp hp
  cases q : h.get? b with
  | none => rw [q] at e; cases e
  | some o =>
    rw [q] at e
    have e' : (b, o) = p := Option.some.inj e
    subst e'
    exact ⟨hb, q⟩
theorem Inv.pinned {pins : List (Addr × Obj)} {σ : St} {H : Hp} {s : Shared} {fp : List Addr} (I : Inv X pins σ H s) (hf : ∀ b ∈ fp, FpOk X pins H b) (ho : ∀ b ∈ fp, ∃ o, s.heap.get? b = some o ∧ ∀ v, o.data ≠ .cell v) : Inv X (pins ++ pinsAt fp s.heap) σ H s :=
  I.pins_of fun p hp => (List.mem_append.mp hp).elim (fun z => I.pin p (List.mem_append_right _ z)) fun z => by
    obtain ⟨hb, e⟩ := of_pinsAt z
    obtain ⟨f0, f1, f2, _⟩ := hf p.1 hb
    obtain ⟨o, e', d⟩ := ho p.1 hb
    rw [e] at e'; cases e'
    exact ⟨e, f0, f1, f2, d⟩
theorem Inv.unpinned {pins pl : List (Addr × Obj)} {σ : St} {H : Hp} {s : Shared} (I : Inv X (pins ++ pl) σ H s) : Inv X pins σ H s := I.pins_of fun p hp => I.pin p (List.mem_append_right _ (List.mem_append_left _ hp))
theorem ps_for {iter : Expr} {body : List Stmt} {wi : TI} {g : TG} {tb : TS} {pos : Pos} (hp : PassesOwn (model X.prog X.w) X.A X.env X.xe) (hc : X.calm = true) (hi : PI X tg iter wi) (hg : PG X tg g) (hb : PSs X body tb)
    (hs : ∀ x, foldedSetIterable iter X.env x = pure x := by intro _; rfl) : PS X (.For tg iter body [] pos) (tFor wi g tb) := by
  intro pins s σ H D I h
  refine wpAny_For (thn (hi pins s σ H _ I h) fun v s1 h1 => thn h1 fun itv s2 h2 => ?_) hs
  obtain ⟨it, fp, tn, J, H2, e, I2, T, st2, f2, W, ⟨m0, w0⟩, turn⟩ := h2
  subst e
  -- what stays true of the iterator's objects through the loop
  have stat : ∀ {H' : Hp}, (∀ b ∈ fp, H' b = none) → ∀ b ∈ fp, FpOk X pins H' b := fun hn b hb => ⟨hn b hb, (f2 b hb).2⟩
  refine codeAny_forLoop_any (fun n s' => ∃ i σ' H', Inv X pins σ' H' s' ∧ tn i s'.heap ∧ (∀ b ∈ fp, H' b = none) ∧ W i n σ' H') ?_ m0 ⟨0, σ, H2, I2, st2, fun b hb => (f2 b hb).1, w0⟩
  rintro n s3 ⟨i, σ3, H3, I3, st3, fr3, w3⟩
  rcases turn i n σ3 H3 w3 with ⟨stop, qn⟩ | ⟨go, N, hN, step⟩
  · refine wpAny_passesOwn hp (thn (T.done X rfl rfl rfl hc i pins s3 σ3 H3 X.xe I3 (stat fr3) st3 stop) fun r s4 ⟨hr, I4⟩ => ?_)
    subst hr
    exact wpAny_execs_nil ⟨σ3, H3, I4, qn⟩
  · refine wpAny_passesOwn hp (thn (T.item X rfl rfl rfl hc i pins s3 σ3 H3 X.xe I3 (stat fr3) st3 go) fun r s4 ⟨u, hr, h4⟩ => ?_)
    subst hr
    refine wpAny_passesOwn hp (thn h4 fun _ s5 ⟨x, H5, I5, r5, y5, st5, fr5⟩ => ?_)
    have I5' := I5.pinned (stat fr5) (T.obj _ _ st5)
    refine wpAny_passesOwn hp (thn (hg _ s5 σ3 H5 x u _ I5' r5 (step x H5 y5)) fun _ s6 ⟨σ6, H6, I6, q6⟩ => ?_)
    refine wpAny_passesOwn hp (thn (hb _ s6 σ6 H6 _ I6 q6) fun f s7 q7 => ?_)
    have again : ∀ {σ7 : St} {H7 : Hp}, Inv X (pins ++ pinsAt fp s5.heap) σ7 H7 s7 → N σ7 H7 → ∃ m, m < n ∧ ∃ i σ' H', Inv X pins σ' H' s7 ∧ tn i s7.heap ∧ (∀ b ∈ fp, H' b = none) ∧ W i m σ' H' := fun {σ7 H7} I7 n7 => by
      obtain ⟨m', hm, w7⟩ := hN σ7 H7 n7
      refine ⟨m', hm, i + 1, σ7, H7, I7.unpinned, T.keep _ _ _ st5 fun b hb o e => (I7.pin (b, o) (List.mem_append_right _ (List.mem_append_right _ (mem_pinsAt hb e)))).1, fun b hb => ?_, w7⟩
      obtain ⟨o, e, d⟩ := T.obj _ _ st5 b hb
      exact (I7.pin (b, o) (List.mem_append_right _ (List.mem_append_right _ (mem_pinsAt hb e)))).2.1
    cases f with
    | next => obtain ⟨σ7, H7, I7, n7⟩ := q7; exact again I7 n7
    | cont => obtain ⟨σ7, H7, I7, n7⟩ := q7; exact again I7 n7
    | brk => obtain ⟨σ7, H7, I7, q7⟩ := q7; exact ⟨σ7, H7, I7.unpinned, q7⟩
    | ret v => obtain ⟨x7, σ7, H7, I7, r7, q7⟩ := q7; exact ⟨x7, σ7, H7, I7.unpinned, r7, q7⟩
end

theorem for_list {K : PySem.W.Frag} {a : Addr} {xs : List V} {g : TG} {tb : TS} {D : Ends} {σ : St} {H : Hp} (Pv : Nat → St → Hp → Prop) (h0 : Pv 0 σ H) (hl : ∀ i σ H, i ≤ xs.length → Pv i σ H → SqL K H a xs)
    (hs : ∀ i x σ H, xs[i]? = some x → Pv i σ H → g x σ H fun σ2 H2 => tb { D with nx := Pv (i + 1), ct := Pv (i + 1), bk := D.nx } σ2 H2) (hd : ∀ σ H, Pv xs.length σ H → D.nx σ H) :
    ∃ W : Nat → Nat → St → Hp → Prop, (∃ m, W 0 m σ H) ∧ ∀ i m σ H, W i m σ H →
      ((Itl K a).stop i H ∧ D.nx σ H) ∨ ((Itl K a).go i H ∧ ∃ N : St → Hp → Prop, (∀ σ' H', N σ' H' → ∃ m', m' < m ∧ W (i + 1) m' σ' H') ∧ ∀ x H', (Itl K a).yld i H x H' → g x σ H' fun σ2 H2 => tb { D with nx := N, ct := N, bk := D.nx } σ2 H2) := by
  refine ⟨fun i m σ H => m = xs.length - i ∧ i ≤ xs.length ∧ Pv i σ H, ⟨xs.length, by simp, Nat.zero_le _, h0⟩, ?_⟩
  rintro i m σ H ⟨rfl, hi, p⟩
  have q := hl i σ H hi p
  by_cases hlt : i < xs.length
  · refine .inr ⟨⟨xs, xs[i], q, by simp [hlt]⟩, Pv (i + 1), fun σ' H' p' => ⟨xs.length - (i + 1), by omega, rfl, hlt, p'⟩, fun x H' y => ?_⟩
    obtain ⟨e, y⟩ := y
    subst e
    exact hs i x σ _ (y xs q) p
  · have e : i = xs.length := by omega
    subst e
    exact .inl ⟨⟨xs, q, Nat.le_refl _⟩, hd σ H p⟩
theorem for_range {lo : Int} {n : Nat} {g : TG} {tb : TS} {D : Ends} {σ : St} {H : Hp} (Pv : Nat → St → Hp → Prop) (h0 : Pv 0 σ H)
    (hs : ∀ i σ H, i < n → Pv i σ H → g (.int (lo + i)) σ H fun σ2 H2 => tb { D with nx := Pv (i + 1), ct := Pv (i + 1), bk := D.nx } σ2 H2) (hd : ∀ σ H, Pv n σ H → D.nx σ H) :
    ∃ W : Nat → Nat → St → Hp → Prop, (∃ m, W 0 m σ H) ∧ ∀ i m σ H, W i m σ H →
      ((Itr lo n).stop i H ∧ D.nx σ H) ∨ ((Itr lo n).go i H ∧ ∃ N : St → Hp → Prop, (∀ σ' H', N σ' H' → ∃ m', m' < m ∧ W (i + 1) m' σ' H') ∧ ∀ x H', (Itr lo n).yld i H x H' → g x σ H' fun σ2 H2 => tb { D with nx := N, ct := N, bk := D.nx } σ2 H2) := by
  refine ⟨fun i m σ H => m = n - i ∧ i ≤ n ∧ Pv i σ H, ⟨n, by simp, Nat.zero_le _, h0⟩, ?_⟩
  rintro i m σ H ⟨rfl, hi, p⟩
  by_cases hlt : i < n
  · refine .inr ⟨hlt, Pv (i + 1), fun σ' H' p' => ⟨n - (i + 1), by omega, rfl, hlt, p'⟩, fun x H' y => ?_⟩
    obtain ⟨e, y⟩ := y
    subst e y
    exact hs i σ _ hlt p
  · have e : i = n := by omega
    subst e
    exact .inl ⟨Nat.le_refl _, hd σ H p⟩
end L2

namespace L2
open PySem PySem.Spec PyProof.Rows

abbrev R2 := V → V → Hp → VK → Prop
def OpR (X : Cx) (f : Value → Value → Sem Value) (r : R2) : Prop :=
  ∀ (pins : List (Addr × Obj)) (s : Shared) (σ : St) (H : Hp) (x y : V) (v u : Value) (Q : VK), Inv X pins σ H s → RelV x v → RelV y u → r x y H Q →
    wpAny (model X.prog X.w) X.A (f v u) (EP X pins σ Q) X.xe s
def UnR (X : Cx) (f : Value → Sem Value) (r : V → Hp → VK → Prop) : Prop :=
  ∀ (pins : List (Addr × Obj)) (s : Shared) (σ : St) (H : Hp) (x : V) (v : Value) (Q : VK), Inv X pins σ H s → RelV x v → r x H Q →
    wpAny (model X.prog X.w) X.A (f v) (EP X pins σ Q) X.xe s
def CallR (X : Cx) (f : Value) (r : List V → Hp → VK → Prop) : Prop :=
  ∀ (pins : List (Addr × Obj)) (s : Shared) (σ : St) (H : Hp) (xs : List V) (us : List Value) (Q : VK), Inv X pins σ H s → Vals xs us → r xs H Q →
    wpAny (model X.prog X.w) X.A (call f us) (EP X pins σ Q) X.xe s
def tOp (r : R2) (ta tb : TE) : TE := fun σ H Q => ta σ H fun x H1 => tb σ H1 fun y H2 => r x y H2 Q
def tUn (r : V → Hp → VK → Prop) (ta : TE) : TE := fun σ H Q => ta σ H fun x H1 => r x H1 Q
def rI (C : Int → Int → Prop) (g : Int → Int → V) : R2 := fun x y H Q => ∃ i j, x = .int i ∧ y = .int j ∧ C i j ∧ Q (g i j) H
def rI0 (g : Int → Int → V) : R2 := fun x y H Q => ∃ i j, x = .int i ∧ y = .int j ∧ Q (g i j) H
def rU (g : Int → V) : V → Hp → VK → Prop := fun x H Q => ∃ i, x = .int i ∧ Q (g i) H

section
variable {X : Cx} {a b c : Expr} {ta tb tc : TE} {pos : Pos}

theorem binT (ha : PE X a ta) (hb : PE X b tb) {pins : List (Addr × Obj)} {s : Shared} {σ : St} {H : Hp} {R : V → V → Hp → Prop} (I : Inv X pins σ H s)
    (h : ta σ H fun x H1 => tb σ H1 fun y H2 => R x y H2) {Q : Value → Shared → Prop} {f : Value → Value → Sem Value}
    (hf : ∀ v u s2 x y H2, Inv X pins σ H2 s2 → RelV x v → RelV y u → R x y H2 → wpAny (model X.prog X.w) X.A (f v u) Q X.xe s2) :
    wpAny (model X.prog X.w) X.A (eval a X.env) (fun v s₁ => wpAny (model X.prog X.w) X.A (eval b X.env) (fun u s₂ => wpAny (model X.prog X.w) X.A (f v u) Q X.xe s₂) X.xe s₁) X.xe s := by
  refine thn (ha pins s σ H _ I h) fun v s1 ⟨x, H1, I1, r1, q1⟩ => ?_
  refine thn (hb pins s1 σ H1 _ I1 q1) fun u s2 ⟨y, H2, I2, r2, q2⟩ => ?_
  exact hf v u s2 x y H2 I2 r1 r2 q2

theorem pe_op {op : Operator} {r : R2} (ho : OpR X (binaryOp op) r) (ha : PE X a ta) (hb : PE X b tb) : PE X (.BinOp a op b pos) (tOp r ta tb) := by
  intro pins s σ H Q I h
  exact wpAny_BinOp (binT ha hb I h fun v u s2 x y H2 I2 rx ry q => ho pins s2 σ H2 x y v u Q I2 rx ry q)
theorem pe_un {op : UnaryOp} {r : V → Hp → VK → Prop} (ho : UnR X (unaryOp op) r) (ha : PE X a ta) : PE X (.UnaryOp op a pos) (tUn r ta) := by
  intro pins s σ H Q I h
  exact UnaryOp_ (thn (ha pins s σ H _ I h) fun v s1 ⟨x, H1, I1, r1, q1⟩ => ho pins s1 σ H1 x v Q I1 r1 q1)
theorem opI {f : Value → Value → Sem Value} {C : Int → Int → Prop} {g : Int → Int → Int}
    (rule : ∀ (i j : Int) (t u : Tok) (s : Shared) (Q : Value → Shared → Prop) (E : Value → Shared → Prop), C i j → Q (.int (g i j) s.toks) { s with toks := s.toks + 1 } → wpAny (model X.prog X.w) X.A (f (.int i t) (.int j u)) Q E s) :
    OpR X f (rI C fun i j => .int (g i j)) := by
  intro pins s σ H x y v u Q I rx ry h
  obtain ⟨i, j, rfl, rfl, hc, q⟩ := h
  obtain ⟨t, rfl⟩ := rx
  obtain ⟨t', rfl⟩ := ry
  exact rule i j t t' s _ _ hc ⟨.int (g i j), H, I.tok _, ⟨_, rfl⟩, q⟩
theorem opI0 {f : Value → Value → Sem Value} {g : Int → Int → Int}
    (rule : ∀ (i j : Int) (t u : Tok) (s : Shared) (Q : Value → Shared → Prop) (E : Value → Shared → Prop), Q (.int (g i j) s.toks) { s with toks := s.toks + 1 } → wpAny (model X.prog X.w) X.A (f (.int i t) (.int j u)) Q E s) :
    OpR X f (rI0 fun i j => .int (g i j)) := by
  intro pins s σ H x y v u Q I rx ry h
  obtain ⟨i, j, rfl, rfl, q⟩ := h
  obtain ⟨t, rfl⟩ := rx
  obtain ⟨t', rfl⟩ := ry
  exact rule i j t t' s _ _ ⟨.int (g i j), H, I.tok _, ⟨_, rfl⟩, q⟩
theorem opB0 {f : Value → Value → Sem Value} {g : Int → Int → Bool}
    (rule : ∀ (i j : Int) (t u : Tok) (s : Shared) (Q : Value → Shared → Prop) (E : Value → Shared → Prop), Q (.bool (g i j)) s → wpAny (model X.prog X.w) X.A (f (.int i t) (.int j u)) Q E s) :
    OpR X f (rI0 fun i j => .bl (g i j)) := by
  intro pins s σ H x y v u Q I rx ry h
  obtain ⟨i, j, rfl, rfl, q⟩ := h
  obtain ⟨t, rfl⟩ := rx
  obtain ⟨t', rfl⟩ := ry
  exact rule i j t t' s _ _ ⟨.bl (g i j), H, I, rfl, q⟩

def CPow (i j : Int) : Prop := 0 ≤ j ∧ j ≤ 1000000 ∧ i.natAbs < 2 ^ 64
theorem op_add : OpR X (binaryOp .Add) (rI0 fun i j => .int (i + j)) := opI0 fun _ _ _ _ _ _ _ q => add_int q
theorem op_sub : OpR X (binaryOp .Sub) (rI0 fun i j => .int (i - j)) := opI0 fun _ _ _ _ _ _ _ q => sub_int q
theorem op_mod : OpR X (binaryOp .Mod) (rI (fun _ j => 0 < j) fun i j => .int (i % j)) := opI fun i j _ _ _ _ _ hc q => by
  have h1 : (0 : Int) < j := hc
  exact mod_int' (by omega) (by rw [Int.fmod_eq_emod_of_nonneg i (by omega)]; exact q)
theorem op_pow : OpR X (binaryOp .Pow) (rI CPow fun i j => .int (i ^ j.toNat)) := opI fun _ _ _ _ _ _ _ hc q => pow_int_small hc.1 hc.2.1 hc.2.2 q
theorem unI {f : Value → Sem Value} {g : Int → Int}
    (rule : ∀ (i : Int) (t : Tok) (s : Shared) (Q : Value → Shared → Prop) (E : Value → Shared → Prop), Q (.int (g i) s.toks) { s with toks := s.toks + 1 } → wpAny (model X.prog X.w) X.A (f (.int i t)) Q E s) :
    UnR X f (rU fun i => .int (g i)) := by
  intro pins s σ H x v Q I rx h
  obtain ⟨i, rfl, q⟩ := h
  obtain ⟨t, rfl⟩ := rx
  exact rule i t s _ _ ⟨.int (g i), H, I.tok _, ⟨_, rfl⟩, q⟩
theorem un_neg : UnR X (unaryOp .USub) (rU fun i => .int (-i)) := unI fun _ _ _ _ _ q => neg_int q
end

def scal : V → V → Bool
  | .non, .non => true | .non, .int _ => true | .int _, .non => true | .non, .bl _ => true | .bl _, .non => true | .non, .str _ => true | .str _, .non => true
  | .int _, .int _ => true | .bl _, .bl _ => true | .str _, .str _ => true | .byt _, .byt _ => true
  | .int _, .str _ => true | .str _, .int _ => true | .bl _, .str _ => true | .str _, .bl _ => true
  | _, _ => false
def rEq : R2 := fun x y H Q => scal x y = true ∧ Q (.bl (decide (x = y))) H
def rNe : R2 := fun x y H Q => scal x y = true ∧ Q (.bl (!decide (x = y))) H

theorem dec_int {i j : Int} : decide (V.int i = V.int j) = (i == j) := by
  rw [Bool.eq_iff_iff]
  simp
theorem dec_bl {i j : Bool} : decide (V.bl i = V.bl j) = (i == j) := by
  rw [Bool.eq_iff_iff]
  simp
theorem dec_str {i j : Str} : decide (V.str i = V.str j) = (i == j) := by
  rw [Bool.eq_iff_iff]
  simp
theorem dec_byt {i j : Array UInt8} : decide (V.byt i = V.byt j) = (i.toList == j.toList) := by
  rw [Bool.eq_iff_iff]
  cases i
  cases j
  simp

section
variable {X : Cx} {a b c : Expr} {ta tb tc : TE} {pos : Pos}
theorem fin_bl {pins : List (Addr × Obj)} {σ : St} {H : Hp} {s : Shared} {Q : VK} {k k' : Bool} (I : Inv X pins σ H s) (q : Q (.bl k) H) (e : k = k') : EP X pins σ Q (.bool k') s := by
  subst e
  exact ⟨.bl k, H, I, rfl, q⟩
theorem op_eq : OpR X (compareOp .Eq) rEq := by
  intro pins s σ H x y v u Q I rx ry h
  obtain ⟨hs, q⟩ := h
  cases x with
  | non =>
    cases rx
    cases y with
    | non => cases ry; exact PySem.EqNone.eq_none_none (fin_bl I q (by simp))
    | bl j => cases ry; exact PySem.EqNone.eq_none_bool (fin_bl I q (by simp))
    | int j => obtain ⟨t', rfl⟩ := ry; exact PySem.EqNone.eq_none_int (fin_bl I q (by simp))
    | str j => obtain ⟨t', rfl⟩ := ry; exact PySem.EqNone.eq_none_str (fin_bl I q (by simp))
    | _ => exact absurd (show false = true from hs) Bool.false_ne_true
  | bl i =>
    cases rx
    cases y with
    | non => cases ry; exact PySem.EqNone.eq_bool_none (fin_bl I q (by simp))
    | bl j => cases ry; exact eq_bool (fin_bl I q dec_bl)
    | str j => obtain ⟨t', rfl⟩ := ry; exact PySem.EqMixed.eq_bool_str (fin_bl I q (by simp))
    | _ => exact absurd (show false = true from hs) Bool.false_ne_true
  | int i =>
    obtain ⟨t, rfl⟩ := rx
    cases y with
    | non => cases ry; exact PySem.EqNone.eq_int_none (fin_bl I q (by simp))
    | int j => obtain ⟨t', rfl⟩ := ry; exact eq_int (fin_bl I q dec_int)
    | str j => obtain ⟨t', rfl⟩ := ry; exact PySem.EqMixed.eq_int_str (fin_bl I q (by simp))
    | _ => exact absurd (show false = true from hs) Bool.false_ne_true
  | str i =>
    obtain ⟨t, rfl⟩ := rx
    cases y with
    | non => cases ry; exact PySem.EqNone.eq_str_none (fin_bl I q (by simp))
    | bl j => cases ry; exact PySem.EqMixed.eq_str_bool (fin_bl I q (by simp))
    | int j => obtain ⟨t', rfl⟩ := ry; exact PySem.EqMixed.eq_str_int (fin_bl I q (by simp))
    | str j => obtain ⟨t', rfl⟩ := ry; exact eq_str (fin_bl I q dec_str)
    | _ => exact absurd (show false = true from hs) Bool.false_ne_true
  | byt i =>
    obtain ⟨t, rfl⟩ := rx
    cases y with
    | byt j => obtain ⟨t', rfl⟩ := ry; exact PySem.W.eq_bytes (fin_bl I q dec_byt)
    | _ => exact absurd (show false = true from hs) Bool.false_ne_true
  | _ => cases y <;> exact absurd (show false = true from hs) Bool.false_ne_true
theorem op_ne : OpR X (compareOp .NotEq) rNe := by
  intro pins s σ H x y v u Q I rx ry h
  obtain ⟨hs, q⟩ := h
  cases x with
  | non =>
    cases rx
    cases y with
    | non => cases ry; exact PySem.EqNone.ne_none_none (fin_bl I q (by simp))
    | bl j => cases ry; exact PySem.EqNone.ne_none_bool (fin_bl I q (by simp))
    | int j => obtain ⟨t', rfl⟩ := ry; exact PySem.EqNone.ne_none_int (fin_bl I q (by simp))
    | str j => obtain ⟨t', rfl⟩ := ry; exact PySem.EqNone.ne_none_str (fin_bl I q (by simp))
    | _ => exact absurd (show false = true from hs) Bool.false_ne_true
  | bl i =>
    cases rx
    cases y with
    | non => cases ry; exact PySem.EqNone.ne_bool_none (fin_bl I q (by simp))
    | bl j => cases ry; exact ne_bool (fin_bl I q (congrArg not dec_bl))
    | str j => obtain ⟨t', rfl⟩ := ry; exact PySem.EqMixed.ne_bool_str (fin_bl I q (by simp))
    | _ => exact absurd (show false = true from hs) Bool.false_ne_true
  | int i =>
    obtain ⟨t, rfl⟩ := rx
    cases y with
    | non => cases ry; exact PySem.EqNone.ne_int_none (fin_bl I q (by simp))
    | int j => obtain ⟨t', rfl⟩ := ry; exact ne_int (fin_bl I q (congrArg not dec_int))
    | str j => obtain ⟨t', rfl⟩ := ry; exact PySem.EqMixed.ne_int_str (fin_bl I q (by simp))
    | _ => exact absurd (show false = true from hs) Bool.false_ne_true
  | str i =>
    obtain ⟨t, rfl⟩ := rx
    cases y with
    | non => cases ry; exact PySem.EqNone.ne_str_none (fin_bl I q (by simp))
    | bl j => cases ry; exact PySem.EqMixed.ne_str_bool (fin_bl I q (by simp))
    | int j => obtain ⟨t', rfl⟩ := ry; exact PySem.EqMixed.ne_str_int (fin_bl I q (by simp))
    | str j => obtain ⟨t', rfl⟩ := ry; exact ne_str (fin_bl I q (congrArg not dec_str))
    | _ => exact absurd (show false = true from hs) Bool.false_ne_true
  | byt i =>
    obtain ⟨t, rfl⟩ := rx
    cases y with
    | byt j => obtain ⟨t', rfl⟩ := ry; exact PySem.W.ne_bytes (fin_bl I q (congrArg not dec_byt))
    | _ => exact absurd (show false = true from hs) Bool.false_ne_true
  | _ => cases y <;> exact absurd (show false = true from hs) Bool.false_ne_true

theorem op_lt : OpR X (compareOp .Lt) (rI0 fun i j => .bl (decide (i < j))) := opB0 fun _ _ _ _ _ _ _ q => lt_int q
theorem op_le : OpR X (compareOp .LtE) (rI0 fun i j => .bl (decide (i ≤ j))) := opB0 fun _ _ _ _ _ _ _ q => le_int q
theorem op_gt : OpR X (compareOp .Gt) (rI0 fun i j => .bl (decide (j < i))) := opB0 fun _ _ _ _ _ _ _ q => gt_int q
theorem op_ge : OpR X (compareOp .GtE) (rI0 fun i j => .bl (decide (j ≤ i))) := opB0 fun _ _ _ _ _ _ _ q => ge_int q
theorem nomark (b : Expr) {op : CmpOp} (h : op ≠ .In := by decide) (h2 : op ≠ .NotIn := by decide) : behindInMarks op b = false := by
  have e1 : (op == CmpOp.In) = false := by cases op <;> first | rfl | exact absurd rfl h
  have e2 : (op == CmpOp.NotIn) = false := by cases op <;> first | rfl | exact absurd rfl h2
  cases b <;> simp [behindInMarks, e1, e2]
theorem pe_cmpR {op : CmpOp} {r : R2} (ho : OpR X (compareOp op) r) (ha : PE X a ta) (hb : PE X b tb) (hm : behindInMarks op b = false) : PE X (.Compare a [op] [b] pos) (tOp r ta tb) := by
  intro pins s σ H Q I h
  exact wpAny_Compare1 (binT ha hb I h fun v u s2 x y H2 I2 rx ry q => ho pins s2 σ H2 x y v u Q I2 rx ry q) hm
def tTest (t : TE) : TT := fun σ H Q => t σ H fun x H' => ∃ k, x = .bl k ∧ Q k H'
theorem pt_cmpR {op : CmpOp} {r : R2} (ho : OpR X (compareOp op) r) (ha : PE X a ta) (hb : PE X b tb) (hm : behindInMarks op b = false) : PT X (.Compare a [op] [b] pos) (tTest (tOp r ta tb)) := by
  intro pins s σ H Q I h
  refine wpAny_isTrue_Compare1 (thn (ha pins s σ H _ I h) fun v s1 ⟨x, H1, I1, r1, q1⟩ => thn (hb pins s1 σ H1 _ I1 q1) fun u s2 ⟨y, H2, I2, r2, q2⟩ =>
    thn (ho pins s2 σ H2 x y v u _ I2 r1 r2 q2) fun c s3 ⟨z, H3, I3, r3, k, e, q3⟩ => ?_) hm
  subst e
  cases r3
  exact wpAny_truthy_bool ⟨H3, I3, q3⟩
theorem line63 : (sizeLine : Nat) < 2 ^ 63 := by rw [sizeLine_eq]; decide
theorem op_add_str : OpR X (binaryOp .Add) (fun x y H Q => ∃ i j, x = .str i ∧ y = .str j ∧ i.length + j.length ≤ sizeLine ∧ Q (.str (i ++ j)) H) := by
  intro pins s σ H x y v u Q I rx ry h
  obtain ⟨i, j, rfl, rfl, hz, q⟩ := h
  obtain ⟨t, rfl⟩ := rx
  obtain ⟨t', rfl⟩ := ry
  exact add_str (fun t' tk => ⟨.str (i ++ j), H, I.tok _, ⟨_, rfl⟩, q⟩) hz
theorem vals1 {x : V} {us : List Value} (r : Vals [x] us) : ∃ u, us = [u] ∧ RelV x u := by
  cases r with
  | cons r1 r2 => cases r2; exact ⟨_, rfl, r1⟩
theorem vals2 {x y : V} {us : List Value} (r : Vals [x, y] us) : ∃ u w', us = [u, w'] ∧ RelV x u ∧ RelV y w' := by
  cases r with
  | cons r1 r2 =>
    cases r2 with
    | cons r3 r4 => cases r4; exact ⟨_, _, rfl, r1, r3⟩
theorem call_max2 (hc : X.calm = true) : CallR X (.builtin "max") (fun xs H Q => ∃ i j, xs = [.int i, .int j] ∧ Q (.int (if j > i then j else i)) H) := by
  intro pins s σ H xs us Q I r h
  obtain ⟨i, j, rfl, q⟩ := h
  obtain ⟨u, w', rfl, ⟨t, rfl⟩, ⟨t', rfl⟩⟩ := vals2 r
  refine max_two_ints (I.ok.hd hc) fun h' tk k => ⟨_, H, I.kept k, ?_, q⟩
  by_cases hj : j > i
  · rw [if_pos hj, if_pos hj]; exact ⟨_, rfl⟩
  · rw [if_neg hj, if_neg hj]; exact ⟨_, rfl⟩
theorem call_min2 (hc : X.calm = true) : CallR X (.builtin "min") (fun xs H Q => ∃ i j, xs = [.int i, .int j] ∧ Q (.int (if j < i then j else i)) H) := by
  intro pins s σ H xs us Q I r h
  obtain ⟨i, j, rfl, q⟩ := h
  obtain ⟨u, w', rfl, ⟨t, rfl⟩, ⟨t', rfl⟩⟩ := vals2 r
  refine min_two_ints (I.ok.hd hc) fun h' tk k => ⟨_, H, I.kept k, ?_, q⟩
  by_cases hj : j < i
  · rw [if_pos hj, if_pos hj]; exact ⟨_, rfl⟩
  · rw [if_neg hj, if_neg hj]; exact ⟨_, rfl⟩
end
end L2

namespace L2
open PySem PySem.Spec PyProof.Rows

structure ObjM (h : Heap) (x dx C : Addr) (mA : Str → Option Value) : Prop where
  obj : h.get? x = some (PySem.W.instObj C dx)
  ns : h.Ns1 dx mA
  ne : dx ≠ x

theorem lookIn_ns {h : Heap} {dx : Addr} {mA : Str → Option Value} (n : h.Ns1 dx mA) : ∃ od, h.get? dx = some od ∧ ∀ name, PySem.W.lookIn name od = some (mA name) := by
  obtain ⟨o, es, ep, ho, hd, hk, _, hm⟩ := n
  refine ⟨o, ho, fun name => ?_⟩
  have e := hm name
  unfold nsFind findBy at e
  rw [← Array.find?_toList] at e
  unfold PySem.W.lookIn
  rw [hd]
  dsimp only
  split
  · rename_i y q
    rw [q] at e
    exact congrArg some e
  · rename_i q
    rw [q] at e
    have a : es.toList.any (·.refKey) = false := by
      rw [List.any_eq_false]
      intro y hy
      obtain ⟨z, t, hkey⟩ := hk y (Array.mem_toList_iff.mp hy)
      simp [DictEntry.refKey, hkey]
    have a' : ¬ es.toList.any (·.refKey) = true := by rw [a]; exact Bool.false_ne_true
    rw [if_neg a']
    exact congrArg some e

theorem ObjM.look {h : Heap} {x dx C : Addr} {mA : Str → Option Value} (I : ObjM h x dx C mA) : ∃ od, PySem.W.InstAt h x (PySem.W.instObj C dx) C (some od) ∧ ∀ name, PySem.W.lookIn name od = some (mA name) :=
  let ⟨od, ho, hl⟩ := lookIn_ns I.ns
  ⟨od, ⟨I.obj, rfl, rfl, ho⟩, hl⟩

section
variable {prog : Program} {w : World} {A : Around} {E : Value → Shared → Prop} {s : Shared} {K : PySem.W.Frag} {x dx C f : Addr} {mA : Str → Option Value} {name : Str} {v : Value}

theorem get_map {expr : Bool} {Q : Value → Shared → Prop} (X : K.In s.heap) (I : ObjM s.heap x dx C mA) (hg : PySem.W.plainGet K C name = true) (hh : PySem.W.hasDictIn K C = true)
    (ha : PySem.W.findIn K (.ref C) name = some none) (hv : mA name = some v) (hv' : PySem.W.handedIn v = true) (h : Q v { s with toks := s.toks + 1 }) :
    wpAny (model prog w) A (getAttr (.ref x) name expr) Q E s := by
  obtain ⟨od, J, hl⟩ := I.look
  exact PySem.W.get_value X J (PySem.W.plainGet_of hg).1 (PySem.W.findObj_own hh ha rfl (by rw [hl, hv])) hv' h

theorem get_meth {pl : Sem Bool} {Q : Value × List Value → Shared → Prop} (X : K.In s.heap) (I : ObjM s.heap x dx C mA) (hg : PySem.W.plainGet K C name = true)
    (hf : PySem.W.findIn K (.ref C) name = some (some (.ref f))) (ht : PySem.W.isFn K (.ref f) = true) (hv : mA name = none) (h : Q (.ref f, [.ref x]) s) :
    wpAny (model prog w) A (getMethod (.ref x) name pl) Q E s := by
  obtain ⟨od, J, hl⟩ := I.look
  exact PySem.W.method_fn X J (PySem.W.plainGet_of hg).1 (PySem.W.plainGet_of hg).2 hf (beq_iff_eq.mp ht) (by show (PySem.W.lookIn name od).map (·.isSome) = some false; rw [hl, hv]; rfl) h

theorem set_map {ns : List Str} {Q : Unit → Shared → Prop} (X : K.In s.heap) (I : ObjM s.heap x dx C mA)
    (hs : PySem.W.findIn K (.ref C) "__setattr__" = some (some (.builtin "object.__setattr__"))) (hp : PySem.W.plainOver K C = true) (ht : PySem.W.takerIn K C name = some none) (hh : PySem.W.hasDictIn K C = true)
    (hw : PySem.Within mA ns) (hsz : ns.length ≤ sizeLine)
    (h : ∀ h', ObjM h' x dx C (fun y => if y = name then some v else mA y) → Heap.SameBut dx s.heap h' → Q () { s with heap := h', toks := s.toks + 2 }) :
    wpAny (model prog w) A (setAttr (.ref x) name v) Q E s := by
  obtain ⟨od, J, hl⟩ := I.look
  refine PySem.W.set_plain X J hs (PySem.W.osa_open (s := { s with toks := s.toks + 1 }) (r := none) X J hp ht fun b => ?_)
  obtain ⟨cd, hc, hd'⟩ := PySem.W.any_some hh
  have hx : s.heap.get? x = some ⟨.ref C, some dx, .plain, #[]⟩ := I.obj
  refine wpAny_bind (wpAny_pure (wpAny_bind (wpAny_bind (wpAny_loadPart hx (wpAny_bind (PySem.W.Looks.here (s := { s with toks := s.toks + 1 }) (PySem.W.looks_clsIn X hc) ?_))))))
  rw [hd']
  refine wpAny_pure (a := some dx) (wpAny_bind (wpAny_pure (wpAny_bind ?_)))
  refine wpAny_nsSet1 (s := { s with toks := s.toks + 1 }) I.ns fun h' hn2 hs2 => ?_
  obtain ⟨oD, esD, epD, hoD, hdD, hcD⟩ := hn2.count (PySem.Within.cons name v hw)
  refine wpAny_bind (wpAny_lookBehind hoD (by rw [hdD]; exact pastItsLine_dict (Nat.le_trans hcD (by rw [List.length_cons]; omega))) ?_)
  exact wpAny_pure (h _ ⟨(hs2.2 _ (Ne.symm I.ne)).trans I.obj, hn2, I.ne⟩ hs2)

theorem make_map {R : Result → Shared → Prop} {vs : List Value} {kw : List (Str × Value)} (X : K.In s.heap) (hm : PySem.W.makesIn K C = true)
    (hi : PySem.W.findIn K (.ref C) "__init__" = some (some (.ref f))) (hf : PySem.W.typeIn K (.ref f) = some (.type "function"))
    (h : codeAny (model prog w) (A.under (.builtin "type.__call__" ⟨.ref C :: vs, kw⟩)) (.call (.ref f) ⟨.ref (s.heap.objs.size + 1) :: vs, kw⟩) (PySem.W.InitBack (s.heap.objs.size + 1) R)
      { s with heap := (s.heap.push PySem.W.emptyDict).push (PySem.W.instObj C s.heap.objs.size) }) :
    codeAny (model prog w) A (.call (.ref C) ⟨vs, kw⟩) R s := by
  obtain ⟨hh, g, d, t, os⟩ := s
  exact PySem.W.make_core (PySem.W.makes_of X hm) (PySem.W.looks_findIn X hi) (fun self => PySem.W.bind_fn X self hf) (.inl rfl) h
end

def putF (f : Str) (v : V) : List (Str × V) → List (Str × V)
  | [] => [(f, v)]
  | (g, x) :: r => if g = f then (g, v) :: r else (g, x) :: putF f v r
theorem lookup_putF (f g : Str) (v : V) : ∀ fs : List (Str × V), (putF f v fs).lookup g = if g = f then some v else fs.lookup g
  | [] => by
    show List.lookup g [(f, v)] = _
    by_cases h : g = f
    · have hb : (g == f) = true := beq_iff_eq.mpr h
      simp only [List.lookup, hb, if_pos h]
    · have hb : (g == f) = false := beq_eq_false_iff_ne.mpr h
      simp only [List.lookup, hb, if_neg h]
  | (k, x) :: r => by
    have ih := lookup_putF f g v r
    rw [show putF f v ((k, x) :: r) = (if k = f then (k, v) :: r else (k, x) :: putF f v r) from rfl]
    by_cases hk : k = f
    · rw [if_pos hk]
      by_cases h : g = k
      · have hb : (g == k) = true := beq_iff_eq.mpr h
        simp only [List.lookup, hb, if_pos (h.trans hk)]
      · have hb : (g == k) = false := beq_eq_false_iff_ne.mpr h
        simp only [List.lookup, hb, if_neg (fun e : g = f => h (e.trans hk.symm))]
    · rw [if_neg hk]
      by_cases h : g = k
      · have hb : (g == k) = true := beq_iff_eq.mpr h
        simp only [List.lookup, hb, if_neg (fun e : g = f => hk (h.symm.trans e))]
      · have hb : (g == k) = false := beq_eq_false_iff_ne.mpr h
        simp only [List.lookup, hb]
        exact ih
theorem keys_putF (f : Str) (v : V) : ∀ fs : List (Str × V), f ∈ (putF f v fs).map (·.1) ∧ ∀ g, g ∈ fs.map (·.1) → g ∈ (putF f v fs).map (·.1)
  | [] => ⟨by simp [putF], fun g h => by simp at h⟩
  | (k, x) :: r => by
    obtain ⟨i1, i2⟩ := keys_putF f v r
    rw [show putF f v ((k, x) :: r) = (if k = f then (k, v) :: r else (k, x) :: putF f v r) from rfl]
    by_cases hk : k = f
    · rw [if_pos hk]
      subst hk
      exact ⟨by simp, fun g h => by simpa using h⟩
    · rw [if_neg hk]
      refine ⟨?_, fun g h => ?_⟩
      · rw [List.map_cons]
        exact List.mem_cons_of_mem _ i1
      · rw [List.map_cons] at h ⊢
        rcases List.mem_cons.mp h with e | e
        · exact List.mem_cons.mpr (.inl e)
        · exact List.mem_cons_of_mem _ (i2 g e)
theorem length_putF (f : Str) (v : V) : ∀ fs : List (Str × V), (putF f v fs).length ≤ fs.length + 1
  | [] => by simp [putF]
  | (k, x) :: r => by
    have ih := length_putF f v r
    rw [show putF f v ((k, x) :: r) = (if k = f then (k, v) :: r else (k, x) :: putF f v r) from rfl]
    by_cases hk : k = f
    · rw [if_pos hk, List.length_cons, List.length_cons]; omega
    · rw [if_neg hk, List.length_cons, List.length_cons]; omega

theorem RelO.some_of {v : V} {o : Option Value} (r : RelO (some v) o) : ∃ u, o = some u ∧ RelV v u := by
  cases o with
  | none => exact (show False from r).elim
  | some u => exact ⟨u, rfl, r⟩
theorem RelO.none_of {o : Option Value} (r : RelO none o) : o = none := by
  cases o with
  | none => rfl
  | some u => exact (show False from r).elim
theorem handed_of {v : V} {u : Value} (r : RelV v u) : PySem.W.handedIn u = true := by
  cases v with
  | non => cases (show u = Value.none from r); rfl
  | bl b => cases (show u = Value.bool b from r); rfl
  | int i => obtain ⟨t, e⟩ := (show ∃ t, u = Value.int i t from r); cases e; rfl
  | str x => obtain ⟨t, e⟩ := (show ∃ t, u = Value.str x t from r); cases e; rfl
  | byt b => obtain ⟨t, e⟩ := (show ∃ t, u = Value.bytes b t from r); cases e; rfl
  | flt b => obtain ⟨t, e⟩ := (show ∃ t, u = Value.float b t from r); cases e; rfl
  | ref a => cases (show u = Value.ref a from r); rfl
  | ty n => cases (show u = Value.type n from r); rfl

section
variable {P : Program} {w : World} {H H' : Hp} {h h' : Heap} {a C dx : Addr} {fs fs' : List (Str × V)}
theorem ins_get (hok : HOk P w H h) (e : H a = some (.ins C dx fs)) : ∃ mA, ObjM h a dx C mA ∧ (∀ f, RelO (fs.lookup f) (mA f)) ∧ PySem.Within mA (fs.map (·.1)) ∧ fs.length ≤ 1000 ∧ H dx = some (.own a) := by
  obtain ⟨d, z, ne, ob, mA, n, r, q⟩ := (show ObjOk P w H h a (.ins C dx fs) from hok a _ e)
  exact ⟨mA, ⟨ob, n, ne⟩, r, q, z, d⟩
end

structure Cls (K : PySem.W.Frag) (C : Addr) : Prop where
  pg : PySem.W.plainGet K C Str.empty = true
  hd : PySem.W.hasDictIn K C = true
  po : PySem.W.plainOver K C = true
  sa : PySem.W.findIn K (.ref C) "__setattr__" = some (some (.builtin "object.__setattr__"))
theorem Cls.get {K : PySem.W.Frag} {C : Addr} (c : Cls K C) (f : Str) : PySem.W.plainGet K C f = true := c.pg
def NoAttr (K : PySem.W.Frag) (C : Addr) (f : Str) : Prop := PySem.W.findIn K (.ref C) f = some none
theorem NoAttr.taker {K : PySem.W.Frag} {C : Addr} {f : Str} (n : NoAttr K C f) : PySem.W.takerIn K C f = some none := by
  unfold PySem.W.takerIn
  rw [show PySem.W.findIn K (.ref C) f = some none from n]
  rfl
structure Con (K : PySem.W.Frag) (C : Addr) (f : Str) (v : V) (u : Value) : Prop where
  at_ : PySem.W.findIn K (.ref C) f = some (some u)
  rel : RelV v u
  get : PySem.W.specialIn K u "__get__" = some none
  cp : PySem.W.copiedNames.contains f = false
structure Meth (K : PySem.W.Frag) (C : Addr) (m : Str) (f : Addr) : Prop where
  at_ : PySem.W.findIn K (.ref C) m = some (some (.ref f))
  fn : PySem.W.isFn K (.ref f) = true
  kp : PySem.W.keepIn K (.ref f) = true

section
variable {X : Cx} {pins : List (Addr × Obj)} {σ : St} {H : Hp} {s : Shared} {a C dx : Addr} {fs : List (Str × V)} {f : Str} {v : V} {A : Around} {E : Value → Shared → Prop}

theorem getattr_ok {b : Bool} {Q : Value → Shared → Prop} (I : Inv X pins σ H s) (e : H a = some (.ins C dx fs)) (c : Cls X.K C) (n : NoAttr X.K C f) (l : fs.lookup f = some v)
    (h : ∀ u s', Inv X pins σ H s' → RelV v u → Q u s') : wpAny (model X.prog X.w) A (getAttr (.ref a) f b) Q E s := by
  obtain ⟨mA, O, r, _, _, _⟩ := ins_get I.hok e
  obtain ⟨u, hu, ru⟩ := RelO.some_of (v := v) (o := mA f) (by rw [← l]; exact r f)
  exact get_map I.kIn O (c.get f) c.hd n hu (handed_of ru) (h u _ (I.tok _) ru)

theorem getmeth_ok {m : Str} {g : Addr} {pl : Sem Bool} {Q : Value × List Value → Shared → Prop} (I : Inv X pins σ H s) (e : H a = some (.ins C dx fs)) (c : Cls X.K C) (k : Meth X.K C m g) (l : fs.lookup m = none)
    (h : Q (.ref g, [.ref a]) s) : wpAny (model X.prog X.w) A (getMethod (.ref a) m pl) Q E s := by
  obtain ⟨mA, O, r, _, _, _⟩ := ins_get I.hok e
  have hn : mA m = none := RelO.none_of (by rw [← l]; exact r m)
  exact get_meth I.kIn O (c.get m) k.at_ k.fn hn h

theorem setattr_ok {y : V} {u : Value} {Q : Unit → Shared → Prop} (I : Inv X pins σ H s) (e : H a = some (.ins C dx fs)) (c : Cls X.K C) (n : NoAttr X.K C f) (hl : fs.length < 1000) (ry : RelV y u)
    (h : ∀ s', Inv X pins σ (upd H a (.ins C dx (putF f y fs))) s' → Q () s') : wpAny (model X.prog X.w) A (setAttr (.ref a) f u) Q E s := by
  obtain ⟨mA, O, r, wi, _, ho⟩ := ins_get I.hok e
  have hz : (fs.map (·.1)).length ≤ sizeLine := by rw [List.length_map, sizeLine_eq]; omega
  refine set_map I.kIn O c.sa c.po n.taker c.hd wi hz fun h' O' sb => h _ ?_
  have hd : ∃ o, h'.get? dx = some o := let ⟨o, _, _, e', _⟩ := O'.ns; ⟨o, e'⟩
  refine I.write (x := a) (e := dx) (by rw [e]; exact True.intro) (.inr ho) (fun b q hb z => (sb.2 b hb).trans z) hd ?_
  refine ⟨by rw [upd_ne O.ne]; exact ho, ?_, O.ne, O'.obj, _, O'.ns, fun g => ?_, fun g hg => ?_⟩
  · have := length_putF f y fs; omega
  · show RelO ((putF f y fs).lookup g) (if g = f then some u else mA g)
    rw [lookup_putF]
    by_cases q : g = f
    · rw [if_pos q, if_pos q]; exact ry
    · rw [if_neg q, if_neg q]; exact r g
  · by_cases q : g = f
    · rw [q]; exact (keys_putF f y fs).1
    · refine (keys_putF f y fs).2 g (wi g fun z => hg ?_)
      show (if g = f then some u else mA g) = none
      rw [if_neg q]; exact z

theorem Inv.made (I : Inv X pins σ H s) : Inv X pins σ (upd (upd H s.heap.objs.size (.own (s.heap.objs.size + 1))) (s.heap.objs.size + 1) (.ins C s.heap.objs.size []))
    { s with heap := (s.heap.push PySem.W.emptyDict).push (PySem.W.instObj C s.heap.objs.size) } := by
  have e1 : (s.heap.push PySem.W.emptyDict).get? s.heap.objs.size = some PySem.W.emptyDict := Heap.get?_push_size s.heap rfl
  have e2 : ((s.heap.push PySem.W.emptyDict).push (PySem.W.instObj C s.heap.objs.size)).get? (s.heap.objs.size + 1) = some (PySem.W.instObj C s.heap.objs.size) := by
    have := Heap.get?_push_size (s.heap.push PySem.W.emptyDict) (o := PySem.W.instObj C s.heap.objs.size) rfl
    rwa [Heap.size_push] at this
  have e3 : (s.heap.push PySem.W.emptyDict).Ns s.heap.objs.size (fun _ => none) := ⟨PySem.W.emptyDict, #[], _, e1, rfl, (fun e he => absurd he (by simp)), fun _ => rfl⟩
  have I1 := I.laid (a := s.heap.objs.size) (o := .own (s.heap.objs.size + 1)) (h' := s.heap.push PySem.W.emptyDict) (t' := s.toks) (fun b u q => Heap.get?_push_of_some _ q) (Nat.le_refl _) ⟨_, e1⟩
  refine I1.laid (a := s.heap.objs.size + 1) (o := .ins C s.heap.objs.size []) (t' := s.toks) (fun b u q => Heap.get?_push_of_some _ q) (Nat.le_of_eq (Heap.size_push _ _)) ?_
  have ne : s.heap.objs.size ≠ s.heap.objs.size + 1 := Nat.ne_of_lt (Nat.lt_succ_self _)
  refine ⟨by rw [upd_ne ne, upd_same], Nat.zero_le _, ne, e2, fun _ => none, (Heap.Ns1.of_empty e3).at fun o q => Heap.get?_push_of_some _ q, fun _ => True.intro, fun y hy => absurd rfl hy⟩

theorem attr_of {prog : Program} {w : World} {env : Env} {e : Expr} {f : Str} {pos : Pos} {s : Shared} {Q : Value → Shared → Prop} (hb : attributeBase e f env (eval e env) = eval e env)
    (h : wpAny (model prog w) A (eval e env) (fun o s₁ => wpAny (model prog w) A (getAttr o f true) Q E s₁) E s) : wpAny (model prog w) A (eval (.Attribute e f pos) env) Q E s :=
  Attribute_any_ h (by rw [arm_eval_Attribute, hb])
end

def tFld (K : PySem.W.Frag) (ta : TE) (f : Str) : TE := fun σ H Q => ta σ H fun x H1 => ∃ a C dx fs v, x = .ref a ∧ H1 a = some (.ins C dx fs) ∧ Cls K C ∧ NoAttr K C f ∧ fs.lookup f = some v ∧ Q v H1
def sFld (K : PySem.W.Frag) (ta tv : TE) (f : Str) : TS := fun D σ H => tv σ H fun y H1 => ta σ H1 fun x H2 => ∃ a C dx fs, x = .ref a ∧ H2 a = some (.ins C dx fs) ∧ Cls K C ∧ NoAttr K C f ∧ fs.length < 1000 ∧
  D.nx σ (upd H2 a (.ins C dx (putF f y fs)))
section
variable {X : Cx} {o e value : Expr} {f : Str} {pos pos' tpos : Pos} {ta tv : TE}
theorem pe_fld (he : PE X e ta) (hb : attributeBase e f X.env (eval e X.env) = eval e X.env) : PE X (.Attribute e f pos) (tFld X.K ta f) := by
  intro pins s σ H Q I h
  refine attr_of hb (thn (he pins s σ H _ I h) fun u s1 ⟨x, H1, I1, rx, a, C, dx, fs, v, ex, ea, c, n, l, q⟩ => ?_)
  subst ex
  obtain rfl : u = Value.ref a := rx
  exact getattr_ok I1 ea c n l fun u' s2 I2 ru => ⟨v, H1, I2, ru, q⟩
theorem ps_fld (ha : PE X o ta) (hv : PE X value tv) (hs : swapsWith value (some (.Attribute o f pos')) pos.line X.env = pure false) : PS X (.Assign [.Attribute o f pos'] value pos) (sFld X.K ta tv f) := by
  intro pins s σ H D I h
  refine plainObj_wpAny_Assign_Attribute (thn (hv pins s σ H _ I h) fun u s1 ⟨y, H1, I1, ry, q⟩ => thn (ha pins s1 σ H1 _ I1 q) fun ov s2 ⟨x, H2, I2, rx, a, C, dx, fs, ex, ea, c, n, l, q2⟩ => ?_) hs
  subst ex
  obtain rfl : ov = Value.ref a := rx
  exact setattr_ok I2 ea c n l ry fun s3 I3 => ⟨σ, _, I3, q2⟩
end

section
variable {X : Cx} {pins : List (Addr × Obj)} {σ : St} {H : Hp} {s : Shared} {A : Around} {E : Value → Shared → Prop} {Q : Value → Shared → Prop} {c : Value} {b : Bool}
inductive TyOf (K : PySem.W.Frag) (H : Hp) : V → Value → Prop where
  | non : TyOf K H .non (.type "NoneType")
  | bl (x : Bool) : TyOf K H (.bl x) (.type "bool")
  | int (i : Int) : TyOf K H (.int i) (.type "int")
  | str (x : Str) : TyOf K H (.str x) (.type "str")
  | flt (x : UInt64) : TyOf K H (.flt x) (.type "float")
  | lst {a : Addr} {xs : List V} (e : H a = some (.lst xs)) : TyOf K H (.ref a) (.type "list")
  | frz {a : Addr} {o : Obj} {xs : List V} (e : H a = some (.frz o (.lst xs))) : TyOf K H (.ref a) (.type "list")
  | tup {a : Addr} {xs : List V} (e : H a = some (.tup xs)) : TyOf K H (.ref a) (.type "tuple")
  | dK {a : Addr} {kvs : List (Key × V)} (e : H a = some (.dK kvs)) : TyOf K H (.ref a) (.type "dict")
  | dT {a : Addr} {kvs : List (List Key × V)} (e : H a = some (.dT kvs)) : TyOf K H (.ref a) (.type "dict")
  | ins {a C dx : Addr} {fs : List (Str × V)} (e : H a = some (.ins C dx fs)) (cl : Cls K C) (ha : PySem.W.findIn K (.ref C) "__class__" = some (some (.builtin "object.__class__")))
      (hn : PySem.W.specialIn K (.builtin "object.__class__") "__get__" = some (some (.builtin "getset_descriptor.__get__"))) (htk : PySem.W.takesIn K (.builtin "object.__class__") = some true)
      (hm : PySem.W.mroIn K C (.type "object") = some true) : TyOf K H (.ref a) (.ref C)
theorem isinst_ok {x : V} {u t : Value} (I : Inv X pins σ H s) (rx : RelV x u) (ty : TyOf X.K H x t) (e : PySem.W.kitOne X.K t c = some b) (h : ∀ tk, Q (.bool b) { s with toks := tk }) :
    wpAny (model X.prog X.w) A (call (.builtin "isinstance") [u, c]) Q E s := by
  cases ty with
  | non => cases (show u = Value.none from rx); exact PySem.W.kia_one PySem.W.kitx_none I.kIn True.intro e (fun z => nomatch z) h
  | bl y => cases (show u = Value.bool y from rx); exact PySem.W.kia_one PySem.W.kitx_bool I.kIn True.intro e (fun z => nomatch z) h
  | int i => obtain ⟨t, q⟩ := (show ∃ t, u = Value.int i t from rx); cases q; exact PySem.W.kia_one PySem.W.kitx_int I.kIn True.intro e (fun z => nomatch z) h
  | str y => obtain ⟨t, q⟩ := (show ∃ t, u = Value.str y t from rx); cases q; exact PySem.W.kia_one PySem.W.kitx_str I.kIn True.intro e (fun z => nomatch z) h
  | flt y => obtain ⟨t, q⟩ := (show ∃ t, u = Value.float y t from rx); cases q; exact PySem.W.kia_one PySem.W.kitx_float I.kIn True.intro e (fun z => nomatch z) h
  | @lst a xs ea =>
    cases (show u = Value.ref a from rx)
    obtain ⟨_, _, n, _, h1⟩ := (show ObjOk X.prog X.w H s.heap a (.lst xs) from I.hok a _ ea)
    exact PySem.W.kia_one PySem.W.kitx_list I.kIn ⟨_, h1, rfl⟩ e (fun z => nomatch z) h
  | @frz a ob xs ea =>
    cases (show u = Value.ref a from rx)
    obtain ⟨_, _, _, n, _, h1⟩ := (show ObjOk X.prog X.w H s.heap a (.frz ob (.lst xs)) from I.hok a _ ea)
    exact PySem.W.kia_one PySem.W.kitx_list I.kIn ⟨_, h1, rfl⟩ e (fun z => nomatch z) h
  | @tup a xs ea =>
    cases (show u = Value.ref a from rx)
    obtain ⟨_, _, _, p⟩ := (show ObjOk X.prog X.w H s.heap a (.tup xs) from I.hok a _ ea)
    obtain ⟨o, h1, h2, _⟩ := p
    exact PySem.W.kia_one PySem.W.kitx_tuple I.kIn ⟨o, h1, h2⟩ e (fun z => nomatch z) h
  | @dK a kvs ea =>
    cases (show u = Value.ref a from rx)
    obtain ⟨_, _, vs, _, p⟩ := (show ObjOk X.prog X.w H s.heap a (.dK kvs) from I.hok a _ ea)
    obtain ⟨o, es, ep, h1, h2, _⟩ := p
    exact PySem.W.kia_one PySem.W.kitx_dict I.kIn ⟨o, h1, h2.1⟩ e (fun z => nomatch z) h
  | @dT a kvs ea =>
    cases (show u = Value.ref a from rx)
    obtain ⟨_, _, xs, _, o, es, ep, h1, h2, _⟩ := (show ObjOk X.prog X.w H s.heap a (.dT kvs) from I.hok a _ ea)
    exact PySem.W.kia_one PySem.W.kitx_dict I.kIn ⟨o, h1, h2.1⟩ e (fun z => nomatch z) h
  | @ins a C dx fs ea cl ha hn htk hm =>
    cases (show u = Value.ref a from rx)
    obtain ⟨mA, O, _⟩ := ins_get I.hok ea
    obtain ⟨od, J, _⟩ := O.look
    exact PySem.W.kia_one (PySem.W.kitx_own (cl.get _) cl.hd ha hn htk hm) I.kIn J e (fun z => nomatch z) h
end
end L2

namespace L2
open PySem PySem.Spec PyProof.Rows

structure Room (k : Nat) (A : Around) : Prop where
  hd : A.handled = none
  dp : A.depth + 3 * k + 5 < recursionLimit
  un : A.units + 16 * k + 200 < cLine
theorem Room.mono {j k : Nat} {A : Around} (r : Room k A) (h : j ≤ k) : Room j A := ⟨r.hd, by have := r.dp; omega, by have := r.un; omega⟩
theorem Room.deeper {k : Nat} {A : Around} (r : Room (k + 1) A) (env : Env) : Room k (A.deeper env) :=
  ⟨r.hd, by have := r.dp; show A.depth + 1 + 3 * k + 5 < _; omega, by have := r.un; show A.units + 3 + 16 * k + 200 < _; omega⟩
theorem make_depth {A : Around} {C : Addr} {us : List Value} {kw : List (Str × Value)} : (A.under (.builtin "type.__call__" ⟨.ref C :: us, kw⟩)).depth = A.depth + 1 := by
  first | rfl | simp [Around.under, Code.weight, Code.isCreation, Code.isGuard, Code.isCaller, Code.frames, Code.isFrame, guardIds]
theorem make_units {A : Around} {C : Addr} {us : List Value} {kw : List (Str × Value)} : (A.under (.builtin "type.__call__" ⟨.ref C :: us, kw⟩)).units = A.units + 1 := by
  first | rfl | simp [Around.under, Code.cUnits, Code.frames, Code.isFrame]
theorem Room.make {k : Nat} {A : Around} (r : Room (k + 1) A) (C : Addr) (us : List Value) (kw : List (Str × Value)) : Room k (A.under (.builtin "type.__call__" ⟨.ref C :: us, kw⟩)) :=
  ⟨r.hd, by have := r.dp; rw [make_depth]; omega, by have := r.un; rw [make_units]; omega⟩
theorem Room.depth {k : Nat} {A : Around} (r : Room k A) : A.depth < recursionLimit := by have := r.dp; omega
theorem Room.units {k : Nat} {A : Around} (r : Room k A) : A.units + 64 < cLine := by have := r.un; omega
def tNil : TA := fun _ H Q => Q [] H
def tCons (ta : TE) (tr : TA) : TA := fun σ H Q => ta σ H fun x H1 => tr σ H1 fun xs H2 => Q (x :: xs) H2
section
variable {X : Cx} {e : Expr} {es : List Expr} {te : TE} {t : TA} {pos : Pos}
theorem pa_nil : PA X [] tNil := fun _ _ _ _ H Q I h => Calls.spliced_nil ⟨[], H, I, .nil, h⟩
theorem pa_cons (ha : PE X e te) (hr : PA X es t) (hs : starEach (e :: es) X.env = (false, eval e X.env) :: starEach es X.env := by rfl) : PA X (e :: es) (tCons te t) := by
  intro pos pins s σ H Q I h
  rw [hs]
  show wpAny _ _ (spliced ((false, eval e X.env) :: backTo pos (starEach es X.env))) _ _ s
  refine Calls.spliced_cons (thn (ha pins s σ H _ I h) fun u s1 ⟨x, H1, I1, r1, q1⟩ => ?_)
  exact thn (hr pos pins s1 σ H1 _ I1 q1) fun us s2 ⟨xs, H2, I2, r2, q2⟩ => ⟨x :: xs, H2, I2, .cons r1 r2, q2⟩

def tTup (t : TA) : TE := fun σ H Q => t σ H fun xs H1 => xs.length ≤ sizeLine ∧ ∀ p, H1 p = none → Q (.ref p) (upd H1 p (.tup xs))
def tLst (t : TA) : TE := fun σ H Q => t σ H fun xs H1 => xs.length ≤ sizeLine ∧ ∀ p, H1 p = none → Q (.ref p) (upd H1 p (.lst xs))
theorem pe_tup {x1} (h : PA X es t) : PE X (.Tuple es x1 pos) (tTup t) := by
  intro pins s σ H Q I hq
  refine wpAny_Tuple_spliced (thn (h pos pins s σ H _ I hq) fun us s1 ⟨xs, H1, I1, r, z, q⟩ => ⟨by rw [← r.length]; exact z, ?_⟩)
  have hf : H1 s1.heap.objs.size = none := I1.hok.fresh (Nat.le_refl _)
  refine ⟨.ref s1.heap.objs.size, upd H1 s1.heap.objs.size (.tup xs), I1.laid (t' := s1.toks) (fun b u e => Heap.get?_push_of_some _ e) (Nat.le_refl _) ?_, rfl, q _ hf⟩
  exact ⟨z, us, r, ⟨_, Heap.get?_push_size _ rfl, rfl, _, rfl⟩⟩
theorem pe_lst (h : PA X es t) : PE X (.List es pos) (tLst t) := by
  intro pins s σ H Q I hq
  refine wpAny_List_spliced (thn (h pos pins s σ H _ I hq) fun us s1 ⟨xs, H1, I1, r, z, q⟩ => ⟨by rw [← r.length]; exact z, ?_⟩)
  have hf : H1 s1.heap.objs.size = none := I1.hok.fresh (Nat.le_refl _)
  refine ⟨.ref s1.heap.objs.size, upd H1 s1.heap.objs.size (.lst xs), I1.laid (t' := s1.toks) (fun b u e => Heap.get?_push_of_some _ e) (Nat.le_refl _) ?_, rfl, q _ hf⟩
  exact ⟨z, us, 0, r, Heap.get?_push_size _ rfl⟩
end

abbrev Sp := List V → Hp → VK → XK → Prop
abbrev CXT := List Env → Hp → Shared → XK → Value → Shared → Prop

structure Env0 (P : Program) (w : World) (K : PySem.W.Frag) (mg : Str → Option Value) (base : Heap) (A : Around) (outer : List Env) (s : Shared) (H : Hp) : Prop where
  frames : A.frames = some outer
  mod : Mod K mg base
  bs : ∀ b o, base.get? b = some o → s.heap.get? b = some o ∧ H b = none
  bsz : base.objs.size ≤ s.heap.objs.size
  funs : s.heap.FunFrames base outer
  frf : ∀ b ∈ frs outer, H b = none
  hok : HOk P w H s.heap
  bare : AllBare s.gens
def CE (outer : List Env) (P : Program) (w : World) (H : Hp) (s : Shared) (Q : VK) (u : Value) (s' : Shared) : Prop :=
  ∃ v H', s'.os = s.os ∧ AllBare s'.gens ∧ Un (frs outer) [] H H' s.heap s'.heap ∧ HOk P w H' s'.heap ∧ RelV v u ∧ Q v H'
def CR (CX : CXT) (outer : List Env) (P : Program) (w : World) (H : Hp) (s : Shared) (Q : VK) (E : XK) (r : Result) (s' : Shared) : Prop :=
  match r with
  | .ok (.ret u) => CE outer P w H s Q u s'
  | .ok _ => False
  | .error e => CX outer H s E e s'
structure FnOk (P : Program) (w : World) (K : PySem.W.Frag) (mg : Str → Option Value) (base : Heap) (CX : CXT) (k : Nat) (f : Addr) (fd : FuncData) (ps : List Str) (sp : Sp) : Prop where
  len : ∀ vs H Q E, sp vs H Q E → vs.length = ps.length
  run : ∀ (A : Around) (outer : List Env) (s : Shared) (H : Hp) (args : Args) (us : List Value) (vs : List V) (Q : VK) (E : XK), Room k A → Env0 P w K mg base A outer s H → BindsTo s fd args (ps.zip us) → Vals vs us → sp vs H Q E →
    codeAny (model P w) A (.call (.ref f) args) (CR CX outer P w H s Q E) s
theorem FnOk.imp {P : Program} {w : World} {K : PySem.W.Frag} {mg : Str → Option Value} {base : Heap} {CX : CXT} {k : Nat} {f : Addr} {fd : FuncData} {ps : List Str} {sp sp' : Sp} (F : FnOk P w K mg base CX k f fd ps sp)
    (h : ∀ vs H Q E, sp' vs H Q E → sp vs H Q E) : FnOk P w K mg base CX k f fd ps sp' :=
  ⟨fun vs H Q E q => F.len vs H Q E (h _ _ _ _ q), fun A outer s H args us vs Q E hr he hb hv hs => F.run A outer s H args us vs Q E hr he hb hv (h _ _ _ _ hs)⟩

theorem Env0.make {P : Program} {w : World} {K : PySem.W.Frag} {mg : Str → Option Value} {base : Heap} {A : Around} {outer : List Env} {s : Shared} {H : Hp} (e : Env0 P w K mg base A outer s H) (C : Addr) (us : List Value) (kw : List (Str × Value)) :
    Env0 P w K mg base (A.under (.builtin "type.__call__" ⟨.ref C :: us, kw⟩)) outer s H := ⟨by first | exact e.frames | (simpa [Around.under, Code.envs, Code.isFrame, pushEnvs] using e.frames), e.mod, e.bs, e.bsz, e.funs, e.frf, e.hok, e.bare⟩
section
variable {X : Cx} {pins : List (Addr × Obj)} {σ : St} {H : Hp} {s s' : Shared}
theorem Inv.env0 (I : Inv X pins σ H s) : Env0 X.prog X.w X.K X.mg X.base X.A X.stack s H :=
  ⟨I.ok.frames, I.ok.mod, I.bs, Nat.le_trans I.ok.bsz I.sz, I.stack, I.stkFree, I.hok, I.bare⟩
theorem Inv.after {Q : VK} {u : Value} (I : Inv X pins σ H s) (h : CE X.stack X.prog X.w H s Q u s') : EP X pins σ Q u s' := by
  obtain ⟨v, H', os, bare, un, hok, r, q⟩ := h
  obtain ⟨hh, g, d, t, os'⟩ := s'
  obtain rfl : os' = s.os := os
  exact ⟨v, H', I.call (h' := hh) (g' := g) (d' := d) (t' := t) (ch := []) un hok bare (fun b z => absurd z (by simp)), r, q⟩
end

def tCall (sp : Sp) (dvs : List V) (E : XK) (t : TA) : TE := fun σ H Q => t σ H fun vs H1 => sp (vs ++ dvs) H1 Q E
def tMeth (C : Addr) (m : Str) (sp : Sp) (dvs : List V) (E : XK) (ta : TE) (t : TA) : TE := fun σ H Q => ta σ H fun x H1 => ∃ a dx fs, x = .ref a ∧ H1 a = some (.ins C dx fs) ∧ fs.lookup m = none ∧
  t σ H1 fun vs H2 => sp (x :: (vs ++ dvs)) H2 Q E
def tMake (C : Addr) (sp : Sp) (dvs : List V) (E : XK) (t : TA) : TE := fun σ H Q => t σ H fun vs H1 => ∀ x dx, H1 x = none → H1 dx = none → dx ≠ x →
  sp (.ref x :: (vs ++ dvs)) (upd (upd H1 dx (.own x)) x (.ins C dx [])) (fun v H2 => v = .non ∧ Q (.ref x) H2) E

def Binds (K : PySem.W.Frag) (fd : FuncData) (ps : List Str) (ds : List Value) : Prop :=
  ∀ (s : Shared) (us : List Value), K.In s.heap → (us ++ ds).length = ps.length → BindsTo s fd ⟨us, []⟩ (ps.zip (us ++ ds))
theorem Binds.all {K : PySem.W.Frag} {fd : FuncData} {ps : List Str} (h : ∀ us : List Value, us.length = ps.length → bindArgs fd ⟨us, []⟩ = pure (ps.zip us)) : Binds K fd ps [] := fun s us _ hl => by
  rw [List.append_nil] at hl ⊢
  exact .of_eq (h us hl)

def Passes (CX : CXT) (X : Cx) (E : XK) : Prop := ∀ (pins : List (Addr × Obj)) (σ : St) (H : Hp) (s : Shared) (e : Value) (s' : Shared), Inv X pins σ H s → CX X.stack H s E e s' → X.xe e s'

section
variable {X : Cx} {CX : CXT} {k : Nat} {f C : Addr} {fd : FuncData} {ps : List Str} {sp : Sp} {dvs : List V} {ds : List Value} {E : XK} {x m : Str} {p pos apos : Pos} {e o : Expr} {es : List Expr} {ta : TE} {t : TA}

theorem run_fn {pins : List (Addr × Obj)} {σ : St} {H : Hp} {s : Shared} {Q : VK} {us : List Value} {vs : List V} (F : FnOk X.prog X.w X.K X.mg X.base CX k f fd ps sp) (hr : Room k X.A) (hb : Binds X.K fd ps ds) (hd : Vals dvs ds) (hx : Passes CX X E)
    (I : Inv X pins σ H s) (r : Vals vs us) (h : sp (vs ++ dvs) H Q E) : wpAny (model X.prog X.w) X.A (call (.ref f) us) (EP X pins σ Q) X.xe s := by
  have r2 : Vals (vs ++ dvs) (us ++ ds) := r.append hd
  have hl : (us ++ ds).length = ps.length := by rw [← r2.length]; exact F.len _ _ _ _ h
  refine wpAny_call (codeAny_mono (F.run X.A X.stack s H ⟨us, []⟩ (us ++ ds) (vs ++ dvs) Q E hr I.env0 (hb s us I.kIn hl) r2 h) fun r s' hq => ?_)
  cases r with
  | error e => exact hx pins σ H s e s' I hq
  | ok fl =>
    cases fl with
    | ret u => exact I.after hq
    | next => exact False.elim hq
    | brk => exact False.elim hq
    | cont => exact False.elim hq

theorem pe_call (F : FnOk X.prog X.w X.K X.mg X.base CX k f fd ps sp) (hr : Room k X.A) (hg : Gl X x) (hm : X.mg x = some (.ref f)) (hk : PySem.W.keepIn X.K (.ref f) = true) (hb : Binds X.K fd ps ds) (hd : Vals dvs ds) (hx : Passes CX X E)
    (ha : PA X (e :: es) t) (hdb : (x == ("__debug__" : Str)) = false := by decide) (he : starEach (e :: es) X.env = (false, eval e X.env) :: starEach es X.env := by rfl) (hpl : (backTo pos (starEach es X.env)).any (·.1) = false := by rfl) :
    PE X (.Call (.Name x p) (e :: es) [] pos) (tCall sp dvs E t) := by
  intro pins s σ H Q I h
  refine wpAny_Call_Name_kw (ld_glob I hg hm ?_ hdb)
  refine PySem.W.callWith_K (h₀ := X.base) I.ok.mod.kin hk (thn (ha pos pins s σ H _ I h) fun us s1 ⟨vs, H1, I1, r, q⟩ => ⟨I1.kIn, ?_⟩) he hpl
  exact run_fn F hr hb hd hx I1 r q
theorem pe_meth {pl : Sem Bool} (he : PE X o ta) (c : Cls X.K C) (hm : Meth X.K C m f) (F : FnOk X.prog X.w X.K X.mg X.base CX k f fd ps sp) (hr : Room k X.A) (hb : Binds X.K fd ps ds) (hd : Vals dvs ds) (hx : Passes CX X E) (ha : PA X (e :: es) t)
    (hst : starEach (e :: es) X.env = (false, eval e X.env) :: starEach es X.env := by rfl) (hpl : (backTo pos (starEach es X.env)).any (·.1) = false := by rfl)
    (ht : eval (.Call (.Attribute o m apos) (e :: es) [] pos) X.env = (do
      let ov ← eval o X.env
      standAt apos.atName
      let (f, first) ← holding [ov] (getMethod ov m pl)
      callWith pos f first (backTo pos (starEach (e :: es) X.env)) (backToKw pos (keywordEach [] X.env))) := by rfl) :
    PE X (.Call (.Attribute o m apos) (e :: es) [] pos) (tMeth C m sp dvs E ta t) := by
  intro pins s σ H Q I h
  refine PySem.W.methodCall_KW (pl := pl) (thn (he pins s σ H _ I h) fun u s1 ⟨x, H1, I1, rx, a, dx, fs, ex, ea, l, q⟩ => ?_) ht
  subst ex
  obtain rfl : u = Value.ref a := rx
  refine getmeth_ok I1 ea c hm l ?_
  refine PySem.W.callWith_K (first := [.ref a]) (h₀ := X.base) I.ok.mod.kin hm.kp (thn (ha pos pins s1 σ H1 _ I1 q) fun us s2 ⟨vs, H2, I2, r, q2⟩ => ⟨I2.kIn, ?_⟩) hst hpl
  exact run_fn (us := .ref a :: us) (vs := .ref a :: vs) F hr hb hd hx I2 (.cons rfl r) q2
theorem pe_meth0 {pl : Sem Bool} (he : PE X o ta) (c : Cls X.K C) (hm : Meth X.K C m f) (F : FnOk X.prog X.w X.K X.mg X.base CX k f fd ps sp) (hr : Room k X.A) (hb : Binds X.K fd ps ds) (hd : Vals dvs ds) (hx : Passes CX X E)
    (ht : eval (.Call (.Attribute o m apos) [] [] pos) X.env = (do
      let ov ← eval o X.env
      standAt apos.atName
      let (f, first) ← holding [ov] (getMethod ov m pl)
      callWith pos f first (backTo pos (starEach [] X.env)) (backToKw pos (keywordEach [] X.env))) := by rfl) :
    PE X (.Call (.Attribute o m apos) [] [] pos) (tMeth C m sp dvs E ta tNil) := by
  intro pins s σ H Q I h
  refine PySem.W.methodCall_KW (pl := pl) (thn (he pins s σ H _ I h) fun u s1 ⟨x, H1, I1, rx, a, dx, fs, ex, ea, l, q⟩ => ?_) ht
  subst ex
  obtain rfl : u = Value.ref a := rx
  refine getmeth_ok I1 ea c hm l ?_
  exact PySem.W.callWith_K0 (first := [.ref a]) I1.kIn hm.kp (run_fn (us := [.ref a]) (vs := [.ref a]) F hr hb hd hx I1 (.cons rfl .nil) q)

structure Mk (K : PySem.W.Frag) (C f : Addr) : Prop where
  makes : PySem.W.makesIn K C = true
  init : PySem.W.findIn K (.ref C) "__init__" = some (some (.ref f))
  fn : PySem.W.isFn K (.ref f) = true
  kp : PySem.W.keepIn K (.ref C) = true

theorem run_make {pins : List (Addr × Obj)} {σ : St} {H : Hp} {s : Shared} {Q : VK} {us : List Value} {vs : List V} (M : Mk X.K C f) (F : FnOk X.prog X.w X.K X.mg X.base CX k f fd ps sp) (hr : Room (k + 1) X.A) (hb : Binds X.K fd ps ds) (hd : Vals dvs ds)
    (hx : Passes CX X E) (I : Inv X pins σ H s) (r : Vals vs us)
    (h : ∀ x dx, H x = none → H dx = none → dx ≠ x → sp (.ref x :: (vs ++ dvs)) (upd (upd H dx (.own x)) x (.ins C dx [])) (fun v H2 => v = .non ∧ Q (.ref x) H2) E) :
    wpAny (model X.prog X.w) X.A (call (.ref C) us) (EP X pins σ Q) X.xe s := by
  have hq := h (s.heap.objs.size + 1) s.heap.objs.size (I.hok.fresh (Nat.le_succ _)) (I.hok.fresh (Nat.le_refl _)) (Nat.ne_of_lt (Nat.lt_succ_self _))
  have I2 := Inv.made (C := C) I
  have r2 : Vals (V.ref (s.heap.objs.size + 1) :: (vs ++ dvs)) (Value.ref (s.heap.objs.size + 1) :: (us ++ ds)) := .cons rfl (r.append hd)
  have hl : (Value.ref (s.heap.objs.size + 1) :: us ++ ds).length = ps.length := by
    have e := r2.length
    rw [F.len _ _ _ _ hq] at e
    exact e.symm
  refine wpAny_call (make_map (f := f) I.kIn M.makes M.init (beq_iff_eq.mp M.fn) (codeAny_mono (F.run _ X.stack _ _ ⟨Value.ref (s.heap.objs.size + 1) :: us, []⟩ (Value.ref (s.heap.objs.size + 1) :: (us ++ ds)) _ _ E (hr.make C us [])
    (I2.env0.make C us []) (hb _ (Value.ref (s.heap.objs.size + 1) :: us) I2.kIn hl) r2 hq) fun r s' hq' => ?_))
  cases r with
  | error e => exact hx pins σ _ _ e s' I2 hq'
  | ok fl =>
    cases fl with
    | ret u =>
      obtain ⟨v, H', I3, rv, ev, q3⟩ := I2.after hq'
      subst ev
      exact ⟨rv, ⟨V.ref (s.heap.objs.size + 1), H', I3, rfl, q3⟩⟩
    | next => exact False.elim hq'
    | brk => exact False.elim hq'
    | cont => exact False.elim hq'
theorem pe_make (M : Mk X.K C f) (F : FnOk X.prog X.w X.K X.mg X.base CX k f fd ps sp) (hr : Room (k + 1) X.A) (hg : Gl X x) (hm : X.mg x = some (.ref C)) (hb : Binds X.K fd ps ds) (hd : Vals dvs ds) (hx : Passes CX X E)
    (ha : PA X (e :: es) t) (hdb : (x == ("__debug__" : Str)) = false := by decide) (he : starEach (e :: es) X.env = (false, eval e X.env) :: starEach es X.env := by rfl) (hpl : (backTo pos (starEach es X.env)).any (·.1) = false := by rfl) :
    PE X (.Call (.Name x p) (e :: es) [] pos) (tMake C sp dvs E t) := by
  intro pins s σ H Q I h
  refine wpAny_Call_Name_kw (ld_glob I hg hm ?_ hdb)
  refine PySem.W.callWith_K (h₀ := X.base) I.ok.mod.kin M.kp (thn (ha pos pins s σ H _ I h) fun us s1 ⟨vs, H1, I1, r, q⟩ => ⟨I1.kIn, ?_⟩) he hpl
  exact run_make M F hr hb hd hx I1 r q
end

section
variable {X : Cx} {CX : CXT} {k : Nat} {f C : Addr} {fd : FuncData} {ps ks : List Str} {sp : Sp} {E : XK} {x m : Str} {p pos apos kpos : Pos} {e o : Expr} {es : List Expr} {kws : List Keyword} {te ta : TE} {t tk : TA} {nm : Option Str}
structure KBinds (K : PySem.W.Frag) (fd : FuncData) (ps ks : List Str) (g : List Value → List Value → List Value) (gV : List V → List V → List V) : Prop where
  to : ∀ (s : Shared) (us ws : List Value), K.In s.heap → (g us ws).length = ps.length → BindsTo s fd ⟨us, ks.zip ws⟩ (ps.zip (g us ws))
  rel : ∀ {vs : List V} {us : List Value} {zs : List V} {ws : List Value}, Vals vs us → Vals zs ws → Vals (gV vs zs) (g us ws)
variable {g : List Value → List Value → List Value} {gV : List V → List V → List V}
end

structure FnScope (N P : List Str) (sc : Scope) : Prop where
  kind : sc.kind = .function
  co : sc.isCoroutine = false
  gen : sc.isGenerator = false
  nd : N.Nodup
  pre : N.take P.length = P
  par : ∀ x ∈ P, sc.names.lookup x = some .local ∨ sc.names.lookup x = some .cell
  nofree : ∀ y ∈ sc.names, y.2 ≠ .free

theorem bindL_out {kindOf : Str → Option NameKind} {x : Str} : ∀ {binds : List (Str × Value)} {m : Str → Option Value}, (∀ v, (x, v) ∉ binds) → bindL kindOf binds m x = m x
  | [], _, _ => rfl
  | (n, v) :: r, m, h => by
    unfold bindL
    rw [bindL_out fun w hw => h w (List.mem_cons_of_mem _ hw)]
    split
    · have : x ≠ n := by rintro rfl; exact h v List.mem_cons_self
      simp [this]
    · rfl
theorem bindC_out {kindOf : Str → Option NameKind} {x : Str} : ∀ {binds : List (Str × Value)} {m : Str → Option Value}, (∀ v, (x, v) ∉ binds) → bindC kindOf binds m x = m x
  | [], _, _ => rfl
  | (n, v) :: r, m, h => by
    unfold bindC
    rw [bindC_out fun w hw => h w (List.mem_cons_of_mem _ hw)]
    split
    · rfl
    · have : x ≠ n := by rintro rfl; exact h v List.mem_cons_self
      simp [this]
theorem bindL_get {kindOf : Str → Option NameKind} {x : Str} {v : Value} : ∀ {P : List Str} {vs : List Value} {i : Nat} {m : Str → Option Value}, P.Nodup → P[i]? = some x → vs[i]? = some v → kindOf x = some .local →
    bindL kindOf (P.zip vs) m x = some v
  | [], _, _, _, _, h, _, _ => by simp at h
  | _ :: _, [], _, _, _, _, h, _ => by simp at h
  | p :: P, w :: vs, 0, m, nd, h1, h2, hk => by
    simp at h1 h2; subst h1; subst h2
    show bindL kindOf ((p, w) :: P.zip vs) m p = _
    unfold bindL
    rw [bindL_out fun v hv => (List.nodup_cons.mp nd).1 (List.of_mem_zip hv).1, if_pos hk]
    simp
  | p :: P, w :: vs, i + 1, m, nd, h1, h2, hk => by
    show bindL kindOf ((p, w) :: P.zip vs) m x = _
    unfold bindL
    exact bindL_get (i := i) (List.nodup_cons.mp nd).2 (by simpa using h1) (by simpa using h2) hk
theorem bindC_get {kindOf : Str → Option NameKind} {x : Str} {v : Value} : ∀ {P : List Str} {vs : List Value} {i : Nat} {m : Str → Option Value}, P.Nodup → P[i]? = some x → vs[i]? = some v → kindOf x ≠ some .local →
    bindC kindOf (P.zip vs) m x = some v
  | [], _, _, _, _, h, _, _ => by simp at h
  | _ :: _, [], _, _, _, _, h, _ => by simp at h
  | p :: P, w :: vs, 0, m, nd, h1, h2, hk => by
    simp at h1 h2; subst h1; subst h2
    show bindC kindOf ((p, w) :: P.zip vs) m p = _
    unfold bindC
    rw [bindC_out fun v hv => (List.nodup_cons.mp nd).1 (List.of_mem_zip hv).1, if_neg hk]
    simp
  | p :: P, w :: vs, i + 1, m, nd, h1, h2, hk => by
    show bindC kindOf ((p, w) :: P.zip vs) m x = _
    unfold bindC
    exact bindC_get (i := i) (List.nodup_cons.mp nd).2 (by simpa using h1) (by simpa using h2) hk

def start (N : List Str) (vs : List V) : St := vs.map some ++ List.replicate (N.length - vs.length) none

def cxOf (CX : CXT) (P : Program) (w : World) (K : PySem.W.Frag) (mg : Str → Option Value) (base : Heap) (N : List Str) (qual : Str) (scope : Scope) (f : Addr) (cd : Value) (A : Around) (outer : List Env) (s : Shared) (H : Hp) (E : XK) : Cx where
  prog := P
  w := w
  K := K
  mg := mg
  base := base
  A := A.deeper (envOfC qual scope s.heap.objs.size f cd)
  N := N
  s₀ := s
  H₀ := H
  env := envOfC qual scope s.heap.objs.size f cd
  outer := outer
  stack := envOfC qual scope s.heap.objs.size f cd :: outer
  ex := []
  calm := true
  fn := fun _ => true
  pn := []
  xe := fun e s' => wpAny (model P w) (A.deeper (envOfC qual scope s.heap.objs.size f cd)) (leaving (envOfC qual scope s.heap.objs.size f cd) e) (fun _ s'' => CX outer H s E e s'') (fun e' s'' => CX outer H s E e' s'') s'

theorem cell_has {sc : Scope} {n : Nat} {x : Str} (h : sc.names.lookup x = some .cell) : ∃ c, (cellsFrom n sc.names []).lookup x = some c := by
  have q := PySem.W.cellsFrom_some sc.names n [] (.inl h)
  exact Option.isSome_iff_exists.mp q

theorem inv_start {CX : CXT} {P : Program} {w : World} {K : PySem.W.Frag} {mg : Str → Option Value} {base : Heap} {N ps : List Str} {qual : Str} {scope : Scope} {f : Addr} {cd : Value} {A : Around} {outer : List Env} {s s1 : Shared} {H : Hp} {E : XK} {us : List Value} {vs : List V}
    (S : FnScope N ps scope) (hd : A.handled = none) (e0 : Env0 P w K mg base A outer s H) (hl : vs.length = ps.length) (r : Vals vs us)
    (x : InCallC s s.heap.objs.size (bindL (envOfC qual scope s.heap.objs.size f cd).kindOf (ps.zip us) fun _ => none) (cellsFrom (s.heap.objs.size + 1) scope.names []) (bindC (envOfC qual scope s.heap.objs.size f cd).kindOf (ps.zip us) fun _ => none) s1) :
    Inv (cxOf CX P w K mg base N qual scope f cd A outer s H E) [] (start N vs) H s1 := by
  have hpl : ps.length ≤ N.length := by have := congrArg List.length S.pre; rw [List.length_take] at this; omega
  obtain ⟨h1, tk, rfl, hk⟩ := x.done
  have noA : ∀ b : Addr, b ∉ (cxOf CX P w K mg base N qual scope f cd A outer s H E).ex := fun b z => absurd (show b ∈ ([] : List Addr) from z) (by simp)
  refine ⟨⟨e0.mod, S.kind, rfl, rfl, Nat.le_refl _, fun y z c h1 h2 => ?_, fun y hy => ?_, fun y c _ h => ?_, fun _ => hd, Around.frames_deeper e0.frames, .inr ⟨rfl, rfl⟩, fun b z => absurd z (noA b), e0.bs, e0.bsz, fun b _ _ => noA b, fun b z => absurd z (noA b), e0.funs, e0.frf⟩,
    rfl, e0.bare, Un.kept hk, ⟨_, x.toInCall.ns, fun i y v h1 h2 h3 => ?_⟩, fun y c h => ⟨_, x.cell y c h⟩, e0.hok.fresh (Nat.le_refl _), fun y c h => ?_, fun p hp => absurd (show p ∈ ([] : List (Addr × Obj)) from hp) (by simp), e0.hok.kept hk, ?_⟩
  · exact name_of_addr x.apart (PySem.mem_of_lookup h1) (PySem.mem_of_lookup h2)
  · have hy : scope.names.lookup y = some .cell ∨ scope.names.lookup y = some .free := hy
    rcases hy with hy | hy
    · exact cell_has hy
    · exact absurd rfl (S.nofree _ (PySem.mem_of_lookup hy))
  · exact Nat.le_of_lt (x.above y c (PySem.mem_of_lookup h))
  · have hi : i < vs.length := by
      unfold start at h2
      by_cases hi : i < vs.length
      · exact hi
      · rw [List.getElem?_append_right (by simpa using hi)] at h2
        rw [List.getElem?_replicate] at h2
        split at h2 <;> cases h2
    have ha : vs[i]? = some v := by
      unfold start at h2
      rw [List.getElem?_append_left (by simpa using hi), List.getElem?_map] at h2
      cases e : vs[i]? with
      | none => rw [e] at h2; cases h2
      | some a => rw [e] at h2; cases h2; rfl
    obtain ⟨u, hu, rv⟩ := r.get ha
    have hp : ps[i]? = some y := by
      rw [← S.pre, List.getElem?_take_of_lt (by omega)]; exact h1
    have ndP : ps.Nodup := by rw [← S.pre]; exact S.nd.sublist (List.take_sublist _ _)
    refine ⟨u, rv, ?_⟩
    rcases S.par y (List.mem_of_getElem? hp) with k | k
    · exact .inl ⟨k, bindL_get ndP hp hu k⟩
    · obtain ⟨c, e⟩ := cell_has (n := s.heap.objs.size + 1) k
      refine .inr ⟨.inl k, c, e, ?_⟩
      have q := x.cell y c e
      rw [bindC_get ndP hp hu (by show scope.names.lookup y ≠ _; rw [k]; decide)] at q
      exact q
  · exact e0.hok.fresh (Nat.le_of_lt (x.above y c (PySem.mem_of_lookup h)))
  · unfold start
    show _ = N.length
    rw [List.length_append, List.length_map, List.length_replicate]
    omega

theorem fn_of {CX : CXT} {P : Program} {w : World} {K : PySem.W.Frag} {mg : Str → Option Value} {base : Heap} {k : Nat} {f : Addr} {name qual : Str} {params : Arguments} {body : List Stmt} {scope : Scope} {dV kV doc pm cdv ct oc : Value} {an od : Option Addr}
    {osl : Array (Option Value)} {N ps : List Str} {sp : Sp} (lk : K.lookup f = some ⟨oc, od, .func (PySem.W.fnOf name qual params body scope dV kV doc pm an cdv ct), osl⟩) (hcd : PySem.W.codeIn K cdv qual = true) (S : FnScope N ps scope)
    (len : ∀ vs H Q E, sp vs H Q E → vs.length = ps.length)
    (hbody : ∀ (A : Around) (outer : List Env) (s : Shared) (H : Hp) (vs : List V) (Q : VK) (E : XK), Room k (A.deeper (envOfC qual scope s.heap.objs.size f cdv)) → sp vs H Q E →
      ∃ t, PSs (cxOf CX P w K mg base N qual scope f cdv A outer s H E) body t ∧ t { nx := fun _ H' => Q .non H', rt := Q } (start N vs) H) :
    FnOk P w K mg base CX (k + 1) f (PySem.W.fnOf name qual params body scope dV kV doc pm an cdv ct) ps sp := by
  refine ⟨len, fun A outer s H args us vs Q E hr e0 hb r hsp => ?_⟩
  have hl := len _ _ _ _ hsp
  have KX : K.In s.heap := e0.mod.kin.keeps fun b o e => (e0.bs b o e).1
  have lim : s.heap.NoLimit := e0.mod.nolimit.keeps fun b o e => (e0.bs b o e).1
  have hkind : ∀ y ∈ ps.zip us, scope.names.lookup y.1 = some .local ∨ (scope.names.lookup y.1 = some .cell ∧ ((cellsFrom (s.heap.objs.size + 1) scope.names []).lookup y.1).isSome = true) := fun ⟨n, v⟩ hy => by
    rcases S.par n (List.of_mem_zip hy).1 with q | q
    · exact .inl q
    · exact .inr ⟨q, PySem.W.cellsFrom_some _ _ _ (.inl q)⟩
  refine codeAny_call_function hr.depth (KX _ _ lk) rfl S.co S.gen rfl (PySem.W.codeRec_of KX hcd) (hb _ _ _ _ ?_)
  refine wpAny_newFunctionEnv_cells S.kind hkind fun env he s1 x => ?_
  subst he
  refine ⟨lim.keeps x.toInCall.keep, codeAny_func ?_⟩
  obtain ⟨t, ht, hq⟩ := hbody A outer s H vs Q E (hr.deeper _) hsp
  have I : Inv (cxOf CX P w K mg base N qual scope f cdv A outer s H E) [] (start N vs) H s1 := inv_start S hr.hd e0 hl r x
  refine wpAny_mono (ht [] s1 (start N vs) H _ I hq) (fun fl s' hs => ?_) fun e s' hs => hs
  have fin : ∀ {σ' : St} {H' : Hp} {v : V} {u : Value}, Inv (cxOf CX P w K mg base N qual scope f cdv A outer s H E) [] σ' H' s' → RelV v u → Q v H' → CE outer P w H s Q u s' :=
    fun {σ' H' v u} J rv q => ⟨v, H', J.os, J.bare, J.base, J.hok, rv, q⟩
  cases fl with
  | ret u =>
    obtain ⟨v, σ', H', J, rv, q⟩ := hs
    exact fin J rv q
  | next =>
    obtain ⟨σ', H', J, q⟩ := hs
    exact fin (v := V.non) (u := Value.none) J rfl q
  | brk =>
    obtain ⟨_, _, _, q⟩ := hs
    exact False.elim q
  | cont =>
    obtain ⟨_, _, _, q⟩ := hs
    exact False.elim q
end L2

namespace L2
open PySem PySem.Spec PyProof.Rows
section
variable {X : Cx} {x : Str} {p pos : Pos} {e : Expr} {es : List Expr} {t : TA} {id T : String} {r : List V → Hp → VK → Prop}

def tCB (r : List V → Hp → VK → Prop) (t : TA) : TE := fun σ H Q => t σ H fun vs H1 => r vs H1 Q
theorem pe_callB (hc : CallR X (.builtin id) r) (hg : Gl X x) (hm : X.mg x = none) (hv : bootBuiltins x = some (.builtin id)) (ha : PA X (e :: es) t) (hn : x ≠ "__name__" := by decide) (hdb : (x == ("__debug__" : Str)) = false := by decide)
    (he : starEach (e :: es) X.env = (false, eval e X.env) :: starEach es X.env := by rfl) (hpl : (backTo pos (starEach es X.env)).any (·.1) = false := by rfl) : PE X (.Call (.Name x p) (e :: es) [] pos) (tCB r t) := by
  intro pins s σ H Q I h
  refine wpAny_Call_Name_kw (ld_blt I hg hm hv ?_ hn hdb)
  exact PyProof.Rows.callWith_builtin1 (thn (ha pos pins s σ H _ I h) fun us s1 ⟨vs, H1, I1, r1, q1⟩ => hc pins s1 σ H1 vs us Q I1 r1 q1) he hpl
theorem pe_callTy (hc : CallR X (.type T) r) (hg : Gl X x) (hm : X.mg x = none) (hv : bootBuiltins x = some (.type T)) (ha : PA X (e :: es) t) (hn : x ≠ "__name__" := by decide) (hdb : (x == ("__debug__" : Str)) = false := by decide)
    (he : starEach (e :: es) X.env = (false, eval e X.env) :: starEach es X.env := by rfl) (hpl : (backTo pos (starEach es X.env)).any (·.1) = false := by rfl) : PE X (.Call (.Name x p) (e :: es) [] pos) (tCB r t) := by
  intro pins s σ H Q I h
  refine wpAny_Call_Name_kw (ld_blt I hg hm hv ?_ hn hdb)
  exact PyProof.Rows.callWith_type1 (thn (ha pos pins s σ H _ I h) fun us s1 ⟨vs, H1, I1, r1, q1⟩ => hc pins s1 σ H1 vs us Q I1 r1 q1) he hpl
end
end L2

namespace HT
open PySem PyProof.Rows

section
open PySem.SeqAt
open PySem.AutoSeq1 (wpAny_loadPart')
open PySem.MeetsSeq PySem.MeetsSeq2 PySem.MeetsSeq3

end

section
variable {prog : Program} {w : World} {A : Around} {E : Value → Shared → Prop} {s : Shared}

def sIx (n d : Nat) : Option Int → Nat
  | none => d
  | some v => if v < 0 then (v + (n : Int)).toNat else min v.toNat n
theorem sIx_none (n d : Nat) : sIx n d none = d := rfl
theorem sIx_nat (n d k : Nat) : sIx n d (some (k : Int)) = min k n := by
  show (if (k : Int) < 0 then ((k : Int) + (n : Int)).toNat else min (k : Int).toNat n) = min k n
  rw [if_neg (by omega), Int.toNat_natCast]
end
end HT

namespace L2
open PySem PySem.Spec PyProof.Rows

abbrev TO := St → Hp → (Option Int → Hp → Prop) → Prop
def PO (X : Cx) (e : Option Expr) (t : TO) : Prop :=
  ∀ (pins : List (Addr × Obj)) (s : Shared) (σ : St) (H : Hp) (Q : Option Int → Hp → Prop), Inv X pins σ H s → t σ H Q →
    wpAny (model X.prog X.w) X.A (evalPart e X.env) (fun u s' => ∃ o H', Inv X pins σ H' s' ∧ IsPart u o ∧ Q o H') X.xe s
def tNoPart : TO := fun _ H Q => Q none H
def tPart (t : TE) : TO := fun σ H Q => t σ H fun x H1 => ∃ i, x = .int i ∧ Q (some i) H1

section
variable {X : Cx} {e : Expr} {te : TE} {lo hi : Option Expr} {tl th : TO} {pos p2 : Pos}

theorem po_none : PO X none tNoPart := by
  intro pins s σ H Q I h
  rw [evalPart_none]
  exact wpAny_pure ⟨none, H, I, .none, h⟩
theorem po_some (h : PE X e te) : PO X (some e) (tPart te) := by
  intro pins s σ H Q I hw
  rw [evalPart_some]
  refine thn (h pins s σ H _ I hw) fun u s1 ⟨x, H1, I1, r1, q1⟩ => ?_
  obtain ⟨i, rfl, q⟩ := q1
  obtain ⟨t, rfl⟩ := r1
  exact ⟨some i, H1, I1, .int i t, q⟩

def SlR (X : Cx) (r : V → Option Int → Option Int → Hp → VK → Prop) : Prop :=
  ∀ (pins : List (Addr × Obj)) (s : Shared) (σ : St) (H : Hp) (x : V) (v vl vu : Value) (lo hi : Option Int) (sl : Addr) (Q : VK), Inv X pins σ H s → RelV x v → s.heap.IsSliceOf sl vl vu .none → IsPart vl lo → IsPart vu hi → r x lo hi H Q →
    ∃ T id, typeLookup (.type T) "__getitem__" = pure (some (.builtin id)) ∧ s.TypeIs v T ∧ wpAny (model X.prog X.w) X.A (getItem v (.ref sl)) (EP X pins σ Q) X.xe s
def tSl (r : V → Option Int → Option Int → Hp → VK → Prop) (te : TE) (tl th : TO) : TE := fun σ H Q => te σ H fun x H1 => tl σ H1 fun l H2 => th σ H2 fun u H3 => r x l u H3 Q
theorem pe_slice {r : V → Option Int → Option Int → Hp → VK → Prop} (hr : SlR X r) (he : PE X e te) (hl : PO X lo tl) (hu : PO X hi th) : PE X (.Subscript e (.Slice lo hi none p2) pos) (tSl r te tl th) := by
  intro pins s σ H Q I h
  refine Subscript_ (thn (he pins s σ H _ I h) fun v s1 ⟨x, H1, I1, r1, q1⟩ => ?_)
  refine wpAny_Slice (thn (hl pins s1 σ H1 _ I1 q1) fun vl s2 ⟨l, H2, I2, pl, q2⟩ => thn (hu pins s2 σ H2 _ I2 q2) fun vu s3 ⟨u, H3, I3, pu, q3⟩ => ?_)
  rw [evalPart_none]
  refine wpAny_pure ?_
  have I4 : Inv X pins σ H3 { s3 with heap := s3.heap.push { cls := .type "slice", data := .fields #[vl, vu, .none] } } := I3.kept (t' := s3.toks) fun b ob q => Heap.get?_push_of_some _ q
  obtain ⟨T, id, hT, ht, hg⟩ := hr pins { s3 with heap := s3.heap.push { cls := .type "slice", data := .fields #[vl, vu, .none] } } σ H3 x v vl vu l u s3.heap.objs.size Q I4 r1 (Heap.IsSliceOf.new ..) pl pu q3
  show wpAny (model X.prog X.w) X.A (subscriptTail e (.Slice lo hi none p2) v (.ref s3.heap.objs.size)) (EP X pins σ Q) X.xe { s3 with heap := s3.heap.push { cls := .type "slice", data := .fields #[vl, vu, .none] } }
  exact tail_any (ops := [.ref s3.heap.objs.size, v]) ht hT hg (by with_unfolding_all rfl)

def cutV (xs : List V) (lo hi : Option Int) : List V := (xs.drop (HT.sIx xs.length 0 lo)).take (HT.sIx xs.length xs.length hi - HT.sIx xs.length 0 lo)
theorem cutV_length (xs : List V) (lo hi : Option Int) : (cutV xs lo hi).length ≤ xs.length := by
  unfold cutV
  rw [List.length_take, List.length_drop]
  omega
end
end L2

namespace L2
open PySem PySem.Spec PyProof.Rows

def ixN (n : Nat) (i : Int) : Option Nat := if 0 ≤ i then (if i < n then some i.toNat else none) else if -(n : Int) ≤ i then some (i + n).toNat else none
def atI {α : Type} (xs : List α) (i : Int) : Option α := (ixN xs.length i).bind fun j => xs[j]?
theorem ixN_seq {n : Nat} {i : Int} {j : Nat} (h : ixN n i = some j) : seqIndex? i n = some j ∧ j < n ∧ -(n : Int) ≤ i ∧ i < n := by
  unfold ixN at h
  by_cases h0 : 0 ≤ i
  · rw [if_pos h0] at h
    by_cases h1 : i < n
    · rw [if_pos h1] at h
      have e : i.toNat = j := Option.some.inj h
      exact ⟨by rw [seqIndex_of h0 h1, e], by omega, by omega, h1⟩
    · rw [if_neg h1] at h; cases h
  · rw [if_neg h0] at h
    by_cases h1 : -(n : Int) ≤ i
    · rw [if_pos h1] at h
      have e : (i + n).toNat = j := Option.some.inj h
      exact ⟨by rw [seqIndex_neg (by omega) h1, e], by omega, h1, by omega⟩
    · rw [if_neg h1] at h; cases h
theorem atI_get {α : Type} {xs : List α} {i : Int} {v : α} (h : atI xs i = some v) : ∃ j, seqIndex? i xs.length = some j ∧ xs[j]? = some v ∧ j < xs.length ∧ -(xs.length : Int) ≤ i ∧ i < xs.length := by
  unfold atI at h
  cases e : ixN xs.length i with
  | none => rw [e] at h; cases h
  | some j =>
    rw [e] at h
    obtain ⟨h1, h2, h3, h4⟩ := ixN_seq e
    exact ⟨j, h1, h, h2, h3, h4⟩
theorem atI_nat {α : Type} {xs : List α} {j : Nat} {v : α} (h : xs[j]? = some v) : atI xs (j : Int) = some v := by
  have hj : j < xs.length := (List.getElem?_eq_some_iff.mp h).1
  have e : ixN xs.length (j : Int) = some j := by
    unfold ixN
    rw [if_pos (by omega), if_pos (by omega)]; simp
  unfold atI; rw [e]; exact h
theorem atI_last {α : Type} (xs : List α) (v : α) : atI (xs ++ [v]) (-1) = some v := by
  have hl : (xs ++ [v]).length = xs.length + 1 := by simp
  have e : ixN (xs ++ [v]).length (-1) = some xs.length := by
    unfold ixN
    rw [hl, if_neg (by decide), if_pos (by omega)]
    congr 1
    omega
  unfold atI
  rw [e]
  show (xs ++ [v])[xs.length]? = some v
  simp

def PlainIx (b : Expr) : Prop := ∀ o i, subscripted b false o i = operate [o, i] (getItem o i)
def IxR (X : Cx) (r : R2) : Prop :=
  ∀ (value slice : Expr) (pins : List (Addr × Obj)) (s : Shared) (σ : St) (H : Hp) (x y : V) (v u : Value) (Q : VK), Inv X pins σ H s → RelV x v → RelV y u → r x y H Q →
    subscripted slice false v u = operate [v, u] (getItem v u) → wpAny (model X.prog X.w) X.A (subscriptTail value slice v u) (EP X pins σ Q) X.xe s
def MtR (X : Cx) (id : String) (r : V → List V → Hp → VK → Prop) : Prop :=
  ∀ (pins : List (Addr × Obj)) (s : Shared) (σ : St) (H : Hp) (x : V) (xs : List V) (v : Value) (us : List Value) (Q : VK), Inv X pins σ H s → RelV x v → Vals xs us → r x xs H Q →
    wpAny (model X.prog X.w) X.A (call (.builtin id) (v :: us)) (EP X pins σ Q) X.xe s
section
variable {X : Cx} {a b : Expr} {ta tb : TE} {pos : Pos}
theorem pe_ix {r : R2} (hr : IxR X r) (ha : PE X a ta) (hb : PE X b tb) (hs : PlainIx b) : PE X (.Subscript a b pos) (tOp r ta tb) := by
  intro pins s σ H Q I h
  exact Subscript_ (binT ha hb I h fun v u s2 x y H2 I2 rx ry q => hr a b pins s2 σ H2 x y v u Q I2 rx ry q (hs _ _))

def rIxL (K : PySem.W.Frag) : R2 := fun x y H Q => ∃ p xs i v, x = .ref p ∧ y = .int i ∧ SqL K H p xs ∧ atI xs i = some v ∧ Q v H
def rIxT (K : PySem.W.Frag) : R2 := fun x y H Q => ∃ p xs i v, x = .ref p ∧ y = .int i ∧ SqT K H p xs ∧ atI xs i = some v ∧ Q v H
def rIxS : R2 := fun x y H Q => ∃ z i c, x = .str z ∧ y = .int i ∧ z.length ≤ sizeLine ∧ atI z.cps.toList i = some c ∧ Q (.str ⟨#[c]⟩) H
theorem ix_list : IxR X (rIxL X.K) := by
  intro value slice pins s σ H x y v u Q I rx ry h hs
  obtain ⟨p, xs, i, z, rfl, rfl, hq, he, q⟩ := h
  cases rx
  obtain ⟨t, rfl⟩ := ry
  obtain ⟨its, r, pl, hz⟩ := I.list hq
  obtain ⟨j, h1, h2, h3, h4, h5⟩ := atI_get he
  obtain ⟨w, ew, rw'⟩ := r.get h2
  have hl := r.length
  have hn := line63
  have fin : EP X pins σ Q w s := ⟨z, H, I, rw', q⟩
  by_cases h0 : 0 ≤ i
  · have hj : i.toNat = j := by
      rw [seqIndex_of h0 h5] at h1
      exact Option.some.inj h1
    exact item_listR pl.isList h0 (by omega) (by rw [hj]; simpa using ew) fin hs
  · have hj : (i + (its.toArray.size : Int)).toNat = j := by
      rw [seqIndex_neg (by omega) h4] at h1
      rw [List.size_toArray, ← hl]
      exact Option.some.inj h1
    exact subscriptTail_builtinR (x := w) pl.isList.typeIs slot_list_getitem.lookup
      (wpAny_getItem_list_neg (Q := fun r s' => r = w ∧ EP X pins σ Q r s') pl.isList (by omega) (by rw [List.size_toArray] <;> omega) (by omega) (by rw [hj]; simpa using ew) ⟨rfl, fin⟩) hs
theorem ix_tup : IxR X (rIxT X.K) := by
  intro value slice pins s σ H x y v u Q I rx ry h hs
  obtain ⟨p, xs, i, z, rfl, rfl, hq, he, q⟩ := h
  cases rx
  obtain ⟨t, rfl⟩ := ry
  obtain ⟨its, r, pl, hz⟩ := I.tuple hq
  obtain ⟨j, h1, h2, h3, h4, h5⟩ := atI_get he
  obtain ⟨w, ew, rw'⟩ := r.get h2
  have hl := r.length
  have hn := line63
  have fin : EP X pins σ Q w s := ⟨z, H, I, rw', q⟩
  exact subscriptTail_builtinR (x := w) pl.typeIs slot_tuple_getitem.lookup
    (getItem_tuple (j := j) (Q := fun r s' => r = w ∧ EP X pins σ Q r s') pl (by omega) (by omega) (by rw [List.size_toArray, ← hl]; exact h1) (by simpa using ew) ⟨rfl, fin⟩) hs
theorem ix_str : IxR X rIxS := by
  intro value slice pins s σ H x y v u Q I rx ry h hs
  obtain ⟨z, i, c, rfl, rfl, hz, he, q⟩ := h
  obtain ⟨t, rfl⟩ := rx
  obtain ⟨t', rfl⟩ := ry
  obtain ⟨j, h1, h2, h3, h4, h5⟩ := atI_get he
  have hl : z.cps.toList.length = z.length := by simp [Str.length]
  rw [hl] at h1 h4 h5
  have hn := line63
  exact tail_any (typeIs_str s z t) slot_str_getitem.lookup (getItem_str (c := c) (by
    have e1 : decide (i < -(2 ^ 63 : Int)) = false := decide_eq_false (by omega)
    have e2 : decide (i ≥ 2 ^ 63) = false := decide_eq_false (by omega)
    rw [e1, e2, Bool.or_false]) (by rw [h1]; simpa using h2) ⟨.str ⟨#[c]⟩, H, I.tok _, ⟨_, rfl⟩, q⟩) hs
theorem mapSeq_set (its : List Value) (n j : Nat) (u : Value) : Obj.mapSeq (·.setIfInBounds j u) { cls := .type "list", data := .seq its.toArray n } = { cls := .type "list", data := .seq (its.set j u).toArray n } := by
  simp [Obj.mapSeq]
theorem Inv.lst {pins : List (Addr × Obj)} {σ : St} {H : Hp} {s : Shared} {p : Addr} {xs : List V} (I : Inv X pins σ H s) (h : H p = some (.lst xs)) :
    ∃ (its : List Value) (n : Nat), Vals xs its ∧ s.heap.get? p = some { cls := .type "list", data := .seq its.toArray n } ∧ xs.length ≤ sizeLine := by
  obtain ⟨z, its, n, r, e⟩ := I.hok p _ h
  exact ⟨its, n, r, e, z⟩
theorem Inv.lstUpd {pins : List (Addr × Obj)} {σ : St} {H : Hp} {s : Shared} {p : Addr} {xs ys : List V} {its its' : List Value} {n n' : Nat} {f : Obj → Obj} (I : Inv X pins σ H s) (h : H p = some (.lst xs))
    (ho : s.heap.get? p = some { cls := .type "list", data := .seq its.toArray n }) (hf : f { cls := .type "list", data := .seq its.toArray n } = { cls := .type "list", data := .seq its'.toArray n' }) (r : Vals ys its') (hz : ys.length ≤ sizeLine) (t : Nat) :
    Inv X pins σ (upd H p (.lst ys)) { s with heap := s.heap.update p f, toks := t } := by
  have e : (s.heap.update p f).get? p = some { cls := .type "list", data := .seq its'.toArray n' } := by
    rw [Heap.get?_update_self f ho (by rw [hf] <;> rfl), hf]
  refine I.write (x := p) (e := p) (by rw [h]; trivial) (.inl rfl) (fun b u hb q => (Heap.get?_update_other _ _ (Ne.symm hb)).trans q) ⟨_, e⟩ ?_
  exact ⟨hz, its', n', r, e⟩
def rSetL : V → V → V → Hp → (Hp → Prop) → Prop := fun o i v H Q => ∃ p xs k j, o = .ref p ∧ i = .int k ∧ H p = some (.lst xs) ∧ ixN xs.length k = some j ∧ Q (upd H p (.lst (xs.set j v)))
theorem set_list : PSet X rSetL := by
  intro pins s σ H o i v ov iv u Q I ro ri rv h
  obtain ⟨p, xs, k, j, rfl, rfl, hp, hj, q⟩ := h
  cases ro
  obtain ⟨t, rfl⟩ := ri
  obtain ⟨its, n, r, ho, hz⟩ := I.lst hp
  obtain ⟨h1, h2, h3, h4⟩ := ixN_seq hj
  have hl := r.length
  have hn := line63
  have I' : Inv X pins σ (upd H p (.lst (xs.set j v))) { s with heap := s.heap.update p (Obj.mapSeq (·.setIfInBounds j u)) } :=
    I.lstUpd hp ho (mapSeq_set its n j u) (r.set rv j) (by rw [List.length_set]; exact hz) s.toks
  by_cases h0 : 0 ≤ k
  · have hk : k.toNat = j := by
      rw [seqIndex_of h0 h4] at h1
      exact Option.some.inj h1
    exact PySem.W.ki_setAt ho h0 (by omega) (by rw [List.size_toArray, ← hl]; exact h4) (by rw [hk]; exact ⟨_, I', q⟩)
  · have hk : (k + (its.toArray.size : Int)).toNat = j := by
      rw [seqIndex_neg (by omega) h3] at h1
      rw [List.size_toArray, ← hl]
      exact Option.some.inj h1
    exact PySem.W.ki_setBack ho (by omega) (by rw [List.size_toArray, ← hl]; exact h3) (by omega) (by rw [hk]; exact ⟨_, I', q⟩)

theorem slice_bounds (lo hi : Option Int) (n : Nat) : (sliceBounds lo hi none n).1 = ((HT.sIx n 0 lo : Nat) : Int) ∧ (sliceBounds lo hi none n).2.1 = ((HT.sIx n n hi : Nat) : Int) ∧ (sliceBounds lo hi none n).2.2 = 1 := by
  refine ⟨?_, ?_, rfl⟩
  · cases lo with
    | none => simp [sliceBounds, HT.sIx]
    | some i =>
      simp only [sliceBounds, HT.sIx, Option.getD_none, show (1 : Int) > 0 by decide, if_true]
      by_cases h : i < 0
      · simp only [h, if_true] <;> omega
      · simp only [h, if_false] <;> omega
  · cases hi with
    | none => simp [sliceBounds, HT.sIx]
    | some i =>
      simp only [sliceBounds, HT.sIx, Option.getD_none, show (1 : Int) > 0 by decide, if_true]
      by_cases h : i < 0
      · simp only [h, if_true] <;> omega
      · simp only [h, if_false] <;> omega
theorem slicePick_cut (its : List Value) (lo hi : Option Int) : slicePick its.toArray lo hi none = ((its.drop (HT.sIx its.length 0 lo)).take (HT.sIx its.length its.length hi - HT.sIx its.length 0 lo)).toArray := by
  obtain ⟨h1, h2, h3⟩ := slice_bounds lo hi its.toArray.size
  unfold slicePick
  rw [h1, h2, h3]
  simp only [sliceRange_one, pick_run, List.size_toArray] <;> rfl
def rSlL (K : PySem.W.Frag) : V → Option Int → Option Int → Hp → VK → Prop := fun x lo hi H Q => ∃ a xs, x = .ref a ∧ SqL K H a xs ∧ ∀ p, H p = none → Q (.ref p) (upd H p (.lst (cutV xs lo hi)))
theorem sl_list : SlR X (rSlL X.K) := by
  intro pins s σ H x v vl vu lo hi sl Q I rx hs pl pu h
  obtain ⟨a, xs, rfl, hx, q⟩ := h
  cases rx
  obtain ⟨its, r, ht, hz⟩ := I.list hx
  have hlen := r.length
  refine ⟨"list", _, slot_list_getitem.lookup, ht.isList.typeIs, ?_⟩
  refine wpAny_getItem_list_slice ht.isList hs pl pu .none (by simp) ?_ (by rw [List.size_toArray] <;> omega)
  rw [slicePick_cut, ← hlen]
  refine ⟨.ref s.heap.objs.size, _, I.laid (t' := s.toks) (o := .lst (cutV xs lo hi)) (fun b ob q => Heap.get?_push_of_some _ q) (Nat.le_refl _) ?_, rfl, q _ (I.hok.fresh (Nat.le_refl _))⟩
  exact ⟨Nat.le_trans (cutV_length xs lo hi) hz, _, 0, (r.drop (HT.sIx xs.length 0 lo)).take (HT.sIx xs.length xs.length hi - HT.sIx xs.length 0 lo), Heap.get?_push_size _ rfl⟩

def flatV : V → Bool
  | .non => true
  | .bl _ => true
  | .int _ => true
  | .str _ => true
  | _ => false
def eqV : V → V → Bool
  | .non, .non => true
  | .bl a, .bl b => a == b
  | .bl a, .int b => (if a then 1 else 0) == b
  | .int a, .bl b => a == (if b then 1 else 0)
  | .int a, .int b => a == b
  | .str a, .str b => a == b
  | _, _ => false
theorem eqAt_V {A : Around} {s : Shared} {y x : V} {u v : Value} (ry : RelV y u) (rx : RelV x v) (fy : flatV y = true) (fx : flatV x = true) : SeqAt.EqAt A s u v (eqV y x) := by
  cases y with
  | non =>
    cases ry
    cases x with
    | non => cases rx; exact SeqAt.EqAt.same _
    | bl b => cases rx; exact SeqAt.EqAt.none_bool b
    | int b => obtain ⟨t, rfl⟩ := rx; exact SeqAt.EqAt.none_int b t
    | str b => obtain ⟨t, rfl⟩ := rx; exact SeqAt.EqAt.none_str b t
    | _ => exact absurd (show false = true from fx) Bool.false_ne_true
  | bl a =>
    cases ry
    cases x with
    | non => cases rx; exact SeqAt.EqAt.bool_none a
    | bl b => cases rx; exact SeqAt.EqAt.bool_bool a b
    | int b => obtain ⟨t, rfl⟩ := rx; exact SeqAt.EqAt.bool_int a b t
    | str b => obtain ⟨t, rfl⟩ := rx; exact SeqAt.EqAt.bool_str a b t
    | _ => exact absurd (show false = true from fx) Bool.false_ne_true
  | int a =>
    obtain ⟨t', rfl⟩ := ry
    cases x with
    | non => cases rx; exact SeqAt.EqAt.int_none a t'
    | bl b => cases rx; exact SeqAt.EqAt.int_bool a t' b
    | int b => obtain ⟨t, rfl⟩ := rx; exact SeqAt.EqAt.int_int a t' b t
    | str b => obtain ⟨t, rfl⟩ := rx; exact SeqAt.EqAt.int_str a t' b t
    | _ => exact absurd (show false = true from fx) Bool.false_ne_true
  | str a =>
    obtain ⟨t', rfl⟩ := ry
    cases x with
    | non => cases rx; exact SeqAt.EqAt.str_none a t'
    | bl b => cases rx; exact SeqAt.EqAt.str_bool a t' b
    | int b => obtain ⟨t, rfl⟩ := rx; exact SeqAt.EqAt.str_int a t' b t
    | str b => obtain ⟨t, rfl⟩ := rx; exact SeqAt.EqAt.str_str a t' b t
    | _ => exact absurd (show false = true from fx) Bool.false_ne_true
  | _ => exact absurd (show false = true from fy) Bool.false_ne_true
def eqU (x : V) (u : Value) : Bool := match u with
  | .none => eqV .non x
  | .bool b => eqV (.bl b) x
  | .int i _ => eqV (.int i) x
  | .str z _ => eqV (.str z) x
  | _ => false
theorem eqU_of {x y : V} {u : Value} (r : RelV y u) (f : flatV y = true) : eqU x u = eqV y x := by
  cases y with
  | non => cases r; rfl
  | bl b => cases r; rfl
  | int i => obtain ⟨t, rfl⟩ := r; rfl
  | str z => obtain ⟨t, rfl⟩ := r; rfl
  | _ => exact absurd (show false = true from f) Bool.false_ne_true
theorem any_eqU {x : V} : ∀ {xs : List V} {us : List Value}, Vals xs us → xs.all flatV = true → us.any (eqU x) = xs.any fun y => eqV y x
  | _, _, .nil, _ => rfl
  | y :: xs, u :: us, .cons r t, f => by
    rw [List.all_cons, Bool.and_eq_true] at f
    rw [List.any_cons, List.any_cons, eqU_of r f.1, any_eqU t f.2]
theorem mem_eqAt {A : Around} {s : Shared} {x : V} {v : Value} (rx : RelV x v) (fx : flatV x = true) : ∀ {xs : List V} {us : List Value}, Vals xs us → xs.all flatV = true → ∀ u ∈ us, SeqAt.EqAt A s u v (eqU x u)
  | _, _, .nil, _ => fun u hu => by cases hu
  | y :: xs, u :: us, .cons r t, f => fun u' hu => by
    rw [List.all_cons, Bool.and_eq_true] at f
    rcases List.mem_cons.mp hu with rfl | hu
    · rw [eqU_of r f.1]; exact eqAt_V r rx f.1 fx
    · exact mem_eqAt rx fx t f.2 u' hu
def inV (x : V) (xs : List V) : Bool := xs.any fun y => eqV y x
def rIn (K : PySem.W.Frag) (neg : Bool) : R2 := fun x y H Q => ∃ p xs, y = .ref p ∧ (SqL K H p xs ∨ SqT K H p xs) ∧ flatV x = true ∧ xs.all flatV = true ∧ Q (.bl (if neg then !inV x xs else inV x xs)) H
theorem op_in_seq : OpR X (compareOp .In) (rIn X.K false) := by
  intro pins s σ H x y v u Q I rx ry h
  obtain ⟨p, xs, rfl, hq, fx, fs, q⟩ := h
  cases ry
  rcases hq with hq | hq
  · obtain ⟨its, r, pl, hz⟩ := I.list hq
    refine SeqAt.in_listAt (eqU x) pl.isList (fun w hw => mem_eqAt rx fx r fs w (by simpa using hw)) ⟨.bl _, H, I, rfl, ?_⟩
    rw [show its.toArray.any (eqU x) = its.any (eqU x) by simp, any_eqU r fs]
    exact q
  · obtain ⟨its, r, pl, hz⟩ := I.tuple hq
    refine SeqAt.in_tupleAt (eqU x) pl (fun w hw => mem_eqAt rx fx r fs w (by simpa using hw)) ⟨.bl _, H, I, rfl, ?_⟩
    rw [show its.toArray.any (eqU x) = its.any (eqU x) by simp, any_eqU r fs]
    exact q
theorem call_len_seq : CallR X (.builtin "len") (fun xs H Q => ∃ p ys, xs = [.ref p] ∧ (SqL X.K H p ys ∨ SqT X.K H p ys) ∧ Q (.int ys.length) H) := by
  intro pins s σ H xs us Q I r h
  obtain ⟨p, ys, rfl, hq, q⟩ := h
  obtain ⟨u, rfl, rx⟩ := vals1 r
  cases rx
  have hn := line63
  rcases hq with hq | hq
  · obtain ⟨its, r', pl, hz⟩ := I.list hq
    have hlen := r'.length
    exact Calls.call_len_list pl.isList (by simp only [List.size_toArray] <;> omega) ⟨.int ys.length, H, I.tok _, ⟨s.toks + 1, by rw [List.size_toArray, hlen]⟩, q⟩
  · obtain ⟨its, r', pl, hz⟩ := I.tuple hq
    have hlen := r'.length
    exact len_tuple pl (by simp only [List.size_toArray] <;> omega) ⟨.int ys.length, H, I.tok _, ⟨s.toks + 1, by rw [List.size_toArray, hlen]⟩, q⟩
theorem call_list_of : CallR X (.type "list") (fun xs H Q => ∃ p ys, xs = [.ref p] ∧ (SqL X.K H p ys ∨ SqT X.K H p ys) ∧ ∀ l, H l = none → Q (.ref l) (upd H l (.lst ys))) := by
  intro pins s σ H xs us Q I r h
  obtain ⟨p, ys, rfl, hq, q⟩ := h
  obtain ⟨u, rfl, rx⟩ := vals1 r
  cases rx
  have fin : ∀ (its : List Value), Vals ys its → ys.length ≤ sizeLine → ∀ (h' : Heap) (c' : Nat), (∀ b o', s.heap.get? b = some o' → h'.get? b = some o') →
      h'.get? s.heap.objs.size = some { cls := .type "list", dict := none, data := .seq its.toArray c', slots := #[] } → EP X pins σ Q (.ref s.heap.objs.size) { s with heap := h' } := fun its r' hz h' c' kp e =>
    ⟨.ref s.heap.objs.size, _, I.laid (t' := s.toks) kp (Nat.le_refl _) (show ObjOk X.prog X.w _ h' _ (.lst ys) from ⟨hz, its, c', r', e⟩), rfl, q _ (I.hok.fresh (Nat.le_refl _))⟩
  rcases hq with hq | hq
  · obtain ⟨its, r', pl, hz⟩ := I.list hq
    have hlen := r'.length
    obtain ⟨o, ho, hc, n, hd⟩ := pl.isList
    exact call_list_seq p (.inl rfl) ho hc hd (fun h' c' kp e => fin its r' hz h' c' kp e) (by simp only [List.size_toArray] <;> omega)
  · obtain ⟨its, r', pl, hz⟩ := I.tuple hq
    have hlen := r'.length
    obtain ⟨o, ho, hc, n, hd⟩ := pl
    exact call_list_seq p (.inr rfl) ho hc hd (fun h' c' kp e => fin its r' hz h' c' kp e) (by simp only [List.size_toArray] <;> omega)
theorem call_tuple_of : CallR X (.type "tuple") (fun xs H Q => ∃ p ys, xs = [.ref p] ∧ ((SqL X.K H p ys ∧ ∀ l, H l = none → Q (.ref l) (upd H l (.tup ys))) ∨ (SqT X.K H p ys ∧ Q (.ref p) H))) := by
  intro pins s σ H xs us Q I r h
  obtain ⟨p, ys, rfl, h⟩ := h
  obtain ⟨u, rfl, rx⟩ := vals1 r
  cases rx
  rcases h with ⟨hq, q⟩ | ⟨hq, q⟩
  · obtain ⟨its, r', pl, hz⟩ := I.list hq
    have hlen := r'.length
    refine call_tuple_list pl.isList (fun h' kp => ?_) (by simp only [List.size_toArray] <;> omega)
    have I1 : Inv X pins σ H { s with heap := h' } := I.kept (t' := s.toks) kp
    have I2 : Inv X pins σ (upd H h'.objs.size (.tup ys)) { s with heap := h'.push { cls := .type "tuple", data := .seq its.toArray } } :=
      I1.laid (t' := s.toks) (fun b o e => Heap.get?_push_of_some _ e) (Nat.le_refl _) (show ObjOk X.prog X.w _ _ _ (.tup ys) from ⟨hz, its, r', IsTup.new _ _⟩)
    exact ⟨.ref h'.objs.size, _, I2, rfl, q _ (I1.hok.fresh (Nat.le_refl _))⟩
  · obtain ⟨its, r', pl, hz⟩ := I.tuple hq
    exact call_tuple_same pl ⟨.ref p, H, I, rfl, q⟩

def tyV (K : PySem.W.Frag) (T : String) (x : V) (H : Hp) : Prop := match x with
  | .str _ => T = "str"
  | .int _ => T = "int"
  | .ref p => (T = "list" ∧ ∃ xs, SqL K H p xs) ∨ (T = "tuple" ∧ ∃ o, K.lookup p = some o ∧ o.cls = .type "tuple" ∧ o.dict = none) ∨
      (T = "dict" ∧ ((∃ kvs, H p = some (.dK kvs)) ∨ ∃ kvs, H p = some (.dT kvs))) ∨ (T = "set" ∧ ∃ S n, H p = some (.set S n))
  | _ => False
theorem tyV_is {pins : List (Addr × Obj)} {σ : St} {H : Hp} {s : Shared} {T : String} {x : V} {v : Value} (I : Inv X pins σ H s) (r : RelV x v) (ty : tyV X.K T x H) :
    s.TypeIs v T ∧ ∀ a, v = .ref a → ∃ ob, s.heap.get? a = some ob ∧ ob.dict = none := by
  cases x with
  | str z =>
    obtain ⟨t, rfl⟩ := r
    cases (show T = "str" from ty)
    exact ⟨typeIs_str s z t, fun _ e => nomatch e⟩
  | int i =>
    obtain ⟨t, rfl⟩ := r
    cases (show T = "int" from ty)
    exact ⟨typeIs_int s i t, fun _ e => nomatch e⟩
  | ref p =>
    cases r
    rcases ty with ⟨rfl, xs, hq⟩ | ⟨rfl, o, hk, hc, hd⟩ | ⟨rfl, hk⟩ | ⟨rfl, S, n, hk⟩
    · obtain ⟨its, _, pl, _⟩ := I.list hq
      refine ⟨pl.isList.typeIs, fun a e => ?_⟩
      cases e
      obtain ⟨o, n, e, c, hd, _⟩ := pl
      exact ⟨o, e, hd⟩
    · refine ⟨⟨o, I.kIn p o hk, hc⟩, fun a e => ?_⟩
      cases e
      exact ⟨o, I.kIn _ o hk, hd⟩
    · have z : ∃ o, s.heap.get? p = some o ∧ o.ExactDict := by
        rcases hk with ⟨kvs, hk⟩ | ⟨kvs, hk⟩
        · obtain ⟨_, _, _, _, o, _, _, e, ex, _⟩ := I.hok p _ hk
          exact ⟨o, e, ex⟩
        · obtain ⟨_, _, _, _, o, _, _, e, ex, _⟩ := I.hok p _ hk
          exact ⟨o, e, ex⟩
      obtain ⟨o, e, ex⟩ := z
      refine ⟨⟨o, e, ex.1⟩, fun a e2 => ?_⟩
      cases e2
      exact ⟨o, e, ex.2.1⟩
    · obtain ⟨o, _, _, _, e, ex, _⟩ := I.hok p _ hk
      refine ⟨⟨o, e, ex.1⟩, fun a e2 => ?_⟩
      cases e2
      exact ⟨o, e, ex.2.1⟩
  | _ => exact False.elim ty
def tBM (K : PySem.W.Frag) (T : String) (r : V → List V → Hp → VK → Prop) (to : TE) (t : TA) : TE := fun σ H Q => to σ H fun x H1 => tyV K T x H1 ∧ t σ H1 fun xs H2 => r x xs H2 Q
variable {o e : Expr} {es : List Expr} {to : TE} {t : TA} {name : Str} {apos cpos : Pos} {T id : String} {r : V → List V → Hp → VK → Prop}
theorem pe_bm (pa : PlainAttrs T) (slot : Slot T name id) (hty : typeOf (.builtin id) = pure (.type "method_descriptor")) (hm : MtR X id r) (ho : PE X o to) (ha : PA X (e :: es) t)
    (hbase : attributeBase o name X.env (eval o X.env) = eval o X.env := by rfl)
    (hfew : ((backTo cpos (starEach (e :: es) X.env)).all (fun x => !x.1) && (backToKw cpos (keywordEach [] X.env)).all (fun x => x.1.isSome)
      && decide ((e :: es).length + ([] : List Keyword).length + (if ([] : List Keyword).isEmpty then 0 else 1) < 30)) = true := by rfl)
    (hline : (apos.endLine == cpos.line) = true := by rfl) (hs : starEach (e :: es) X.env = (false, eval e X.env) :: starEach es X.env := by rfl) (hplain : (backTo cpos (starEach es X.env)).any (·.1) = false := by rfl) :
    PE X (.Call (.Attribute o name apos) (e :: es) [] cpos) (tBM X.K T r to t) := by
  intro pins s σ H Q I h
  refine wpAny_Call_method_late hbase hfew hline rfl (thn (ho pins s σ H _ I h) fun v s1 ⟨x, H1, I1, r1, ty, q1⟩ => ?_)
  obtain ⟨h1, h2⟩ := tyV_is I1 r1 ty
  refine ⟨T, id, pa, slot, hty, h1, h2, ?_⟩
  have hA := ha cpos pins s1 σ H1 _ I1 q1
  rw [hs] at hA ⊢
  refine Calls.callWith_builtin (by show (false || (backTo cpos (starEach es X.env)).any (·.1)) = false; rw [hplain] <;> rfl) (Calls.evalArgs_plain ?_)
  exact thn hA fun us s2 ⟨vs, H2, I2, r2, q2⟩ => hm pins s2 σ H2 x vs v us Q I2 r1 r2 q2
end
end L2

namespace L2
open PySem PySem.Spec PyProof.Rows

def MtM (X : Cx) (id : String) (r : V → List V → Hp → VK → Prop) : Prop :=
  ∀ (pins : List (Addr × Obj)) (s : Shared) (σ : St) (H : Hp) (x : V) (xs : List V) (v : Value) (us : List Value) (Q : VK), Inv X pins σ H s → RelV x v → Vals xs us → r x xs H Q →
    wpAny (model X.prog X.w) X.A (call (.builtin id) (v :: us)) (EP X pins σ Q) X.xe s

theorem Vals.one : ∀ {x : V} {us : List Value}, Vals [x] us → ∃ u, us = [u] ∧ RelV x u
  | _, _, .cons r .nil => ⟨_, rfl, r⟩
theorem Vals.two : ∀ {x y : V} {us : List Value}, Vals [x, y] us → ∃ u v, us = [u, v] ∧ RelV x u ∧ RelV y v
  | _, _, _, .cons r (.cons q .nil) => ⟨_, _, rfl, r, q⟩
theorem Vals.rep {xs : List V} {us : List Value} (h : Vals xs us) : ∀ k : Nat, Vals (List.replicate k xs).flatten (List.replicate k us).flatten
  | 0 => .nil
  | k + 1 => by
    rw [List.replicate_succ, List.replicate_succ, List.flatten_cons, List.flatten_cons]
    exact Vals.append h (Vals.rep h k)
theorem foldl_rep (its : List Value) : ∀ (k : Nat) (acc : List Value),
    List.foldl (fun x1 x2 => x1 ++ x2) acc.toArray (List.replicate k its.toArray) = (acc ++ (List.replicate k its).flatten).toArray
  | 0, acc => by simp
  | k + 1, acc => by
    have e : acc.toArray ++ its.toArray = (acc ++ its).toArray := by simp
    have e2 : (acc ++ its) ++ (List.replicate k its).flatten = acc ++ (List.replicate (k + 1) its).flatten := by
      rw [List.replicate_succ, List.flatten_cons, List.append_assoc]
    rw [← e2, ← foldl_rep its k (acc ++ its), ← e, List.replicate_succ, List.foldl_cons]

section
variable {X : Cx} {pins : List (Addr × Obj)} {σ : St} {H : Hp} {s : Shared} {l b : Addr} {xs ys zs : List V}

theorem Inv.lset {its its' : List Value} {n : Nat} {f : Array Value → Array Value} {t' : Nat} (I : Inv X pins σ H s) (hH : H l = some (.lst xs))
    (e : s.heap.get? l = some { cls := .type "list", data := .seq its.toArray n }) (hf : f its.toArray = its'.toArray) (hv : Vals ys its') (hz : ys.length ≤ sizeLine) :
    Inv X pins σ (upd H l (.lst ys)) { s with heap := s.heap.update l (Obj.mapSeq f), toks := t' } := by
  have q := PySem.IsL.update e f
  rw [hf] at q
  refine I.write (x := l) (e := l) (by rw [hH]; exact trivial) (.inl rfl) (fun b' u hb hu => (Heap.get?_update_other s.heap (Obj.mapSeq f) (Ne.symm hb)).trans hu) ⟨_, q⟩ ?_
  exact ⟨hz, its', _, hv, q⟩
theorem Inv.lnew {its : List Value} {t' : Nat} (I : Inv X pins σ H s) (hv : Vals ys its) (hz : ys.length ≤ sizeLine) :
    Inv X pins σ (upd H s.heap.objs.size (.lst ys)) { s with heap := s.heap.push { cls := .type "list", data := .seq its.toArray }, toks := t' } :=
  I.laid (fun _ _ q => Heap.get?_push_of_some _ q) (Nat.le_refl _) ⟨hz, its, 0, hv, Heap.get?_push_size _ rfl⟩
theorem Inv.fresh (I : Inv X pins σ H s) : H s.heap.objs.size = none := I.hok.fresh (Nat.le_refl _)
theorem Inv.lstM (I : Inv X pins σ H s) (hH : H l = some (.lst xs)) : xs.length ≤ sizeLine ∧ ∃ (its : List Value) (n : Nat), Vals xs its ∧ xs.length = its.length ∧ s.heap.get? l = some { cls := .type "list", data := .seq its.toArray n } := by
  obtain ⟨z, its, n, r, e⟩ := I.hok l _ hH
  exact ⟨z, its, n, r, r.length, e⟩

theorem notLongL {n : Nat} (h : n ≤ sizeLine) : Builtin.List.listTooLong n = false := by
  unfold Builtin.List.listTooLong
  exact decide_eq_false (by omega)
end

section
variable {X : Cx}

def rAppend : V → List V → Hp → VK → Prop := fun x vs H Q => ∃ l xs y, x = .ref l ∧ vs = [y] ∧ H l = some (.lst xs) ∧ xs.length < sizeLine ∧ Q .non (upd H l (.lst (xs ++ [y])))
theorem mt_append : MtM X "list.append" rAppend := by
  intro pins s σ H x vs v us Q I rx rv h
  obtain ⟨l, xs, y, rfl, rfl, hH, hz, q⟩ := h
  cases rx
  obtain ⟨u, rfl, ru⟩ := rv.one
  obtain ⟨z, its, n, r, hl, e⟩ := I.lstM hH
  refine call_meets F.slot_list_append ⟨_, e, rfl⟩ F.entry_list_append (F.args_list_append_2 _ _) (PySem.list_append l its.toArray n u (by rw [List.size_toArray]; omega)) ⟨e, ?_⟩
  refine ⟨.non, _, I.lset (its' := its ++ [u]) hH e (by simp) (r.append (.cons ru .nil)) ?_, rfl, q⟩
  rw [List.length_append, List.length_singleton]
  omega

def rCat : R2 := fun x y H Q => ∃ l b xs zs, x = .ref l ∧ y = .ref b ∧ H l = some (.lst xs) ∧ H b = some (.lst zs) ∧ xs.length + zs.length ≤ sizeLine ∧ ∀ p, H p = none → Q (.ref p) (upd H p (.lst (xs ++ zs)))
theorem op_cat : OpR X (binaryOp .Add) rCat := by
  intro pins s σ H x y v u Q I rx ry h
  obtain ⟨l, b, xs, zs, rfl, rfl, hH, hB, hz, q⟩ := h
  cases rx
  cases ry
  obtain ⟨z, its, n, r, hl, e⟩ := I.lstM hH
  obtain ⟨z2, its2, n2, r2, hl2, e2⟩ := I.lstM hB
  refine PySem.P.add_list e e2 ?_ (by rw [List.size_toArray, List.size_toArray]; omega)
  have ea : its.toArray ++ its2.toArray = (its ++ its2).toArray := by simp
  rw [ea]
  exact ⟨.ref _, _, I.lnew (t' := s.toks) (r.append r2) (by rw [List.length_append]; omega), rfl, q _ I.fresh⟩
def rRep : R2 := fun x y H Q => ∃ l k xs, x = .ref l ∧ y = .int k ∧ H l = some (.lst xs) ∧ -(2 ^ 63) ≤ k ∧ k < 2 ^ 63 ∧ xs.length * k.toNat ≤ sizeLine ∧
  ∀ p, H p = none → Q (.ref p) (upd H p (.lst (List.replicate k.toNat xs).flatten))
theorem len_rep {α : Type} (xs : List α) (k : Nat) : (List.replicate k xs).flatten.length = k * xs.length := by
  induction k with
  | zero => simp
  | succ k ih => rw [List.replicate_succ, List.flatten_cons, List.length_append, ih, Nat.succ_mul, Nat.add_comm]
theorem op_rep : OpR X (binaryOp .Mult) rRep := by
  intro pins s σ H x y v u Q I rx ry h
  obtain ⟨l, k, xs, rfl, rfl, hH, h1, h2, hz, q⟩ := h
  cases rx
  obtain ⟨t, rfl⟩ := ry
  obtain ⟨z, its, n, r, hl, e⟩ := I.lstM hH
  have hlen : its.toArray.size * k.toNat ≤ sizeLine := by rw [List.size_toArray, ← hl]; exact hz
  have hcap : ¬ its.toArray.size * k.toNat > (2 ^ 63 - 1) / 8 := by
    have : (sizeLine : Nat) ≤ (2 ^ 63 - 1) / 8 := by decide
    omega
  have hfit : ¬ (!Builtin.List.listFitsIndex k) = true := by
    rw [fitsIndex_both h1 h2]
    exact Bool.false_ne_true
  have hlong : ¬ Builtin.List.listTooLong (its.toArray.size * k.toNat) = true := by
    rw [notLongL hlen]
    exact Bool.false_ne_true
  have hnew : List.foldl (fun x1 x2 => x1 ++ x2) #[] (List.replicate (if its.toArray.isEmpty = true then 0 else k.toNat) its.toArray) = (List.replicate k.toNat its).flatten.toArray := by
    have f0 : ∀ m : Nat, List.foldl (fun x1 x2 => x1 ++ x2) #[] (List.replicate m its.toArray) = (List.replicate m its).flatten.toArray := fun m => by
      have := foldl_rep its m []
      rw [List.nil_append] at this
      exact this
    rw [f0]
    cases its with
    | nil => simp
    | cons a r' => rw [if_neg (by simp)]
  refine wpAny_binaryOp_repeat_ref (T := "list") (U := "int") (by decide) ⟨_, e, rfl⟩ (fun s' => typeIs_int s' k t) noFill_list_mul F.fills_int_mul F.slot_int_rmul repeat_list F.slot_int_index.lookup
    (call_meets F.slot_int_rmul (typeIs_int s k t) F.entry_int_rmul (F.args_int_rmul_2 _ _) (int___rmul___int_list k t l its.toArray n)
      ⟨e, rfl, ⟨_, e, rfl⟩, call_meets F.slot_list_mul ⟨_, e, rfl⟩ F.entry_list_mul (F.args_list_mul_2 _ _) (AutoListH.list___mul___list_int_3 l its.toArray n k t hfit hcap hlong) ⟨e, ?_⟩⟩)
  rw [hnew]
  exact ⟨.ref _, _, I.lnew (t' := s.toks) (r.rep k.toNat) (by rw [len_rep, Nat.mul_comm]; exact hz), rfl, q _ I.fresh⟩

end

section
variable {prog : Program} {w : World} {A : Around} {E : Value → Shared → Prop} {s : Shared}
end

section
variable {X : Cx}
end
end L2

namespace L2
open PySem PySem.Spec PyProof.Rows

section
variable {κ : Type} [DecidableEq κ]
def valV (kvs : List (κ × V)) (k : κ) : Option V := (kvs.find? fun kv => decide (kv.1 = k)).map (·.2)
def putK (kvs : List (κ × V)) (k : κ) (v : V) : List (κ × V) :=
  if (kvs.any fun kv => decide (kv.1 = k)) = true then kvs.map (fun kv => if kv.1 = k then (kv.1, v) else kv) else kvs ++ [(k, v)]
theorem valV_nil {k : κ} : valV ([] : List (κ × V)) k = none := rfl
theorem valV_pos {p : κ × V} {r : List (κ × V)} {k : κ} (e : p.1 = k) : valV (p :: r) k = some p.2 := by simp [valV, List.find?_cons, e]
theorem valV_neg {p : κ × V} {r : List (κ × V)} {k : κ} (e : ¬ p.1 = k) : valV (p :: r) k = valV r k := by simp [valV, List.find?_cons, e]
theorem valV_any (k : κ) : ∀ kvs : List (κ × V), (kvs.any fun kv => decide (kv.1 = k)) = (valV kvs k).isSome
  | [] => rfl
  | p :: r => by
    rw [List.any_cons]
    by_cases e : p.1 = k
    · simp only [valV_pos e, decide_eq_true e, Bool.true_or, Option.isSome_some]
    · rw [valV_neg e, decide_eq_false e, Bool.false_or]; exact valV_any k r
theorem valV_map (k j : κ) (y : V) : ∀ kvs : List (κ × V), valV (kvs.map fun kv => if kv.1 = k then (kv.1, y) else kv) j = (valV kvs j).map fun x => if j = k then y else x
  | [] => rfl
  | p :: r => by
    have ih := valV_map k j y r
    rw [List.map_cons]
    by_cases h : p.1 = k
    · rw [if_pos h]
      by_cases e : p.1 = j
      · rw [valV_pos (p := (p.1, y)) e, valV_pos e, Option.map_some, if_pos (e.symm.trans h)]
      · rw [valV_neg (p := (p.1, y)) e, valV_neg e, ih]
    · rw [if_neg h]
      by_cases e : p.1 = j
      · rw [valV_pos (p := p) e, valV_pos e, Option.map_some, if_neg (fun z => h (e.trans z))]
      · rw [valV_neg (p := p) e, valV_neg e, ih]
theorem valV_snoc (k j : κ) (y : V) : ∀ kvs : List (κ × V), valV kvs k = none → valV (kvs ++ [(k, y)]) j = if j = k then some y else valV kvs j
  | [], _ => by
    by_cases e : k = j
    · rw [if_pos e.symm]; exact valV_pos (p := (k, y)) e
    · rw [if_neg (fun z => e z.symm)]; exact valV_neg (p := (k, y)) e
  | p :: r, hn => by
    rw [List.cons_append]
    have hk : ¬ p.1 = k := fun z => by rw [valV_pos z] at hn; cases hn
    rw [valV_neg hk] at hn
    have ih := valV_snoc k j y r hn
    by_cases e : p.1 = j
    · rw [valV_pos e, valV_pos e, if_neg (fun z => hk (e.trans z))]
    · rw [valV_neg e, valV_neg e, ih]
theorem valV_put (kvs : List (κ × V)) (k j : κ) (y : V) : valV (putK kvs k y) j = if j = k then some y else valV kvs j := by
  unfold putK
  by_cases a : (kvs.any fun kv => decide (kv.1 = k)) = true
  · rw [if_pos a, valV_map]
    rw [valV_any] at a
    by_cases e : j = k
    · obtain ⟨x, hx⟩ := Option.isSome_iff_exists.mp a
      rw [if_pos e, e, hx, Option.map_some, if_pos rfl]
    · rw [if_neg e]
      cases valV kvs j with
      | none => rfl
      | some x => rw [Option.map_some, if_neg e]
  · rw [if_neg a]
    refine valV_snoc k j y kvs ?_
    rw [valV_any] at a
    cases q : valV kvs k with
    | none => rfl
    | some x => rw [q] at a; exact (a rfl).elim
theorem length_putK (kvs : List (κ × V)) (k : κ) (v : V) : (putK kvs k v).length ≤ kvs.length + 1 := by
  unfold putK
  split
  · rw [List.length_map]; omega
  · rw [List.length_append, List.length_cons, List.length_nil]; omega
theorem RelO.isSome_eq {o : Option V} {u : Option Value} (r : RelO o u) : o.isSome = u.isSome := by
  cases o with
  | none => cases u with
    | none => rfl
    | some _ => exact (show False from r).elim
  | some _ => cases u with
    | none => exact (show False from r).elim
    | some _ => rfl
theorem RelO.getD {o : Option V} {u : Option Value} {d : V} {d' : Value} (r : RelO o u) (rd : RelV d d') : RelV (o.getD d) (u.getD d') := by
  cases o with
  | none => cases u with
    | none => exact rd
    | some _ => exact (show False from r).elim
  | some _ => cases u with
    | none => exact (show False from r).elim
    | some _ => exact r

theorem KV.val {kvs : List (κ × V)} {vs : List (κ × Value)} (r : KV kvs vs) (k : κ) : RelO (valV kvs k) (valueAt vs k) := by
  unfold KV at r
  induction r with
  | nil => exact True.intro
  | @cons p q ps qs h t ih =>
    obtain ⟨h1, h2⟩ := h
    by_cases e : p.1 = k
    · have e' : q.1 = k := h1.symm.trans e
      have b : valueAt (q :: qs) k = some q.2 := by simp [valueAt, List.find?_cons, e']
      rw [valV_pos e, b]; exact h2
    · have e' : ¬ q.1 = k := fun z => e (h1.trans z)
      have b : valueAt (q :: qs) k = valueAt qs k := by simp [valueAt, List.find?_cons, e']
      rw [valV_neg e, b]; exact ih
theorem KV.any {kvs : List (κ × V)} {vs : List (κ × Value)} (r : KV kvs vs) (k : κ) : (kvs.any fun kv => decide (kv.1 = k)) = vs.any fun kv => decide (kv.1 = k) := by
  unfold KV at r
  induction r with
  | nil => rfl
  | cons h t ih => rw [List.any_cons, List.any_cons, ih, h.1]
theorem KV.repl {kvs : List (κ × V)} {vs : List (κ × Value)} (r : KV kvs vs) (k : κ) {y : V} {u : Value} (ry : RelV y u) :
    KV (kvs.map fun kv => if kv.1 = k then (kv.1, y) else kv) (vs.map fun kv => if kv.1 = k then (kv.1, u) else kv) := by
  unfold KV at r ⊢
  induction r with
  | nil => exact .nil
  | @cons p q ps qs h t ih =>
    rw [List.map_cons, List.map_cons]
    refine .cons ?_ ih
    obtain ⟨h1, h2⟩ := h
    by_cases e : p.1 = k
    · rw [if_pos e, if_pos (h1.symm.trans e)]; exact ⟨h1, ry⟩
    · rw [if_neg e, if_neg (fun z => e (h1.trans z))]; exact ⟨h1, h2⟩
theorem KV.put {kvs : List (κ × V)} {vs : List (κ × Value)} (r : KV kvs vs) (k : κ) {y : V} {u : Value} (ry : RelV y u) : KV (putK kvs k y) (stored vs k u) := by
  unfold putK stored
  rw [r.any k]
  by_cases e : (vs.any fun kv => decide (kv.1 = k)) = true
  · rw [if_pos e, if_pos e]; exact r.repl k ry
  · rw [if_neg e, if_neg e]; exact Paired.snoc r ⟨rfl, ry⟩
theorem KV.length {kvs : List (κ × V)} {vs : List (κ × Value)} (r : KV kvs vs) : kvs.length = vs.length := Paired.length r
end


theorem kV_is {P : Program} {w : World} {k : Key} {u : Value} (r : RelV (kV k) u) : (mixKind P w).is k u = true := by
  cases k with
  | inl i => obtain ⟨t, e⟩ := (show ∃ t, u = Value.int i t from r); subst e; exact mixKind_int P w i t
  | inr x => obtain ⟨t, e⟩ := (show ∃ t, u = Value.str x t from r); subst e; exact mixKind_str P w x t
theorem items_are {P : Program} {w : World} : ∀ {ks : List Key} {us : List Value}, Vals (ks.map kV) us → ItemsAre (mixKind P w) ks us
  | [], _, r => by rw [List.map_nil] at r; cases r; exact .nil
  | k :: ks, _, r => by
    rw [List.map_cons] at r
    cases r with
    | cons h t => exact .cons (kV_is h) (items_are t)

abbrev KT (H : Hp) : List (List Key × V) → List (List Key × Addr × Value) → Prop := Paired fun p q => p.1 = q.1 ∧ H q.2.1 = some (.tup (p.1.map kV)) ∧ RelV p.2 q.2.2
theorem KT.val {H : Hp} {kvs : List (List Key × V)} {xs : List (List Key × Addr × Value)} (r : KT H kvs xs) (k : List Key) : RelO (valV kvs k) ((atKey xs k).map (·.2)) := by
  induction r with
  | nil => exact True.intro
  | @cons p q ps qs h t ih =>
    obtain ⟨h1, _, h2⟩ := h
    by_cases e : p.1 = k
    · have e' : q.1 = k := h1.symm.trans e
      have b : atKey (q :: qs) k = some q.2 := by simp [atKey, List.find?_cons, e']
      rw [valV_pos e, b]; exact h2
    · have e' : ¬ q.1 = k := fun z => e (h1.trans z)
      have b : atKey (q :: qs) k = atKey qs k := by simp [atKey, List.find?_cons, e']
      rw [valV_neg e, b]; exact ih
theorem KT.repl {H : Hp} {kvs : List (List Key × V)} {xs : List (List Key × Addr × Value)} (r : KT H kvs xs) (k : List Key) {y : V} {u : Value} (ry : RelV y u) :
    KT H (kvs.map fun kv => if kv.1 = k then (kv.1, y) else kv) (xs.map (putAt k u)) := by
  induction r with
  | nil => exact .nil
  | @cons p q ps qs h t ih =>
    rw [List.map_cons, List.map_cons]
    refine .cons ?_ ih
    obtain ⟨h1, h2, h3⟩ := h
    unfold putAt
    by_cases e : p.1 = k
    · rw [if_pos e, if_pos (h1.symm.trans e)]; exact ⟨h1, h2, ry⟩
    · rw [if_neg e, if_neg (fun z => e (h1.trans z))]; exact ⟨h1, h2, h3⟩
theorem KT.put {H : Hp} {kvs : List (List Key × V)} {xs : List (List Key × Addr × Value)} (r : KT H kvs xs) (k : List Key) {b : Addr} {y : V} {u : Value} (hb : H b = some (.tup (k.map kV))) (ry : RelV y u) :
    KT H (putK kvs k y) (storedH xs k b u) := by
  have e : (kvs.any fun kv => decide (kv.1 = k)) = (atKey xs k).isSome := by
    rw [valV_any, (r.val k).isSome_eq, Option.isSome_map]
  unfold putK storedH
  rw [e]
  by_cases q : (atKey xs k).isSome = true
  · rw [if_pos q, if_pos q]; exact r.repl k ry
  · rw [if_neg q, if_neg q]; exact Paired.snoc r ⟨rfl, hb, ry⟩
theorem KT.keeps {H H' : Hp} {kvs : List (List Key × V)} {xs : List (List Key × Addr × Value)} (r : KT H kvs xs) (ht : ∀ b ys, H b = some (.tup ys) → H' b = some (.tup ys)) : KT H' kvs xs :=
  Paired.mapP r fun _ _ z => ⟨z.1, ht _ _ z.2.1, z.2.2⟩

section
variable {P : Program} {w : World} {H : Hp} {h : Heap} {a : Addr}
theorem rd_of {u : HO} (ok : HOk P w H h) (e : Rd H a u) : ObjOk P w H h a u := e.ok ok
theorem dk_rd {kvs : List (Key × V)} (ok : HOk P w H h) (e : Rd H a (.dK kvs)) : kvs.length ≤ sizeLine ∧ (a == sysModules) = false ∧ ∃ vs, KV kvs vs ∧ h.DictOf (mixKind P w) a vs :=
  show ObjOk P w H h a (.dK kvs) from rd_of ok e
theorem dk_of {kvs : List (Key × V)} (ok : HOk P w H h) (e : H a = some (.dK kvs)) : kvs.length ≤ sizeLine ∧ (a == sysModules) = false ∧ ∃ vs, KV kvs vs ∧ h.DictOf (mixKind P w) a vs := dk_rd ok (.inl e)
theorem key_of {ks : List Key} (ok : HOk P w H h) (e : H a = some (.tup (ks.map kV))) : (tupleKind (mixKind P w)).is h ks a := by
  obtain ⟨_, its, r, o, h1, h2, n, h3⟩ := (show ObjOk P w H h a (.tup (ks.map kV)) from ok a _ e)
  exact ⟨o, its.toArray, n, h1, h2, h3, by simpa using items_are r⟩
theorem dt_rd {kvs : List (List Key × V)} (ok : HOk P w H h) (e : Rd H a (.dT kvs)) : kvs.length ≤ sizeLine ∧ (a == sysModules) = false ∧
    ∃ xs, KT H kvs xs ∧ h.DictOfH (tupleKind (mixKind P w)) a xs := by
  obtain ⟨z, y, xs, r, o, es, ep, h1, h2, h3, h4, h5⟩ := (show ObjOk P w H h a (.dT kvs) from rd_of ok e)
  refine ⟨z, y, xs, r, o, es, ep, h1, h2, h3, h4, fun x hx => ?_, h5⟩
  have all : ∀ {l : List (List Key × V)} {m : List (List Key × Addr × Value)}, KT H l m → ∀ x ∈ m, (tupleKind (mixKind P w)).is h x.1 x.2.1 := by
    intro l m q
    induction q with
    | nil => intro x hx; exact nomatch hx
    | @cons p q ps qs hq t ih =>
      intro x hx
      rcases List.mem_cons.mp hx with e | hx
      · subst e
        exact key_of ok (by rw [← hq.1]; exact hq.2.1)
      · exact ih x hx
  exact all r x hx
theorem dt_of {kvs : List (List Key × V)} (ok : HOk P w H h) (e : H a = some (.dT kvs)) : kvs.length ≤ sizeLine ∧ (a == sysModules) = false ∧
    ∃ xs, KT H kvs xs ∧ h.DictOfH (tupleKind (mixKind P w)) a xs := dt_rd ok (.inl e)
end

def DGet (H : Hp) (a : Addr) (y : V) (r : Option V) : Prop :=
  (∃ kvs k, Rd H a (.dK kvs) ∧ y = kV k ∧ r = valV kvs k) ∨ ∃ kvs k b, Rd H a (.dT kvs) ∧ y = .ref b ∧ H b = some (.tup (k.map kV)) ∧ r = valV kvs k
def DPut (H : Hp) (a : Addr) (y v : V) (H' : Hp) : Prop :=
  (∃ kvs k, H a = some (.dK kvs) ∧ y = kV k ∧ kvs.length < sizeLine ∧ H' = upd H a (.dK (putK kvs k v))) ∨
  ∃ kvs k b, H a = some (.dT kvs) ∧ y = .ref b ∧ H b = some (.tup (k.map kV)) ∧ kvs.length < sizeLine ∧ H' = upd H a (.dT (putK kvs k v))
theorem DGet.k {H : Hp} {a : Addr} {kvs : List (Key × V)} {k : Key} (e : H a = some (.dK kvs)) : DGet H a (kV k) (valV kvs k) := .inl ⟨kvs, k, .inl e, rfl, rfl⟩
theorem DGet.t {H : Hp} {a b : Addr} {kvs : List (List Key × V)} {k : List Key} (e : H a = some (.dT kvs)) (eb : H b = some (.tup (k.map kV))) : DGet H a (.ref b) (valV kvs k) := .inr ⟨kvs, k, b, .inl e, rfl, eb, rfl⟩
theorem DPut.k {H : Hp} {a : Addr} {kvs : List (Key × V)} {k : Key} {v : V} (e : H a = some (.dK kvs)) (hl : kvs.length < sizeLine) : DPut H a (kV k) v (upd H a (.dK (putK kvs k v))) := .inl ⟨kvs, k, e, rfl, hl, rfl⟩
theorem DPut.t {H : Hp} {a b : Addr} {kvs : List (List Key × V)} {k : List Key} {v : V} (e : H a = some (.dT kvs)) (eb : H b = some (.tup (k.map kV))) (hl : kvs.length < sizeLine) :
    DPut H a (.ref b) v (upd H a (.dT (putK kvs k v))) := .inr ⟨kvs, k, b, e, rfl, eb, hl, rfl⟩


section
variable {X : Cx} {pins : List (Addr × Obj)} {σ : St} {H : Hp} {s : Shared} {a : Addr} {y v : V} {u r : Value} {o : Option V} {A : Around} {E : Value → Shared → Prop}

theorem Inv.big (I : Inv X pins σ H s) : sysModules < s.heap.objs.size := by
  have h : mainGlobals < s.heap.objs.size := (I.mod.glob.keeps I.bk).lt
  exact Nat.lt_trans (by decide) h

theorem d_getItem {Q : Value → Shared → Prop} (hu : A.units + 1 < cLine) (I : Inv X pins σ H s) (g : DGet H a y (some v)) (ry : RelV y u) (h : ∀ w' s', Inv X pins σ H s' → RelV v w' → Q w' s') :
    wpAny (model X.prog X.w) A (getItem (.ref a) u) Q E s := by
  rcases g with ⟨kvs, k, e, ey, l⟩ | ⟨kvs, k, b, e, ey, eb, l⟩
  · subst ey
    obtain ⟨z, hd, vs, rel, dd⟩ := dk_rd I.hok e
    obtain ⟨w', hw, rw'⟩ := RelO.some_of (v := v) (o := valueAt vs k) (by rw [l]; exact rel.val k)
    exact wpAny_getItem_of (kV_is ry) dd.mapOf hw (h w' _ (I.tok _) rw')
  · subst ey
    cases (show u = Value.ref b from ry)
    obtain ⟨z, hd, xs, rel, dd⟩ := dt_rd I.hok e
    obtain ⟨w', hw, rw'⟩ := RelO.some_of (v := v) (o := (atKey xs k).map (·.2)) (by rw [l]; exact rel.val k)
    obtain ⟨p, hp, hp2⟩ := Option.map_eq_some_iff.mp hw
    refine wpAny_getItem_heap (tupleKind_room_in1 hu) (key_of I.hok eb) dd hp ?_
    rw [hp2]
    exact h w' _ (I.tok _) rw'
theorem d_write {h' : Heap} {t' : Nat} {ob : HO} (I : Inv X pins σ H s) (mu : Mut (H a)) (hs : Heap.SameBut a s.heap h') (he : ∃ q, h'.get? a = some q) (new : ObjOk X.prog X.w (upd H a ob) h' a ob) :
    Inv X pins σ (upd H a ob) { s with heap := h', toks := t' } :=
  I.write (x := a) (e := a) mu (.inl rfl) (fun b q hb z => (hs.2 b hb).trans z) he new
theorem dk_new {P : Program} {w : World} {H' : Hp} {h' : Heap} {kvs : List (Key × V)} {vs : List (Key × Value)} (z : kvs.length ≤ sizeLine) (hd : (a == sysModules) = false) (rel : KV kvs vs) (dd : h'.DictOf (mixKind P w) a vs) :
    ObjOk P w H' h' a (.dK kvs) := ⟨z, hd, vs, rel, dd⟩
theorem d_setItem {H' : Hp} {Q : Unit → Shared → Prop} (hu : A.units + 1 < cLine) (I : Inv X pins σ H s) (g : DPut H a y v H') (ry : RelV y u) (rv : RelV v r) (h : ∀ s', Inv X pins σ H' s' → Q () s') :
    wpAny (model X.prog X.w) A (setItem (.ref a) u r) Q E s := by
  rcases g with ⟨kvs, k, e, ey, l, eH⟩ | ⟨kvs, k, b, e, ey, eb, l, eH⟩
  · subst ey eH
    obtain ⟨z, hd, vs, rel, dd⟩ := dk_of I.hok e
    have hz : vs.length ≤ sizeLine := by rw [← rel.length]; exact z
    have hl : (putK kvs k v).length ≤ sizeLine := by have := length_putK kvs k v; omega
    refine wpAny_setItem_pairs (hsz := hz) (kV_is ry) dd fun h' dd' hs => h _ ?_
    have he : ∃ q, h'.get? a = some q := let ⟨q, _, _, hq, _⟩ := dd'; ⟨q, hq⟩
    exact d_write I (by rw [e]; exact True.intro) hs he (dk_new hl hd (rel.put k rv) dd')
  · subst ey eH
    cases (show u = Value.ref b from ry)
    obtain ⟨z, hd, xs, rel, dd⟩ := dt_of I.hok e
    have hz : xs.length ≤ sizeLine := by rw [← Paired.length rel]; exact z
    have hl : (putK kvs k v).length ≤ sizeLine := by have := length_putK kvs k v; omega
    refine wpAny_setItem_heap (hsz := hz) (tupleKind_room_in1 hu) (key_of I.hok eb) dd fun h' dd' hs => h _ ?_
    obtain ⟨q, es, ep, hq, h2, h3, h4, _, h5⟩ := dd'
    refine d_write I (by rw [e]; exact True.intro) hs ⟨q, hq⟩ ⟨hl, hd, _, (rel.put k eb rv).keeps fun c ys ec => ?_, q, es, ep, hq, h2, h3, h4, h5⟩
    rw [upd_ne (ne_of ec e (fun z => nomatch z))]
    exact ec
end

section
variable {X : Cx} {pins : List (Addr × Obj)} {σ : St} {H : Hp} {s : Shared} {a : Addr} {kvs : List (Key × V)} {k : Key} {u : Value} {A : Around} {E : Value → Shared → Prop}
theorem d_len {Q : Value → Shared → Prop} (I : Inv X pins σ H s) (e : Rd H a (.dK kvs)) (h : ∀ t s', Inv X pins σ H s' → Q (.int kvs.length t) s') : wpAny (model X.prog X.w) A (call (.builtin "len") [.ref a]) Q E s := by
  obtain ⟨z, hd, vs, rel, dd⟩ := dk_rd I.hok e
  refine call_len_dict hd dd (by rw [← rel.length]; rw [sizeLine_eq] at z; omega) ?_
  rw [← rel.length]
  exact h _ _ (I.tok _)
end


def NoSl (i : Expr) : Prop := ∀ ov iv, subscripted i false ov iv = operate [ov, iv] (getItem ov iv)
theorem subD_of {prog : Program} {w : World} {A : Around} {E : Value → Shared → Prop} {s : Shared} {env : Env} {value slice : Expr} {pos : Pos} {T id : String} {Q : Value → Shared → Prop}
    (hl : typeLookup (.type T) "__getitem__" = pure (some (.builtin id))) (hs : NoSl slice)
    (h : wpAny (model prog w) A (eval value env) (fun o s₁ => wpAny (model prog w) A (eval slice env) (fun i s₂ => s₂.TypeIs o T ∧ wpAny (model prog w) A (getItem o i) Q E s₂) E s₁) E s) :
    wpAny (model prog w) A (eval (.Subscript value slice pos) env) Q E s := by
  refine Subscript_ (wpAny_mono h (fun o s₁ h₁ => wpAny_mono h₁ (fun i s₂ h₂ => ?_) fun _ _ x => x) fun _ _ x => x)
  obtain ⟨hT, h₂⟩ := h₂
  unfold subscriptTail
  refine wpAny_bind ?_
  rw [getitemInPython_of_ne hT.not_modules]
  refine wpAny_bind (wpAny_specialOf hT hl ?_)
  have fin : wpAny (model prog w) A (subscripted slice false o i) (fun r s₃ => wpAny (model prog w) A (letTemporaryGo value o r >>= fun _ => pure r) Q E s₃) E s₂ := by
    rw [hs o i]
    exact wpAny_operating (wpAny_mono h₂ (fun r s₃ h₃ => wpAny_bind (wpAny_letTemporaryGo (wpAny_pure h₃))) fun _ _ x => x)
  first
    | exact wpAny_pure (wpAny_bind fin)
    | exact wpAny_bind (wpAny_pure (wpAny_bind fin))
    | exact wpAny_bind fin

theorem dict_typeIs {X : Cx} {pins : List (Addr × Obj)} {σ : St} {H : Hp} {s : Shared} {a : Addr} {y : V} {o : Option V} (I : Inv X pins σ H s) (g : DGet H a y o) : s.TypeIs (.ref a) "dict" := by
  rcases g with ⟨kvs, k, e, _, _⟩ | ⟨kvs, k, b, e, _, _, _⟩
  · obtain ⟨_, _, vs, _, dd⟩ := dk_rd I.hok e
    exact dd.typeIs
  · obtain ⟨_, _, xs, _, dd⟩ := dt_rd I.hok e
    exact dd.typeIs
def tDGet (td ty : TE) : TE := fun σ H Q => td σ H fun x H1 => ty σ H1 fun y H2 => ∃ a v, x = .ref a ∧ DGet H2 a y (some v) ∧ Q v H2
def sDPut (td ty tv : TE) : TS := fun D σ H => tv σ H fun v H1 => td σ H1 fun x H2 => ty σ H2 fun y H3 => ∃ a H4, x = .ref a ∧ DPut H3 a y v H4 ∧ D.nx σ H4
section
variable {X : Cx} {o i e value : Expr} {pos pos' tpos : Pos} {td ty tv : TE}
theorem pe_dget (hu : X.A.units + 1 < cLine) (ho : PE X o td) (hi : PE X i ty) (hs : NoSl i) : PE X (.Subscript o i pos) (tDGet td ty) := by
  intro pins s σ H Q I h
  refine subD_of PySem.F.slot_dict_getitem.lookup hs (thn (ho pins s σ H _ I h) fun u s1 ⟨x, H1, I1, rx, q1⟩ => thn (hi pins s1 σ H1 _ I1 q1) fun iv s2 ⟨y, H2, I2, ry, a, v, ex, g, q2⟩ => ?_)
  subst ex
  obtain rfl : u = Value.ref a := rx
  exact ⟨dict_typeIs I2 g, d_getItem hu I2 g ry fun w' s3 I3 rw' => ⟨v, H2, I3, rw', q2⟩⟩
theorem ps_dput (hu : X.A.units + 1 < cLine) (ho : PE X o td) (hi : PE X i ty) (hv : PE X value tv) (hs : swapsWith value (some (.Subscript o i pos')) pos.line X.env = pure false) :
    PS X (.Assign [.Subscript o i pos'] value pos) (sDPut td ty tv) := by
  intro pins s σ H D I h
  refine wpAny_Assign_Subscript (thn (hv pins s σ H _ I h) fun r s1 ⟨v, H1, I1, rv, q1⟩ => thn (ho pins s1 σ H1 _ I1 q1) fun u s2 ⟨x, H2, I2, rx, q2⟩ => thn (hi pins s2 σ H2 _ I2 q2) fun iv s3 ⟨y, H3, I3, ry, a, H4, ex, g, q3⟩ => ?_) hs
  subst ex
  obtain rfl : u = Value.ref a := rx
  exact d_setItem hu I3 g ry rv fun s4 I4 => ⟨σ, H4, I4, q3⟩
end


theorem dk_empty {P : Program} {w : World} {H : Hp} (h : Heap) (hb : sysModules < h.objs.size) : ObjOk P w H (h.push { cls := .type "dict", data := .dict #[] }) h.objs.size (.dK []) :=
  ⟨Nat.zero_le _, beq_eq_false_iff_ne.mpr (Ne.symm (Nat.ne_of_lt hb)), [], .nil, Heap.DictOf.new h⟩
def tDNewK : TE := fun _ H Q => ∀ p, H p = none → Q (.ref p) (upd H p (.dK []))
section
variable {X : Cx} {pos : Pos}
theorem pe_dnewK : PE X (.Dict [] [] pos) tDNewK := fun pins s σ H Q I h =>
  wpAny_Dict_empty ⟨.ref s.heap.objs.size, _, I.laid (a := s.heap.objs.size) (o := .dK []) (t' := s.toks) (fun _ _ q => Heap.get?_push_of_some _ q) (Nat.le_refl _) (dk_empty s.heap I.big), rfl, h _ (I.hok.fresh (Nat.le_refl _))⟩
end

structure M1 (X : Cx) (o : Expr) (m : Str) (apos : Pos) (e : Expr) (cpos : Pos) : Prop where
  base : attributeBase o m X.env (eval o X.env) = eval o X.env
  few : ((backTo cpos (starEach [e] X.env)).all (fun x => !x.1) && (backToKw cpos (keywordEach [] X.env)).all (fun x => x.1.isSome)
    && decide (([e] : List Expr).length + ([] : List Keyword).length + (if ([] : List Keyword).isEmpty then 0 else 1) < 30)) = true
  line : (apos.endLine == cpos.line) = true
  trees : backTo cpos (starEach [e] X.env) = [(false, eval e X.env)]
structure M2 (X : Cx) (o : Expr) (m : Str) (apos : Pos) (e f : Expr) (cpos : Pos) : Prop where
  base : attributeBase o m X.env (eval o X.env) = eval o X.env
  few : ((backTo cpos (starEach [e, f] X.env)).all (fun x => !x.1) && (backToKw cpos (keywordEach [] X.env)).all (fun x => x.1.isSome)
    && decide (([e, f] : List Expr).length + ([] : List Keyword).length + (if ([] : List Keyword).isEmpty then 0 else 1) < 30)) = true
  line : (apos.endLine == cpos.line) = true
  trees : backTo cpos (starEach [e, f] X.env) = [(false, eval e X.env), (false, eval f X.env)]

def IsD (H : Hp) (a : Addr) : Prop := (∃ kvs, Rd H a (.dK kvs)) ∨ ∃ kvs, Rd H a (.dT kvs)
theorem isD_at {X : Cx} {pins : List (Addr × Obj)} {σ : St} {H : Hp} {s : Shared} {a : Addr} (I : Inv X pins σ H s) (d : IsD H a) :
    s.TypeIs (.ref a) "dict" ∧ (∀ b, Value.ref a = .ref b → ∃ ob, s.heap.get? b = some ob ∧ ob.dict = none) ∧ (a == sysModules) = false := by
  rcases d with ⟨kvs, e⟩ | ⟨kvs, e⟩
  · obtain ⟨_, hd, vs, _, dd⟩ := dk_rd I.hok e
    refine ⟨dd.typeIs, fun b q => ?_, hd⟩
    cases q
    obtain ⟨ob, _, _, h1, h2, _⟩ := dd
    exact ⟨ob, h1, h2.2.1⟩
  · obtain ⟨_, hd, xs, _, dd⟩ := dt_rd I.hok e
    refine ⟨dd.typeIs, fun b q => ?_, hd⟩
    cases q
    obtain ⟨ob, _, _, h1, h2, _⟩ := dd
    exact ⟨ob, h1, h2.2.1⟩

section
variable {X : Cx} {pins : List (Addr × Obj)} {σ : St} {H : Hp} {s : Shared} {a : Addr} {y d : V} {u r : Value} {o : Option V} {A : Around} {E : Value → Shared → Prop}
theorem d_get2 {Q : Value → Shared → Prop} (hu : A.units + 1 < cLine) (I : Inv X pins σ H s) (g : DGet H a y o) (ry : RelV y u) (rd : RelV d r) (h : ∀ w' s', Inv X pins σ H s' → RelV (o.getD d) w' → Q w' s') :
    wpAny (model X.prog X.w) A (call (.builtin "dict.get") [.ref a, u, r]) Q E s := by
  rcases g with ⟨kvs, k, e, ey, l⟩ | ⟨kvs, k, b, e, ey, eb, l⟩
  · subst ey
    obtain ⟨z, hd, vs, rel, dd⟩ := dk_rd I.hok e
    refine call_meetsIn PySem.F.slot_dict_get dd.typeIs PySem.F.entry_dict_get (PySem.F.args_dict_get_3 _ _ _) (meets_dict_get_default (mixKind X.prog X.w) a (kV_is ry) hd r) ⟨_, dd.mapOf, h _ _ (I.tok _) ?_⟩
    rw [l]
    exact (rel.val k).getD rd
  · subst ey
    cases (show u = Value.ref b from ry)
    obtain ⟨z, hd, xs, rel, dd⟩ := dt_rd I.hok e
    refine call_meetsIn PySem.F.slot_dict_get dd.typeIs PySem.F.entry_dict_get (PySem.F.args_dict_get_3 _ _ _) (meetsH_dict_get_default (tupleKind (mixKind X.prog X.w)) a b hd r) ⟨tupleKind_room_in1 hu, k, xs, key_of I.hok eb, dd, h _ _ (I.tok _) ?_⟩
    rw [l]
    exact (rel.val k).getD rd
end

def tDGet2 (td ty tx : TE) : TE := fun σ H Q => td σ H fun x H1 => ∃ a, x = .ref a ∧ IsD H1 a ∧ ty σ H1 fun y H2 => tx σ H2 fun z H3 => ∃ o, DGet H3 a y o ∧ Q (o.getD z) H3
section
variable {X : Cx} {o e f : Expr} {apos cpos : Pos} {td ty tx : TE}
theorem pe_dget2 (hu : X.A.units + 1 < cLine) (ho : PE X o td) (he : PE X e ty) (hf : PE X f tx) (m : M2 X o "get" apos e f cpos) : PE X (.Call (.Attribute o "get" apos) [e, f] [] cpos) (tDGet2 td ty tx) := by
  intro pins s σ H Q I h
  refine wpAny_Call_method m.base m.few m.line PySem.F.plainAttrs_dict PySem.F.slot_dict_get PySem.F.type_dict_get (thn (ho pins s σ H _ I h) fun u s1 ⟨x, H1, I1, rx, a, ex, d, q1⟩ => ?_)
  subst ex
  obtain rfl : u = Value.ref a := rx
  obtain ⟨t1, t2, _⟩ := isD_at I1 d
  refine ⟨t1, t2, ?_⟩
  rw [m.trees]
  refine Calls.callWith_builtin rfl (Calls.evalArgs_plain (Calls.spliced_cons (thn (he pins s1 σ H1 _ I1 q1) fun iv s2 ⟨y, H2, I2, ry, q2⟩ =>
    Calls.spliced_cons (thn (hf pins s2 σ H2 _ I2 q2) fun fv s3 ⟨z, H3, I3, rz, ov, g, q3⟩ => Calls.spliced_nil ?_))))
  exact d_get2 hu I3 g ry rz fun w' s4 I4 rw' => ⟨_, H3, I4, rw', q3⟩
end

section
variable {X : Cx} {pins : List (Addr × Obj)} {σ : St} {H : Hp} {s : Shared} {a : Addr} {kvs : List (Key × V)} {A : Around} {E : Value → Shared → Prop}
end


section
variable {X : Cx} {pins : List (Addr × Obj)} {σ : St} {H : Hp} {s : Shared} {a : Addr} {y : V} {u : Value} {A : Around} {E : Value → Shared → Prop}
end
end L2

namespace Att
open PySem PySem.W PySem.Calls PyProof.Rows

theorem ints_of_wellAll {P : Params} {h : Heap} : ∀ (ns : List Int) (vs : List Value), WellAll P h vs (ns.map WData.int) → IntsAre vs ns := by
  intro ns
  induction ns with
  | nil =>
    intro vs w
    rw [List.map_nil] at w
    cases w
    exact .nil
  | cons n ns ih =>
    intro vs w
    rw [List.map_cons] at w
    cases w with
    | cons a b =>
      cases a
      exact .cons _ _ (ih _ b)

theorem script_of {l : OpenLaw} {n : Nat} (hn : l.most = some n) {P : Params} {h : Heap} {args : List WData} {vals : List Value}
    (hpre : l.row.toRowW.claim.pre args = true) (hwl : WellAll P h vals args) :
    ∃ a vs ns, vals = [Value.ref a] ∧ args = [WData.list (ns.map WData.int)] ∧ h.get? a = some { cls := .type "list", data := .seq vs.toArray } ∧ IntsAre vs ns ∧ ns.length ≤ n := by
  have hsh : WShape.hasAll [] args [.list .int] = true := (pre_splitW hpre).1
  have hc : l.pre.holds [] { args := args } = true := (pre_splitW hpre).2
  obtain ⟨d, r, rfl, h1, h2⟩ := hasAllW_cons hsh
  obtain rfl := hasAllW_nil h2
  obtain ⟨xs, rfl, h3⟩ := hasW_list h1
  obtain ⟨ns, rfl⟩ := items_int h3
  have hlen : ns.length ≤ n := by
    unfold OpenLaw.pre at hc
    have h4 : (WTm.not (.lt (.lit (.int (n : Int))) (.len (.arg 0)))).holds [] { args := [.list (ns.map .int)] } = true := by
      have h4 := (holds_andW hc).1
      rw [hn] at h4
      exact h4
    have h5 := condW_of h4 (w_not (w_lt w_lit (w_len_list (w_arg rfl))))
    rw [List.length_map] at h5
    refine Nat.le_of_not_lt fun q => ?_
    have q' : (n : Int) < ((ns.length : Nat) : Int) := by omega
    first
      | (rw [decide_eq_true q'] at h5; exact absurd h5 (by decide))
      | (simp at h5; omega)
  cases hwl with
  | cons w1 w2 =>
    cases w2
    cases w1 with
    | list ho hall => exact ⟨_, _, ns, rfl, rfl, ho, ints_of_wellAll ns _ hall, hlen⟩

theorem post_true (l : OpenLaw) (args : List WData) : l.row.toRowW.claim.post args (.bool true) args = true :=
  postW_of (r := l.row.toRowW) (X := (true == true))
    (show WShape.has [] (.bool true) .bool = true by first | rfl | decide | simp [WShape.has, WShape.arms, WShape.armsAll])
    (show (WTm.eq .res (.lit (.bool true))).value [] { args := args, res := some (.bool true), after := args } = some (.bool (true == true)) from w_eq_bool (w_res rfl) w_lit) rfl

theorem attach_call {l : OpenLaw} {n : Nat} {q : Program} {loose : List Str} {XP : (Str → Option Value) → Heap → Prop} {YP : World → Heap → Prop} {d : DefRec}
    (hn : l.most = some n) (hdf : d.params.defaults = [])
    (call : ∀ (w : World) (s₀ s₁ : Shared) (mg mb : Str → Option Value) (fa : Addr) (o : Obj) (pm cd doc : Value) (a : Addr) (vs : List Value) (ns : List Int),
      Ground q loose [] XP w s₀ mg mb s₁.heap → YP w s₁.heap →
      s₁.heap.get? fa = some o → o.data = .func (docDef d.name d.params d.body d.scope pm cd doc) → s₁.heap.CodeRec cd d.name → mg d.name = some (.ref fa) →
      s₁.heap.get? a = some { cls := .type "list", data := .seq vs.toArray } → IntsAre vs ns → ns.length ≤ n → s₁.gens = #[] →
      codeAny (model l.prog w) callerA (.call (.ref fa) ⟨[.ref a], []⟩) (fun r s' => r = .ok (.ret (.bool true)) ∧ OldK s₁.heap s'.heap ∧ s'.os = s₁.os ∧ AllBare s'.gens) s₁) :
    WalkO q loose XP YP l.row.toRowW d [] (fun f vs => PySem.call f vs) := by
  intro w s₀ s₁ mg mb G Y fa o pm cd doc dV kV ho hd hcd hD hmg hg args vals as hpre hlay hrd hwl hlo
  obtain rfl : dV = .none := Dflts.none hD hdf
  obtain rfl : kV = .none := Dflts.noKw hD
  obtain ⟨a, vs, ns, rfl, rfl, hobj, hints, hlen⟩ := script_of hn hpre hwl
  refine enter_call (codeAny_mono (call w s₀ s₁ mg mb fa o pm cd doc a vs ns G Y ho (fd_plain hd) hcd hmg hobj hints hlen hg) fun r s' hq => ?_)
  obtain ⟨rfl, h2, h3, h4⟩ := hq
  exact ⟨.inl ⟨.bool true, .bool true, [], rfl, fun _ => rfl, .bool true, post_true l _, fun _ => ⟨List.Pairwise.nil, fun _ hm => (nomatch hm)⟩⟩, h2, h3, h4⟩

section
variable {prog : Program} {w : World} {A : Around} {E : Value → Shared → Prop} {s : Shared} {K : Frag}

end
end Att

namespace L2
open PySem PySem.Spec PyProof.Rows

theorem vals_ints : ∀ {vs : List Value} {ns : List Int}, IntsAre vs ns → Vals (ns.map V.int) vs
  | _, _, .nil => .nil
  | _, _, .cons n t h => .cons ⟨t, rfl⟩ (vals_ints h)

def Only (H : Hp) : Prop := ∀ b, H b = none ∨ ∃ o xs, H b = some (.frz o (.lst xs))

theorem law_call {P : Program} {w : World} {K : PySem.W.Frag} {mg mb : Str → Option Value} {CX : CXT} {k : Nat} {fa a : Addr} {fd : FuncData} {x : Str} {sp : Sp} {s₁ : Shared} {vs : List Value} {ns : List Int}
    (KX : K.In s₁.heap) (hns : s₁.heap.Ns mainGlobals mg) (hb : s₁.heap.Ns builtinsNs mb) (hbb : ∀ x : Str, x ≠ "__name__" → mb x = bootBuiltins x) (hlim : s₁.heap.NoLimit) (hg : s₁.gens = #[])
    (ha : s₁.heap.get? a = some { cls := .type "list", data := .seq vs.toArray }) (hi : IntsAre vs ns) (hl : ns.length ≤ sizeLine) (hr : Room k callerA)
    (F : ∀ base : Heap, K.In base → base.Ns mainGlobals mg → FnOk P w K mg base CX k fa fd [x] sp) (hbind : ∀ (s : Shared) (u : Value), BindsTo s fd ⟨[u], []⟩ [(x, u)])
    (hsp : ∀ H : Hp, Only H → SqL K H a (ns.map V.int) → sp [.ref a] H (fun v _ => v = .bl true) fun _ _ _ => False)
    (hCX : ∀ H e s', CX [] H s₁ (fun _ _ _ => False) e s' → False) :
    codeAny (model P w) callerA (.call (.ref fa) ⟨[.ref a], []⟩) (fun r s' => r = .ok (.ret (.bool true)) ∧ OldK s₁.heap s'.heap ∧ s'.os = s₁.os ∧ AllBare s'.gens) s₁ := by
  have rv := vals_ints hi
  have lenV := hi.length
  -- from an abstract heap in which nothing but the script may be tracked
  have core : ∀ H : Hp, Only H → SqL K H a (ns.map V.int) → HOk P w H s₁.heap → (∀ b, H b ≠ none → b = a) → (H a ≠ none → K.lookup a = none) →
      codeAny (model P w) callerA (.call (.ref fa) ⟨[.ref a], []⟩) (fun r s' => r = .ok (.ret (.bool true)) ∧ OldK s₁.heap s'.heap ∧ s'.os = s₁.os ∧ AllBare s'.gens) s₁ := by
    intro H hO hS hok hA hK
    have base_of : ∀ {b : Addr} {o : Obj}, s₁.heap.get? b = some o → H b = none → (hidT s₁.heap H).get? b = some o := fun e n => hidT_get e n
    have noA : ∀ {b : Addr} {o : Obj} {es : Array DictEntry} {ep : Nat}, s₁.heap.get? b = some o → o.data = .dict es ep → H b = none := fun {b o es ep} e d => by
      cases q : H b with
      | none => rfl
      | some u =>
        have e' : b = a := hA b (by rw [q]; simp)
        subst e'
        rw [ha] at e; cases e
        have d' : Data.seq vs.toArray _ = Data.dict es ep := d
        cases d'
    have nsK : ∀ {b : Addr} {m : Str → Option Value}, s₁.heap.Ns b m → (hidT s₁.heap H).Ns b m := fun {b m} ⟨o, es, ep, e, d, r⟩ => ⟨o, es, ep, base_of e (noA e d), d, r⟩
    have hKb : K.In (hidT s₁.heap H) := fun b o e => base_of (KX b o e) (by
      cases q : H b with
      | none => rfl
      | some u =>
        have e' : b = a := hA b (by rw [q]; simp)
        subst e'
        rw [hK (by rw [q]; simp)] at e; cases e)
    have hM : Mod K mg (hidT s₁.heap H) := ⟨hKb, nsK hns, ⟨mb, nsK hb, hbb⟩, let ⟨mc, h1, h2⟩ := hlim; ⟨mc, nsK h1, h2⟩⟩
    have e0 : Env0 P w K mg (hidT s₁.heap H) callerA [] s₁ H := ⟨rfl, hM, fun b o e => of_hidT e, Nat.le_of_eq (hidT_size _ _), trivial, fun b hb => absurd (show b ∈ ([] : List Addr) from hb) (by simp), hok, .of_eq hg⟩
    refine codeAny_mono ((F _ hKb (nsK hns)).run callerA [] s₁ H ⟨[.ref a], []⟩ [.ref a] [.ref a] _ _ hr e0 (hbind s₁ (.ref a)) (.cons rfl .nil) (hsp H hO hS)) fun r s' h => ?_
    cases r with
    | error e => exact (hCX H e s' h).elim
    | ok fl =>
      cases fl with
      | next => exact False.elim h
      | brk => exact False.elim h
      | cont => exact False.elim h
      | ret u =>
        obtain ⟨v, H', os, bare, un, hok', r', q⟩ := h
        have q' : v = .bl true := q
        subst q'
        obtain rfl : u = Value.bool true := r'
        refine ⟨rfl, OldK.of_keep fun b o e => ?_, os, bare⟩
        cases q : H b with
        | none => exact un.keep b o e q (by intro z; exact absurd (show b ∈ ([] : List Addr) from z) (by simp)) (by simp)
        | some u =>
          rcases hO b with z | ⟨ob, xs, z⟩
          · rw [q] at z; cases z
          · have z2 := un.frzs b ob _ z
            obtain ⟨e1, _⟩ := hok b _ z
            obtain ⟨e2, _⟩ := hok' b _ z2
            rw [e] at e1; cases e1
            exact e2
  cases hk : K.lookup a with
  | some o =>
    -- the script is one of the module's own objects
    have e := KX a o hk
    rw [ha] at e
    cases e
    refine core (fun _ => none) (fun _ => .inl rfl) (.inr ⟨_, vs.toArray, _, hk, rfl, rfl, rfl, by rw [List.size_toArray, lenV]; exact hl, by simpa using rv⟩) (fun b u z => by have z' : (none : Option HO) = some u := z; cases z') (fun b z => absurd rfl z) fun z => absurd rfl z
  | none =>
    refine core (fun b => if b = a then some (.frz { cls := .type "list", data := .seq vs.toArray } (.lst (ns.map V.int))) else none) (fun b => ?_) (.inl (.inr ⟨{ cls := .type "list", data := .seq vs.toArray }, if_pos rfl⟩)) (fun b u z => ?_) (fun b z => ?_) fun _ => hk
    · by_cases hb : b = a
      · exact .inr ⟨_, _, if_pos hb⟩
      · exact .inl (if_neg hb)
    · by_cases hb : b = a
      · have z' := (if_pos hb).symm.trans z
        cases z'
        subst hb
        exact ⟨ha, by rw [List.length_map]; exact hl, vs, _, rv, ha⟩
      · have z' := (if_neg hb).symm.trans z
        cases z'
    · by_cases hb : b = a
      · exact hb
      · exact absurd (if_neg hb) z
end L2

namespace L2
open PySem PySem.Spec PyProof.Rows

abbrev KOf {K : PySem.W.Frag} {h : Heap} (_ : K.In h) : PySem.W.Frag := K

theorem walk_of {l : PySem.W.OpenLaw} {n k : Nat} {q : Program} {loose : List Str} {XP : (Str → Option Value) → Heap → Prop} {YP : World → Heap → Prop} {d : DefRec} {K : Params → PySem.W.Frag} {CX : World → CXT} {sp : World → Sp} {x : Str}
    (hn : l.most = some n) (hn2 : n ≤ sizeLine) (hdf : d.params.defaults = []) (hr : Room k callerA)
    (hY : ∀ (w : World) (h : Heap), YP w h → (K w.params).In h)
    (F : ∀ (w : World) (mg : Str → Option Value) (fa : Addr) (h : Heap), (K w.params).In h → h.Ns mainGlobals mg → mg d.name = some (.ref fa) →
      ∃ fd : FuncData, (∀ (s : Shared) (u : Value), BindsTo s fd ⟨[u], []⟩ [(x, u)]) ∧
        ∀ base : Heap, (K w.params).In base → base.Ns mainGlobals mg → FnOk l.prog w (K w.params) mg base (CX w) k fa fd [x] (sp w))
    (hsp : ∀ (w : World) (H : Hp) (a : Addr) (ns : List Int), ns.length ≤ n → Only H → SqL (K w.params) H a (ns.map V.int) → sp w [.ref a] H (fun v _ => v = .bl true) fun _ _ _ => False)
    (hCX : ∀ (w : World) (H : Hp) (s : Shared) (e : Value) (s' : Shared), CX w [] H s (fun _ _ _ => False) e s' → False) :
    PySem.W.WalkO q loose XP YP l.row.toRowW d [] (fun f vs => PySem.call f vs) := by
  refine Att.attach_call hn hdf fun w s₀ s₁ mg mb fa o pm cd doc a vs ns G Y ho hd hcd hmg hobj hints hlen hg => ?_
  have KX := hY w _ Y
  obtain ⟨fd, hb, hF⟩ := F w mg fa _ KX G.T.g hmg
  exact law_call KX G.T.g G.T.b G.T.builtins G.T.nolimit hg hobj hints (Nat.le_trans hlen hn2) hr hF hb (fun H hO hS => hsp w H a ns hlen hO hS) fun H e s' => hCX w H s₁ e s'
end L2


namespace L2
open PySem PySem.Spec PyProof.Rows

def inClass (s : Stmt) (j : Nat) : Stmt := match s with
  | .ClassDef _ _ _ body _ _ _ _ _ _ _ => body.getD j (.Pass ⟨0, 0, 0, 0⟩)
  | _ => .Pass ⟨0, 0, 0, 0⟩
def defArgs (s : Stmt) : Arguments := match s with
  | .FunctionDef _ a _ _ _ _ _ _ _ _ => a
  | _ => { posonlyargs := [], args := [], vararg := none, kwonlyargs := [], kw_defaults := [], kwarg := none, defaults := [] }
def defBody (s : Stmt) : List Stmt := match s with
  | .FunctionDef _ _ b _ _ _ _ _ _ _ => b
  | _ => []
def defScope (s : Stmt) : Scope := match s with
  | .FunctionDef _ _ _ _ _ _ sc _ _ _ => sc
  | _ => { kind := .function, names := [], isGenerator := false, isCoroutine := false }

abbrev E0 : XK := fun _ _ _ => False
structure Fun (K : PySem.W.Frag) (x qual : Str) (st : Stmt) (f : Addr) (fd : FuncData) : Prop where
  ex : ∃ (oc : Value) (od : Option Addr) (kV doc pm : Value) (an : Option Addr) (cdv ct : Value) (osl : Array (Option Value)),
    fd = PySem.W.fnOf x qual (defArgs st) (defBody st) (defScope st) .none kV doc pm an cdv ct ∧ K.lookup f = some ⟨oc, od, .func fd, osl⟩ ∧ PySem.W.codeIn K cdv qual = true
  kp : PySem.W.keepIn K (.ref f) = true
section
variable {P : Program} {w : World} {K : PySem.W.Frag} {mg : Str → Option Value} {base : Heap}
theorem Fun.binds {x qual : Str} {st : Stmt} {f : Addr} {fd : FuncData} {ps : List Str} (F : Fun K x qual st f fd)
    (h : ∀ (kV doc pm : Value) (an : Option Addr) (cdv ct : Value) (us : List Value), us.length = ps.length → bindArgs (PySem.W.fnOf x qual (defArgs st) (defBody st) (defScope st) .none kV doc pm an cdv ct) ⟨us, []⟩ = pure (ps.zip us)) : Binds K fd ps [] := by
  obtain ⟨oc, od, kV, doc, pm, an, cdv, ct, osl, rfl, lk, hcd⟩ := F.ex
  exact .all (h kV doc pm an cdv ct)
theorem fun_mk {x qual : Str} {st : Stmt} {f : Addr} {oc : Value} {od an : Option Addr} {osl : Array (Option Value)} {kV doc pm cdv ct : Value} (l : K.lookup f = some ⟨oc, od, .func (PySem.W.fnOf x qual (defArgs st) (defBody st) (defScope st) .none kV doc pm an cdv ct), osl⟩)
    (c : PySem.W.codeIn K cdv qual = true) (k : PySem.W.keepIn K (.ref f) = true) : Fun K x qual st f (PySem.W.fnOf x qual (defArgs st) (defBody st) (defScope st) .none kV doc pm an cdv ct) := ⟨⟨oc, od, kV, doc, pm, an, cdv, ct, osl, rfl, l, c⟩, k⟩
end
theorem hu_of {A : Around} {k : Nat} (hr : Room k A) : A.units + 1 < cLine := Nat.lt_of_le_of_lt (Nat.add_le_add_left (by decide : 1 ≤ 64) _) hr.units
theorem small1000 {n : Nat} (h : n ≤ 1000) : n < sizeLine := Nat.lt_of_le_of_lt h (by decide)

section
variable {X : Cx}
theorem pv (i : Nat) {x : Str} {pos : Pos} (hN : X.N[i]? = some x := by rfl) (hv : Vis X.env.scope x := by first | exact Or.inl rfl | exact Or.inr (Or.inl rfl) | exact Or.inr (Or.inr rfl)) (hd : (x == ("__debug__" : Str)) = false := by decide)
    (hcd : (x == ("__classdict__" : Str)) = false := by decide) : PE X (.Name x pos) (tVar i) := pe_var hN hv hd hcd
end

theorem iteF {A B : Prop} (h : B) : if false = true then A else B := by
  rw [if_neg Bool.false_ne_true]
  exact h
theorem ite2 {c A B : Prop} [Decidable c] (h1 : c → A) (h2 : ¬ c → B) : if c then A else B := by
  by_cases h : c
  · rw [if_pos h]
    exact h1 h
  · rw [if_neg h]
    exact h2 h
def Same (H H' : Hp) : Prop := ∀ b o, H b = some o → H' b = some o
theorem Same.refl (H : Hp) : Same H H := fun _ _ h => h
theorem Same.trans {H H1 H2 : Hp} (a : Same H H1) (b : Same H1 H2) : Same H H2 := fun c o h => b c o (a c o h)
theorem Same.free {H H' : Hp} (e : Same H H') {l : Addr} (h : H' l = Option.none) : H l = Option.none := by
  cases q : H l with
  | none => rfl
  | some o =>
    rw [e l o q] at h
    cases h
theorem Same.seq {K : PySem.W.Frag} {H H' : Hp} {a : Addr} {xs : List V} (e : Same H H') (h : SqL K H a xs) : SqL K H' a xs := by
  rcases h with (h | ⟨o, h⟩) | h
  · exact .inl (.inl (e _ _ h))
  · exact .inl (.inr ⟨o, e _ _ h⟩)
  · exact .inr h

end L2

namespace L2
open PySem PySem.Spec PyProof.Rows
section
variable {X : Cx} {κ : Type} [DecidableEq κ]
end
end L2
namespace L3
open PySem PySem.Spec PyProof.Rows L2
abbrev St := L2.St

def NoErr (CX : CXT) : Prop := ∀ outer H s e s', ¬ CX outer H s E0 e s'
theorem NoErr.pass {CX : CXT} (n : NoErr CX) {X : Cx} : Passes CX X E0 := fun _ _ H s e s' _ h => (n _ H s e s' h).elim

structure Cal (P : Program) (w : World) (K : PySem.W.Frag) (mg : Str → Option Value) (base : Heap) (CX : CXT) (x : Str) (k : Nat) (ps : List Str) (sp : Sp) : Prop where
  ex : ∃ f fd, FnOk P w K mg base CX k f fd ps sp ∧ Binds K fd ps [] ∧ PySem.W.keepIn K (.ref f) = true ∧ mg x = some (.ref f)
structure Dat (K : PySem.W.Frag) (mg : Str → Option Value) (x qual : Str) (st : Stmt) (ps : List Str) : Prop where
  ex : ∃ f fd, Fun K x qual st f fd ∧ Binds K fd ps [] ∧ mg x = some (.ref f)
section
variable {P : Program} {w : World} {K : PySem.W.Frag} {mg : Str → Option Value} {base : Heap} {CX : CXT} {x qual : Str} {st : Stmt} {N ps : List Str} {k j : Nat} {sp sp' : Sp}
theorem Cal.imp (c : Cal P w K mg base CX x k ps sp) (h : ∀ vs H Q E, sp' vs H Q E → sp vs H Q E) : Cal P w K mg base CX x k ps sp' := by
  obtain ⟨f, fd, F, r⟩ := c.ex
  exact ⟨f, fd, F.imp h, r⟩
theorem fun_ok {f : Addr} {fd : FuncData} (F : Fun K x qual st f fd) (S : FnScope N ps (defScope st)) (len : ∀ vs H Q E, sp vs H Q E → vs.length = ps.length)
    (hbody : ∀ (f : Addr) (cdv : Value) (A : Around) (outer : List Env) (s : Shared) (H : Hp) (vs : List V) (Q : VK) (E : XK), Room k (A.deeper (envOfC qual (defScope st) s.heap.objs.size f cdv)) → sp vs H Q E →
      ∃ t, PSs (cxOf CX P w K mg base N qual (defScope st) f cdv A outer s H E).nox (defBody st) t ∧ t { nx := fun _ H' => Q .non H', rt := Q } (start N vs) H) : FnOk P w K mg base CX (k + 1) f fd ps sp := by
  obtain ⟨oc, od, kV, doc, pm, an, cdv, ct, osl, rfl, lk, hcd⟩ := F.ex
  refine fn_of lk hcd S len fun A outer s H vs Q E hr hsp => ?_
  obtain ⟨t, h, q⟩ := hbody f cdv A outer s H vs Q E hr hsp
  exact ⟨t, h.nox, q⟩
theorem Dat.ok (D : Dat K mg x qual st ps) (S : FnScope N ps (defScope st)) (len : ∀ vs H Q E, sp vs H Q E → vs.length = ps.length)
    (hbody : ∀ (f : Addr) (cdv : Value) (A : Around) (outer : List Env) (s : Shared) (H : Hp) (vs : List V) (Q : VK) (E : XK), Room k (A.deeper (envOfC qual (defScope st) s.heap.objs.size f cdv)) → sp vs H Q E →
      ∃ t, PSs (cxOf CX P w K mg base N qual (defScope st) f cdv A outer s H E).nox (defBody st) t ∧ t { nx := fun _ H' => Q .non H', rt := Q } (start N vs) H) : Cal P w K mg base CX x (k + 1) ps sp := by
  obtain ⟨f, fd, F, b, m⟩ := D.ex
  exact ⟨f, fd, fun_ok F S len hbody, b, F.kp, m⟩
theorem Dat.okX (D : Dat K mg x qual st ps) (S : FnScope N ps (defScope st)) (len : ∀ vs H Q E, sp vs H Q E → vs.length = ps.length)
    (hbody : ∀ (f : Addr) (cdv : Value) (A : Around) (outer : List Env) (s : Shared) (H : Hp) (vs : List V) (Q : VK) (E : XK), Room k (A.deeper (envOfC qual (defScope st) s.heap.objs.size f cdv)) → sp vs H Q E →
      ∃ t, PSs (cxOf CX P w K mg base N qual (defScope st) f cdv A outer s H E) (defBody st) t ∧ t { nx := fun _ H' => Q .non H', rt := Q } (start N vs) H) : Cal P w K mg base CX x (k + 1) ps sp := by
  obtain ⟨f, fd, F, b, m⟩ := D.ex
  have kp := F.kp
  obtain ⟨oc, od, kV, doc, pm, an, cdv, ct, osl, rfl, lk, hcd⟩ := F.ex
  refine ⟨f, _, fn_of lk hcd S len fun A outer s H vs Q E hr hsp => ?_, b, kp, m⟩
  exact hbody f cdv A outer s H vs Q E hr hsp
theorem dat_mk {h : Heap} (X : K.In h) (G : h.Ns mainGlobals mg) {f : Addr} {oc : Value} {od an : Option Addr} {osl : Array (Option Value)} {kV doc pm cdv ct : Value} (a : PySem.W.nsIn K mainGlobals x = some (some (.ref f)))
    (l : K.lookup f = some ⟨oc, od, .func (PySem.W.fnOf x qual (defArgs st) (defBody st) (defScope st) .none kV doc pm an cdv ct), osl⟩) (c : PySem.W.codeIn K cdv qual = true) (kp : PySem.W.keepIn K (.ref f) = true)
    (b : ∀ (kV doc pm : Value) (an : Option Addr) (cdv ct : Value) (us : List Value), us.length = ps.length → bindArgs (PySem.W.fnOf x qual (defArgs st) (defBody st) (defScope st) .none kV doc pm an cdv ct) ⟨us, []⟩ = pure (ps.zip us)) : Dat K mg x qual st ps := by
  have F := fun_mk (st := st) l c kp
  exact ⟨f, _, F, F.binds b, PySem.W.mg_of X G a⟩
end
section
variable {X : Cx} {CX : CXT} {k : Nat} {ps : List Str} {sp : Sp} {E : XK} {x : Str} {p pos : Pos} {e : Expr} {es : List Expr} {t : TA}
theorem pe_fn (C : Cal X.prog X.w X.K X.mg X.base CX x k ps sp) (hr : Room k X.A) (hx : Passes CX X E) (ha : PA X (e :: es) t) (hg : Gl X x := by rfl)
    (hdb : (x == ("__debug__" : Str)) = false := by decide) (he : starEach (e :: es) X.env = (false, eval e X.env) :: starEach es X.env := by rfl) (hpl : (backTo pos (starEach es X.env)).any (·.1) = false := by rfl) :
    PE X (.Call (.Name x p) (e :: es) [] pos) (tCall sp [] E t) := by
  obtain ⟨f, fd, F, b, kp, m⟩ := C.ex
  exact pe_call F hr hg m kp b .nil hx ha hdb he hpl
end

def closeL (cells : List (Str × Addr)) : List (Str × NameKind) → List (Str × Addr) → List (Str × Addr)
  | [], acc => acc
  | (n, k) :: r, acc => if k == .free then (match cells.lookup n with | some a => closeL cells r ((n, a) :: acc) | none => closeL cells r acc) else closeL cells r acc
theorem closeL_forIn {env : Env} : ∀ (l : List (Str × NameKind)) (acc : List (Str × Addr)), (∀ y ∈ l, y.2 = .free → ∃ c, env.cells.lookup y.1 = some c) →
    (forIn l acc (fun (y : Str × NameKind) cs => do
      if y.2 == .free then let c ← cellOf env y.1; pure (ForInStep.yield ((y.1, c) :: cs)) else pure (ForInStep.yield cs)) : Sem (List (Str × Addr))) = pure (closeL env.cells l acc)
  | [], acc, _ => rfl
  | (n, k) :: r, acc, h => by
    have ih := fun acc => closeL_forIn (env := env) r acc fun y hy => h y (List.mem_cons_of_mem _ hy)
    rw [List.forIn_cons]
    cases hk : k == NameKind.free with
    | true =>
      have ek : k = .free := by simpa using hk
      obtain ⟨c, hc⟩ := h (n, k) List.mem_cons_self ek
      have e1 : cellOf env n = pure c := by unfold cellOf; rw [hc]
      simp only [hk, if_true, e1, pure_bind]
      rw [ih]
      simp only [closeL, hk, if_true, hc]
    | false =>
      simp only [hk, Bool.false_eq_true, if_false, pure_bind]
      rw [ih]
      simp only [closeL, hk, Bool.false_eq_true, if_false]
theorem closeL_of {scope : Scope} {env : Env} (h : ∀ y ∈ scope.names, y.2 = .free → ∃ c, env.cells.lookup y.1 = some c) : closureFor scope env = pure (closeL env.cells scope.names []) := by
  unfold closureFor
  have e := closeL_forIn (env := env) scope.names [] h
  have : (forIn scope.names ([] : List (Str × Addr)) (fun (y : Str × NameKind) cs => do
      if y.2 == .free then let c ← cellOf env y.1; pure (ForInStep.yield ((y.1, c) :: cs)) else pure (ForInStep.yield cs)) : Sem (List (Str × Addr))) >>= (fun cs => pure cs) = pure (closeL env.cells scope.names []) := by rw [e]; rfl
  exact this
theorem closeL_sub {cells : List (Str × Addr)} : ∀ (l : List (Str × NameKind)) (acc : List (Str × Addr)) {x : Str} {c : Addr}, (closeL cells l acc).lookup x = some c → acc.lookup x = some c ∨ (cells.lookup x = some c ∧ (x, NameKind.free) ∈ l)
  | [], acc, x, c, h => .inl h
  | (n, k) :: r, acc, x, c, h => by
    unfold closeL at h
    cases hk : k == NameKind.free with
    | true =>
      have ek : k = .free := by simpa using hk
      subst ek
      rw [if_pos hk] at h
      cases hc : cells.lookup n with
      | none =>
        rw [hc] at h
        rcases closeL_sub r acc h with z | z
        · exact .inl z
        · exact .inr ⟨z.1, List.mem_cons_of_mem _ z.2⟩
      | some a =>
        rw [hc] at h
        rcases closeL_sub r _ h with z | z
        · rw [List.lookup_cons] at z
          cases hx : x == n with
          | true =>
            rw [hx] at z
            have : x = n := by simpa using hx
            subst this
            cases z
            exact .inr ⟨hc, List.mem_cons_self⟩
          | false => rw [hx] at z; exact .inl z
        · exact .inr ⟨z.1, List.mem_cons_of_mem _ z.2⟩
    | false =>
      rw [if_neg (by rw [hk]; exact Bool.false_ne_true)] at h
      rcases closeL_sub r acc h with z | z
      · exact .inl z
      · exact .inr ⟨z.1, List.mem_cons_of_mem _ z.2⟩
theorem closeL_acc {cells : List (Str × Addr)} : ∀ (l : List (Str × NameKind)) (acc : List (Str × Addr)) {x : Str}, (∃ c, acc.lookup x = some c) → ∃ c, (closeL cells l acc).lookup x = some c
  | [], _, _, h => h
  | (n, k) :: r, acc, x, h => by
    unfold closeL
    split
    · split
      · refine closeL_acc r _ ?_
        rw [List.lookup_cons]
        split
        · exact ⟨_, rfl⟩
        · exact h
      · exact closeL_acc r acc h
    · exact closeL_acc r acc h
theorem closeL_has {cells : List (Str × Addr)} : ∀ (l : List (Str × NameKind)) (acc : List (Str × Addr)) {x : Str}, (x, NameKind.free) ∈ l → (∃ c, cells.lookup x = some c) → ∃ c, (closeL cells l acc).lookup x = some c
  | [], _, _, h, _ => by simp at h
  | (n, k) :: r, acc, x, h, hc => by
    unfold closeL
    rcases List.mem_cons.mp h with e | h
    · cases e
      obtain ⟨c, hc⟩ := hc
      rw [if_pos (by decide), hc]
      exact closeL_acc r _ ⟨c, by rw [List.lookup_cons]; simp⟩
    · split
      · split
        · exact closeL_has r _ h hc
        · exact closeL_has r _ h hc
      · exact closeL_has r _ h hc

def blkN (N own : List Str) (cap : List Nat) : List Str := own ++ cap.map fun j => N.getD j Str.empty
def blkS (own : Nat) (cap : List Nat) (σ : St) : St := List.replicate own none ++ cap.map fun j => (σ[j]?).join
structure Blk (X : Cx) (scope : Scope) (own : List Str) (cap : List Nat) : Prop where
  kind : scope.kind = .function
  nocell : ∀ y ∈ scope.names, y.2 ≠ .cell
  names : ∀ y ∈ scope.names, y.2 = .local → scope.names.lookup y.1 = some .local
  free : ∀ y ∈ scope.names, y.2 = .free → X.env.kindOf y.1 = some .cell
  nd : (blkN X.N own cap).Nodup
  caps : ∀ j ∈ cap, ∃ x, X.N[j]? = some x ∧ (x, NameKind.free) ∈ scope.names ∧ scope.names.lookup x = some .free
def blk (X : Cx) (scope : Scope) (own : List Str) (cap : List Nat) (C : Addr) (s : Shared) (H : Hp) (fp : List Addr) : Cx :=
  { prog := X.prog, w := X.w, K := X.K, mg := X.mg, base := X.base, A := X.A, N := blkN X.N own cap, s₀ := s, H₀ := H, env := compEnvC scope (closeL X.env.cells scope.names []) C X.env, outer := X.stack, stack := X.stack,
    ex := fp, fn := fun _ => false, calm := true, pn := [], xe := fun _ _ => False }
theorem lookup_relabel_free {env : Env} : ∀ {names : List (Str × NameKind)} {x : Str}, env.scope.kind = .function → env.kindOf x = some .cell → names.lookup x = some .free →
    (names.map fun (n, k) => if (k == NameKind.free && env.scope.kind == .function && env.kindOf n == some .cell) then (n, NameKind.cell) else (n, k)).lookup x = some .cell
  | [], _, _, _, h => by simp at h
  | (n, k) :: r, x, hf, hc, h => by
    have ih := @lookup_relabel_free env r x hf hc
    show List.lookup x ((if (k == NameKind.free && env.scope.kind == .function && env.kindOf n == some .cell) = true then (n, NameKind.cell) else (n, k)) :: _) = _
    cases hx : x == n with
    | true =>
      have e : x = n := by simpa using hx
      subst e
      simp only [List.lookup_cons, hx] at h
      cases h
      rw [if_pos (by simp [hf, hc])]
      simp [List.lookup_cons]
    | false =>
      simp only [List.lookup_cons, hx] at h
      split
      · simp only [List.lookup_cons, hx]; exact ih h
      · simp only [List.lookup_cons, hx]; exact ih h
theorem relabel_cell {env : Env} : ∀ {names : List (Str × NameKind)} {x : Str}, (∀ y ∈ names, y.2 ≠ .cell) →
    ((names.map fun (n, k) => if (k == NameKind.free && env.scope.kind == .function && env.kindOf n == some .cell) then (n, NameKind.cell) else (n, k)).lookup x = some .cell ∨
     (names.map fun (n, k) => if (k == NameKind.free && env.scope.kind == .function && env.kindOf n == some .cell) then (n, NameKind.cell) else (n, k)).lookup x = some .free) → (x, NameKind.free) ∈ names
  | [], _, _, h => by simp at h
  | (n, k) :: r, x, hn, h => by
    have ih := @relabel_cell env r x fun y hy => hn y (List.mem_cons_of_mem _ hy)
    have hk : k ≠ .cell := hn (n, k) List.mem_cons_self
    rw [List.map_cons] at h
    cases hx : x == n with
    | true =>
      have e : x = n := by simpa using hx
      subst e
      by_cases hf : k = .free
      · subst hf; exact List.mem_cons_self
      · exfalso
        have hb : (k == NameKind.free) = false := by simpa using hf
        simp only [hb, Bool.false_and, Bool.false_eq_true, if_false, List.lookup_cons, beq_self_eq_true, Option.some.injEq] at h
        rcases h with h | h
        · exact hk h
        · exact hf h
    | false =>
      refine List.mem_cons_of_mem _ (ih ?_)
      by_cases hc : (k == NameKind.free && env.scope.kind == .function && env.kindOf n == some .cell) = true
      · simp only [hc, if_true, List.lookup_cons, hx] at h; exact h
      · simp only [Bool.not_eq_true] at hc
        simp only [hc, Bool.false_eq_true, if_false, List.lookup_cons, hx] at h; exact h

section
variable {X : Cx} {pins : List (Addr × Obj)} {σ : St} {H : Hp} {s : Shared} {scope : Scope} {own : List Str} {cap : List Nat} {fp : List Addr}
theorem Blk.cells (B : Blk X scope own cap) (ok : X.Ok) : ∀ y ∈ scope.names, y.2 = .free → ∃ c, X.env.cells.lookup y.1 = some c := fun y hy hf => ok.has y.1 (.inl (B.free y hy hf))
theorem Inv.enter {C : Addr} {h4 : Heap} {m : Str → Option Value} {t' : Nat} (I : Inv X pins σ H s) (hc : X.calm = true) (B : Blk X scope own cap) (f2 : ∀ b ∈ fp, FpOk X pins H b) (flt : ∀ b ∈ fp, b < s.heap.objs.size)
    (k : ∀ b o, s.heap.get? b = some o → h4.get? b = some o) (hC : s.heap.objs.size ≤ C) (hn : h4.Ns C m) (pl : List (Addr × Obj)) (hpl : ∀ p ∈ pl, h4.get? p.1 = some p.2 ∧ s.heap.objs.size ≤ p.1 ∧ p.1 ≠ C ∧ ∀ v, p.2.data ≠ .cell v) :
    Inv (blk X scope own cap C s H fp) pl (blkS own.length cap σ) H { s with heap := h4, toks := t' } := by
  have cls : ∀ x c, (closeL X.env.cells scope.names []).lookup x = some c → X.env.cells.lookup x = some c ∧ (x, NameKind.free) ∈ scope.names := fun x c e => (closeL_sub _ _ e).elim (fun z => by simp at z) fun z => z
  refine ⟨⟨I.ok.mod, B.kind, I.ok.glob, I.ok.blt, hC, fun x y c e1 e2 => I.ok.inj x y c (cls x c e1).1 (cls y c e2).1, fun x hx => ?_, fun x c hf _ => (Bool.false_ne_true hf).elim, fun _ => I.ok.hd hc, I.ok.frames, .inl rfl,
    fun b hb => ⟨Nat.ne_of_lt (Nat.lt_of_lt_of_le (flt b hb) hC), fun x c e => (f2 b hb).2.2.2.2.1 x c (cls x c e).1⟩, I.bs, Nat.le_trans I.ok.bsz I.sz, fun b o e hb => ?_, fun b hb hfs => ?_, I.stack, I.stkFree⟩,
    rfl, I.bare, Un.kept k, ⟨m, hn, fun i x v e1 e2 e3 => ?_⟩, fun x c e => ?_, I.hok.fresh hC, fun x c e => I.freeC x c (cls x c e).1, fun p hp => ?_, I.hok.kept k, ?_⟩
  · have hx' : ((relabel scope X.env).names.lookup x = some .cell ∨ (relabel scope X.env).names.lookup x = some .free) := hx
    have hf := relabel_cell B.nocell hx'
    exact closeL_has _ _ hf (B.cells I.ok _ hf rfl)
  · rcases (f2 b hb).2.2.2.1 with z | z
    · exact I.ok.noex b o e z
    · exact absurd (Nat.lt_of_lt_of_le (Heap.lt_size e) (Nat.le_trans I.ok.bsz z)) (Nat.lt_irrefl _)
  · rcases List.mem_cons.mp (I.stkSub b hfs) with z | z
    · exact (f2 b hb).2.1 z
    · exact (f2 b hb).2.2.1 z
  · -- the names
    have e2' : (List.replicate own.length (none : Option V) ++ cap.map fun j => (σ[j]?).join)[i]? = some (some v) := e2
    have e1' : (own ++ cap.map fun j => X.N.getD j Str.empty)[i]? = some x := e1
    by_cases hi : i < own.length
    · rw [List.getElem?_append_left (by simpa using hi), List.getElem?_replicate, if_pos hi] at e2'
      cases e2'
    · rw [List.getElem?_append_right (by simpa using hi), List.getElem?_map] at e2'
      rw [List.getElem?_append_right (by simpa using hi), List.getElem?_map] at e1'
      rw [List.length_replicate] at e2'
      cases hj : cap[i - own.length]? with
      | none => rw [hj] at e2'; cases e2'
      | some j =>
        rw [hj] at e1' e2'
        have e1'' : X.N.getD j Str.empty = x := Option.some.inj e1'
        have e2'' : (σ[j]?).join = some v := Option.some.inj e2'
        obtain ⟨y, hy, hm, hl⟩ := B.caps j (List.mem_of_getElem? hj)
        have exy : x = y := by rw [← e1'', List.getD_eq_getElem?_getD, hy]; rfl
        subst exy
        have hσ : σ[j]? = some (some v) := by
          cases q : σ[j]? with
          | none => rw [q] at e2''; cases e2''
          | some z => rw [q] at e2''; rw [show z = some v from e2'']
        have kc := B.free _ hm rfl
        obtain ⟨m0, hn0, hl0⟩ := I.loc
        obtain ⟨u, r, lk⟩ := hl0 j x v hy hσ (.inr (.inl kc))
        refine ⟨u, r, .inr ⟨.inl (lookup_relabel_free I.ok.kind kc hl), ?_⟩⟩
        rcases lk with ⟨k1, _⟩ | ⟨_, c, hc1, o, ho, hd⟩
        · rw [kc] at k1; cases k1
        · obtain ⟨c', hc'⟩ := closeL_has (cells := X.env.cells) scope.names [] hm ⟨c, hc1⟩
          have := (cls x c' hc').1
          rw [hc1] at this; cases this
          exact ⟨c, hc', o, k c o ho, hd⟩
  · obtain ⟨v, o, ho, hd⟩ := I.cell x c (cls x c e).1
    exact ⟨v, o, k c o ho, hd⟩
  · have hp' : p ∈ pl := hp
    obtain ⟨h1, h2, h3, h5⟩ := hpl p hp'
    refine ⟨h1, I.hok.fresh h2, h3, fun hfs => ?_, h5⟩
    rcases List.mem_cons.mp (I.stkSub p.1 hfs) with z | z
    · exact absurd (Nat.lt_of_lt_of_le I.lt h2) (by rw [z]; exact Nat.lt_irrefl _)
    · exact I.nofs h2 z
  · show (List.replicate own.length (none : Option V) ++ cap.map fun j => (σ[j]?).join).length = (own ++ cap.map fun j => X.N.getD j Str.empty).length
    simp
theorem Inv.leave {C D : Addr} {s' : Shared} {h' : Heap} {H' : Hp} {σ' : St} {ys : List V} {its : List Value} {n : Nat} (I : Inv X pins σ H s) (f2 : ∀ b ∈ fp, FpOk X pins H b) (hC : s.heap.objs.size ≤ C) (hD : s.heap.objs.size ≤ D) (hDC : D ≠ C)
    (J : Inv (blk X scope own cap C s H fp) [(D, { cls := .type "list", data := .seq its.toArray n })] σ' H' s') (hs : Heap.SameBut C s'.heap h') (r : Vals ys its) (hz : ys.length ≤ sizeLine) :
    Inv X pins σ (upd H' D (.lst ys)) { s' with heap := h' } := by
  obtain ⟨eD, nD, _, _, _⟩ := J.pin (D, { cls := .type "list", data := .seq its.toArray n }) (List.mem_append_right _ (List.mem_singleton.mpr rfl))
  have HD : H D = none := I.hok.fresh hD
  have nC : H' C = none := J.free
  have neC : ∀ b o, s.heap.get? b = some o → b ≠ C := fun b o e => Nat.ne_of_lt (Nat.lt_of_lt_of_le (Heap.lt_size e) hC)
  have neD : ∀ b o, s.heap.get? b = some o → b ≠ D := fun b o e => Nat.ne_of_lt (Nat.lt_of_lt_of_le (Heap.lt_size e) hD)
  have J0 : Un (frs X.stack) fp H H' s.heap s'.heap := J.base
  have u : Un (frs X.stack) fp H (upd H' D (.lst ys)) s.heap h' := by
    refine ⟨fun b o e n hb hx => ?_, fun b o e n hb hx => ?_, fun b o e n hx => ?_, fun b o e hx => ?_, fun b xs e => ?_, fun b o xs e => ?_, fun b ps e => ?_⟩
    · exact (hs.2 b (neC b o e)).trans (J0.keep b o e n hb hx)
    · obtain ⟨sl, q⟩ := J0.slot b o e n hb hx
      exact ⟨sl, (hs.2 b (neC b o e)).trans q⟩
    · rw [upd_ne (neD b o e)]; exact J0.free b o e n hx
    · obtain ⟨o', q⟩ := J0.there b o e hx
      exact ⟨o', (hs.2 b (neC b o e)).trans q⟩
    · rw [upd_ne (ne_of_none e HD)]; exact J0.tups b xs e
    · rw [upd_ne (ne_of_none e HD)]; exact J0.frzs b o xs e
    · rw [upd_ne (ne_of_none e HD)]; exact J0.tbls b ps e
  have hok : HOk X.prog X.w (upd H' D (.lst ys)) h' := fun b o e => by
    by_cases hb : b = D
    · subst hb
      rw [upd_same] at e; cases e
      exact ⟨hz, its, n, r, (hs.2 b hDC).trans eD⟩
    · rw [upd_ne hb] at e
      refine (J.hok b o e).stay (fun c v hc q => (hs.2 c ?_).trans q) (fun c q => ?_) fun c xs q => ?_
      · rcases hc with rfl | hc
        · exact ne_of_none e nC
        · exact ne_of_none hc nC
      · rw [upd_ne (ne_of_none q nD)]; exact q
      · rw [upd_ne (ne_of_none q nD)]; exact q
  obtain ⟨hh, g, d, t, os⟩ := s'
  have eos : os = s.os := J.os
  subst eos
  exact Inv.call (s := s) (h' := h') (g' := g) (d' := d) (t' := t) (ch := fp) I u hok J.bare fun b hb => ⟨(f2 b hb).2.2.2.1, (f2 b hb).2.1, fun x c e => (f2 b hb).2.2.2.2.1 x c e, (f2 b hb).2.2.2.2.2⟩
end

end L3
namespace L3
open PySem PySem.Spec PyProof.Rows L2
section
variable {X : Cx} {pins : List (Addr × Obj)} {σ : St} {H : Hp} {s : Shared} {scope : Scope} {own : List Str} {cap : List Nat} {fp : List Addr}
theorem Inv.again {C : Addr} {pl : List (Addr × Obj)} {σ2 : St} {H3 : Hp} {s3 : Shared} (I : Inv X pins σ H s) (B : Blk X scope own cap) (f2 : ∀ b ∈ fp, FpOk X pins H b) (J : Inv (blk X scope own cap C s H fp) pl σ2 H3 s3) :
    Inv (blk X scope own cap C s H fp) pl (blkS own.length cap σ) H3 s3 := by
  obtain ⟨m, hn, _⟩ := J.loc
  refine ⟨J.ok, J.os, J.bare, J.base, ⟨m, hn, fun i x v e1 e2 e3 => ?_⟩, J.cell, J.free, J.freeC, J.pin, J.hok, ?_⟩
  · have e2' : (List.replicate own.length (none : Option V) ++ cap.map fun j => (σ[j]?).join)[i]? = some (some v) := e2
    have e1' : (own ++ cap.map fun j => X.N.getD j Str.empty)[i]? = some x := e1
    by_cases hi : i < own.length
    · rw [List.getElem?_append_left (by simpa using hi), List.getElem?_replicate, if_pos hi] at e2'
      cases e2'
    · rw [List.getElem?_append_right (by simpa using hi), List.getElem?_map] at e2'
      rw [List.getElem?_append_right (by simpa using hi), List.getElem?_map] at e1'
      rw [List.length_replicate] at e2'
      cases hj : cap[i - own.length]? with
      | none => rw [hj] at e2'; cases e2'
      | some j =>
        rw [hj] at e1' e2'
        have e1'' : X.N.getD j Str.empty = x := Option.some.inj e1'
        have e2'' : (σ[j]?).join = some v := Option.some.inj e2'
        obtain ⟨y, hy, hm, hl⟩ := B.caps j (List.mem_of_getElem? hj)
        have exy : x = y := by rw [← e1'', List.getD_eq_getElem?_getD, hy]; rfl
        subst exy
        have hσ : σ[j]? = some (some v) := by
          cases q : σ[j]? with
          | none => rw [q] at e2''; cases e2''
          | some z => rw [q] at e2''; rw [show z = some v from e2'']
        have kc := B.free _ hm rfl
        obtain ⟨m0, hn0, hl0⟩ := I.loc
        obtain ⟨u, r, lk⟩ := hl0 j x v hy hσ (.inr (.inl kc))
        refine ⟨u, r, .inr ⟨.inl (lookup_relabel_free I.ok.kind kc hl), ?_⟩⟩
        rcases lk with ⟨k1, _⟩ | ⟨_, c, hc1, o, ho, hd⟩
        · rw [kc] at k1; cases k1
        · obtain ⟨c', hc'⟩ := closeL_has (cells := X.env.cells) scope.names [] hm ⟨c, hc1⟩
          have := ((closeL_sub _ _ hc').elim (fun z => by simp at z) fun z => z.1 : X.env.cells.lookup x = some c')
          rw [hc1] at this; cases this
          have J0 : Un (frs X.stack) fp H H3 s.heap s3.heap := J.base
          obtain ⟨sl, q⟩ := J0.any ho (I.freeC x c hc1) fun z => (f2 c z).2.2.2.2.1 x c hc1 rfl
          exact ⟨c, hc', _, q, hd⟩
  · show (List.replicate own.length (none : Option V) ++ cap.map fun j => (σ[j]?).join).length = (own ++ cap.map fun j => X.N.getD j Str.empty).length
    simp
end

theorem compLoop_ok {prog : Program} {w : World} {A : Around} {R : Result → Shared → Prop} {s : Shared} {elt target iter : Expr} {ifs : List Expr} {scope : Scope} {pos : Pos} {it acc : Value} {env : Env} (I : Nat → Shared → Prop)
    (turn : ∀ n s, I n s → wpAny (model prog w) A (pyNext it) (fun r s₁ => match r with
      | none => R (.ok .next) s₁
      | some v => wpAny (model prog w) A (letOwnedTupleGo target it v) (fun _ s₁' => wpAny (model prog w) A (assign target env v) (fun _ s₂ =>
          wpAny (model prog w) A (forIn ifs true fun c r => if r = true then do let ok ← isTrue c env (eval c env); pure (ForInStep.yield ok) else pure (ForInStep.yield r)) (fun ok s₃ =>
            if ok = true then wpAny (model prog w) A (eval elt env) (fun x s₄ =>
              wpAny (model prog w) A (call (.builtin "list.append") [acc, x]) (fun _ s₅ => ∃ m, m < n ∧ I m s₅) (fun _ _ => False) s₄) (fun _ _ => False) s₃
            else ∃ m, m < n ∧ I m s₃) (fun _ _ => False) s₂) (fun _ _ => False) s₁') (fun _ _ => False) s₁) (fun _ _ => False) s)
    (n : Nat) (h : I n s) :
    codeAny (model prog w) A (.compLoop (.ListComp elt [⟨target, iter, ifs, 0⟩] scope pos) 0 it acc env) R s := by
  refine codeAny_loop rfl I (fun n s hI => ?_) n h
  show wpAny _ A ((compTurn (.ListComp elt [⟨target, iter, ifs, 0⟩] scope pos) 0 it acc env).onRaise (fun x => do noteFrame x env; theTreesLotGoes x)) _ _ s
  refine wpAny_noted ?_
  rw [compTurn_list]
  refine wpAny_bind (wpAny_standAt (wpAny_bind (wpAny_mono (turn n s hI) (fun r s₁ h₁ => ?_) fun _ _ z => z.elim)))
  cases r with
  | none => exact wpAny_pure h₁
  | some v =>
    refine wpAny_bind (wpAny_mono h₁ (fun _ s₁' h₁' => ?_) fun _ _ z => z.elim)
    refine wpAny_bind (wpAny_mono h₁' (fun _ s₂ h₂ => wpAny_bind (wpAny_mono h₂ (fun ok s₃ h₃ => ?_) fun _ _ z => z.elim)) fun _ _ z => z.elim)
    cases ok with
    | false => exact wpAny_pure ⟨rfl, h₃⟩
    | true =>
      exact wpAny_bind (wpAny_bind (wpAny_mono h₃ (fun x s₄ h₄ => wpAny_bind (wpAny_mono h₄ (fun _ s₅ h₅ => wpAny_pure (wpAny_pure ⟨rfl, h₅⟩)) fun _ _ z => z.elim)) fun _ _ z => z.elim))

def PIfs (X : Cx) (ifs : List Expr) (tc : TT) : Prop :=
  ∀ (pins : List (Addr × Obj)) (s : Shared) (σ : St) (H : Hp) (Q : Bool → Hp → Prop), Inv X pins σ H s → tc σ H Q →
    wpAny (model X.prog X.w) X.A (forIn ifs true fun c r => if r = true then do let ok ← isTrue c X.env (eval c X.env); pure (ForInStep.yield ok) else pure (ForInStep.yield r)) (TP X pins σ Q) X.xe s
def tAll : TT := fun _ H Q => Q true H
theorem pifs_nil {X : Cx} : PIfs X [] tAll := fun _ _ _ H _ I h => wpAny_tests_nil ⟨H, I, h⟩
theorem pifs_one {X : Cx} {c : Expr} {tc : TT} (h : PT X c tc) : PIfs X [c] tc := fun pins s σ H Q I hw => wpAny_tests_one (h pins s σ H Q I hw)

def CompW (J : It) (W : Nat → Nat → List V → Hp → Prop) (D : List V → Hp → Prop) (σb : St) (g : TG) (tc : TT) (te : TE) : Prop :=
  ∀ i m ys H, W i m ys H → ys.length ≤ sizeLine ∧
    ((J.stop i H ∧ D ys H) ∨ (J.go i H ∧ ∃ N : List V → Hp → Prop, (∀ ys' H', N ys' H' → ∃ m', m' < m ∧ W (i + 1) m' ys' H') ∧ ∀ x H', J.yld i H x H' → g x σb H' fun σ2 H2 => tc σ2 H2 fun b H3 =>
      if b = true then te σ2 H3 fun y H4 => N (ys ++ [y]) H4 else N ys H3))
def tComp (wi : TI) (own : Nat) (cap : List Nat) (g : TG) (tc : TT) (te : TE) : TE := fun σ H Q => wi σ H fun J H1 => ∃ W : Nat → Nat → List V → Hp → Prop, (∃ m, W 0 m [] H1) ∧
  CompW J W (fun ys H => ∀ p, H p = none → Q (.ref p) (upd H p (.lst ys))) (blkS own cap σ) g tc te

section
variable {X : Cx} {scope : Scope} {own : List Str} {cap : List Nat} {tg elt iter : Expr} {ifs : List Expr} {pos : Pos} {wi : TI} {g : TG} {tc : TT} {te : TE}
theorem comp_block (B : Blk X scope own cap) (hc : X.calm = true) (hg : ∀ C s H fp, PG (blk X scope own cap C s H fp) tg g) (ht : ∀ C s H fp, PIfs (blk X scope own cap C s H fp) ifs tc) (he : ∀ C s H fp, PE (blk X scope own cap C s H fp) elt te)
    {pins : List (Addr × Obj)} {s2 : Shared} {σ : St} {H2 : Hp} {it : Addr} {fp : List Addr} {tn : Nat → Heap → Prop} {J : It} {W : Nat → Nat → List V → Hp → Prop} {D : List V → Hp → Prop} {m0 : Nat} {E : Value → Shared → Prop} {RR : Value → Addr → Result → Shared → Prop}
    (I2 : Inv X pins σ H2 s2) (T : Turn X.prog X.w X.K tg J fp it tn) (st2 : tn 0 s2.heap) (f2 : ∀ b ∈ fp, FpOk X pins H2 b) (w0 : W 0 m0 [] H2) (turn : CompW J W D (blkS own.length cap σ) g tc te)
    (done : ∀ (C L : Addr) (s' : Shared) (H' : Hp) (σ' : St) (ys : List V) (its : List Value) (n : Nat), s2.heap.objs.size ≤ C → s2.heap.objs.size ≤ L → L ≠ C → Inv (blk X scope own cap C s2 H2 fp) [(L, { cls := .type "list", data := .seq its.toArray n })] σ' H' s' → Vals ys its → ys.length ≤ sizeLine → D ys H' →
      RR (.ref L) C (.ok .next) s') :
    wpAny (model X.prog X.w) X.A (newList []) (fun acc s₃ => wpAny (model X.prog X.w) X.A (newFunctionEnv scope X.env.globals (closeL X.env.cells scope.names []) [] X.env.qual none .none (some X.env)) (fun cenv s₄ =>
      codeAny (model X.prog X.w) X.A (.compStart (.ListComp elt [⟨tg, iter, ifs, 0⟩] scope pos) 0 (.ref it) acc { cenv with scope := relabel scope X.env }) (RR acc cenv.locals) s₄) E s₃) E s2 := by
  refine wpAny_newObj_type (wpAny_newFunctionEnv B.nocell (by intro y hy; simp at hy) (fun h₁ hns₁ hsb₁ => ?_) B.kind)
  dsimp only at hns₁ hsb₁ ⊢
  have flt : ∀ b ∈ fp, b < s2.heap.objs.size := fun b hb => by
    obtain ⟨o, e, _⟩ := T.obj _ _ st2 b hb
    exact Heap.lt_size e
  generalize hH2 : s2.heap.push { cls := .type "list", dict := none, data := .seq ([] : List Value).toArray } = G2 at hns₁ hsb₁ ⊢
  have hCs : G2.objs.size = s2.heap.objs.size + 1 := by rw [← hH2, Heap.size_push]
  have hC : s2.heap.objs.size ≤ G2.objs.size := by rw [hCs]; exact Nat.le_succ _
  have hDC : s2.heap.objs.size ≠ G2.objs.size := by rw [hCs]; exact Nat.ne_of_lt (Nat.lt_succ_self _)
  have old : ∀ b o, s2.heap.get? b = some o → h₁.get? b = some o := fun b o e =>
    hsb₁.extBut b o (Nat.ne_of_lt (Nat.lt_of_lt_of_le (Heap.lt_size e) hC)) (Heap.get?_push_of_some _ (hH2 ▸ Heap.get?_push_of_some _ e))
  have hacc : h₁.get? s2.heap.objs.size = some { cls := .type "list", data := .seq ([] : List Value).toArray 0 } := hsb₁.extBut _ _ hDC (Heap.get?_push_of_some _ (hH2 ▸ Heap.get?_push_size _ rfl))
  have loop : ∀ s₃ : Shared, s₃ = { s2 with heap := h₁, toks := s2.toks + ([] : List (Str × Value)).length } →
      codeAny (model X.prog X.w) X.A (.compLoop (.ListComp elt [⟨tg, iter, ifs, 0⟩] scope pos) 0 (.ref it) (.ref s2.heap.objs.size) (compEnvC scope (closeL X.env.cells scope.names []) G2.objs.size X.env))
        (RR (.ref s2.heap.objs.size) G2.objs.size) s₃ := by
    rintro s₃ rfl
    refine compLoop_ok (fun n s' => ∃ i ys its nn H', Inv (blk X scope own cap G2.objs.size s2 H2 fp) [(s2.heap.objs.size, { cls := .type "list", data := .seq (its : List Value).toArray nn })] (blkS own.length cap σ) H' s' ∧ tn i s'.heap ∧ (∀ b ∈ fp, H' b = none) ∧ Vals ys its ∧ W i n ys H')
      ?_ m0 ⟨0, [], [], 0, H2, L3.Inv.enter I2 hc B f2 flt old hC hns₁ _ (fun p hp => ?_), T.keep _ _ _ st2 (fun b _ o e => old b o e), fun b hb => (f2 b hb).1, .nil, w0⟩
    · rintro n s3 ⟨i, ys, its, nn, H3, J3, st3, fr3, rv, w3⟩
      have fpb : ∀ {pl : List (Addr × Obj)} {H' : Hp}, (∀ b ∈ fp, H' b = none) → (∀ p ∈ pl, ∀ b ∈ fp, p.1 ≠ b) → ∀ b ∈ fp, FpOk (blk X scope own cap G2.objs.size s2 H2 fp) pl H' b := fun {pl H'} hn hp b hb =>
        ⟨hn b hb, Nat.ne_of_lt (Nat.lt_of_lt_of_le (flt b hb) hC), fun z => J3.ok.exfs b hb z, .inl hb, fun x c e => (J3.ok.exf b hb).2 x c e, fun p hp' => by
          rcases List.mem_append.mp hp' with z | z
          · exact absurd (show p ∈ ([] : List (Addr × Obj)) from z) (by simp)
          · exact hp p z b hb⟩
      have nD : ∀ (o : Obj), ∀ p ∈ [(s2.heap.objs.size, o)], ∀ b ∈ fp, p.1 ≠ b := fun o p hp b hb => by
        have e : p = (s2.heap.objs.size, o) := by simpa using hp
        subst e
        exact (Nat.ne_of_lt (flt b hb)).symm
      obtain ⟨hz, tr⟩ := turn i n ys H3 w3
      rcases tr with ⟨stop, qD⟩ | ⟨go, N, hN, step⟩
      · refine thn (T.done (blk X scope own cap G2.objs.size s2 H2 fp) rfl rfl rfl rfl i _ s3 _ H3 (fun _ _ => False) J3 (fpb fr3 (nD _)) st3 stop) fun r s4 ⟨hr, J4⟩ => ?_
        subst hr
        exact done _ _ s4 H3 _ ys its nn hC (Nat.le_refl _) hDC J4 rv hz qD
      · refine thn (T.item (blk X scope own cap G2.objs.size s2 H2 fp) rfl rfl rfl rfl i _ s3 _ H3 (fun _ _ => False) J3 (fpb fr3 (nD _)) st3 go) fun r s4 ⟨u, hr, h4⟩ => ?_
        subst hr
        refine thn h4 fun _ s5 ⟨x, H5, J5, r5, y5, st5, fr5⟩ => ?_
        have J5' := J5.pinned (fpb fr5 (nD _)) (T.obj _ _ st5)
        refine thn (hg _ _ _ _ _ s5 _ H5 x u _ J5' r5 (step x H5 y5)) fun _ s6 ⟨σ6, H6, J6, q6⟩ => ?_
        -- a turn's end, the list at L as it stands
        have again : ∀ {pl : List (Addr × Obj)} {its' : List Value} {nn' : Nat} {ys' : List V} {s8 : Shared} {H8 : Hp} {σ8 : St} {m' : Nat}, Inv (blk X scope own cap G2.objs.size s2 H2 fp) ([(s2.heap.objs.size, { cls := .type "list", data := .seq its'.toArray nn' })] ++ pinsAt fp s5.heap) σ8 H8 s8 → Vals ys' its' → m' < n → W (i + 1) m' ys' H8 →
            ∃ m, m < n ∧ ∃ i ys its nn H', Inv (blk X scope own cap G2.objs.size s2 H2 fp) [(s2.heap.objs.size, { cls := .type "list", data := .seq (its : List Value).toArray nn })] (blkS own.length cap σ) H' s8 ∧ tn i s8.heap ∧ (∀ b ∈ fp, H' b = none) ∧ Vals ys its ∧ W i m ys H' := by
          intro pl its' nn' ys' s8 H8 σ8 m' J8 rv' hm w8
          have pin8 : ∀ b ∈ fp, ∀ o, s5.heap.get? b = some o → s8.heap.get? b = some o ∧ H8 b = none := fun b hb o e => by
            have q := J8.pin (b, o) (List.mem_append_right _ (List.mem_append_right _ (mem_pinsAt hb e)))
            exact ⟨q.1, q.2.1⟩
          refine ⟨m', hm, i + 1, ys', its', nn', H8, Inv.again I2 B f2 J8.unpinned, T.keep _ _ _ st5 fun b hb o e => (pin8 b hb o e).1, fun b hb => ?_, rv', w8⟩
          obtain ⟨o, e, _⟩ := T.obj _ _ st5 b hb
          exact (pin8 b hb o e).2
        refine thn (ht _ _ _ _ _ s6 _ H6 _ J6 q6) fun ok s7 ⟨H7, J7, q7⟩ => ?_
        cases ok with
        | false =>
          rw [if_neg Bool.false_ne_true]
          rw [if_neg Bool.false_ne_true] at q7
          obtain ⟨m', hm, w7⟩ := hN _ _ q7
          exact again (pl := []) J7 rv hm w7
        | true =>
          rw [if_pos rfl]
          rw [if_pos rfl] at q7
          refine thn (he _ _ _ _ _ s7 _ H7 _ J7 q7) fun v s8 ⟨y, H8, J8, ry, q8⟩ => ?_
          obtain ⟨m', hm, w8⟩ := hN _ _ q8
          have pL := J8.pin (s2.heap.objs.size, { cls := .type "list", data := .seq its.toArray nn }) (List.mem_append_right _ (List.mem_append_left _ (List.mem_singleton.mpr rfl)))
          refine wpAny_list_append_plain (l := s2.heap.objs.size) (items := its.toArray) ⟨nn, pL.1⟩ (fun h' hp' hsb => ?_) (by rw [List.size_toArray, ← rv.length]; exact hz)
          obtain ⟨nn', hL'⟩ := hp'
          have J9 : Inv (blk X scope own cap G2.objs.size s2 H2 fp) (pinsAt fp s5.heap) σ6 H8 s8 := J8.pins_of fun p hp => J8.pin p (List.mem_append_right _ (List.mem_append_right _ hp))
          have npin : ∀ p ∈ (blk X scope own cap G2.objs.size s2 H2 fp).pn ++ pinsAt fp s5.heap, p.1 ≠ s2.heap.objs.size := fun p hp => by
            rcases List.mem_append.mp hp with z | z
            · exact absurd (show p ∈ ([] : List (Addr × Obj)) from z) (by simp)
            · exact Nat.ne_of_lt (flt _ (of_pinsAt z).1)
          have J10 : Inv (blk X scope own cap G2.objs.size s2 H2 fp) (pinsAt fp s5.heap) σ6 H8 { s8 with heap := h' } := J9.turned (t' := s8.toks) (it := s2.heap.objs.size) (fun b o hb e => (hsb.2 b hb).trans e) pL.2.1 pL.2.2.1 (.inr (Nat.le_refl _))
            (fun x c e z => by
              obtain ⟨v', o', ho', hd'⟩ := J9.cell x c e
              rw [z, pL.1] at ho'; cases ho'; cases hd') npin
          refine again (pl := []) (its' := its ++ [v]) (nn' := nn') (J10.pins_of fun p hp => ?_) (rv.append (.cons ry .nil)) hm w8
          rcases List.mem_append.mp hp with z | z
          · have e : p = (s2.heap.objs.size, { cls := .type "list", data := .seq (its ++ [v]).toArray nn' }) := by simpa using z
            subst e
            refine ⟨?_, pL.2.1, pL.2.2.1, pL.2.2.2.1, fun v' => by intro q; cases q⟩
            rw [hL']
            simp
          · exact J10.pin p (List.mem_append_right _ z)
    · have e : p = (s2.heap.objs.size, { cls := .type "list", data := .seq ([] : List Value).toArray 0 }) := by simpa using hp
      subst e
      exact ⟨hacc, Nat.le_refl _, hDC, fun v' => by intro q; cases q⟩
  exact codeAny_compStart_list (loop _ rfl) (T.self _ 0 _ _ _ (T.keep _ _ _ st2 fun b _ o e => old b o e) (loop _ rfl))

theorem pe_comp (hc : X.calm = true) (hi : PI X tg iter wi) (B : Blk X scope own cap) (hg : ∀ C s H fp, PG (blk X scope own cap C s H fp) tg g) (ht : ∀ C s H fp, PIfs (blk X scope own cap C s H fp) ifs tc) (he : ∀ C s H fp, PE (blk X scope own cap C s H fp) elt te)
    (hs : ∀ x, foldedSetIterable iter X.env x = pure x := by intro _; rfl) : PE X (.ListComp elt [⟨tg, iter, ifs, 0⟩] scope pos) (tComp wi own.length cap g tc te) := by
  intro pins s σ H Q I h
  rw [eval_ListComp]
  refine wpAny_comprehension_free (use := none) rfl hs (closeL_of (B.cells I.ok)) B.kind B.names (thn (hi pins s σ H _ I h) fun v s1 h1 => thn h1 fun itv s2 h2 => ?_)
  obtain ⟨it, fp, tn, J, H2, e, I2, T, st2, f2, W, ⟨m0, w0⟩, turn⟩ := h2
  subst e
  refine comp_block (RR := fun acc C => compPost (model X.prog X.w) X.A X.xe none (EP X pins σ Q) acc C) B hc hg ht he I2 T st2 f2 w0 turn ?_
  intro C L s' H' σ' ys its n hC hL hLC J' rv hz hD
  obtain ⟨m, hn, _⟩ := J'.loc
  have nL := (J'.pin _ (List.mem_append_right _ (List.mem_singleton.mpr rfl))).2.1
  exact ⟨m, hn, fun h' hs' => ⟨.ref L, _, Inv.leave I2 f2 hC hL hLC J' hs' rv hz, rfl, hD L nL⟩⟩

def tCompS (i : Nat) (wi : TI) (own : Nat) (cap : List Nat) (g : TG) (tc : TT) (te : TE) : TS := fun D σ H => tComp wi own cap g tc te σ H fun v H1 => D.nx (σ.set i (some v)) H1
theorem ps_compS {i : Nat} {x : Str} {px spos : Pos} (hc : X.calm = true) (hN : X.N.Nodup) (hi' : X.N[i]? = some x) (hx : Loc X.env.scope x) (hi : PI X tg iter wi) (B : Blk X scope own cap) (hg : ∀ C s H fp, PG (blk X scope own cap C s H fp) tg g)
    (ht : ∀ C s H fp, PIfs (blk X scope own cap C s H fp) ifs tc) (he : ∀ C s H fp, PE (blk X scope own cap C s H fp) elt te)
    (hsw : swapsWith (.ListComp elt [⟨tg, iter, ifs, 0⟩] scope pos) (some (.Name x px)) spos.line X.env = pure true) (hf : X.fn x = true ∨ X.env.scope.names.lookup x = some .local := by first | exact .inl rfl | exact .inr rfl | assumption)
    (hs : ∀ x, foldedSetIterable iter X.env x = pure x := by intro _; rfl) : PS X (.Assign [.Name x px] (.ListComp elt [⟨tg, iter, ifs, 0⟩] scope pos) spos) (tCompS i wi own.length cap g tc te) := by
  intro pins s σ H D I h
  rw [exec_Assign_Name_used _ _ _ _ hsw]
  refine wpAny_bind (wpAny_standAt (wpAny_bind ?_))
  show wpAny _ X.A (do let _ ← comprehension (.ListComp elt [⟨tg, iter, ifs, 0⟩] scope pos) scope X.env _ (newList []) false (eval iter X.env) (some (assign (.Name x px) X.env))) _ _ s
  refine wpAny_bind (thn (wpAny_comprehension_free (use := some (assign (.Name x px) X.env)) (Q := fun _ s' => SP X pins D .next s') rfl hs (closeL_of (B.cells I.ok)) B.kind B.names
    (thn (hi pins s σ H _ I h) fun v s1 h1 => thn h1 fun itv s2 h2 => ?_)) (fun _ s' hq => wpAny_pure (wpAny_pure hq)))
  obtain ⟨it, fp, tn, J, H2, e, I2, T, st2, f2, W, ⟨m0, w0⟩, turn⟩ := h2
  subst e
  refine comp_block (RR := fun acc C => compPost (model X.prog X.w) X.A X.xe (some (assign (.Name x px) X.env)) (fun _ s' => SP X pins D .next s') acc C) B hc hg ht he I2 T st2 f2 w0 turn ?_
  intro C L s' H' σ' ys its n hC hL hLC J' rv hz hD
  obtain ⟨m, hn, _⟩ := J'.loc
  have nL := (J'.pin _ (List.mem_append_right _ (List.mem_singleton.mpr rfl))).2.1
  have I3 := Inv.leave I2 f2 hC hL hLC J' (.refl ..) rv hz
  show wpAny _ X.A (assign (.Name x px) X.env (.ref L)) _ _ s'
  have cL : C ≠ X.env.locals := Ne.symm (Nat.ne_of_lt (Nat.lt_of_lt_of_le I2.lt hC))
  have cc : ∀ y c, X.env.cells.lookup y = some c → c ≠ C := fun y c e => by
    obtain ⟨v, q⟩ := I2.cell y c e
    exact Nat.ne_of_lt (Nat.lt_of_lt_of_le q.lt hC)
  refine wpAny_assign_Name (store_ok2 I3 hN hi' hx (v := .ref L) rfl (fun s4 I4 ⟨a, hsb, ha⟩ => ?_) hf)
  have aC : C ≠ a := by
    rcases ha with rfl | e
    · exact cL
    · exact Ne.symm (cc _ _ e)
  refine ⟨m, hn.sameBut hsb aC, fun h5 hs5 => ⟨_, _, I4.turned (t' := s4.toks) (it := C) (fun b o hb e => (hs5.2 b hb).trans e) (by rw [upd_ne (Ne.symm hLC)]; exact J'.free) cL (.inr (Nat.le_trans I2.sz hC)) cc (fun p hp => ?_), hD L nL⟩⟩
  exact Nat.ne_of_lt (Nat.lt_of_lt_of_le (Heap.lt_size (I2.pin p hp).1) hC)
end
theorem comp_list {K : PySem.W.Frag} {a : Addr} {xs : List V} {g : TG} {tc : TT} {te : TE} {D : List V → Hp → Prop} {σb : St} {H : Hp} (Pv : Nat → List V → Hp → Prop) (h0 : Pv 0 [] H) (hl : ∀ i ys H, i ≤ xs.length → Pv i ys H → SqL K H a xs ∧ ys.length ≤ sizeLine)
    (hs : ∀ i x ys H, xs[i]? = some x → Pv i ys H → g x σb H fun σ2 H2 => tc σ2 H2 fun b H3 => if b = true then te σ2 H3 fun y H4 => Pv (i + 1) (ys ++ [y]) H4 else Pv (i + 1) ys H3) (hd : ∀ ys H, Pv xs.length ys H → D ys H) :
    ∃ W : Nat → Nat → List V → Hp → Prop, (∃ m, W 0 m [] H) ∧ CompW (Itl K a) W D σb g tc te := by
  refine ⟨fun i m ys H => m = xs.length - i ∧ i ≤ xs.length ∧ Pv i ys H, ⟨xs.length, by simp, Nat.zero_le _, h0⟩, ?_⟩
  rintro i m ys H ⟨rfl, hi, p⟩
  obtain ⟨q, hz⟩ := hl i ys H hi p
  refine ⟨hz, ?_⟩
  by_cases hlt : i < xs.length
  · refine .inr ⟨⟨xs, xs[i], q, by simp [hlt]⟩, Pv (i + 1), fun ys' H' p' => ⟨xs.length - (i + 1), by omega, rfl, hlt, p'⟩, fun x H' y => ?_⟩
    obtain ⟨e, y⟩ := y
    subst e
    exact hs i x ys _ (y xs q) p
  · have e : i = xs.length := by omega
    subst e
    exact .inl ⟨⟨xs, q, Nat.le_refl _⟩, hd ys H p⟩
end L3
namespace L3
open PySem PySem.Spec PyProof.Rows L2

structure GlV (mg : Str → Option Value) (x : Str) (v : V) : Prop where
  ex : ∃ u, mg x = some u ∧ RelV v u
theorem pe_g {X : Cx} {x : Str} {v : V} {pos : Pos} (h : GlV X.mg x v) (hg : Gl X x := by rfl) (hd : (x == ("__debug__" : Str)) = false := by decide) : PE X (.Name x pos) (tC v) := by
  obtain ⟨u, m, r⟩ := h.ex
  exact pe_glob hg m r hd
theorem bt_len : bootBuiltins "len" = some (.builtin "len") := by decide +kernel
theorem bt_isinstance : bootBuiltins "isinstance" = some (.builtin "isinstance") := by decide +kernel
theorem bt_max : bootBuiltins "max" = some (.builtin "max") := by decide +kernel
theorem bt_min : bootBuiltins "min" = some (.builtin "min") := by decide +kernel
theorem bt_all : bootBuiltins "all" = some (.builtin "all") := by decide +kernel
theorem bt_any : bootBuiltins "any" = some (.builtin "any") := by decide +kernel
theorem bt_sorted : bootBuiltins "sorted" = some (.builtin "sorted") := by decide +kernel
theorem bt_str : bootBuiltins "str" = some (.type "str") := by decide +kernel
theorem bt_list : bootBuiltins "list" = some (.type "list") := by decide +kernel
theorem bt_tuple : bootBuiltins "tuple" = some (.type "tuple") := by decide +kernel
theorem bt_set : bootBuiltins "set" = some (.type "set") := by decide +kernel
theorem bt_int : bootBuiltins "int" = some (.type "int") := by decide +kernel
theorem bt_bool : bootBuiltins "bool" = some (.type "bool") := by decide +kernel
structure Bt (mg : Str → Option Value) : Prop where
  len : mg "len" = none
  range : mg "range" = none
  isinstance : mg "isinstance" = none
  max : mg "max" = none
  min : mg "min" = none
  all : mg "all" = none
  any : mg "any" = none
  sorted : mg "sorted" = none
  sum : mg "sum" = none
  int_ : mg "int" = none
  bool_ : mg "bool" = none
  str_ : mg "str" = none
  list_ : mg "list" = none
  tuple_ : mg "tuple" = none
  dict_ : mg "dict" = none
  set_ : mg "set" = none
  zip_ : mg "zip" = none
  ValueError_ : mg "ValueError" = none

section
variable {X : Cx}
def CDivB (_ j : Int) : Prop := 0 < j ∧ j < 2 ^ 250
def CMulB (i j : Int) : Prop := (-(2 ^ 250) < i ∧ i < 2 ^ 250) ∧ (-(2 ^ 250) < j ∧ j < 2 ^ 250)
theorem log2_lt {n k : Nat} (h : n < 2 ^ k) (hk : 0 < k) : n.log2 < k := by
  by_cases h0 : n = 0
  · subst h0; simpa using hk
  · exact (Nat.log2_lt h0).mpr h
theorem op_fdivB : OpR X (binaryOp .FloorDiv) (rI CDivB fun i j => .int (i / j)) := opI fun i j t u A s Q hc q => by
  have e : i.fdiv j = i / j := Int.fdiv_eq_ediv_of_nonneg _ (Int.le_of_lt hc.1)
  refine floordiv_int (by have := hc.1; omega) (by rw [e]; exact q) (.inl (PyProof.noPylong_of_log2 ?_))
  refine Nat.lt_of_lt_of_le (log2_lt (k := 250) ?_ (by decide)) (by decide)
  have h1 := hc.1
  have h2 := hc.2
  have e2 : ((2 : Int) ^ 250) = ((2 ^ 250 : Nat) : Int) := by norm_cast
  rw [e2] at h2
  omega
theorem op_mulB : OpR X (binaryOp .Mult) (rI CMulB fun i j => .int (i * j)) := opI fun i j t u A s Q hc q => by
  have bits : ∀ {k : Int}, -(2 ^ 250) < k → k < 2 ^ 250 → Builtin.Int.intBits k ≤ 2 ^ 20 := fun {k} h1 h2 => by
    have e2 : ((2 : Int) ^ 250) = ((2 ^ 250 : Nat) : Int) := by norm_cast
    rw [e2] at h1 h2
    have h3 : k.natAbs < 2 ^ 250 := by omega
    have h4 := log2_lt h3 (by decide)
    unfold Builtin.Int.intBits
    split
    · exact Nat.zero_le _
    · exact Nat.le_trans (Nat.succ_le_succ (Nat.le_of_lt h4)) (by decide)
  exact mul_int q (IntMulOk.of_bits (bits hc.1.1 hc.1.2) (bits hc.2.1 hc.2.2))

theorem strs_of : ∀ {ys : List Str} {us : List Value}, Vals (ys.map V.str) us → StrsAre us ys
  | [], _, .nil => .nil
  | y :: ys, _, .cons r t => by
    obtain ⟨tk, rfl⟩ := r
    exact .cons y tk (strs_of t)
def rIsi (K : PySem.W.Frag) : List V → Hp → VK → Prop := fun xs H Q => ∃ x c t b, xs = [x, c] ∧ TyOf K H x t ∧ ((∃ T, c = .ty T ∧ PySem.W.kitOne K t (.type T) = some b) ∨ ∃ C, c = .ref C ∧ PySem.W.kitOne K t (.ref C) = some b) ∧ Q (.bl b) H
theorem call_isi : CallR X (.builtin "isinstance") (rIsi X.K) := by
  intro pins s σ H xs us Q I r h
  obtain ⟨x, c, t, b, rfl, ty, e, q⟩ := h
  obtain ⟨u, w', rfl, rx, rc⟩ := vals2 r
  rcases e with ⟨T, rfl, e⟩ | ⟨C, rfl, e⟩
  · cases (show w' = Value.type T from rc)
    exact isinst_ok I rx ty e fun tk => ⟨.bl b, H, I.tok _, rfl, q⟩
  · cases (show w' = Value.ref C from rc)
    exact isinst_ok I rx ty e fun tk => ⟨.bl b, H, I.tok _, rfl, q⟩
theorem pe_isi {e : Expr} {te : TE} {c : Str} {T : String} {p p' pos : Pos} (hm : X.mg "isinstance" = none) (hc : X.mg c = none) (hv : bootBuiltins c = some (.type T)) (he : PE X e te) (hg : Gl X "isinstance" := by rfl) (hg' : Gl X c := by rfl) (hn : c ≠ "__name__" := by decide) (hd : (c == ("__debug__" : Str)) = false := by decide)
    (hs : starEach [e, .Name c p'] X.env = (false, eval e X.env) :: starEach [.Name c p'] X.env := by rfl) (hs2 : starEach [.Name c p'] X.env = (false, eval (.Name c p') X.env) :: starEach [] X.env := by rfl) (hpl : (backTo pos (starEach [.Name c p'] X.env)).any (·.1) = false := by rfl) :
    PE X (.Call (.Name "isinstance" p) [e, .Name c p'] [] pos) (tCB (rIsi X.K) (tCons te (tCons (tC (.ty T)) tNil))) :=
  pe_callB call_isi hg hm bt_isinstance (pa_cons he (pa_cons (pe_bltn hg' hc hv rfl hn hd) pa_nil hs2) hs) (by decide) (by decide) hs hpl
end

def blkOk (names : List (Str × NameKind)) (N : List Str) (scope : Scope) (own : List Str) (cap : List Nat) : Bool :=
  scope.names.all (fun y => y.2 != .cell && (y.2 != .local || scope.names.lookup y.1 == some .local) && (y.2 != .free || names.lookup y.1 == some .cell)) &&
  decide (blkN N own cap).Nodup &&
  cap.all (fun j => match N[j]? with | some x => scope.names.any (fun y => y.1 == x && y.2 == .free) && scope.names.lookup x == some .free | none => false)
theorem blk_of {X : Cx} {scope : Scope} {own : List Str} {cap : List Nat} (names : List (Str × NameKind)) (N : List Str) (hn : X.env.scope.names = names) (hN : X.N = N) (hk : scope.kind = .function) (h : blkOk names N scope own cap = true) : Blk X scope own cap := by
  unfold blkOk at h
  simp only [Bool.and_eq_true, List.all_eq_true, decide_eq_true_eq] at h
  obtain ⟨⟨h1, h2⟩, h3⟩ := h
  refine ⟨hk, fun y hy e => ?_, fun y hy e => ?_, fun y hy e => ?_, by rw [hN]; exact h2, fun j hj => ?_⟩
  · have := (h1 y hy).1.1
    rw [e] at this; exact absurd this (by decide)
  · have := (h1 y hy).1.2
    rw [e] at this; simpa using this
  · have := (h1 y hy).2
    rw [e] at this
    show X.env.scope.names.lookup y.1 = some .cell
    rw [hn]
    simpa using this
  · have := h3 j hj
    rw [hN]
    split at this
    · rename_i x e
      simp only [Bool.and_eq_true, List.any_eq_true, beq_iff_eq] at this
      obtain ⟨⟨y, hy, e1, e2⟩, e3⟩ := this
      obtain ⟨y1, y2⟩ := y
      dsimp only at e1 e2
      subst e1 e2
      exact ⟨_, e, hy, e3⟩
    · cases this
structure Mak (P : Program) (w : World) (K : PySem.W.Frag) (mg : Str → Option Value) (base : Heap) (CX : CXT) (x : Str) (C : Addr) (k : Nat) (ps : List Str) (sp : Sp) : Prop where
  ex : ∃ f fd, Mk K C f ∧ FnOk P w K mg base CX k f fd ps sp ∧ Binds K fd ps [] ∧ mg x = some (.ref C)
structure CDat (K : PySem.W.Frag) (mg : Str → Option Value) (x qual : Str) (C : Addr) (st : Stmt) (ps : List Str) : Prop where
  ex : ∃ f fd, Fun K "__init__" qual st f fd ∧ Binds K fd ps [] ∧ mg x = some (.ref C) ∧ Mk K C f ∧ Cls K C
structure MDat (K : PySem.W.Frag) (C : Addr) (x qual : Str) (st : Stmt) (ps : List Str) : Prop where
  ex : ∃ f fd, Fun K x qual st f fd ∧ Binds K fd ps [] ∧ Meth K C x f ∧ Cls K C
section
variable {P : Program} {w : World} {K : PySem.W.Frag} {mg : Str → Option Value} {base : Heap} {CX : CXT} {x qual : Str} {C : Addr} {st : Stmt} {N ps : List Str} {k j : Nat} {sp sp' : Sp}
theorem CDat.ok (D : CDat K mg x qual C st ps) (S : FnScope N ps (defScope st)) (len : ∀ vs H Q E, sp vs H Q E → vs.length = ps.length)
    (hbody : ∀ (f : Addr) (cdv : Value) (A : Around) (outer : List Env) (s : Shared) (H : Hp) (vs : List V) (Q : VK) (E : XK), Room k (A.deeper (envOfC qual (defScope st) s.heap.objs.size f cdv)) → sp vs H Q E →
      ∃ t, PSs (cxOf CX P w K mg base N qual (defScope st) f cdv A outer s H E).nox (defBody st) t ∧ t { nx := fun _ H' => Q .non H', rt := Q } (start N vs) H) : Mak P w K mg base CX x C (k + 1) ps sp := by
  obtain ⟨f, fd, F, b, m, M, _⟩ := D.ex
  exact ⟨f, fd, M, fun_ok F S len hbody, b, m⟩
theorem CDat.cls (D : CDat K mg x qual C st ps) : Cls K C := D.ex.elim fun _ h => h.elim fun _ h => h.2.2.2.2
theorem cdat_mk {h : Heap} (X : K.In h) (G : h.Ns mainGlobals mg) {f : Addr} {oc : Value} {od an : Option Addr} {osl : Array (Option Value)} {kV doc pm cdv ct : Value} (aC : PySem.W.nsIn K mainGlobals x = some (some (.ref C)))
    (a : PySem.W.findIn K (.ref C) "__init__" = some (some (.ref f))) (i : PySem.W.isFn K (.ref f) = true)
    (l : K.lookup f = some ⟨oc, od, .func (PySem.W.fnOf "__init__" qual (defArgs st) (defBody st) (defScope st) .none kV doc pm an cdv ct), osl⟩) (c : PySem.W.codeIn K cdv qual = true) (kp : PySem.W.keepIn K (.ref f) = true)
    (pg : PySem.W.plainGet K C Str.empty = true) (hd : PySem.W.hasDictIn K C = true) (po : PySem.W.plainOver K C = true) (sa : PySem.W.findIn K (.ref C) "__setattr__" = some (some (.builtin "object.__setattr__"))) (mk : PySem.W.makesIn K C = true) (kc : PySem.W.keepIn K (.ref C) = true)
    (b : ∀ (kV doc pm : Value) (an : Option Addr) (cdv ct : Value) (us : List Value), us.length = ps.length → bindArgs (PySem.W.fnOf "__init__" qual (defArgs st) (defBody st) (defScope st) .none kV doc pm an cdv ct) ⟨us, []⟩ = pure (ps.zip us)) : CDat K mg x qual C st ps := by
  have F := fun_mk (st := st) l c kp
  exact ⟨f, _, F, F.binds b, PySem.W.mg_of X G aC, ⟨mk, a, i, kc⟩, ⟨pg, hd, po, sa⟩⟩
end
section
variable {X : Cx} {CX : CXT} {k : Nat} {ps : List Str} {sp : Sp} {E : XK} {x : Str} {C : Addr} {p pos : Pos} {e : Expr} {es : List Expr} {t : TA}
theorem pe_mk (M : Mak X.prog X.w X.K X.mg X.base CX x C k ps sp) (hr : Room (k + 1) X.A) (hx : Passes CX X E) (ha : PA X (e :: es) t) (hg : Gl X x := by rfl)
    (hdb : (x == ("__debug__" : Str)) = false := by decide) (he : starEach (e :: es) X.env = (false, eval e X.env) :: starEach es X.env := by rfl) (hpl : (backTo pos (starEach es X.env)).any (·.1) = false := by rfl) :
    PE X (.Call (.Name x p) (e :: es) [] pos) (tMake C sp [] E t) := by
  obtain ⟨f, fd, m, F, b, g⟩ := M.ex
  exact pe_make m F hr hg g b .nil hx ha hdb he hpl
end
end L3
namespace L4
open PySem PySem.Spec PyProof.Rows L2 L3

def TSame (H H' : Hp) : Prop := ∀ q xs, H q = some (.tup xs) → H' q = some (.tup xs)
theorem TSame.refl (H : Hp) : TSame H H := fun _ _ h => h
theorem TSame.trans {H H1 H2 : Hp} (a : TSame H H1) (b : TSame H1 H2) : TSame H H2 := fun q xs h => b q xs (a q xs h)
theorem ts_of_same {H H' : Hp} (s : Same H H') : TSame H H' := fun q _ h => s q _ h
theorem ts_upd {H : Hp} {p : Addr} {o u : HO} (h : H p = some u) (n : ∀ xs, u ≠ .tup xs) : TSame H (upd H p o) := fun q xs e => by
  have : q ≠ p := fun z => by subst z; rw [h] at e; exact n xs (Option.some.inj e)
  rw [upd_ne this]; exact e
structure Ob where
  p : Hp → HO → Prop
  mono : ∀ {H H' : Hp} {o : HO}, TSame H H' → p H o → p H' o
def Eo (o : HO) : Ob := ⟨fun _ u => u = o, fun _ h => h⟩
structure Pr where
  p : Hp → Prop
  mono : ∀ {H H' : Hp}, TSame H H' → p H → p H'
def tupAt (r : Addr) (xs : List V) : Pr := ⟨fun H => H r = some (.tup xs), fun t h => t _ _ h⟩

structure Led (P : Addr → Prop) (H0 H : Hp) (l : List (Addr × Ob)) (fs : List Pr) : Prop where
  at_ : ∀ x ∈ l, ∃ o, H x.1 = some o ∧ x.2.p H o
  nd : (l.map (·.1)).Nodup
  own : ∀ x ∈ l, P x.1 ∨ H0 x.1 = none
  fr : ∀ q o, H0 q = some o → ¬ P q → H q = some o
  st : ∀ f ∈ fs, f.p H
inductive Put (p : Addr) (a b : Ob) : List (Addr × Ob) → List (Addr × Ob) → Prop
  | head {l} : Put p a b ((p, a) :: l) ((p, b) :: l)
  | tail {x l l'} : Put p a b l l' → Put p a b (x :: l) (x :: l')
section
variable {P : Addr → Prop} {H0 H H' : Hp} {l l' : List (Addr × Ob)} {fs : List Pr} {p : Addr} {a b : Ob} {o : HO}
theorem Put.mem (h : Put p a b l l') : (p, a) ∈ l := by
  induction h with
  | head => exact List.mem_cons_self
  | tail _ ih => exact List.mem_cons_of_mem _ ih
theorem Put.keys (h : Put p a b l l') : l'.map (·.1) = l.map (·.1) := by
  induction h with
  | head => rfl
  | tail _ ih => rw [List.map_cons, List.map_cons, ih]
theorem Put.or (h : Put p a b l l') : ∀ x ∈ l', x = (p, b) ∨ x ∈ l := by
  induction h with
  | head =>
    intro x hx
    rcases List.mem_cons.mp hx with e | e
    · exact .inl e
    · exact .inr (List.mem_cons_of_mem _ e)
  | tail _ ih =>
    intro x hx
    rcases List.mem_cons.mp hx with e | e
    · exact .inr (by rw [e]; exact List.mem_cons_self)
    · exact (ih x e).imp_right (List.mem_cons_of_mem _)
theorem nd_one : ∀ {l : List (Addr × Ob)}, (l.map (·.1)).Nodup → ∀ {x y}, x ∈ l → y ∈ l → x.1 = y.1 → x = y
  | [], _, _, _, hx, _, _ => by simp at hx
  | z :: l, hn, x, y, hx, hy, e => by
    rw [List.map_cons, List.nodup_cons] at hn
    rcases List.mem_cons.mp hx with e1 | h1
    · rcases List.mem_cons.mp hy with e2 | h2
      · rw [e1, e2]
      · exact absurd (show z.1 ∈ l.map (·.1) from List.mem_map.mpr ⟨y, h2, by rw [← e1]; exact e.symm⟩) hn.1
    · rcases List.mem_cons.mp hy with e2 | h2
      · exact absurd (show z.1 ∈ l.map (·.1) from List.mem_map.mpr ⟨x, h1, by rw [← e2]; exact e⟩) hn.1
      · exact nd_one hn.2 h1 h2 e
theorem Put.or' (h : Put p a b l l') (nd : (l.map (·.1)).Nodup) : ∀ x ∈ l', x = (p, b) ∨ (x ∈ l ∧ x.1 ≠ p) := by
  intro x hx
  have nd' : (l'.map (·.1)).Nodup := by rw [h.keys]; exact nd
  have hb : (p, b) ∈ l' := by
    clear nd nd' hx
    induction h with
    | head => exact List.mem_cons_self
    | tail _ ih => exact List.mem_cons_of_mem _ ih
  by_cases e : x.1 = p
  · exact .inl (nd_one nd' hx hb e)
  · rcases h.or x hx with z | z
    · exact .inl z
    · exact .inr ⟨z, e⟩
theorem Led.get (L : Led P H0 H l fs) (m : Put p a a l l') : ∃ o, H p = some o ∧ a.p H o := L.at_ _ m.mem
theorem Led.eo (L : Led P H0 H l fs) (m : Put p (Eo o) (Eo o) l l') : H p = some o := by
  obtain ⟨u, e, h⟩ := L.get m
  have : u = o := h
  rw [← this]; exact e
theorem Led.tup (L : Led P H0 H l fs) {r : Addr} {xs : List V} (m : tupAt r xs ∈ fs) : H r = some (.tup xs) := L.st _ m
theorem Led.more (L : Led P H0 H l fs) (f : Pr) (h : f.p H) : Led P H0 H l (f :: fs) :=
  ⟨L.at_, L.nd, L.own, L.fr, fun g hg => (List.mem_cons.mp hg).elim (fun e => e ▸ h) (L.st g)⟩
theorem Led.start (H : Hp) (P : Addr → Prop) : Led P H H [] [] := ⟨fun _ h => by simp at h, List.nodup_nil, fun _ h => by simp at h, fun _ _ h _ => h, fun _ h => by simp at h⟩
theorem Led.same (L : Led (fun _ => False) H0 H l fs) : Same H0 H := fun q o h => L.fr q o h id
theorem Led.keep (L : Led P H0 H l fs) (s : Same H H') : Led P H0 H' l fs :=
  ⟨fun x hx => let ⟨o, e, h⟩ := L.at_ x hx; ⟨o, s _ _ e, x.2.mono (ts_of_same s) h⟩, L.nd, L.own, fun q o h n => s _ _ (L.fr q o h n), fun f hf => f.mono (ts_of_same s) (L.st f hf)⟩
theorem Led.fresh (L : Led P H0 H l fs) (h : H p = none) : (∀ x ∈ l, x.1 ≠ p) ∧ (P p ∨ H0 p = none) := by
  refine ⟨fun x hx e => ?_, ?_⟩
  · obtain ⟨o, q, _⟩ := L.at_ x hx
    rw [e, h] at q; cases q
  · by_cases hp : P p
    · exact .inl hp
    · cases q : H0 p with
      | none => exact .inr rfl
      | some o => rw [L.fr p o q hp] at h; cases h
theorem same_upd0 (h : H p = none) : Same H (upd H p o) := fun b u q => by rw [upd_ne (ne_of_none q h)]; exact q
theorem Led.newT (L : Led P H0 H l fs) {xs : List V} (h : H p = none) : Led P H0 (upd H p (.tup xs)) l (tupAt p xs :: fs) := (L.keep (same_upd0 h)).more _ upd_same
theorem Led.newO (L : Led P H0 H l fs) (h : H p = none) (ho : a.p (upd H p o) o) : Led P H0 (upd H p o) ((p, a) :: l) fs := by
  have K := L.keep (same_upd0 (o := o) h)
  obtain ⟨f1, f2⟩ := L.fresh h
  refine ⟨fun x hx => ?_, ?_, fun x hx => ?_, K.fr, K.st⟩
  · rcases List.mem_cons.mp hx with rfl | hx
    · exact ⟨o, upd_same, ho⟩
    · exact K.at_ x hx
  · rw [List.map_cons, List.nodup_cons]
    refine ⟨fun z => ?_, L.nd⟩
    obtain ⟨x, hx, e⟩ := List.mem_map.mp z
    exact f1 x hx e
  · rcases List.mem_cons.mp hx with rfl | hx
    · exact f2
    · exact L.own x hx
structure Chg (p : Addr) (H H' : Hp) : Prop where
  oth : ∀ q o, H q = some o → q ≠ p → H' q = some o
  ts : TSame H H'
theorem Chg.upd {u : HO} (h : H p = some u) (n : ∀ xs, u ≠ .tup xs) : Chg p H (upd H p o) := ⟨fun q o e z => by rw [upd_ne z]; exact e, ts_upd h n⟩
theorem Chg.trans {H1 : Hp} (x : Chg p H H1) (y : Chg p H1 H') : Chg p H H' := ⟨fun q o e n => y.oth q o (x.oth q o e n) n, x.ts.trans y.ts⟩
theorem Led.set (L : Led P H0 H l fs) (m : Put p a b l l') (c : Chg p H H') (ho : ∃ o, H' p = some o ∧ b.p H' o) : Led P H0 H' l' fs := by
  have own := L.own _ m.mem
  refine ⟨fun x hx => ?_, by rw [m.keys]; exact L.nd, fun x hx => ?_, fun q o h n => ?_, fun f hf => f.mono c.ts (L.st f hf)⟩
  · rcases m.or' L.nd x hx with rfl | ⟨hx, n⟩
    · exact ho
    · obtain ⟨u, e, h⟩ := L.at_ x hx
      exact ⟨u, c.oth _ _ e n, x.2.mono c.ts h⟩
  · rcases m.or x hx with rfl | hx
    · exact own
    · exact L.own x hx
  · have : q ≠ p := fun z => by
      subst z
      rcases own with h1 | h1
      · exact n h1
      · rw [h] at h1; cases h1
    exact c.oth _ _ (L.fr q o h n) this
theorem Chg.refl (p : Addr) (H : Hp) : Chg p H H := ⟨fun _ _ h _ => h, TSame.refl H⟩
theorem Led.weak (L : Led P H0 H l fs) (m : Put p a b l l') (h : ∀ o, H p = some o → a.p H o → b.p H o) : Led P H0 H l' fs := by
  obtain ⟨o, e, q⟩ := L.at_ _ m.mem
  exact L.set m (Chg.refl p H) ⟨o, e, h o e q⟩
theorem Led.add (L : Led P H0 H l fs) (s : Same H H') (n : H p = none) (ho : ∃ o, H' p = some o ∧ a.p H' o) : Led P H0 H' ((p, a) :: l) fs := by
  have K := L.keep s
  obtain ⟨f1, f2⟩ := L.fresh n
  refine ⟨fun x hx => ?_, ?_, fun x hx => ?_, K.fr, K.st⟩
  · rcases List.mem_cons.mp hx with rfl | hx
    · exact ho
    · exact K.at_ x hx
  · rw [List.map_cons, List.nodup_cons]
    refine ⟨fun z => ?_, L.nd⟩
    obtain ⟨x, hx, e⟩ := List.mem_map.mp z
    exact f1 x hx e
  · rcases List.mem_cons.mp hx with rfl | hx
    · exact f2
    · exact L.own x hx
theorem Led.chg (L : Led (· = p) H0 H l fs) (n : ∀ xs, H0 p ≠ some (.tup xs)) : Chg p H0 H := ⟨L.fr, fun q xs h => L.fr q _ h fun z => n xs (z ▸ h)⟩
end
end L4
namespace L4
open PySem PySem.Spec PyProof.Rows L2 L3
abbrev St := L2.St

def rAddS : R2 := fun x y H Q => ∃ i j : Str, x = .str i ∧ y = .str j ∧ i.length + j.length ≤ sizeLine ∧ Q (.str (i ++ j)) H
abbrev RL := List V → Hp → VK → Prop
def rMax : RL := fun xs H Q => ∃ i j, xs = [.int i, .int j] ∧ Q (.int (if j > i then j else i)) H
def rMin : RL := fun xs H Q => ∃ i j, xs = [.int i, .int j] ∧ Q (.int (if j < i then j else i)) H
def rLen (K : PySem.W.Frag) : RL := fun xs H Q => ∃ p ys, xs = [.ref p] ∧ (SqL K H p ys ∨ SqT K H p ys) ∧ Q (.int ys.length) H
def rListOf (K : PySem.W.Frag) : RL := fun xs H Q => ∃ p ys, xs = [.ref p] ∧ (SqL K H p ys ∨ SqT K H p ys) ∧ ∀ l, H l = none → Q (.ref l) (upd H l (.lst ys))
def rTupOf (K : PySem.W.Frag) : RL := fun xs H Q => ∃ p ys, xs = [.ref p] ∧ ((SqL K H p ys ∧ ∀ l, H l = none → Q (.ref l) (upd H l (.tup ys))) ∨ (SqT K H p ys ∧ Q (.ref p) H))
section
variable {X : Cx}
theorem o_addS : OpR X (binaryOp .Add) rAddS := op_add_str
theorem c_max (hc : X.calm = true) : CallR X (.builtin "max") rMax := call_max2 hc
theorem c_min (hc : X.calm = true) : CallR X (.builtin "min") rMin := call_min2 hc
theorem c_len : CallR X (.builtin "len") (rLen X.K) := call_len_seq
theorem c_listOf : CallR X (.type "list") (rListOf X.K) := call_list_of
theorem c_tupOf : CallR X (.type "tuple") (rTupOf X.K) := call_tuple_of
end
def NewT (xs : List V) (H : Hp) (Q : VK) : Prop := xs.length ≤ sizeLine ∧ ∀ p, H p = none → Q (.ref p) (upd H p (.tup xs))
def NewL (xs : List V) (H : Hp) (Q : VK) : Prop := xs.length ≤ sizeLine ∧ ∀ p, H p = none → Q (.ref p) (upd H p (.lst xs))
def IsB (x : V) (H : Hp) (Q : Bool → Hp → Prop) : Prop := ∃ k, x = .bl k ∧ Q k H
def Fld (K : PySem.W.Frag) (f : Str) (x : V) (H : Hp) (Q : VK) : Prop := ∃ a C dx fs v, x = .ref a ∧ H a = some (.ins C dx fs) ∧ Cls K C ∧ NoAttr K C f ∧ fs.lookup f = some v ∧ Q v H
section
variable {K : PySem.W.Frag} {σ : St} {H : Hp} {Q : VK} {D : Ends} {t u : TS} {ta tb te : TE} {tt tt' : TT} {tl : TA} {v x y : V} {i : Nat} {B : Bool → Hp → Prop}
-- statements
theorem g_seq (h : t { D with nx := u D } σ H) : tSeq t u D σ H := h
theorem g_next (h : D.nx σ H) : tNext D σ H := h
theorem g_asg {g : TG} (h : te σ H fun x H1 => g x σ H1 D.nx) : tAsg te g D σ H := h
theorem g_drop (h : te σ H fun _ H1 => D.nx σ H1) : tDrop te D σ H := h
theorem g_ret (h : te σ H D.rt) : tRet te D σ H := h
theorem g_if (h : tt σ H fun b H1 => if b = true then t D σ H1 else u D σ H1) : tIfS tt t u D σ H := h
-- expressions
theorem g_var (e : σ[i]? = some (some v)) (h : Q v H) : tVar i σ H Q := ⟨v, e, h⟩
theorem g_c (h : Q v H) : tC v σ H Q := h
theorem g_op {r : R2} (h : ta σ H fun x H1 => tb σ H1 fun y H2 => r x y H2 Q) : tOp r ta tb σ H Q := h
theorem g_un {r : V → Hp → VK → Prop} (h : ta σ H fun x H1 => r x H1 Q) : tUn r ta σ H Q := h
theorem g_ifE (h : tt σ H fun c H1 => if c = true then ta σ H1 Q else tb σ H1 Q) : tIf tt ta tb σ H Q := h
theorem g_andV (h : ta σ H fun x H1 => IsB x H1 fun c H1 => if c = true then tb σ H1 Q else Q (.bl false) H1) : tAndV ta tb σ H Q := h
theorem g_orV (h : ta σ H fun x H1 => IsB x H1 fun c H1 => if c = true then Q (.bl true) H1 else tb σ H1 Q) : tOrV ta tb σ H Q := h
theorem g_notV (h : ta σ H fun x H1 => IsB x H1 fun c H1 => Q (.bl (!c)) H1) : tNotV ta σ H Q := h
theorem g_isN (h : ta σ H fun x H1 => Q (.bl (decide (x = .non))) H1) : tIsN ta σ H Q := h
theorem g_notN (h : ta σ H fun x H1 => Q (.bl (!decide (x = .non))) H1) : tNotN ta σ H Q := h
theorem g_tup (h : tl σ H fun xs H1 => NewT xs H1 Q) : tTup tl σ H Q := h
theorem g_lst (h : tl σ H fun xs H1 => NewL xs H1 Q) : tLst tl σ H Q := h
theorem g_nil {W : List V → Hp → Prop} (h : W [] H) : tNil σ H W := h
theorem g_cons {W : List V → Hp → Prop} (h : te σ H fun x H1 => tl σ H1 fun xs H2 => W (x :: xs) H2) : tCons te tl σ H W := h
theorem g_cb {r : List V → Hp → VK → Prop} (h : tl σ H fun vs H1 => r vs H1 Q) : tCB r tl σ H Q := h
theorem g_call {sp : Sp} {E : XK} (h : tl σ H fun vs H1 => sp vs H1 Q E) : tCall sp [] E tl σ H Q := by
  have e : (fun (vs : List V) H1 => sp (vs ++ []) H1 Q E) = fun vs H1 => sp vs H1 Q E := by funext vs H1; rw [List.append_nil]
  show tl σ H (fun vs H1 => sp (vs ++ []) H1 Q E)
  rw [e]; exact h
def Made (C : Addr) (sp : Sp) (E : XK) (vs : List V) (H : Hp) (Q : VK) : Prop := ∀ x dx, H x = none → H dx = none → dx ≠ x → sp (.ref x :: vs) (upd (upd H dx (.own x)) x (.ins C dx [])) (fun v H2 => v = .non ∧ Q (.ref x) H2) E
theorem g_make {C : Addr} {sp : Sp} {E : XK} (h : tl σ H fun vs H1 => Made C sp E vs H1 Q) : tMake C sp [] E tl σ H Q := by
  have e : (fun (vs : List V) H1 => ∀ x dx, H1 x = none → H1 dx = none → dx ≠ x → sp (.ref x :: (vs ++ [])) (upd (upd H1 dx (.own x)) x (.ins C dx [])) (fun v H2 => v = .non ∧ Q (.ref x) H2) E) = fun vs H1 => Made C sp E vs H1 Q := by
    funext vs H1; rw [List.append_nil]; rfl
  show tl σ H (fun vs H1 => ∀ x dx, H1 x = none → H1 dx = none → dx ≠ x → sp (.ref x :: (vs ++ [])) (upd (upd H1 dx (.own x)) x (.ins C dx [])) (fun v H2 => v = .non ∧ Q (.ref x) H2) E)
  rw [e]; exact h
def SFld (K : PySem.W.Frag) (f : Str) (y x : V) (H : Hp) (R : Hp → Prop) : Prop := ∃ a C dx fs, x = .ref a ∧ H a = some (.ins C dx fs) ∧ Cls K C ∧ NoAttr K C f ∧ fs.length < 1000 ∧ R (upd H a (.ins C dx (putF f y fs)))
theorem g_sfld {f : Str} (h : tb σ H fun y H1 => ta σ H1 fun x H2 => SFld K f y x H2 fun H3 => D.nx σ H3) : sFld K ta tb f D σ H := h
theorem g_fld {f : Str} (h : ta σ H fun x H1 => Fld K f x H1 Q) : tFld K ta f σ H Q := h
theorem g_bm {T : String} {r : V → List V → Hp → VK → Prop} (h : ta σ H fun x H1 => tyV K T x H1 ∧ tl σ H1 fun xs H2 => r x xs H2 Q) : tBM K T r ta tl σ H Q := h
theorem g_sl {r : V → Option Int → Option Int → Hp → VK → Prop} {a b : TO} (h : te σ H fun x H1 => a σ H1 fun l H2 => b σ H2 fun u H3 => r x l u H3 Q) : tSl r te a b σ H Q := h
theorem g_noPart {W : Option Int → Hp → Prop} (h : W none H) : tNoPart σ H W := h
def Prt (x : V) (H : Hp) (W : Option Int → Hp → Prop) : Prop := ∃ i, x = .int i ∧ W (some i) H
theorem g_part {W : Option Int → Hp → Prop} (h : te σ H fun x H1 => Prt x H1 W) : tPart te σ H W := h
-- tests
theorem g_b (h : te σ H fun x H1 => IsB x H1 B) : tB te σ H B := h
theorem g_test (h : te σ H fun x H1 => IsB x H1 B) : tTest te σ H B := h
theorem g_and (h : tt σ H fun c H1 => if c = true then tt' σ H1 B else B false H1) : tAnd tt tt' σ H B := h
theorem g_or (h : tt σ H fun c H1 => if c = true then B true H1 else tt' σ H1 B) : tOr tt tt' σ H B := h
theorem g_not (h : tt σ H fun c H1 => B (!c) H1) : tNot tt σ H B := h
theorem g_isB {k : Bool} (h : B k H) : IsB (.bl k) H B := ⟨k, rfl, h⟩
-- values
theorem g_rI0 {g : Int → Int → V} {i j : Int} (h : Q (g i j) H) : rI0 g (.int i) (.int j) H Q := ⟨i, j, rfl, rfl, h⟩
theorem g_rI {C : Int → Int → Prop} {g : Int → Int → V} {i j : Int} (c : C i j) (h : Q (g i j) H) : rI C g (.int i) (.int j) H Q := ⟨i, j, rfl, rfl, c, h⟩
theorem g_rU {g : Int → V} {i : Int} (h : Q (g i) H) : rU g (.int i) H Q := ⟨i, rfl, h⟩
theorem g_eqI {i j : Int} (h : Q (.bl (decide (i = j))) H) : rEq (.int i) (.int j) H Q := ⟨rfl, by
  have e : decide (V.int i = V.int j) = decide (i = j) := by
    by_cases z : i = j
    · subst z; simp
    · rw [decide_eq_false z, decide_eq_false fun w => z (V.int.inj w)]
  rw [e]; exact h⟩
theorem g_neI {i j : Int} (h : Q (.bl (!decide (i = j))) H) : rNe (.int i) (.int j) H Q := ⟨rfl, by
  have e : decide (V.int i = V.int j) = decide (i = j) := by
    by_cases z : i = j
    · subst z; simp
    · rw [decide_eq_false z, decide_eq_false fun w => z (V.int.inj w)]
  rw [e]; exact h⟩
-- branches
theorem g_ifT {A B : Prop} (h : A) : if true = true then A else B := by rw [if_pos rfl]; exact h
theorem g_ifF {A B : Prop} (h : B) : if false = true then A else B := by rw [if_neg Bool.false_ne_true]; exact h
theorem g_ifD {p A B : Prop} [Decidable p] (h1 : p → A) (h2 : ¬ p → B) : if decide p = true then A else B := by
  by_cases h : p
  · rw [if_pos (decide_eq_true h)]; exact h1 h
  · rw [if_neg (by rw [decide_eq_false h]; exact Bool.false_ne_true)]; exact h2 h
theorem g_ifDT {p A B : Prop} [Decidable p] (h : p) (a : A) : if decide p = true then A else B := by rw [if_pos (decide_eq_true h)]; exact a
theorem g_ifDF {p A B : Prop} [Decidable p] (h : ¬ p) (b : B) : if decide p = true then A else B := by rw [if_neg (by rw [decide_eq_false h]; exact Bool.false_ne_true)]; exact b
theorem g_ifN {p A B : Prop} [Decidable p] (h1 : p → B) (h2 : ¬ p → A) : if (!decide p) = true then A else B := by
  by_cases h : p
  · rw [if_neg (by rw [decide_eq_true h]; exact Bool.false_ne_true)]; exact h1 h
  · rw [if_pos (by rw [decide_eq_false h]; rfl)]; exact h2 h
theorem g_ifNF {p A B : Prop} [Decidable p] (h : p) (b : B) : if (!decide p) = true then A else B := by rw [if_neg (by rw [decide_eq_true h]; exact Bool.false_ne_true)]; exact b
theorem g_ifB {b : Bool} {A B : Prop} (h1 : b = true → A) (h2 : b = false → B) : if b = true then A else B := by
  cases b with
  | true => rw [if_pos rfl]; exact h1 rfl
  | false => rw [if_neg Bool.false_ne_true]; exact h2 rfl
theorem g_ifNB {b : Bool} {A B : Prop} (h1 : b = true → B) (h2 : b = false → A) : if (!b) = true then A else B := by
  cases b with
  | true => exact g_ifF (h1 rfl)
  | false => exact g_ifT (h2 rfl)
theorem g_ifNbT {A B : Prop} (h : B) : if (!true) = true then A else B := g_ifF h
-- sizes of things, text
theorem g_part1 {W : Option Int → Hp → Prop} {j : Int} (h : W (some j) H) : Prt (.int j) H W := ⟨j, rfl, h⟩
end
theorem lk_hit {f : Str} {v : V} {r : List (Str × V)} : List.lookup f ((f, v) :: r) = some v := by simp
theorem lk_miss {f g : Str} {v : V} {r : List (Str × V)} (h : (f == g) = false) : List.lookup f ((g, v) :: r) = List.lookup f r := by simp only [List.lookup_cons, h]
section
variable {K : PySem.W.Frag} {P : Addr → Prop} {H0 H H' : Hp} {l l' : List (Addr × Ob)} {fs : List Pr} {p : Addr} {a b : Ob} {o : HO} {Q : VK} {xs : List V} {v : V} {i : Int}
-- what the ledger knows
theorem g_newT (L : Led P H0 H l fs) (hz : xs.length ≤ sizeLine) (h : ∀ p H', H p = none → Led P H0 H' l (tupAt p xs :: fs) → Same H H' → Q (.ref p) H') : NewT xs H Q :=
  ⟨hz, fun p hp => h p _ hp (L.newT hp) (same_upd0 hp)⟩
theorem g_newL (L : Led P H0 H l fs) (hz : xs.length ≤ sizeLine) (h : ∀ p H', H p = none → Led P H0 H' ((p, Eo (.lst xs)) :: l) fs → Same H H' → Q (.ref p) H') : NewL xs H Q :=
  ⟨hz, fun p hp => h p _ hp (L.newO hp rfl) (same_upd0 hp)⟩
theorem g_ixL (L : Led P H0 H l fs) (m : Put p (Eo (.lst xs)) (Eo (.lst xs)) l l') (e : atI xs i = some v) (h : Q v H) : rIxL K (.ref p) (.int i) H Q := ⟨p, xs, i, v, rfl, rfl, SqL.of (L.eo m), e, h⟩
theorem g_ixT (L : Led P H0 H l fs) (m : tupAt p xs ∈ fs) (e : atI xs i = some v) (h : Q v H) : rIxT K (.ref p) (.int i) H Q := ⟨p, xs, i, v, rfl, rfl, SqT.of (L.tup m), e, h⟩
theorem g_ixSq (hs : SqL K H p xs) (e : atI xs i = some v) (h : Q v H) : rIxL K (.ref p) (.int i) H Q := ⟨p, xs, i, v, rfl, rfl, hs, e, h⟩
theorem g_set {R : Hp → Prop} {j : Nat} (L : Led P H0 H l fs) (m : Put p (Eo (.lst xs)) (Eo (.lst (xs.set j v))) l l') (e : ixN xs.length i = some j) (h : ∀ H', Led P H0 H' l' fs → Chg p H H' → R H') : rSetL (.ref p) (.int i) v H R := by
  obtain ⟨o, ho, hp⟩ := L.at_ _ m.mem
  have hp' : o = .lst xs := hp
  subst hp'
  have c : Chg p H (upd H p (.lst (xs.set j v))) := Chg.upd ho fun _ z => by cases z
  exact ⟨p, xs, i, j, rfl, rfl, ho, e, h _ (L.set m c ⟨_, upd_same, rfl⟩) c⟩
theorem g_append (L : Led P H0 H l fs) (m : Put p (Eo (.lst xs)) (Eo (.lst (xs ++ [v]))) l l') (hz : xs.length < sizeLine) (h : ∀ H', Led P H0 H' l' fs → Chg p H H' → Q .non H') : rAppend (.ref p) [v] H Q := by
  obtain ⟨o, ho, hp⟩ := L.at_ _ m.mem
  have hp' : o = .lst xs := hp
  subst hp'
  have c : Chg p H (upd H p (.lst (xs ++ [v]))) := Chg.upd ho fun _ z => by cases z
  exact ⟨p, xs, v, rfl, rfl, ho, hz, h _ (L.set m c ⟨_, upd_same, rfl⟩) c⟩
theorem g_tyL {R : Prop} (hs : SqL K H p xs) (h : R) : tyV K "list" (.ref p) H ∧ R := ⟨.inl ⟨rfl, _, hs⟩, h⟩
theorem g_gTup {n : Nat} {t : TGs} {σ : St} {R : St → Hp → Prop} (L : Led P H0 H l fs) (m : tupAt p xs ∈ fs) (e : xs.length = n) (h : t xs σ H R) : gTup K n t (.ref p) σ H R := ⟨p, xs, rfl, SqT.of (L.tup m), e, h⟩
theorem g_gCons {t : TG} {u : TGs} {σ : St} {R : St → Hp → Prop} (h : t v σ H fun σ' H' => u xs σ' H' R) : gCons t u (v :: xs) σ H R := ⟨v, xs, rfl, h⟩
theorem g_gNil {σ : St} {R : St → Hp → Prop} (h : R σ H) : gNil [] σ H R := ⟨rfl, h⟩
theorem g_gSub {to ti : TE} {t : TSet} {σ : St} {R : St → Hp → Prop} (h : to σ H fun o H1 => ti σ H1 fun i H2 => t o i v H2 fun H3 => R σ H3) : gSub to ti t v σ H R := h
end
def ForW (J : It) (g : TG) (tb : TS) (D : Ends) (σ : St) (H : Hp) : Prop := ∃ W : Nat → Nat → St → Hp → Prop, (∃ m, W 0 m σ H) ∧ ∀ i m σ H, W i m σ H →
  (J.stop i H ∧ D.nx σ H) ∨ (J.go i H ∧ ∃ N : St → Hp → Prop, (∀ σ' H', N σ' H' → ∃ m', m' < m ∧ W (i + 1) m' σ' H') ∧ ∀ x H', J.yld i H x H' → g x σ H' fun σ2 H2 => tb { D with nx := N, ct := N, bk := D.nx } σ2 H2)
def Rng1 (vs : List V) (H : Hp) (R : It → Hp → Prop) : Prop := ∃ j : Int, vs = [.int j] ∧ -(2 ^ 62) ≤ j ∧ j < 2 ^ 62 ∧ R (Itr 0 j.toNat) H
def Rng2 (vs : List V) (H : Hp) (R : It → Hp → Prop) : Prop := ∃ i j : Int, vs = [.int i, .int j] ∧ (-(2 ^ 62) ≤ i ∧ i < 2 ^ 62 ∧ -(2 ^ 62) ≤ j ∧ j < 2 ^ 62) ∧ R (Itr i (j - i).toNat) H
def WkL (K : PySem.W.Frag) (x : V) (H : Hp) (R : It → Hp → Prop) : Prop := ∃ a, x = .ref a ∧ (∃ xs, SqL K H a xs) ∧ R (Itl K a) H
def CompG (J : It) (Q : VK) (σb : St) (g : TG) (tc : TT) (te : TE) (H : Hp) : Prop := ∃ W : Nat → Nat → List V → Hp → Prop, (∃ m, W 0 m [] H) ∧ CompW J W (fun ys H => ∀ p, H p = none → Q (.ref p) (upd H p (.lst ys))) σb g tc te
section
variable {K : PySem.W.Frag} {σ : St} {H : Hp} {Q : VK} {D : Ends} {wi : TI} {g : TG} {tb : TS} {ta : TE} {tl : TA} {R : It → Hp → Prop} {tc : TT} {te : TE}
theorem g_for (h : wi σ H fun J H1 => ForW J g tb D σ H1) : tFor wi g tb D σ H := h
theorem g_rng1 (h : tl σ H fun vs H1 => Rng1 vs H1 R) : iRng1 tl σ H R := h
theorem g_rng2 (h : tl σ H fun vs H1 => Rng2 vs H1 R) : iRng2 tl σ H R := h
theorem g_wkL (h : ta σ H fun x H1 => WkL K x H1 R) : iList K ta σ H R := h
theorem g_rng1v {j : Int} (b : -(2 ^ 62) ≤ j ∧ j < 2 ^ 62) (h : R (Itr 0 j.toNat) H) : Rng1 [.int j] H R := ⟨j, rfl, b.1, b.2, h⟩
theorem g_rng2v {i j : Int} (b : (-(2 ^ 62) ≤ i ∧ i < 2 ^ 62) ∧ -(2 ^ 62) ≤ j ∧ j < 2 ^ 62) (h : R (Itr i (j - i).toNat) H) : Rng2 [.int i, .int j] H R := ⟨i, j, rfl, ⟨b.1.1, b.1.2, b.2.1, b.2.2⟩, h⟩
theorem g_wkLv {a : Addr} {xs : List V} (s : SqL K H a xs) (h : R (Itl K a) H) : WkL K (.ref a) H R := ⟨a, rfl, ⟨xs, s⟩, h⟩
theorem g_forR {lo : Int} {n : Nat} (Pv : Nat → St → Hp → Prop) (h0 : Pv 0 σ H) (hs : ∀ i σ H, i < n → Pv i σ H → g (.int (lo + i)) σ H fun σ2 H2 => tb { D with nx := Pv (i + 1), ct := Pv (i + 1), bk := D.nx } σ2 H2)
    (hd : ∀ σ H, Pv n σ H → D.nx σ H) : ForW (Itr lo n) g tb D σ H := for_range Pv h0 hs hd
theorem g_forL {a : Addr} (xs : List V) (Pv : Nat → St → Hp → Prop) (h0 : Pv 0 σ H) (hl : ∀ i σ H, i ≤ xs.length → Pv i σ H → SqL K H a xs) (hs : ∀ i x σ H, xs[i]? = some x → Pv i σ H → g x σ H fun σ2 H2 => tb { D with nx := Pv (i + 1), ct := Pv (i + 1), bk := D.nx } σ2 H2)
    (hd : ∀ σ H, Pv xs.length σ H → D.nx σ H) : ForW (Itl K a) g tb D σ H := for_list (xs := xs) Pv h0 hl hs hd
theorem g_comp {own : Nat} {cap : List Nat} (h : wi σ H fun J H1 => CompG J Q (blkS own cap σ) g tc te H1) : tComp wi own cap g tc te σ H Q := h
theorem g_compS {i own : Nat} {cap : List Nat} (h : tComp wi own cap g tc te σ H fun v H1 => D.nx (σ.set i (some v)) H1) : tCompS i wi own cap g tc te D σ H := h
theorem g_compL {a : Addr} (xs : List V) {σb : St} (Pv : Nat → List V → Hp → Prop) (h0 : Pv 0 [] H) (hl : ∀ i ys H, i ≤ xs.length → Pv i ys H → SqL K H a xs ∧ ys.length ≤ sizeLine)
    (hs : ∀ i x ys H, xs[i]? = some x → Pv i ys H → g x σb H fun σ2 H2 => tc σ2 H2 fun b H3 => if b = true then te σ2 H3 fun y H4 => Pv (i + 1) (ys ++ [y]) H4 else Pv (i + 1) ys H3) (hd : ∀ ys H, Pv xs.length ys H → ∀ p, H p = none → Q (.ref p) (upd H p (.lst ys))) :
    CompG (Itl K a) Q σb g tc te H := comp_list (xs := xs) Pv h0 hl hs hd
theorem g_tAll {B : Bool → Hp → Prop} (h : B true H) : tAll σ H B := h
-- builtins
theorem g_max {a b : Int} (h : Q (.int (max a b)) H) : rMax [V.int a, V.int b] H Q := ⟨a, b, rfl, by
  have e : (if b > a then b else a) = max a b := by omega
  rw [e]; exact h⟩
theorem g_min {a b : Int} (h : Q (.int (min a b)) H) : rMin [V.int a, V.int b] H Q := ⟨a, b, rfl, by
  have e : (if b < a then b else a) = min a b := by omega
  rw [e]; exact h⟩
theorem g_lenSq {a : Addr} {ys : List V} (s : SqL K H a ys) (h : Q (.int ys.length) H) : rLen K [V.ref a] H Q := ⟨a, ys, rfl, .inl s, h⟩
theorem Led.seq {P : Addr → Prop} {H0 : Hp} {l : List (Addr × Ob)} {fs : List Pr} {a : Addr} {xs : List V} (L : Led P H0 H l fs) (s : SqL K H0 a xs) (n : ¬ P a) : SqL K H a xs := by
  rcases s with (s | ⟨o, s⟩) | s
  · exact .inl (.inl (L.fr _ _ s n))
  · exact .inl (.inr ⟨o, L.fr _ _ s n⟩)
  · exact .inr s
theorem g_addS {x y : Str} (hz : x.length + y.length ≤ sizeLine) (h : Q (.str (x ++ y)) H) : rAddS (V.str x) (V.str y) H Q := ⟨x, y, rfl, rfl, hz, h⟩
theorem g_ixS {z : Str} {i : Int} {c : Nat} (hz : z.length ≤ sizeLine) (e : atI z.cps.toList i = some c) (h : Q (.str ⟨#[c]⟩) H) : rIxS (.str z) (.int i) H Q := ⟨z, i, c, rfl, rfl, hz, e, h⟩
end
end L4
namespace L4
open PySem PySem.Spec PyProof.Rows L2 L3
inductive Dt where
  | non | bl (b : Bool) | int (i : Int) | str (x : Str) | tup (ds : List Dt) | lst (ds : List Dt)
mutual
def eqD : Dt → Dt → Bool
  | .non, .non => true
  | .bl a, .bl b => a == b
  | .bl a, .int b => (if a then 1 else 0) == b
  | .int a, .bl b => a == (if b then 1 else 0)
  | .int a, .int b => a == b
  | .str a, .str b => a == b
  | .tup a, .tup b => eqDs a b
  | .lst a, .lst b => eqDs a b
  | _, _ => false
def eqDs : List Dt → List Dt → Bool
  | [], [] => true
  | x :: xs, y :: ys => eqD x y && eqDs xs ys
  | _, _ => false
end
mutual
def dep : Dt → Nat
  | .tup ds => deps ds + 1
  | .lst ds => deps ds + 1
  | _ => 0
def deps : List Dt → Nat
  | [] => 0
  | d :: ds => max (dep d) (deps ds)
end
theorem dep_mem : ∀ {ds : List Dt} {d : Dt}, d ∈ ds → dep d ≤ deps ds
  | [], _, h => by simp at h
  | x :: ds, d, h => by
    rw [deps]
    rcases List.mem_cons.mp h with rfl | h
    · exact Nat.le_max_left _ _
    · exact Nat.le_trans (dep_mem h) (Nat.le_max_right _ _)
mutual
theorem eqD_refl : ∀ d : Dt, eqD d d = true
  | .non => by rw [eqD]
  | .bl b => by rw [eqD]; exact beq_self_eq_true b
  | .int i => by rw [eqD]; exact beq_self_eq_true i
  | .str x => by rw [eqD]; exact beq_self_eq_true x
  | .tup ds => by rw [eqD]; exact eqDs_refl ds
  | .lst ds => by rw [eqD]; exact eqDs_refl ds
theorem eqDs_refl : ∀ ds : List Dt, eqDs ds ds = true
  | [] => by rw [eqDs]
  | d :: ds => by rw [eqDs, eqD_refl d, eqDs_refl ds]; rfl
end
theorem eqDs_all : ∀ (ds es : List Dt), ((List.range (min ds.length es.length)).all (fun j => eqD (ds.getD j .non) (es.getD j .non)) && ds.length == es.length) = eqDs ds es
  | [], [] => by rw [eqDs]; rfl
  | [], _ :: _ => by simp [eqDs]
  | _ :: _, [] => by simp [eqDs]
  | d :: ds, e :: es => by
    have ih := eqDs_all ds es
    rw [eqDs, ← ih]
    have h1 : min (d :: ds).length (e :: es).length = min ds.length es.length + 1 := by simp only [List.length_cons]; omega
    rw [h1, List.range_succ_eq_map, List.all_cons, List.all_map]
    have h2 : ((d :: ds).length == (e :: es).length) = (ds.length == es.length) := by
      rw [Bool.eq_iff_iff]; simp
    rw [h2, Bool.and_assoc]
    rfl
theorem eqDs_lens : ∀ {ds es : List Dt}, ds.length ≠ es.length → eqDs ds es = false := fun {ds es} h => by
  rw [← eqDs_all, show (ds.length == es.length) = false from by simpa using h, Bool.and_false]

mutual
inductive At (K : PySem.W.Frag) (H : Hp) : V → Dt → Prop
  | non : At K H .non .non
  | bl (b : Bool) : At K H (.bl b) (.bl b)
  | int (i : Int) : At K H (.int i) (.int i)
  | str (x : Str) : At K H (.str x) (.str x)
  | tup {a : Addr} {xs : List V} {ds : List Dt} (h : SqT K H a xs) (r : Ats K H xs ds) : At K H (.ref a) (.tup ds)
  | lst {a : Addr} {xs : List V} {ds : List Dt} (h : SqL K H a xs) (r : Ats K H xs ds) : At K H (.ref a) (.lst ds)
inductive Ats (K : PySem.W.Frag) (H : Hp) : List V → List Dt → Prop
  | nil : Ats K H [] []
  | cons {x : V} {d : Dt} {xs : List V} {ds : List Dt} (h : At K H x d) (r : Ats K H xs ds) : Ats K H (x :: xs) (d :: ds)
end
theorem Ats.len {K : PySem.W.Frag} {H : Hp} : ∀ {xs : List V} {ds : List Dt}, Ats K H xs ds → xs.length = ds.length
  | _, _, .nil => rfl
  | _, _, .cons _ r => by rw [List.length_cons, List.length_cons, r.len]
theorem Ats.get {K : PySem.W.Frag} {H : Hp} : ∀ {xs : List V} {ds : List Dt} {j : Nat} {x : V}, Ats K H xs ds → xs[j]? = some x → ∃ d, ds[j]? = some d ∧ At K H x d
  | _, _, _, _, .nil, e => by simp at e
  | _, _, 0, _, .cons h _, e => by simp at e; subst e; exact ⟨_, rfl, h⟩
  | _, _, j + 1, x, .cons _ r, e => by
    obtain ⟨d, h1, h2⟩ := Ats.get (j := j) (x := x) r (by simpa using e)
    exact ⟨d, by simpa using h1, h2⟩
section
variable {X : Cx} {pins : List (Addr × Obj)} {σ : St} {H : Hp} {s : Shared}
mutual
theorem At.inj (I : Inv X pins σ H s) {x : V} : ∀ {d e : Dt}, At X.K H x d → At X.K H x e → d = e
  | _, _, .non, h => by cases h; rfl
  | _, _, .bl _, h => by cases h; rfl
  | _, _, .int _, h => by cases h; rfl
  | _, _, .str _, h => by cases h; rfl
  | _, _, .tup h r, g => by
    cases g with
    | tup h' r' =>
      have e := I.tuple_inj h h'
      subst e
      rw [Ats.inj I r r']
    | lst h' r' =>
      obtain ⟨_, _, ⟨o, e, c, _⟩, _⟩ := I.tuple h
      obtain ⟨_, _, ⟨o', n', e', c', _⟩, _⟩ := I.list h'
      rw [e] at e'; cases e'
      rw [c] at c'; injection c' with z; exact absurd z (by decide)
  | _, _, .lst h r, g => by
    cases g with
    | lst h' r' =>
      have e := I.list_inj h h'
      subst e
      rw [Ats.inj I r r']
    | tup h' r' =>
      obtain ⟨_, _, ⟨o, e, c, _⟩, _⟩ := I.tuple h'
      obtain ⟨_, _, ⟨o', n', e', c', _⟩, _⟩ := I.list h
      rw [e] at e'; cases e'
      rw [c] at c'; injection c' with z; exact absurd z (by decide)
theorem Ats.inj (I : Inv X pins σ H s) {xs : List V} : ∀ {ds es : List Dt}, Ats X.K H xs ds → Ats X.K H xs es → ds = es
  | _, _, .nil, h => by cases h; rfl
  | _, _, .cons h r, g => by
    cases g with
    | cons h' r' => rw [At.inj I h h', Ats.inj I r r']
end
end
theorem rc_V {A : Around} {s : Shared} {y x : V} {u v : Value} (ry : RelV y u) (rx : RelV x v) (fy : flatV y = true) (fx : flatV x = true) : SeqAt.RcAt A s u v (eqV y x) := by
  cases y with
  | non =>
    cases ry
    cases x with
    | non => cases rx; exact SeqAt.RcAt.none_none
    | bl b => cases rx; exact SeqAt.RcAt.none_bool b
    | int b => obtain ⟨t, rfl⟩ := rx; exact SeqAt.RcAt.none_int b t
    | str b => obtain ⟨t, rfl⟩ := rx; exact SeqAt.RcAt.none_str b t
    | _ => exact absurd (show false = true from fx) Bool.false_ne_true
  | bl a =>
    cases ry
    cases x with
    | non => cases rx; exact SeqAt.RcAt.bool_none a
    | bl b => cases rx; exact SeqAt.RcAt.bool_bool a b
    | int b => obtain ⟨t, rfl⟩ := rx; exact SeqAt.RcAt.bool_int a b t
    | str b => obtain ⟨t, rfl⟩ := rx; exact SeqAt.RcAt.bool_str a b t
    | _ => exact absurd (show false = true from fx) Bool.false_ne_true
  | int a =>
    obtain ⟨t', rfl⟩ := ry
    cases x with
    | non => cases rx; exact SeqAt.RcAt.int_none a t'
    | bl b => cases rx; exact SeqAt.RcAt.int_bool a t' b
    | int b => obtain ⟨t, rfl⟩ := rx; exact SeqAt.RcAt.int_int a t' b t
    | str b => obtain ⟨t, rfl⟩ := rx; exact SeqAt.RcAt.int_str a t' b t
    | _ => exact absurd (show false = true from fx) Bool.false_ne_true
  | str a =>
    obtain ⟨t', rfl⟩ := ry
    cases x with
    | non => cases rx; exact SeqAt.RcAt.str_none a t'
    | bl b => cases rx; exact SeqAt.RcAt.str_bool a t' b
    | int b => obtain ⟨t, rfl⟩ := rx; exact SeqAt.RcAt.str_int a t' b t
    | str b => obtain ⟨t, rfl⟩ := rx; exact SeqAt.RcAt.str_str a t' b t
    | _ => exact absurd (show false = true from fx) Bool.false_ne_true
  | _ => exact absurd (show false = true from fy) Bool.false_ne_true
theorem rcne_V {A : Around} {s : Shared} {y x : V} {u v : Value} (ry : RelV y u) (rx : RelV x v) (fy : flatV y = true) (fx : flatV x = true) : SeqAt.RcNeAt A s u v (!eqV y x) := by
  cases y with
  | non =>
    cases ry
    cases x with
    | non => cases rx; exact SeqAt.RcNeAt.none_none
    | bl b => cases rx; exact SeqAt.RcNeAt.none_bool b
    | int b => obtain ⟨t, rfl⟩ := rx; exact SeqAt.RcNeAt.none_int b t
    | str b => obtain ⟨t, rfl⟩ := rx; exact SeqAt.RcNeAt.none_str b t
    | _ => exact absurd (show false = true from fx) Bool.false_ne_true
  | bl a =>
    cases ry
    cases x with
    | non => cases rx; exact SeqAt.RcNeAt.bool_none a
    | bl b => cases rx; exact SeqAt.RcNeAt.bool_bool a b
    | int b => obtain ⟨t, rfl⟩ := rx; exact SeqAt.RcNeAt.bool_int a b t
    | str b => obtain ⟨t, rfl⟩ := rx; exact SeqAt.RcNeAt.bool_str a b t
    | _ => exact absurd (show false = true from fx) Bool.false_ne_true
  | int a =>
    obtain ⟨t', rfl⟩ := ry
    cases x with
    | non => cases rx; exact SeqAt.RcNeAt.int_none a t'
    | bl b => cases rx; exact SeqAt.RcNeAt.int_bool a t' b
    | int b => obtain ⟨t, rfl⟩ := rx; exact SeqAt.RcNeAt.int_int a t' b t
    | str b => obtain ⟨t, rfl⟩ := rx; exact SeqAt.RcNeAt.int_str a t' b t
    | _ => exact absurd (show false = true from fx) Bool.false_ne_true
  | str a =>
    obtain ⟨t', rfl⟩ := ry
    cases x with
    | non => cases rx; exact SeqAt.RcNeAt.str_none a t'
    | bl b => cases rx; exact SeqAt.RcNeAt.str_bool a t' b
    | int b => obtain ⟨t, rfl⟩ := rx; exact SeqAt.RcNeAt.str_int a t' b t
    | str b => obtain ⟨t, rfl⟩ := rx; exact SeqAt.RcNeAt.str_str a t' b t
    | _ => exact absurd (show false = true from fx) Bool.false_ne_true
  | _ => exact absurd (show false = true from fy) Bool.false_ne_true
theorem eq_flat_tuple {A : Around} {s : Shared} {x : V} {u : Value} {a : Addr} {its : Array Value} (rx : RelV x u) (fx : flatV x = true) (h : s.heap.IsTuple a its) (hu : A.units < cLine) : SeqAt.EqAt A s u (.ref a) false := by
  cases x with
  | non => cases rx; exact SeqAt.EqAt.none_tuple h hu
  | bl b => cases rx; exact SeqAt.EqAt.bool_tuple b h hu
  | int b => obtain ⟨t, rfl⟩ := rx; exact SeqAt.EqAt.int_tuple b t h hu
  | str b => obtain ⟨t, rfl⟩ := rx; exact SeqAt.EqAt.str_tuple b t h hu
  | _ => exact absurd (show false = true from fx) Bool.false_ne_true
theorem eq_tuple_flat {A : Around} {s : Shared} {x : V} {u : Value} {a : Addr} {its : Array Value} (rx : RelV x u) (fx : flatV x = true) (h : s.heap.IsTuple a its) (hu : A.units < cLine) : SeqAt.EqAt A s (.ref a) u false := by
  cases x with
  | non => cases rx; exact SeqAt.EqAt.tuple_none h hu
  | bl b => cases rx; exact SeqAt.EqAt.tuple_bool b h hu
  | int b => obtain ⟨t, rfl⟩ := rx; exact SeqAt.EqAt.tuple_int b t h hu
  | str b => obtain ⟨t, rfl⟩ := rx; exact SeqAt.EqAt.tuple_str b t h hu
  | _ => exact absurd (show false = true from fx) Bool.false_ne_true
theorem eq_flat_list {A : Around} {s : Shared} {x : V} {u : Value} {a : Addr} {its : Array Value} (rx : RelV x u) (fx : flatV x = true) (h : s.heap.IsList a its) (hu : A.units < cLine) : SeqAt.EqAt A s u (.ref a) false := by
  cases x with
  | non => cases rx; exact SeqAt.EqAt.none_list h hu
  | bl b => cases rx; exact SeqAt.EqAt.bool_list b h hu
  | int b => obtain ⟨t, rfl⟩ := rx; exact SeqAt.EqAt.int_list b t h hu
  | str b => obtain ⟨t, rfl⟩ := rx; exact SeqAt.EqAt.str_list b t h hu
  | _ => exact absurd (show false = true from fx) Bool.false_ne_true
theorem eq_list_flat {A : Around} {s : Shared} {x : V} {u : Value} {a : Addr} {its : Array Value} (rx : RelV x u) (fx : flatV x = true) (h : s.heap.IsList a its) (hu : A.units < cLine) : SeqAt.EqAt A s (.ref a) u false := by
  cases x with
  | non => cases rx; exact SeqAt.EqAt.list_none h hu
  | bl b => cases rx; exact SeqAt.EqAt.list_bool b h hu
  | int b => obtain ⟨t, rfl⟩ := rx; exact SeqAt.EqAt.list_int b t h hu
  | str b => obtain ⟨t, rfl⟩ := rx; exact SeqAt.EqAt.list_str b t h hu
  | _ => exact absurd (show false = true from fx) Bool.false_ne_true
theorem rc_flat_tuple {A : Around} {s : Shared} {x : V} {u : Value} {a : Addr} {its : Array Value} (rx : RelV x u) (fx : flatV x = true) (h : s.heap.IsTuple a its) (hu : A.units < cLine) : SeqAt.RcAt A s u (.ref a) false := by
  cases x with
  | non => cases rx; exact SeqAt.RcAt.none_tuple h hu
  | bl b => cases rx; exact SeqAt.RcAt.bool_tuple b h hu
  | int b => obtain ⟨t, rfl⟩ := rx; exact SeqAt.RcAt.int_tuple b t h hu
  | str b => obtain ⟨t, rfl⟩ := rx; exact SeqAt.RcAt.str_tuple b t h hu
  | _ => exact absurd (show false = true from fx) Bool.false_ne_true
theorem rc_tuple_flat {A : Around} {s : Shared} {x : V} {u : Value} {a : Addr} {its : Array Value} (rx : RelV x u) (fx : flatV x = true) (h : s.heap.IsTuple a its) (hu : A.units < cLine) : SeqAt.RcAt A s (.ref a) u false := by
  cases x with
  | non => cases rx; exact SeqAt.RcAt.tuple_none h hu
  | bl b => cases rx; exact SeqAt.RcAt.tuple_bool b h hu
  | int b => obtain ⟨t, rfl⟩ := rx; exact SeqAt.RcAt.tuple_int b t h hu
  | str b => obtain ⟨t, rfl⟩ := rx; exact SeqAt.RcAt.tuple_str b t h hu
  | _ => exact absurd (show false = true from fx) Bool.false_ne_true
theorem rc_flat_list {A : Around} {s : Shared} {x : V} {u : Value} {a : Addr} {its : Array Value} (rx : RelV x u) (fx : flatV x = true) (h : s.heap.IsList a its) (hu : A.units < cLine) : SeqAt.RcAt A s u (.ref a) false := by
  cases x with
  | non => cases rx; exact SeqAt.RcAt.none_list h hu
  | bl b => cases rx; exact SeqAt.RcAt.bool_list b h hu
  | int b => obtain ⟨t, rfl⟩ := rx; exact SeqAt.RcAt.int_list b t h hu
  | str b => obtain ⟨t, rfl⟩ := rx; exact SeqAt.RcAt.str_list b t h hu
  | _ => exact absurd (show false = true from fx) Bool.false_ne_true
theorem rc_list_flat {A : Around} {s : Shared} {x : V} {u : Value} {a : Addr} {its : Array Value} (rx : RelV x u) (fx : flatV x = true) (h : s.heap.IsList a its) (hu : A.units < cLine) : SeqAt.RcAt A s (.ref a) u false := by
  cases x with
  | non => cases rx; exact SeqAt.RcAt.list_none h hu
  | bl b => cases rx; exact SeqAt.RcAt.list_bool b h hu
  | int b => obtain ⟨t, rfl⟩ := rx; exact SeqAt.RcAt.list_int b t h hu
  | str b => obtain ⟨t, rfl⟩ := rx; exact SeqAt.RcAt.list_str b t h hu
  | _ => exact absurd (show false = true from fx) Bool.false_ne_true
theorem rn_flat_tuple {A : Around} {s : Shared} {x : V} {u : Value} {a : Addr} {its : Array Value} (rx : RelV x u) (fx : flatV x = true) (h : s.heap.IsTuple a its) (hu : A.units < cLine) : SeqAt.RcNeAt A s u (.ref a) true := by
  cases x with
  | non => cases rx; exact SeqAt.RcNeAt.none_tuple h hu
  | bl b => cases rx; exact SeqAt.RcNeAt.bool_tuple b h hu
  | int b => obtain ⟨t, rfl⟩ := rx; exact SeqAt.RcNeAt.int_tuple b t h hu
  | str b => obtain ⟨t, rfl⟩ := rx; exact SeqAt.RcNeAt.str_tuple b t h hu
  | _ => exact absurd (show false = true from fx) Bool.false_ne_true
theorem rn_tuple_flat {A : Around} {s : Shared} {x : V} {u : Value} {a : Addr} {its : Array Value} (rx : RelV x u) (fx : flatV x = true) (h : s.heap.IsTuple a its) (hu : A.units < cLine) : SeqAt.RcNeAt A s (.ref a) u true := by
  cases x with
  | non => cases rx; exact SeqAt.RcNeAt.tuple_none h hu
  | bl b => cases rx; exact SeqAt.RcNeAt.tuple_bool b h hu
  | int b => obtain ⟨t, rfl⟩ := rx; exact SeqAt.RcNeAt.tuple_int b t h hu
  | str b => obtain ⟨t, rfl⟩ := rx; exact SeqAt.RcNeAt.tuple_str b t h hu
  | _ => exact absurd (show false = true from fx) Bool.false_ne_true
theorem rn_flat_list {A : Around} {s : Shared} {x : V} {u : Value} {a : Addr} {its : Array Value} (rx : RelV x u) (fx : flatV x = true) (h : s.heap.IsList a its) (hu : A.units < cLine) : SeqAt.RcNeAt A s u (.ref a) true := by
  cases x with
  | non => cases rx; exact SeqAt.RcNeAt.none_list h hu
  | bl b => cases rx; exact SeqAt.RcNeAt.bool_list b h hu
  | int b => obtain ⟨t, rfl⟩ := rx; exact SeqAt.RcNeAt.int_list b t h hu
  | str b => obtain ⟨t, rfl⟩ := rx; exact SeqAt.RcNeAt.str_list b t h hu
  | _ => exact absurd (show false = true from fx) Bool.false_ne_true
theorem rn_list_flat {A : Around} {s : Shared} {x : V} {u : Value} {a : Addr} {its : Array Value} (rx : RelV x u) (fx : flatV x = true) (h : s.heap.IsList a its) (hu : A.units < cLine) : SeqAt.RcNeAt A s (.ref a) u true := by
  cases x with
  | non => cases rx; exact SeqAt.RcNeAt.list_none h hu
  | bl b => cases rx; exact SeqAt.RcNeAt.list_bool b h hu
  | int b => obtain ⟨t, rfl⟩ := rx; exact SeqAt.RcNeAt.list_int b t h hu
  | str b => obtain ⟨t, rfl⟩ := rx; exact SeqAt.RcNeAt.list_str b t h hu
  | _ => exact absurd (show false = true from fx) Bool.false_ne_true
inductive Top (K : PySem.W.Frag) (H : Hp) (x : V) (d : Dt) : Prop
  | flat (f : flatV x = true) (h : ∀ y e, At K H y e → flatV y = true → eqV x y = eqD d e) (h1 : ∀ es, eqD d (.tup es) = false ∧ eqD (.tup es) d = false ∧ eqD d (.lst es) = false ∧ eqD (.lst es) d = false)
  | tup (a : Addr) (xs : List V) (ds : List Dt) (e1 : x = .ref a) (e2 : d = .tup ds) (h : SqT K H a xs) (r : Ats K H xs ds)
  | lst (a : Addr) (xs : List V) (ds : List Dt) (e1 : x = .ref a) (e2 : d = .lst ds) (h : SqL K H a xs) (r : Ats K H xs ds)
theorem At.top {K : PySem.W.Frag} {H : Hp} {x : V} {d : Dt} (h : At K H x d) : Top K H x d := by
  cases h with
  | tup h r => exact .tup _ _ _ rfl rfl h r
  | lst h r => exact .lst _ _ _ rfl rfl h r
  | _ => exact .flat rfl (fun y e g f => by cases g <;> first | (exact absurd f Bool.false_ne_true) | (simp only [eqV, eqD])) (fun es => by simp [eqD])
theorem items_at {X : Cx} {H : Hp} {xs ys : List V} {ds es : List Dt} {us vs : List Value} {C : Value → Value → Bool → Prop} (h : ∀ x y d e u v, d ∈ ds → At X.K H x d → At X.K H y e → RelV x u → RelV y v → C u v (eqD d e))
    (r : Ats X.K H xs ds) (r' : Ats X.K H ys es) (rv : Vals xs us) (rv' : Vals ys vs) : ∀ j (h1 : j < us.toArray.size) (h2 : j < vs.toArray.size), C us.toArray[j] vs.toArray[j] (eqD (ds.getD j .non) (es.getD j .non)) := fun j h1 h2 => by
  have l1 : j < xs.length := by rw [rv.length]; simpa using h1
  have l2 : j < ys.length := by rw [rv'.length]; simpa using h2
  obtain ⟨u, e1, q1⟩ := rv.get (List.getElem?_eq_getElem l1)
  obtain ⟨v, e2, q2⟩ := rv'.get (List.getElem?_eq_getElem l2)
  obtain ⟨d, e3, q3⟩ := r.get (List.getElem?_eq_getElem l1)
  obtain ⟨e, e4, q4⟩ := r'.get (List.getElem?_eq_getElem l2)
  have a1 : us.toArray[j] = u := by
    have := List.getElem?_eq_some_iff.mp e1
    obtain ⟨_, z⟩ := this
    simpa using z
  have a2 : vs.toArray[j] = v := by
    obtain ⟨_, z⟩ := List.getElem?_eq_some_iff.mp e2
    simpa using z
  rw [a1, a2, List.getD_eq_getElem?_getD, List.getD_eq_getElem?_getD, e3, e4]
  exact h _ _ _ _ _ _ (List.mem_of_getElem? e3) q3 q4 q1 q2
theorem eq_at {X : Cx} {pins : List (Addr × Obj)} {σ : St} {H : Hp} {s : Shared} (I : Inv X pins σ H s) : ∀ (n : Nat) {x y : V} {d e : Dt} {u v : Value}, dep d ≤ n → At X.K H x d → At X.K H y e → RelV x u → RelV y v → ∀ A : Around, A.units + n < cLine → SeqAt.EqAt A s u v (eqD d e) := by
  intro n
  induction n with
  | zero =>
    intro x y d e u v hd hx hy rx ry A hA
    rcases hx.top with ⟨f, h, h1⟩ | ⟨a, xs, ds, rfl, rfl, h, r⟩ | ⟨a, xs, ds, rfl, rfl, h, r⟩
    · rcases hy.top with ⟨f', h', h1'⟩ | ⟨b, ys, es, rfl, rfl, h', r'⟩ | ⟨b, ys, es, rfl, rfl, h', r'⟩
      · rw [← h y e hy f']; exact eqAt_V rx ry f f'
      · obtain ⟨its, rv, ht, _⟩ := I.tuple h'
        cases ry; rw [(h1 es).1]; exact eq_flat_tuple rx f ht (by omega)
      · obtain ⟨its, rv, ht, _⟩ := I.list h'
        cases ry; rw [(h1 es).2.2.1]; exact eq_flat_list rx f ht.isList (by omega)
    · simp [dep] at hd
    · simp [dep] at hd
  | succ n ih =>
    intro x y d e u v hd hx hy rx ry A hA
    have hu : A.units < cLine := by omega
    rcases hx.top with ⟨f, h, h1⟩ | ⟨a, xs, ds, rfl, rfl, h, r⟩ | ⟨a, xs, ds, rfl, rfl, h, r⟩
    · rcases hy.top with ⟨f', h', h1'⟩ | ⟨b, ys, es, rfl, rfl, h', r'⟩ | ⟨b, ys, es, rfl, rfl, h', r'⟩
      · rw [← h y e hy f']; exact eqAt_V rx ry f f'
      · obtain ⟨its, rv, ht, _⟩ := I.tuple h'
        cases ry; rw [(h1 es).1]; exact eq_flat_tuple rx f ht hu
      · obtain ⟨its, rv, ht, _⟩ := I.list h'
        cases ry; rw [(h1 es).2.2.1]; exact eq_flat_list rx f ht.isList hu
    · obtain ⟨its, rv, ht, _⟩ := I.tuple h
      cases rx
      rw [dep] at hd
      rcases hy.top with ⟨f', h', h1'⟩ | ⟨b, ys, es, rfl, rfl, h', r'⟩ | ⟨b, ys, es, rfl, rfl, h', r'⟩
      · rw [(h1' ds).2.1]; exact eq_tuple_flat ry f' ht hu
      · cases ry
        obtain ⟨its', rv', ht', _⟩ := I.tuple h'
        by_cases hab : a = b
        · subst hab
          have e := I.tuple_inj h h'
          subst e
          rw [Ats.inj I r r', eqD_refl]
          exact SeqAt.EqAt.same _
        · have q := SeqAt.RcAt.tuples (A := A) (e := fun j => eqD (ds.getD j .non) (es.getD j .non)) ht ht' hu (items_at (C := fun u v k => SeqAt.EqAt A.in1 s u v k) (fun x y d e u v hm hx hy rx ry => ih (Nat.le_trans (dep_mem hm) (by omega)) hx hy rx ry A.in1 (by show A.units + 1 + n < _; omega)) r r' rv rv')
          have l1 : its.toArray.size = ds.length := by rw [List.size_toArray, ← rv.length, r.len]
          have l2 : its'.toArray.size = es.length := by rw [List.size_toArray, ← rv'.length, r'.len]
          rw [l1, l2, eqDs_all] at q
          rw [eqD]
          exact SeqAt.EqAt.of_refs hab q
      · cases ry
        obtain ⟨its', rv', ht', _⟩ := I.list h'
        rw [show eqD (.tup ds) (.lst es) = false by simp [eqD]]
        exact SeqAt.EqAt.tuple_list ht ht'.isList hu
    · obtain ⟨its, rv, ht, _⟩ := I.list h
      cases rx
      rw [dep] at hd
      rcases hy.top with ⟨f', h', h1'⟩ | ⟨b, ys, es, rfl, rfl, h', r'⟩ | ⟨b, ys, es, rfl, rfl, h', r'⟩
      · rw [(h1' ds).2.2.2]; exact eq_list_flat ry f' ht.isList hu
      · cases ry
        obtain ⟨its', rv', ht', _⟩ := I.tuple h'
        rw [show eqD (.lst ds) (.tup es) = false by simp [eqD]]
        exact SeqAt.EqAt.list_tuple ht.isList ht' hu
      · cases ry
        obtain ⟨its', rv', ht', _⟩ := I.list h'
        by_cases hab : a = b
        · subst hab
          have e := I.list_inj h h'
          subst e
          rw [Ats.inj I r r', eqD_refl]
          exact SeqAt.EqAt.same _
        · refine SeqAt.EqAt.of_refs hab ?_
          have l1 : its.toArray.size = ds.length := by rw [List.size_toArray, ← rv.length, r.len]
          have l2 : its'.toArray.size = es.length := by rw [List.size_toArray, ← rv'.length, r'.len]
          rw [eqD]
          by_cases hl : ds.length = es.length
          · have q := SeqAt.RcAt.lists (A := A) (e := fun j => eqD (ds.getD j .non) (es.getD j .non)) ht.isList ht'.isList (by rw [l1, l2, hl]) hu (items_at (C := fun u v k => SeqAt.EqAt A.in1 s u v k) (fun x y d e u v hm hx hy rx ry => ih (Nat.le_trans (dep_mem hm) (by omega)) hx hy rx ry A.in1 (by show A.units + 1 + n < _; omega)) r r' rv rv')
            have z := eqDs_all ds es
            rw [hl, Nat.min_self, beq_self_eq_true, Bool.and_true] at z
            rw [l1, hl, z] at q
            exact q
          · rw [eqDs_lens hl]
            exact SeqAt.RcAt.lists_lengths ht.isList ht'.isList (by rw [l1, l2]; simpa using hl) hu
theorem rc_at {X : Cx} {pins : List (Addr × Obj)} {σ : St} {H : Hp} {s : Shared} (I : Inv X pins σ H s) {n : Nat} {x y : V} {d e : Dt} {u v : Value} (hd : dep d ≤ n) (hx : At X.K H x d) (hy : At X.K H y e) (rx : RelV x u) (ry : RelV y v) (A : Around) (hA : A.units + 1 + n < cLine) : SeqAt.RcAt A s u v (eqD d e) := by
  have hu : A.units < cLine := by omega
  rcases hx.top with ⟨f, h, h1⟩ | ⟨a, xs, ds, rfl, rfl, h, r⟩ | ⟨a, xs, ds, rfl, rfl, h, r⟩
  · rcases hy.top with ⟨f', h', h1'⟩ | ⟨b, ys, es, rfl, rfl, h', r'⟩ | ⟨b, ys, es, rfl, rfl, h', r'⟩
    · rw [← h y e hy f']; exact rc_V rx ry f f'
    · obtain ⟨its, rv, ht, _⟩ := I.tuple h'
      cases ry; rw [(h1 es).1]; exact rc_flat_tuple rx f ht hu
    · obtain ⟨its, rv, ht, _⟩ := I.list h'
      cases ry; rw [(h1 es).2.2.1]; exact rc_flat_list rx f ht.isList hu
  · obtain ⟨its, rv, ht, _⟩ := I.tuple h
    cases rx
    rw [dep] at hd
    rcases hy.top with ⟨f', h', h1'⟩ | ⟨b, ys, es, rfl, rfl, h', r'⟩ | ⟨b, ys, es, rfl, rfl, h', r'⟩
    · rw [(h1' ds).2.1]; exact rc_tuple_flat ry f' ht hu
    · cases ry
      obtain ⟨its', rv', ht', _⟩ := I.tuple h'
      have q := SeqAt.RcAt.tuples (A := A) (e := fun j => eqD (ds.getD j .non) (es.getD j .non)) ht ht' hu (items_at (C := fun u v k => SeqAt.EqAt A.in1 s u v k) (fun x y d e u v hm hx hy rx ry => eq_at I n (Nat.le_trans (dep_mem hm) (by omega)) hx hy rx ry A.in1 (by show A.units + 1 + n < _; omega)) r r' rv rv')
      have l1 : its.toArray.size = ds.length := by rw [List.size_toArray, ← rv.length, r.len]
      have l2 : its'.toArray.size = es.length := by rw [List.size_toArray, ← rv'.length, r'.len]
      rw [l1, l2, eqDs_all] at q
      rw [eqD]
      exact q
    · cases ry
      obtain ⟨its', rv', ht', _⟩ := I.list h'
      rw [show eqD (.tup ds) (.lst es) = false by simp [eqD]]
      exact SeqAt.RcAt.tuple_list ht ht'.isList hu
  · obtain ⟨its, rv, ht, _⟩ := I.list h
    cases rx
    rw [dep] at hd
    rcases hy.top with ⟨f', h', h1'⟩ | ⟨b, ys, es, rfl, rfl, h', r'⟩ | ⟨b, ys, es, rfl, rfl, h', r'⟩
    · rw [(h1' ds).2.2.2]; exact rc_list_flat ry f' ht.isList hu
    · cases ry
      obtain ⟨its', rv', ht', _⟩ := I.tuple h'
      rw [show eqD (.lst ds) (.tup es) = false by simp [eqD]]
      exact SeqAt.RcAt.list_tuple ht.isList ht' hu
    · cases ry
      obtain ⟨its', rv', ht', _⟩ := I.list h'
      have l1 : its.toArray.size = ds.length := by rw [List.size_toArray, ← rv.length, r.len]
      have l2 : its'.toArray.size = es.length := by rw [List.size_toArray, ← rv'.length, r'.len]
      rw [eqD]
      by_cases hl : ds.length = es.length
      · have q := SeqAt.RcAt.lists (A := A) (e := fun j => eqD (ds.getD j .non) (es.getD j .non)) ht.isList ht'.isList (by rw [l1, l2, hl]) hu (items_at (C := fun u v k => SeqAt.EqAt A.in1 s u v k) (fun x y d e u v hm hx hy rx ry => eq_at I n (Nat.le_trans (dep_mem hm) (by omega)) hx hy rx ry A.in1 (by show A.units + 1 + n < _; omega)) r r' rv rv')
        have z := eqDs_all ds es
        rw [hl, Nat.min_self, beq_self_eq_true, Bool.and_true] at z
        rw [l1, hl, z] at q
        exact q
      · rw [eqDs_lens hl]
        exact SeqAt.RcAt.lists_lengths ht.isList ht'.isList (by rw [l1, l2]; simpa using hl) hu
theorem rcne_at {X : Cx} {pins : List (Addr × Obj)} {σ : St} {H : Hp} {s : Shared} (I : Inv X pins σ H s) {n : Nat} {x y : V} {d e : Dt} {u v : Value} (hd : dep d ≤ n) (hx : At X.K H x d) (hy : At X.K H y e) (rx : RelV x u) (ry : RelV y v) (A : Around) (hA : A.units + 1 + n < cLine) : SeqAt.RcNeAt A s u v (!eqD d e) := by
  have hu : A.units < cLine := by omega
  rcases hx.top with ⟨f, h, h1⟩ | ⟨a, xs, ds, rfl, rfl, h, r⟩ | ⟨a, xs, ds, rfl, rfl, h, r⟩
  · rcases hy.top with ⟨f', h', h1'⟩ | ⟨b, ys, es, rfl, rfl, h', r'⟩ | ⟨b, ys, es, rfl, rfl, h', r'⟩
    · rw [← h y e hy f']; exact rcne_V rx ry f f'
    · obtain ⟨its, rv, ht, _⟩ := I.tuple h'
      cases ry; rw [(h1 es).1]; exact rn_flat_tuple rx f ht hu
    · obtain ⟨its, rv, ht, _⟩ := I.list h'
      cases ry; rw [(h1 es).2.2.1]; exact rn_flat_list rx f ht.isList hu
  · obtain ⟨its, rv, ht, _⟩ := I.tuple h
    cases rx
    rw [dep] at hd
    rcases hy.top with ⟨f', h', h1'⟩ | ⟨b, ys, es, rfl, rfl, h', r'⟩ | ⟨b, ys, es, rfl, rfl, h', r'⟩
    · rw [(h1' ds).2.1]; exact rn_tuple_flat ry f' ht hu
    · cases ry
      obtain ⟨its', rv', ht', _⟩ := I.tuple h'
      have q := SeqAt.RcNeAt.tuples (A := A) (e := fun j => eqD (ds.getD j .non) (es.getD j .non)) ht ht' hu (items_at (C := fun u v k => SeqAt.EqAt A.in1 s u v k) (fun x y d e u v hm hx hy rx ry => eq_at I n (Nat.le_trans (dep_mem hm) (by omega)) hx hy rx ry A.in1 (by show A.units + 1 + n < _; omega)) r r' rv rv')
      have l1 : its.toArray.size = ds.length := by rw [List.size_toArray, ← rv.length, r.len]
      have l2 : its'.toArray.size = es.length := by rw [List.size_toArray, ← rv'.length, r'.len]
      rw [l1, l2, eqDs_all] at q
      rw [eqD]
      exact q
    · cases ry
      obtain ⟨its', rv', ht', _⟩ := I.list h'
      rw [show eqD (.tup ds) (.lst es) = false by simp [eqD]]
      exact SeqAt.RcNeAt.tuple_list ht ht'.isList hu
  · obtain ⟨its, rv, ht, _⟩ := I.list h
    cases rx
    rw [dep] at hd
    rcases hy.top with ⟨f', h', h1'⟩ | ⟨b, ys, es, rfl, rfl, h', r'⟩ | ⟨b, ys, es, rfl, rfl, h', r'⟩
    · rw [(h1' ds).2.2.2]; exact rn_list_flat ry f' ht.isList hu
    · cases ry
      obtain ⟨its', rv', ht', _⟩ := I.tuple h'
      rw [show eqD (.lst ds) (.tup es) = false by simp [eqD]]
      exact SeqAt.RcNeAt.list_tuple ht.isList ht' hu
    · cases ry
      obtain ⟨its', rv', ht', _⟩ := I.list h'
      have l1 : its.toArray.size = ds.length := by rw [List.size_toArray, ← rv.length, r.len]
      have l2 : its'.toArray.size = es.length := by rw [List.size_toArray, ← rv'.length, r'.len]
      rw [eqD]
      by_cases hl : ds.length = es.length
      · have q := SeqAt.RcNeAt.lists (A := A) (e := fun j => eqD (ds.getD j .non) (es.getD j .non)) ht.isList ht'.isList (by rw [l1, l2, hl]) hu (items_at (C := fun u v k => SeqAt.EqAt A.in1 s u v k) (fun x y d e u v hm hx hy rx ry => eq_at I n (Nat.le_trans (dep_mem hm) (by omega)) hx hy rx ry A.in1 (by show A.units + 1 + n < _; omega)) r r' rv rv')
        have z := eqDs_all ds es
        rw [hl, Nat.min_self, beq_self_eq_true, Bool.and_true] at z
        rw [l1, hl, z] at q
        exact q
      · rw [eqDs_lens hl]
        exact SeqAt.RcNeAt.lists_lengths ht.isList ht'.isList (by rw [l1, l2]; simpa using hl) hu
def rEqD (K : PySem.W.Frag) : R2 := fun x y H Q => ∃ d e, At K H x d ∧ At K H y e ∧ dep d ≤ 100 ∧ Q (.bl (eqD d e)) H
def rNeD (K : PySem.W.Frag) : R2 := fun x y H Q => ∃ d e, At K H x d ∧ At K H y e ∧ dep d ≤ 100 ∧ Q (.bl (!eqD d e)) H
theorem op_eqD {X : Cx} (hr : Room 0 X.A) : OpR X (compareOp .Eq) (rEqD X.K) := by
  intro pins s σ H x y v u Q I rx ry h
  obtain ⟨d, e, hx, hy, hd, q⟩ := h
  exact rc_at I hd hx hy rx ry X.A (by have := hr.un; omega) _ _ _ _ ⟨.bl _, H, I, rfl, q⟩
theorem op_neD {X : Cx} (hr : Room 0 X.A) : OpR X (compareOp .NotEq) (rNeD X.K) := by
  intro pins s σ H x y v u Q I rx ry h
  obtain ⟨d, e, hx, hy, hd, q⟩ := h
  exact rcne_at I hd hx hy rx ry X.A (by have := hr.un; omega) _ _ _ _ ⟨.bl _, H, I, rfl, q⟩
theorem g_eqDT {K : PySem.W.Frag} {x y : V} {H : Hp} {Q : VK} {d : Dt} (hx : At K H x d) (hy : At K H y d) (hd : dep d ≤ 100) (h : Q (.bl true) H) : rEqD K x y H Q := ⟨d, d, hx, hy, hd, by rw [eqD_refl]; exact h⟩
theorem g_neDF {K : PySem.W.Frag} {x y : V} {H : Hp} {Q : VK} {d : Dt} (hx : At K H x d) (hy : At K H y d) (hd : dep d ≤ 100) (h : Q (.bl false) H) : rNeD K x y H Q := ⟨d, d, hx, hy, hd, by rw [eqD_refl]; exact h⟩
theorem g_neD {K : PySem.W.Frag} {x y : V} {H : Hp} {Q : VK} {d e : Dt} (hx : At K H x d) (hy : At K H y e) (hd : dep d ≤ 100) (h : Q (.bl (!eqD d e)) H) : rNeD K x y H Q := ⟨d, e, hx, hy, hd, h⟩
end L4
namespace L4
open PySem PySem.Spec PyProof.Rows L2 L3
theorem ints_of : ∀ {ns : List Int} {us : List Value}, Vals (ns.map V.int) us → IntsAre us ns
  | [], _, .nil => .nil
  | n :: ns, _, .cons r t => by
    obtain ⟨tk, rfl⟩ := r
    exact .cons n tk (ints_of t)
theorem vals_ints : ∀ {ns : List Int} {us : List Value}, IntsAre us ns → Vals (ns.map V.int) us
  | _, _, .nil => .nil
  | _, _, .cons n t r => .cons ⟨t, rfl⟩ (vals_ints r)
theorem vals_strs : ∀ {ns : List Str} {us : List Value}, StrsAre us ns → Vals (ns.map V.str) us
  | _, _, .nil => .nil
  | _, _, .cons n t r => .cons ⟨t, rfl⟩ (vals_strs r)
def rSortS (K : PySem.W.Frag) : RL := fun xs H Q => ∃ (p : Addr) (ns : List Str), xs = [.ref p] ∧ SqL K H p (ns.map V.str) ∧ ns.length < 64 ∧ ∀ (l : Addr) (ms : List Str), H l = none → ms.Perm ns → sortedS ms = true → Q (.ref l) (upd H l (.lst (ms.map V.str)))
section
variable {X : Cx}
theorem c_sortS : CallR X (.builtin "sorted") (rSortS X.K) := by
  intro pins s σ H xs us Q I r h
  obtain ⟨p, ns, rfl, hq, h64, q⟩ := h
  obtain ⟨u, rfl, rx⟩ := vals1 r
  cases rx
  obtain ⟨its, rv, pl, hz⟩ := I.list hq
  have hl : its.length = ns.length := by rw [← rv.length, List.length_map]
  refine sorted_strs pl.isList (strs_of rv) (by omega) fun out ms a1 a2 a3 => ?_
  obtain ⟨e, he⟩ := sortedAll_at s.heap its out
  have ro := vals_strs a1
  have hz2 : (ms.map V.str).length ≤ sizeLine := by rw [List.length_map, a2.length_eq]; exact Nat.le_of_lt (small1000 (by omega))
  refine ⟨.ref (s.heap.objs.size + 1), _, I.laid (a := s.heap.objs.size + 1) (o := .lst (ms.map V.str)) (t' := s.toks) (fun b o hb => sortedAll_old hb) (Nat.le_succ _) ⟨hz2, out.toList, e, ro, ?_⟩, rfl, q _ ms (I.hok.fresh (Nat.le_succ _)) a2 a3⟩
  rw [he]
end
end L4
namespace L4
open PySem PySem.Spec PyProof.Rows L2 L3
def ZIt (k : Bool) (h : Heap) (i a : Addr) (n : Nat) : Prop := match k with | true => h.IsListIter i a n | false => h.IsTupleIter i a n
def ZSr (k : Bool) (h : Heap) (a : Addr) (xs : Array Value) : Prop := match k with | true => h.IsList a xs | false => h.IsTuple a xs
section
variable {prog : Program} {w : World} {A : Around} {E : Value → Shared → Prop} {s : Shared}
structure ZAp (z T O i j : Addr) : Prop where
  nd : [z, T, O, i, j].Nodup
structure ZAt (k1 k2 : Bool) (h : Heap) (z T O i j a b : Addr) (f : Value) (n : Nat) : Prop where
  z : IsZip h z T O f
  t : IsPair h T (.ref i) (.ref j)
  o : ∃ x y, IsPair h O x y
  i : ZIt k1 h i a n
  j : ZIt k2 h j b n
end
section
variable {X : Cx} {pins : List (Addr × Obj)} {σ : St} {H : Hp} {s : Shared} {h' : Heap} {ch : List Addr}
theorem turnL {t' : Nat} (I : Inv X pins σ H s) (hf : ∀ b ∈ ch, FpOk X pins H b) (k : ∀ b o, b ∉ ch → s.heap.get? b = some o → h'.get? b = some o) : Inv X pins σ H { s with heap := h', toks := t' } := by
  have nit : ∀ b u, H b = some u → b ∉ ch := fun b u e z => by rw [(hf b z).1] at e; cases e
  refine I.step (g' := s.gens) (d' := s.drawn) (ch := ch) (fun b hb => ⟨(hf b hb).2.2.2.1, (hf b hb).2.1, (hf b hb).2.2.2.2.1, (hf b hb).2.2.2.2.2⟩) (fun b o _ _ hc e _ => k b o hc e) (fun b o _ _ hc e _ => ⟨o.slots, k b o hc e⟩) (fun _ _ _ _ n => n)
    (fun b o hc e => ⟨o, k b o hc e⟩) (fun _ _ e => e) (fun _ _ _ e => e) (fun b ps e => ⟨#[], by rw [e]; simp⟩) (fun m hm => ?_) (fun b u e => ?_) I.bare
  · obtain ⟨o, es, ep, ho, r⟩ := hm
    exact ⟨o, es, ep, k _ o (fun z => (hf _ z).2.1 rfl) ho, r⟩
  · exact (I.hok b u e).stay (fun c v hc q => k c v (hc.elim (fun z => z ▸ nit b u e) fun z => nit c _ z) q) (fun _ q => q) fun _ _ q => q
theorem turnT {t' : Nat} {T : Addr} {xs : List V} (I : Inv X pins σ H s) (hf : ∀ b ∈ ch, FpOk X pins H b) (k : ∀ b o, b ∉ ch → s.heap.get? b = some o → h'.get? b = some o) (hT : s.heap.objs.size ≤ T) (new : ObjOk X.prog X.w (upd H T (.tup xs)) h' T (.tup xs)) :
    Inv X pins σ (upd H T (.tup xs)) { s with heap := h', toks := t' } := by
  have nT := I.hok.fresh hT
  have neT : ∀ b o, s.heap.get? b = some o → b ≠ T := fun b o e => Nat.ne_of_lt (Nat.lt_of_lt_of_le (Heap.lt_size e) hT)
  have nit : ∀ b u, H b = some u → b ∉ ch := fun b u e z => by rw [(hf b z).1] at e; cases e
  refine I.step (g' := s.gens) (d' := s.drawn) (ch := ch) (fun b hb => ⟨(hf b hb).2.2.2.1, (hf b hb).2.1, (hf b hb).2.2.2.2.1, (hf b hb).2.2.2.2.2⟩) (fun b o _ _ hc e _ => k b o hc e) (fun b o _ _ hc e _ => ⟨o.slots, k b o hc e⟩) (fun b o _ e n => by rw [upd_ne (neT b o e)]; exact n)
    (fun b o hc e => ⟨o, k b o hc e⟩) (fun b ys e => by rw [upd_ne (ne_of_none e nT)]; exact e) (fun b o u e => by rw [upd_ne (ne_of_none e nT)]; exact e) (fun b ps e => ⟨#[], by rw [upd_ne (ne_of_none e nT), e]; simp⟩) (fun m hm => ?_) (fun b u e => ?_) I.bare
  · obtain ⟨o, es, ep, ho, r⟩ := hm
    exact ⟨o, es, ep, k _ o (fun z => (hf _ z).2.1 rfl) ho, r⟩
  · by_cases hb : b = T
    · subst hb; rw [upd_same] at e; cases e; exact new
    · rw [upd_ne hb] at e
      exact (I.hok b u e).stay (fun c v hc q => k c v (hc.elim (fun z => z ▸ nit b u e) fun z => nit c _ z) q) (fun c q => by rw [upd_ne (ne_of_none q nT)]; exact q) fun c ys q => by rw [upd_ne (ne_of_none q nT)]; exact q
def SqK (k : Bool) (K : PySem.W.Frag) (H : Hp) (a : Addr) (xs : List V) : Prop := match k with | true => SqL K H a xs | false => SqT K H a xs
theorem SqK.get {k : Bool} {a : Addr} {xs : List V} (I : Inv X pins σ H s) (q : SqK k X.K H a xs) : ∃ its : List Value, Vals xs its ∧ ZSr k s.heap a its.toArray := by
  cases k with
  | true => obtain ⟨its, r, p, _⟩ := I.list q; exact ⟨its, r, p.isList⟩
  | false => obtain ⟨its, r, p, _⟩ := I.tuple q; exact ⟨its, r, p⟩
theorem SqK.inj {k : Bool} {a : Addr} {xs ys : List V} (I : Inv X pins σ H s) (q : SqK k X.K H a xs) (q' : SqK k X.K H a ys) : xs = ys := by
  cases k with
  | true => exact I.list_inj q q'
  | false => exact I.tuple_inj q q'
end
end L4
namespace HT2
open PySem PyProof.Rows HT
section
open PySem.SeqAt
open PySem.AutoSeq1 (wpAny_loadPart')
open PySem.MeetsSeq PySem.MeetsSeq2 PySem.MeetsSeq3
end
section
variable {prog : Program} {w : World} {A : Around} {E : Value → Shared → Prop} {s : Shared}
end
end HT2
namespace L4
open PySem PySem.Spec PyProof.Rows L2 L3
section
variable {prog : Program} {w : World} {A : Around} {R : Result → Shared → Prop} {I S : Addr} {fp wr : List Addr} {n : Nat} {P : Nat → Value → Prop} {St : Nat → Heap → Prop} {bt : Nat → Nat → Bool} {h0 : Heap} {kw : List (Str × Value)}
end
section
variable {prog : Program} {w : World} {A : Around} {E : Value → Shared → Prop} {s : Shared}
end
section
variable {prog : Program} {w : World} {A : Around} {R : Result → Shared → Prop} {I S : Addr} {fp wr : List Addr} {n : Nat} {P : Nat → Value → Prop} {St : Nat → Heap → Prop} {bt : Nat → Nat → Bool} {h0 : Heap} {kw : List (Str × Value)}
end
section
variable {prog : Program} {w : World} {A : Around} {E : Value → Shared → Prop} {s : Shared}
end

section
variable {X : Cx}
end
section
variable {H : Hp} {Q : VK}
end
section
variable {K : PySem.W.Frag} {P : Addr → Prop} {H0 H H' : Hp} {l l' l2 : List (Addr × Ob)} {fs : List Pr} {p r : Addr} {Q : VK} {xs ys : List V} {lo hi : Option Int}
theorem g_slSq (L : Led P H0 H l fs) (s : SqL K H p xs) (h : ∀ b H', H b = none → Led P H0 H' ((b, Eo (.lst (cutV xs lo hi))) :: l) fs → Same H H' → Q (.ref b) H') : rSlL K (.ref p) lo hi H Q :=
  ⟨p, xs, rfl, s, fun b nb => h b _ nb (L.newO nb rfl) (same_upd0 nb)⟩
theorem g_listOf (L : Led P H0 H l fs) (s : SqL K H p xs ∨ SqT K H p xs) (h : ∀ b H', H b = none → Led P H0 H' ((b, Eo (.lst xs)) :: l) fs → Same H H' → Q (.ref b) H') : rListOf K [.ref p] H Q :=
  ⟨p, xs, rfl, s, fun b nb => h b _ nb (L.newO nb rfl) (same_upd0 nb)⟩
end
end L4
namespace L4
open PySem PySem.Spec PyProof.Rows
def ExcAt (h : Heap) (x : Addr) (C : Value) (dx T : Option Addr) (fl : Value) : Prop :=
  ∃ oe vs, h.get? x = some oe ∧ oe.cls = C ∧ oe.dict = dx ∧ oe.data = .fields vs ∧ vs[1]? = some (T.elim .none .ref) ∧ ∀ t, T = some t → t ≠ x ∧ ∃ oT ts, h.get? t = some oT ∧ oT.data = .fields ts ∧ ts[3]? = some fl
def frsE (l : List Env) : List Addr := l.filterMap (·.frame)
structure But (x : Addr) (T : Option Addr) (fs : List Addr) (h h' : Heap) : Prop where
  keep : ∀ b o, h.get? b = some o → b ≠ x → some b ≠ T → b ∉ fs → h'.get? b = some o
  slot : ∀ b o, h.get? b = some o → b ≠ x → some b ≠ T → ∃ sl, h'.get? b = some { o with slots := sl }
  there : ∀ b o, h.get? b = some o → ∃ o', h'.get? b = some o'
theorem But.refl {x : Addr} {T : Option Addr} {fs : List Addr} {h : Heap} : But x T fs h h := ⟨fun _ _ e _ _ _ => e, fun _ o e _ _ => ⟨o.slots, e⟩, fun _ o e => ⟨o, e⟩⟩
section
variable {M : Model} {A : Around} {E : Value → Shared → Prop} {s : Shared} {base : Heap} {env : Env} {outer : List Env} {L x t : Addr} {C fl : Value} {dx T : Option Addr} {Q : Unit → Shared → Prop}
theorem set_flight {fr : Option Addr} (he : ExcAt s.heap x C dx (some t) fl) (h : ∀ h', ExcAt h' x C dx (some t) (fr.elim .none fun f => rawInt f) → But x (some t) [] s.heap h' → Q () { s with heap := h' }) : wpAny M A (setFlight (.ref x) fr) Q E s := by
  obtain ⟨oe, vs, e1, e2, e3, e4, e5, e6⟩ := he
  obtain ⟨ne, oT, ts, f1, f2, f3⟩ := e6 t rfl
  have hz : 3 < ts.size := (Array.getElem?_eq_some_iff.mp f3).1
  have oth : ∀ b, b ≠ t → (s.heap.update t (Obj.mapFields (·.setIfInBounds 3 (fr.elim .none fun f => rawInt f)))).get? b = s.heap.get? b := fun b hb => Heap.get?_update_other _ _ (Ne.symm hb)
  have d3 := Obj.data_mapFields f2 (·.setIfInBounds 3 (fr.elim .none fun f => rawInt f))
  have self := Heap.get?_update_self (Obj.mapFields (·.setIfInBounds 3 (fr.elim .none fun f => rawInt f))) f1 (Obj.isFreed_of_fields d3)
  unfold setFlight
  refine wpAny_bind (wpAny_field e1 e4 e5 ?_)
  rw [if_pos (show (((some t).elim Value.none Value.ref) != Value.none) = true from by simp)]
  refine wpAny_setField f1 f2 hz (h _ ⟨oe, vs, (oth x (Ne.symm ne)).trans e1, e2, e3, e4, e5, fun t' ht => ?_⟩ ⟨fun b o q _ n _ => ?_, fun b o q _ n => ?_, fun b o q => ?_⟩)
  · cases ht
    exact ⟨ne, _, _, self, d3, by simp [hz]⟩
  · exact (oth b fun z => n (by rw [z])).trans q
  · exact ⟨o.slots, (oth b fun z => n (by rw [z])).trans q⟩
  · by_cases z : b = t
    · exact ⟨_, by rw [z]; exact self⟩
    · exact ⟨o, (oth b z).trans q⟩
theorem new_entry {head : Value} {hadNext : Bool} {oe : Obj} {vs : Array Value} (hfr : A.frames = some (env :: outer)) (hl : s.heap.FunFrames base (env :: outer)) (hf : env.frame = some L)
    (e1 : s.heap.get? x = some oe) (e4 : oe.data = .fields vs) (hz : 1 < vs.size)
    (h : ∀ h' t', ExcAt h' x oe.cls oe.dict (some t') (rawInt L) → But x none (frsE (env :: outer)) s.heap h' → s.heap.objs.size ≤ t' → Q () { s with heap := h' }) :
    wpAny M A (do let a ← frameOf env; let pl ← entryPlaceOf L hadNext; let b ← EntryCells.newEntry head a .none (rawInt L) .none pl; setField (.ref x) 1 b) Q E s := by
  have nfr : x ∉ (env :: outer).filterMap (·.frame) := fun hm => by
    obtain ⟨_, o, ho, hn⟩ := hl.mem hm
    rw [e1] at ho; cases ho; exact hn vs e4
  refine wpAny_bind (wpAny_frameOf_fun hfr hl hf fun h1 s1 => ?_)
  refine wpAny_bind (wpAny_entryPlaceOf fun pl hpl => ?_)
  unfold EntryCells.newEntry newFields
  refine wpAny_bind (wpAny_newObj_type ?_ (hpl.sizeOk5 _ _ _ _ _))
  have x1 : h1.get? x = some oe := (s1.2.1 x nfr).trans e1
  generalize hnew : ({ cls := .type "traceback", dict := none, data := .fields ([head, .ref L, .none, rawInt L, .none] ++ (if pl.isEmpty then List.replicate 6 Value.none else pl)).toArray } : Obj) = new
  have x2 := Heap.get?_push_of_some (h := h1) new x1
  have x3 : h1.objs.size ≠ x := Nat.ne_of_gt (Heap.lt_size x1)
  have d3 := Obj.data_mapFields e4 (·.setIfInBounds 1 (Value.ref h1.objs.size))
  have x4 := Heap.get?_update_self (Obj.mapFields (·.setIfInBounds 1 (Value.ref h1.objs.size))) x2 (Obj.isFreed_of_fields d3)
  have x5 := (Heap.get?_update_other (h1.push new) (Obj.mapFields (·.setIfInBounds 1 (Value.ref h1.objs.size))) (Ne.symm x3)).trans (Heap.get?_push_size h1 (by subst hnew; rfl))
  have up : ∀ b o, b ≠ x → h1.get? b = some o → ((h1.push new).update x (Obj.mapFields (·.setIfInBounds 1 (Value.ref h1.objs.size)))).get? b = some o := fun b o n q => by
    rw [Heap.get?_update_other _ _ (Ne.symm n)]; exact Heap.get?_push_of_some _ q
  refine wpAny_setField x2 e4 hz (h _ h1.objs.size ⟨_, _, x4, Obj.cls_mapFields _ _, ?_, d3, by simp [hz], fun t' ht => ?_⟩ ⟨fun b o q n _ nf => ?_, fun b o q n _ => ?_, fun b o q => ?_⟩ ?_)
  · cases oe with | mk c d da sl => cases da <;> rfl
  · cases ht
    refine ⟨x3, new, _, x5, by subst hnew; rfl, ?_⟩
    first | (simp; done) | (rcases hpl with rfl | ⟨_, _, _, _, _, _, _, rfl⟩ <;> simp)
  · exact up b o n ((s1.2.1 b nf).trans q)
  · obtain ⟨sl, e⟩ := s1.2.2 b o q
    exact ⟨sl, up b _ n e⟩
  · by_cases z : b = x
    · exact ⟨_, by rw [z]; exact x4⟩
    · obtain ⟨sl, e⟩ := s1.2.2 b o q
      exact ⟨_, up b _ z e⟩
  · exact s1.1 ▸ Nat.le_refl _
theorem note_frame (hfr : A.frames = some (env :: outer)) (hl : s.heap.FunFrames base (env :: outer)) (hf : env.frame = some L) (he : ExcAt s.heap x C dx T fl) (hfl : fl = .none ∨ fl = rawInt L)
    (h : ∀ h' t', ExcAt h' x C dx (some t') (rawInt L) → But x T (frsE (env :: outer)) s.heap h' → (some t' = T ∨ s.heap.objs.size ≤ t') → Q () { s with heap := h' }) : wpAny M A (noteFrame (.ref x) env) Q E s := by
  obtain ⟨oe, vs, e1, rfl, rfl, e4, e5, e6⟩ := he
  have hz : 1 < vs.size := (Array.getElem?_eq_some_iff.mp e5).1
  unfold noteFrame
  simp only [hf]
  refine wpAny_bind (wpAny_field e1 e4 e5 ?_)
  cases T with
  | none =>
    rw [if_neg (by decide)]
    exact new_entry hfr hl hf e1 e4 hz fun h' t' a b c => h h' t' a b (.inr c)
  | some t =>
    obtain ⟨ne, oT, ts, f1, f2, f3⟩ := e6 t rfl
    rw [if_pos (show (((some t).elim Value.none Value.ref) != Value.none) = true from by simp)]
    refine wpAny_bind (wpAny_field f1 f2 f3 ?_)
    by_cases z : fl = rawInt L
    · subst z
      rw [if_pos (by simp)]
      exact wpAny_pure (h _ t ⟨oe, vs, e1, rfl, rfl, e4, e5, fun t' ht => by cases ht; exact ⟨ne, oT, ts, f1, f2, f3⟩⟩ But.refl (.inl rfl))
    · obtain rfl : fl = .none := hfl.resolve_right z
      rw [if_neg (show ¬ ((Value.none == rawInt L) = true) from by simp [rawInt])]
      refine wpAny_bind (wpAny_setField f1 f2 (Array.getElem?_eq_some_iff.mp f3).1 ?_)
      have oth : ∀ b, b ≠ t → (s.heap.update t (Obj.mapFields (·.setIfInBounds 3 Value.none))).get? b = s.heap.get? b := fun b hb => Heap.get?_update_other _ _ (Ne.symm hb)
      have self := Heap.get?_update_self (Obj.mapFields (·.setIfInBounds 3 Value.none)) f1 (Obj.isFreed_of_fields (Obj.data_mapFields f2 _))
      refine new_entry (base := base) (outer := outer) hfr (hl.of_keeps fun b o q hn => ⟨o, (oth b fun z => ?_).trans q, rfl⟩) hf ((oth x (Ne.symm ne)).trans e1) e4 hz fun h' t' a b c => h h' t' a ⟨fun b' o q n m nf => ?_, fun b' o q n m => ?_, fun b' o q => ?_⟩ (.inr ?_)
      · subst z; rw [f1] at q; cases q; exact hn ts f2
      · exact b.keep b' o ((oth b' fun z => m (by rw [z])).trans q) n (by simp) nf
      · exact b.slot b' o ((oth b' fun z => m (by rw [z])).trans q) n (by simp)
      · by_cases z : b' = t
        · exact b.there b' _ (by rw [z]; exact self)
        · exact b.there b' o ((oth b' z).trans q)
      · simpa using c
theorem leave_exc (hfr : A.frames = some (env :: outer)) (hl : s.heap.FunFrames base (env :: outer)) (hf : env.frame = some L) (he : ExcAt s.heap x C dx T fl) (hfl : fl = .none ∨ fl = rawInt L)
    (h : ∀ h' t', ExcAt h' x C dx (some t') .none → But x T (frsE (env :: outer)) s.heap h' → (some t' = T ∨ s.heap.objs.size ≤ t') → Q () { s with heap := h' }) : wpAny M A (leaving env (.ref x)) Q E s := by
  unfold leaving
  refine wpAny_bind (note_frame hfr hl hf he hfl fun h1 t1 a b c => ?_)
  refine set_flight (fr := none) a fun h2 a2 b2 => h h2 t1 a2 ⟨fun b' o q n m nf => ?_, fun b' o q n m => ?_, fun b' o q => ?_⟩ c
  · refine b2.keep b' o (b.keep b' o q n m nf) n (fun z => ?_) (by simp)
    rcases c with c | c
    · exact m (z.trans c)
    · have lt := Heap.lt_size q; cases z; exact absurd lt (Nat.not_lt.mpr c)
  · obtain ⟨sl, e⟩ := b.slot b' o q n m
    refine ⟨sl, b2.keep b' _ e n (fun z => ?_) (by simp)⟩
    rcases c with c | c
    · exact m (z.trans c)
    · have lt := Heap.lt_size q; cases z; exact absurd lt (Nat.not_lt.mpr c)
  · obtain ⟨o1, e⟩ := b.there b' o q
    exact b2.there b' o1 e
end
end L4
namespace L4
open PySem PySem.Spec PyProof.Rows L2 L3
structure Own1 (X : Cx) (pins : List (Addr × Obj)) (H : Hp) (b : Addr) : Prop where
  no : H b = none
  ab : X.s₀.heap.objs.size ≤ b
  lo : b ≠ X.env.locals
  ce : ∀ x c, X.env.cells.lookup x = some c → c ≠ b
  pi : ∀ p ∈ X.pn ++ pins, p.1 ≠ b
def CX1 (P : Program) (w : World) : CXT := fun outer H s E e s' => ∃ x C dx t H', e = Value.ref x ∧ s'.os = s.os ∧ AllBare s'.gens ∧ Un (frs outer) [] H H' s.heap s'.heap ∧ HOk P w H' s'.heap ∧
  ExcAt s'.heap x C dx (some t) .none ∧ s.heap.objs.size ≤ x ∧ s.heap.objs.size ≤ t ∧ H' x = none ∧ H' t = none ∧ E C dx H'
theorem noErr1 {P : Program} {w : World} : NoErr (CX1 P w) := fun _ _ _ _ _ ⟨_, _, _, _, _, _, _, _, _, _, _, _, _, _, _, h⟩ => h
def XS (X : Cx) (Ex : St → XK) (e : Value) (s' : Shared) : Prop := ∃ pins σ H x C dx T fl, e = Value.ref x ∧ Inv X pins σ H s' ∧ ExcAt s'.heap x C dx T fl ∧ (fl = .none ∨ fl = rawInt X.env.locals) ∧ Own1 X pins H x ∧ (∀ t, T = some t → Own1 X pins H t) ∧ Ex σ C dx H
def PaX (X : Cx) (Ex : St → XK) : Prop := ∀ e s', XS X Ex e s' → X.xe e s'
section
variable {X : Cx} {pins : List (Addr × Obj)} {σ : St} {H H' : Hp} {s s' : Shared} {Ex : St → XK} {e : Value}
theorem own1_of (I : Inv X pins σ H s) {b : Addr} (hb : s.heap.objs.size ≤ b) (n : H' b = none) : Own1 X pins H' b :=
  ⟨n, Nat.le_trans I.sz hb, Nat.ne_of_gt (Nat.lt_of_lt_of_le I.lt hb), fun x c e z => by
    obtain ⟨v, o, ho, _⟩ := I.cell x c e
    exact absurd (Heap.lt_size ho) (by rw [z]; exact Nat.not_lt.mpr hb), fun p hp z => by
    have := (I.pin p hp).1
    exact absurd (Heap.lt_size this) (by rw [z]; exact Nat.not_lt.mpr hb)⟩
theorem inv_but {x : Addr} {T : Option Addr} {h' : Heap} (I : Inv X pins σ H s) (hx : Own1 X pins H x) (hT : ∀ t, T = some t → Own1 X pins H t) (b : But x T (frs X.stack) s.heap h') : Inv X pins σ H { s with heap := h' } := by
  have nx : ∀ c, c ∉ x :: T.toList → c ≠ x ∧ some c ≠ T := fun c hc => ⟨fun z => hc (by rw [z]; exact List.mem_cons_self), fun z => hc (List.mem_cons_of_mem _ (by rw [← z]; simp))⟩
  refine I.call' (s' := { s with heap := h' }) (ch := x :: T.toList) rfl ⟨fun c o q _ nf nc => b.keep c o q (nx c nc).1 (nx c nc).2 nf, fun c o q _ _ nc => b.slot c o q (nx c nc).1 (nx c nc).2, fun _ _ _ n _ => n, fun c o q _ => b.there c o q, fun _ _ q => q, fun _ _ _ q => q, fun _ ps q => ⟨#[], by rw [q]; simp⟩⟩ (fun a o q => ?_) I.bare (fun c hc => ?_)
  · refine (I.hok a o q).stay (fun c u hc r => ?_) (fun _ r => r) fun _ _ r => r
    obtain ⟨v, hv⟩ : ∃ v, H c = some v := by
      rcases hc with rfl | hc
      · exact ⟨_, q⟩
      · exact ⟨_, hc⟩
    refine b.keep c u r (fun z => ?_) (fun z => ?_) (fun z => ?_)
    · rw [z, hx.no] at hv; cases hv
    · rw [(hT c z.symm).no] at hv; cases hv
    · rw [I.stkFree c z] at hv; cases hv
  · have w : Own1 X pins H c := by
      rcases List.mem_cons.mp hc with rfl | hc
      · exact hx
      · exact hT c (by simpa using hc)
    exact ⟨.inr w.ab, w.lo, w.ce, w.pi⟩
theorem xs_call (I : Inv X pins σ H s) (h : CX1 X.prog X.w X.stack H s (Ex σ) e s') : XS X Ex e s' := by
  obtain ⟨x, C, dx, t, H', rfl, os, bare, un, hok, ex, x1, t1, nx, nt, q⟩ := h
  exact ⟨pins, σ, H', x, C, dx, some t, .none, rfl, I.call' (ch := []) os un hok bare (fun b z => absurd z (by simp)), ex, .inl rfl, own1_of I x1 nx, fun t' z => by cases z; exact own1_of I t1 nt, q⟩
theorem xs_leave {P : Program} {w : World} {K : PySem.W.Frag} {mg : Str → Option Value} {base : Heap} {N : List Str} {qual : Str} {scope : Scope} {f : Addr} {cd : Value} {A : Around} {outer : List Env} {s0 : Shared} {H0 : Hp} {E : XK} :
    PaX (cxOf (CX1 P w) P w K mg base N qual scope f cd A outer s0 H0 E) (fun _ => E) := fun e s' h => by
  obtain ⟨pins, σ, H, x, C, dx, T, fl, rfl, I, ex, hfl, ox, oT, q⟩ := h
  refine leave_exc (base := base) (outer := outer) I.ok.frames I.stack rfl ex hfl fun h' t' a b c => ?_
  have J := inv_but I ox oT b
  have ot : s0.heap.objs.size ≤ t' ∧ H t' = none := by
    rcases c with c | c
    · exact ⟨(oT t' c.symm).ab, (oT t' c.symm).no⟩
    · exact ⟨Nat.le_trans I.sz c, I.hok.fresh c⟩
  exact ⟨x, C, dx, t', H, rfl, J.os, J.bare, J.base, J.hok, a, ox.ab, ot.1, ox.no, ot.2, q⟩
end
section
variable {X : Cx} {k : Nat} {f C : Addr} {fd : FuncData} {ps : List Str} {sp : Sp} {Ex : St → XK} {x m : Str} {p pos apos : Pos} {e o : Expr} {es : List Expr} {ta : TE} {t : TA}
theorem run_fnX {pins : List (Addr × Obj)} {σ : St} {H : Hp} {s : Shared} {Q : VK} {us : List Value} {vs : List V} (F : FnOk X.prog X.w X.K X.mg X.base (CX1 X.prog X.w) k f fd ps sp) (hr : Room k X.A) (hb : Binds X.K fd ps []) (hx : PaX X Ex)
    (I : Inv X pins σ H s) (r : Vals vs us) (h : sp vs H Q (Ex σ)) : wpAny (model X.prog X.w) X.A (call (.ref f) us) (EP X pins σ Q) X.xe s := by
  have hl : us.length = ps.length := by rw [← r.length]; exact F.len _ _ _ _ h
  have hb' := hb s us I.kIn (by rw [List.append_nil]; exact hl)
  rw [List.append_nil] at hb'
  refine wpAny_call (codeAny_mono (F.run X.A X.stack s H ⟨us, []⟩ us vs Q (Ex σ) hr I.env0 hb' r h) fun r s' hq => ?_)
  cases r with
  | error e => exact hx e s' (xs_call I hq)
  | ok fl =>
    cases fl with
    | ret u => exact I.after hq
    | _ => exact False.elim hq
end
end L4
namespace L4
open PySem PySem.Spec PyProof.Rows L2 L3 PySem.W
section
variable {prog : Program} {w : World} {A : Around} {E : Value → Shared → Prop} {h : Heap} {g : Array GenState} {d : Drawn} {t : Nat} {os : OsState}
variable {nm q : Str} {C N : Addr} {bs bm bmB : List Value} {hdct : Bool} {sn : List Str} {sub : List Value} {ab : Bool} {col : Option Bool} {dd : Option Addr} {k0 k1 k2 k3 k5 : Option Value} {B newId initId : String}
abbrev exc2 (h : Heap) (C : Addr) (rest : List Value) : Heap := (h.push { cls := .type "tuple", data := .seq rest.toArray }).push { cls := .ref C, data := .fields #[.ref h.objs.size, .none, .none, .none, .bool false, .none] }
theorem exc2_keeps {rest : List Value} : ∀ b o, h.get? b = some o → (exc2 h C rest).get? b = some o := fun _ _ e => Heap.get?_push_of_some _ (Heap.get?_push_of_some _ e)
theorem exc2_get {rest : List Value} : (exc2 h C rest).get? (h.objs.size + 1) = some { cls := .ref C, data := .fields #[.ref h.objs.size, .none, .none, .none, .bool false, .none] } := by heap_get
theorem exc_type_call (F : ExcBaseFacts B newId initId bmB) (T : OwnTail h bmB bm) {rest : List Value} {init : Value} {Q : Fin → Shared → Prop}
    (hC : h.get? C = some (excClassObj nm q C N bs bm hdct sn sub ab col dd k0 k1 k2 k3 k5 newId)) (hi : Looks (model prog w) h (typeLookup (.ref C) "__init__") (some init)) (hb : ∀ self, Looks (model prog w) h (bindSpecial init self) (init, [self]))
    (hq : wpAny (model prog w) A (call init (.ref (h.objs.size + 1) :: rest)) (fun r s' => r = .none ∧ Q (.done (.ret (.ref (h.objs.size + 1)))) s') E ⟨exc2 h C rest, g, d, t, os⟩) (hrest : rest.length ≤ sizeLine) :
    wpAny (model prog w) A (Builtin.«type.__call__» ⟨.ref C :: rest, []⟩) Q E ⟨h, g, d, t, os⟩ := by
  repeat (first | with_reducible refine wpAny_loadPart_at hC ?_ | with_reducible refine wpAny_madeBy_exc hC ?_ | wp_step)
  refine codeAny_call_builtin_code (Code.quiet_builtin _ F.quiet) (wpAny_check_new_subT F T hC ?_)
  refine codeAny_exc_new_subT F T hC ?_ hrest
  show wpAny _ _ _ _ _ _
  have hC1 := exc2_keeps (C := C) (rest := rest) _ _ hC
  have hg := exc2_get (h := h) (C := C) (rest := rest)
  have hcC : (Value.ref C :: bm).contains (.ref C) = true := by simp
  unfold isInstance
  repeat (first | with_reducible refine wpAny_loadPart_at hg ?_ | (with_reducible refine wpAny_isSubtype_exc hC1 ?_; rw [hcC]) | wp_step)
  show wpAny _ _ (typeLookup (.ref C) _) _ _ _
  refine hi _ _ _ _ exc2_keeps ?_
  refine wpAny_holding (wpAny_bind (hb _ _ _ _ _ exc2_keeps ?_))
  refine wpAny_bind (wpAny_mono hq (fun r s' hr => ?_) fun _ _ x => x)
  obtain ⟨rfl, hQ⟩ := hr
  wp_walk
  exact hQ
theorem exc_call (F : ExcBaseFacts B newId initId bmB) (T : OwnTail h bmB bm) {rest : List Value} {init : Value} {Q : Value → Shared → Prop}
    (hC : h.get? C = some (excClassObj nm q C N bs bm hdct sn sub ab col dd k0 k1 k2 k3 k5 newId)) (hi : Looks (model prog w) h (typeLookup (.ref C) "__init__") (some init)) (hb : ∀ self, Looks (model prog w) h (bindSpecial init self) (init, [self]))
    (hq : wpAny (model prog w) (A.under (.builtin "type.__call__" ⟨.ref C :: rest, []⟩)) (call init (.ref (h.objs.size + 1) :: rest)) (fun r s' => r = .none ∧ Q (.ref (h.objs.size + 1)) s') E ⟨exc2 h C rest, g, d, t, os⟩) (hrest : rest.length ≤ sizeLine) :
    wpAny (model prog w) A (call (.ref C) rest) Q E ⟨h, g, d, t, os⟩ := by
  have f1 := tc_lookup
  have f2 := tc_bind (.ref C)
  have hT : (⟨h, g, d, t, os⟩ : Shared).TypeIs (.ref C) "type" := ⟨_, hC, rfl⟩
  refine wpAny_call (codeAny_of_tree ?_)
  show wpAny _ _ (callAny (.ref C) _) _ _ _
  repeat (any_goals (first | assumption | with_reducible refine wpAny_loadPart_at hC ?_ | wp_step))
  refine ⟨rfl, ?_⟩
  exact codeAny_call_builtin_at (Code.quiet_builtin _ (by decide +kernel)) entry_typeCall (wpAny_check_type_call_sub hC (exc_type_call F T hC hi hb hq hrest))
theorem exc_init (F : ExcBaseFacts B newId initId bmB) (T : OwnTail h bmB bm) {e a0 : Addr} {oe : Obj} {vs : Array Value} {rest : List Value} {Q : Value → Shared → Prop}
    (hC : h.get? C = some (excClassObj nm q C N bs bm hdct sn sub ab col dd k0 k1 k2 k3 k5 newId)) (he : h.get? e = some oe) (hcls : oe.cls = .ref C) (hd : oe.data = .fields vs) (hz : 0 < vs.size) (h0 : vs[0]? = some (.ref a0))
    (hq : ∀ h', h' = (h.push { cls := .type "tuple", data := .seq rest.toArray }).update e (Obj.mapFields (·.setIfInBounds 0 (.ref h.objs.size))) → Q .none ⟨h', g, d, t, os⟩) (hrest : rest.length ≤ sizeLine) :
    wpAny (model prog w) A (call (.builtin initId) (.ref e :: rest)) Q E ⟨h, g, d, t, os⟩ := by
  refine wpAny_call (codeAny_call_builtin F.init.plain F.initEntry (wpAny_check_init_subT F T hC he hcls ?_))
  obtain ⟨oc, od, da, sl⟩ := oe
  dsimp only at hcls hd
  subst hcls hd
  unfold Builtin.«BaseException.__init__»
  repeat (first | with_reducible refine wpAny_loadPart_at he ?_ | wp_step)
  rw [h0]
  refine wpAny_pure ?_
  refine wpAny_bind (wpAny_setField (Heap.get?_push_of_some _ he) rfl hz (wpAny_letGo ?_))
  exact wpAny_pure (hq _ rfl)
end
section
variable {M : Model} {A : Around} {E : Value → Shared → Prop} {env : Env}
variable {nm q : Str} {C N : Addr} {bs bm : List Value} {hdct : Bool} {sn : List Str} {sub : List Value} {ab : Bool} {col : Option Bool} {dd : Option Addr} {k0 k1 k2 k3 k5 : Option Value} {newId : String}
theorem raise_made {s : Shared} {x : Sem Value} {Q : Flow → Shared → Prop} (hbase : bm.contains (.type "BaseException") = true) (hh : A.handled = none)
    (h : wpAny M A x (fun v s₁ => ∃ e oe vs, v = .ref e ∧ s₁.heap.get? C = some (excClassObj nm q C N bs bm hdct sn sub ab col dd k0 k1 k2 k3 k5 newId) ∧
      s₁.heap.get? e = some oe ∧ oe.cls = .ref C ∧ oe.data = .fields vs ∧ vs[1]? = some .none ∧ E (.ref e) s₁) E s) :
    wpAny M A (raiseStmt env (some x) none) Q E s := by
  have hcB : (Value.ref C :: bm).contains (.type "BaseException") = true := by rw [List.contains_cons, hbase, Bool.or_true]
  unfold raiseStmt
  refine wpAny_bind (wpAny_mono h (fun v s₁ h₁ => ?_) fun _ _ x => x)
  obtain ⟨e, oe, vs, rfl, hC, he, hcls, hd, h1, hE⟩ := h₁
  obtain ⟨hp, g, d, tk, os⟩ := s₁
  have hnd : ∀ cd, oe.data ≠ .cls cd := fun cd z => by rw [hd] at z; cases z
  obtain ⟨oc, od, da, sl⟩ := oe
  dsimp only at hcls hd
  subst hcls hd
  repeat (first | with_reducible refine wpAny_loadPart_at he ?_ | with_reducible refine wpAny_loadPart_at hC ?_ | (with_reducible refine wpAny_isSubtype_exc hC ?_; rw [hcB]) | wp_step)
  rw [h1]
  refine wpAny_pure ?_
  rw [if_neg (by decide)]
  exact wpAny_pure (wpAny_raiseNew_none hh hE)
end
end L4
namespace L4
open PySem PySem.Spec PyProof.Rows L2 L3 PySem.W
abbrev xcx (X : Cx) (Ex : St → XK) : Cx := X.wish (XS X Ex)
section
variable {X : Cx} {Ex : St → XK} {st : List Stmt} {t : TS}
theorem Own1.unwish {E : Value → Shared → Prop} {pins : List (Addr × Obj)} {H : Hp} {b : Addr} (o : Own1 (X.wish E) pins H b) : Own1 X pins H b := ⟨o.no, o.ab, o.lo, o.ce, o.pi⟩
theorem paX_self : PaX (xcx X Ex) Ex := fun _ _ ⟨pins, σ, H, x, C, dx, T, fl, a, I, b, c, o, oT, q⟩ =>
  ⟨pins, σ, H, x, C, dx, T, fl, a, I.unwish, b, c, o.unwish, fun t ht => (oT t ht).unwish, q⟩
theorem PSs.x (h : PSs (xcx X Ex) st t) (hx : PaX X Ex) : PSs X st t := fun pins s σ H D I hw => wpAny_mono (h pins s σ H D (I.wish _) hw) (fun _ _ q => q.unwish) hx
theorem But.mono {x : Addr} {T : Option Addr} {fs fs' : List Addr} {h h' : Heap} (b : But x T fs h h') (m : ∀ a ∈ fs, a ∈ fs') : But x T fs' h h' := ⟨fun c o q n k f => b.keep c o q n k fun z => f (m c z), b.slot, b.there⟩
end
section
variable {P : Program} {w : World} {K : Frag} {mg : Str → Option Value} {base : Heap} {x qual : Str} {st : Stmt} {N ps : List Str} {k : Nat} {sp : Sp} {C : Addr}
theorem _root_.L3.Dat.okR (D : Dat K mg x qual st ps) (S : FnScope N ps (defScope st)) (len : ∀ vs H Q E, sp vs H Q E → vs.length = ps.length)
    (hbody : ∀ (f : Addr) (cdv : Value) (A : Around) (outer : List Env) (s : Shared) (H : Hp) (vs : List V) (Q : VK) (E : XK), Room k (A.deeper (envOfC qual (defScope st) s.heap.objs.size f cdv)) → sp vs H Q E →
      ∃ t, PSs (xcx (cxOf (CX1 P w) P w K mg base N qual (defScope st) f cdv A outer s H E) (fun _ => E)) (defBody st) t ∧ t { nx := fun _ H' => Q .non H', rt := Q } (start N vs) H) : Cal P w K mg base (CX1 P w) x (k + 1) ps sp :=
  D.okX S len fun f cdv A outer s H vs Q E hr h => by
    obtain ⟨t, ht, q⟩ := hbody f cdv A outer s H vs Q E hr h
    exact ⟨t, L4.PSs.x ht xs_leave, q⟩
end
def vErr : List Value := [.type "ValueError", .type "Exception", .type "BaseException", .type "object"]
def exc1In (K : Frag) (C : Addr) (bmB : List Value) (newId : String) : Bool := match K.lookup C with
  | some ⟨.type "type", _, .cls cd, sl⟩ => (match cd.mro, sl.toList with
    | .ref c :: bm, [_, _, _, _, some (.builtin n), _] => c == C && n == newId && !cd.hasDel && tailIn K bmB bm
    | _, _ => false)
  | _ => false
theorem exc1_of {K : Frag} {h : Heap} {C : Addr} {bmB : List Value} {newId : String} (X : K.In h) (z : exc1In K C bmB newId = true) : ∃ nm q N bs bm hdct sn sub ab col dd k0 k1 k2 k3 k5,
    h.get? C = some (excClassObj nm q C N bs bm hdct sn sub ab col dd k0 k1 k2 k3 k5 newId) ∧ OwnTail h bmB bm := by
  unfold exc1In at z
  split at z
  · rename_i dd cd sl ho
    split at z
    · rename_i c bm k0 k1 k2 k3 n k5 hm hs
      simp only [Bool.and_eq_true, beq_iff_eq, Bool.not_eq_true'] at z
      obtain ⟨⟨⟨rfl, rfl⟩, hdel⟩, ht⟩ := z
      obtain ⟨nm, bs, mro, ns, qn, hd, sn, sub, ab, col, del⟩ := cd
      dsimp only at hm hdel
      subst hm hdel
      obtain ⟨l⟩ := sl
      simp only at hs
      subst hs
      exact ⟨nm, qn, ns, bs, bm, hd, sn, sub, ab, col, dd, k0, k1, k2, k3, k5, X _ _ ho, tail_of_in X ht⟩
    · cases z
  · cases z
structure ECls (K : Frag) (mg : Str → Option Value) (x : Str) (C : Addr) : Prop where
  ok : exc1In K C vErr "ValueError.__new__" = true
  init : findIn K (.ref C) "__init__" = some (some (.builtin "ValueError.__init__"))
  kp : keepIn K (.ref C) = true
  mg : mg x = some (.ref C)
def tRaise (C : Addr) (Ex : St → XK) (tl : TA) : TS := fun _ σ H => tl σ H fun vs H1 => vs.length ≤ 1000 ∧ Ex σ (.ref C) none H1
theorem ps_raise {X : Cx} {Ex : St → XK} {x : Str} {C : Addr} {e : Expr} {es : List Expr} {t : TA} {np cpos pos : Pos} (O : ECls X.K X.mg x C) (hc : X.calm = true) (hx : PaX X Ex) (ha : PA X (e :: es) t) (hg : Gl X x := by rfl)
    (hdb : (x == ("__debug__" : Str)) = false := by decide) (he : starEach (e :: es) X.env = (false, eval e X.env) :: starEach es X.env := by rfl) (hpl : (backTo cpos (starEach es X.env)).any (·.1) = false := by rfl) :
    PS X (.Raise (some (.Call (.Name x np) (e :: es) [] cpos)) none pos) (tRaise C Ex t) := by
  intro pins s σ H D I h
  obtain ⟨nm, q, N, bs, bm, hdct, sn, sub, ab, col, dd, k0, k1, k2, k3, k5, hC, T⟩ := exc1_of I.ok.mod.kin O.ok
  rw [arm_exec_Raise]
  refine wpAny_bind (wpAny_standAt (raise_made (C := C) (nm := nm) (q := q) (N := N) (bs := bs) (bm := bm) (hdct := hdct) (sn := sn) (sub := sub) (ab := ab) (col := col) (dd := dd) (k0 := k0) (k1 := k1) (k2 := k2) (k3 := k3) (k5 := k5) (newId := "ValueError.__new__") (T.hasType (by decide +kernel)) (I.ok.hd hc) (wpAny_bind ?_)))
  refine wpAny_Call_Name_kw (ld_glob I hg O.mg ?_ hdb)
  refine callWith_K (h₀ := X.base) I.ok.mod.kin O.kp (thn (ha cpos pins s σ H _ I h) fun us s1 ⟨vs, H1, I1, r, hz, qx⟩ => ⟨I1.kIn, ?_⟩) he hpl
  have hl : us.length ≤ sizeLine := by rw [← r.length]; exact Nat.le_of_lt (small1000 hz)
  have T1 := T.keeps I1.bk
  have hC1 := I1.bk _ _ hC
  obtain ⟨hp, g, d, tk, os⟩ := s1
  show wpAny (model X.prog X.w) X.A (call (.ref C) us) _ _ _
  refine exc_call PySem.F.excBase_ValueError T1 hC1 (looks_findIn I1.kIn O.init) (fun self => Looks.of_pure (PySem.F.excBase_ValueError.init.bind self)) ?_ hl
  refine exc_init PySem.F.excBase_ValueError (T1.keeps exc2_keeps) (exc2_keeps _ _ hC1) exc2_get rfl rfl (Nat.zero_lt_succ _) rfl (fun h3 e3 => ⟨rfl, ?_⟩) hl
  have kp : ∀ b o, hp.get? b = some o → h3.get? b = some o := fun b o z => by
    rw [e3, Heap.get?_update_other _ _ (Nat.ne_of_gt (Nat.lt_succ_of_lt (Heap.lt_size z)))]
    exact Heap.get?_push_of_some _ (exc2_keeps _ _ z)
  have hz3 : (exc2 hp C us).objs.size = hp.objs.size + 2 := by rw [Heap.size_push, Heap.size_push]
  have g3 := Heap.get?_update_self (Obj.mapFields (·.setIfInBounds 0 (.ref (exc2 hp C us).objs.size))) (Heap.get?_push_of_some { cls := .type "tuple", data := .seq us.toArray } (exc2_get (h := hp) (C := C) (rest := us))) rfl
  rw [← e3] at g3
  have I3 : Inv X pins σ H1 ⟨h3, g, d, tk, os⟩ := I1.kept (t' := tk) kp
  refine wpAny_bind (wpAny_standAt (wpAny_pure ⟨_, _, _, rfl, kp _ _ hC1, g3, rfl, rfl, rfl, hx _ _ ⟨pins, σ, H1, hp.objs.size + 1, .ref C, none, none, .none, rfl, I3, ⟨_, _, g3, rfl, rfl, rfl, rfl, fun t ht => by cases ht⟩, .inl rfl, own1_of I1 (Nat.le_succ _) (I1.hok.fresh (Nat.le_succ _)), (fun t ht => by cases ht), qx⟩⟩))
end L4
namespace L4
open PySem PySem.Spec PyProof.Rows L2 L3 PySem.W
def ExcP (x : Addr) (C : Value) (dx : Option Addr) : Heap → Prop := fun h => ∃ oe vs, h.get? x = some oe ∧ oe.cls = C ∧ oe.dict = dx ∧ oe.data = .fields vs
abbrev ExcO (x : Addr) (C : Value) (dx : Option Addr) : HO := .ext (ExcP x C dx)
section
variable {X : Cx} {pins : List (Addr × Obj)} {σ : St} {H : Hp} {s : Shared}
theorem inv_track {x : Addr} {φ : Heap → Prop} (I : Inv X pins σ H s) (o : Own1 X pins H x) (p : φ s.heap) (th : ∃ ob, s.heap.get? x = some ob) (st : ∀ h1 h2 : Heap, φ h1 → (∀ ob, h1.get? x = some ob → h2.get? x = some ob) → φ h2) : Inv X pins σ (upd H x (.ext φ)) s := by
  have ne : ∀ b u, H b = some u → b ≠ x := fun b u e z => by rw [z, o.no] at e; cases e
  refine ⟨I.ok, I.os, I.bare, ⟨I.base.keep, I.base.slot, fun b ob e n hx => ?_, I.base.there, fun b xs e => ?_, fun b ob u e => ?_, fun b ps e => ?_⟩, I.loc, I.cell, ?_, fun y c e => ?_, fun q hq => ?_, fun b u e => ?_, I.len⟩
  · rw [upd_ne (Nat.ne_of_lt (Nat.lt_of_lt_of_le (Heap.lt_size e) o.ab))]; exact I.base.free b ob e n hx
  · have := I.base.tups b xs e; rw [upd_ne (ne _ _ this)]; exact this
  · have := I.base.frzs b ob u e; rw [upd_ne (ne _ _ this)]; exact this
  · obtain ⟨m, h⟩ := I.base.tbls b ps e
    exact ⟨m, by rw [upd_ne (ne _ _ h)]; exact h⟩
  · rw [upd_ne (Ne.symm o.lo)]; exact I.free
  · rw [upd_ne (o.ce y c e)]; exact I.freeC y c e
  · obtain ⟨a, b, r⟩ := I.pin q hq
    exact ⟨a, by rw [upd_ne (o.pi q hq)]; exact b, r⟩
  · by_cases z : b = x
    · subst z; rw [upd_same] at e; cases e; exact ⟨p, th, st⟩
    · rw [upd_ne z] at e
      exact (I.hok b u e).stay (fun _ _ _ q => q) (fun c q => by rw [upd_ne (ne _ _ q)]; exact q) fun c xs q => by rw [upd_ne (ne _ _ q)]; exact q
end
end L4
namespace L4
open PySem PySem.Spec PyProof.Rows L2 L3 PySem.W
abbrev Cx.pinned (X : Cx) (pins : List (Addr × Obj)) : Cx := { X with pn := X.pn ++ pins }
abbrev Cx.hand (X : Cx) (x : Addr) : Cx := { X with A := X.A.mark (some (.ref x)), calm := false, xe := fun _ _ => False }
section
variable {X : Cx} {pins pins' : List (Addr × Obj)} {σ : St} {H : Hp} {s : Shared}
theorem ok_pin (ok : X.Ok) : (Cx.pinned X pins).Ok := ⟨ok.mod, ok.kind, ok.glob, ok.blt, ok.above, ok.inj, ok.has, ok.cab, ok.hd, ok.frames, ok.stk, ok.exf, ok.bs, ok.bsz, ok.noex, ok.exfs, ok.funs, ok.frf⟩
theorem ok_unpin (ok : (Cx.pinned X pins).Ok) : X.Ok := ⟨ok.mod, ok.kind, ok.glob, ok.blt, ok.above, ok.inj, ok.has, ok.cab, ok.hd, ok.frames, ok.stk, ok.exf, ok.bs, ok.bsz, ok.noex, ok.exfs, ok.funs, ok.frf⟩
theorem inv_pin (I : Inv X pins σ H s) : Inv (Cx.pinned X pins) [] σ H s := ⟨ok_pin I.ok, I.os, I.bare, I.base, I.loc, I.cell, I.free, I.freeC, fun p hp => I.pin p (by simpa using hp), I.hok, I.len⟩
theorem inv_unpin (I : Inv (Cx.pinned X pins) pins' σ H s) : Inv X pins σ H s := ⟨ok_unpin I.ok, I.os, I.bare, I.base, I.loc, I.cell, I.free, I.freeC, fun p hp => I.pin p (List.mem_append_left _ hp), I.hok, I.len⟩
theorem own_unpin {b : Addr} (o : Own1 (Cx.pinned X pins) pins' H b) : Own1 X pins H b := ⟨o.no, o.ab, o.lo, o.ce, fun p hp => o.pi p (List.mem_append_left _ hp)⟩
theorem inv_hand {x : Addr} (I : Inv X pins σ H s) : Inv (Cx.hand X x) pins σ H s :=
  ⟨⟨I.ok.mod, I.ok.kind, I.ok.glob, I.ok.blt, I.ok.above, I.ok.inj, I.ok.has, I.ok.cab, (fun z => absurd z Bool.false_ne_true), I.ok.frames, I.ok.stk, I.ok.exf, I.ok.bs, I.ok.bsz, I.ok.noex, I.ok.exfs, I.ok.funs, I.ok.frf⟩, I.os, I.bare, I.base, I.loc, I.cell, I.free, I.freeC, I.pin, I.hok, I.len⟩
theorem inv_unhand {x : Addr} (ok : X.Ok) (I : Inv (Cx.hand X x) pins σ H s) : Inv X pins σ H s := ⟨ok, I.os, I.bare, I.base, I.loc, I.cell, I.free, I.freeC, I.pin, I.hok, I.len⟩
theorem sp_unpin {E : Value → Shared → Prop} {D : Ends} {f : Flow} {s' : Shared} (h : SP ((Cx.pinned X pins).wish E) pins' D f s') : SP X pins D f s' := by
  have h := h.unwish
  cases f with
  | next => obtain ⟨σ', H', I, q⟩ := h; exact ⟨σ', H', inv_unpin I, q⟩
  | brk => obtain ⟨σ', H', I, q⟩ := h; exact ⟨σ', H', inv_unpin I, q⟩
  | cont => obtain ⟨σ', H', I, q⟩ := h; exact ⟨σ', H', inv_unpin I, q⟩
  | ret u => obtain ⟨v, σ', H', I, r, q⟩ := h; exact ⟨v, σ', H', inv_unpin I, r, q⟩
theorem at_handler {M : Model} {E : Value → Shared → Prop} {Q : Shared → Prop} {x : Addr} {C fl : Value} {dx T : Option Addr} (hs : X.stack = X.env :: X.outer) (hf : X.env.frame = some X.env.locals) (I : Inv X pins σ H s) (ex : ExcAt s.heap x C dx T fl) (hfl : fl = .none ∨ fl = rawInt X.env.locals) (ox : Own1 X pins H x) (oT : ∀ t, T = some t → Own1 X pins H t)
    (h : ∀ s' t, Inv X pins σ H s' → ExcAt s'.heap x C dx (some t) .none → Own1 X pins H t → Q s') :
    wpAny M X.A (noteFrame (.ref x) X.env) (fun _ s2 => wpAny M X.A (setFlight (.ref x) none) (fun _ s3 => Q s3) E s2) E s := by
  have hfr := I.ok.frames
  have hst := I.stack
  rw [hs] at hfr hst
  refine note_frame (base := X.base) hfr hst hf ex hfl fun h1 t1 a b c => ?_
  have ot : Own1 X pins H t1 := by
    rcases c with c | c
    · exact oT t1 c.symm
    · exact own1_of I c (I.hok.fresh c)
  have J := inv_but I ox oT (by rw [hs]; exact b)
  exact set_flight (fr := none) a fun h2 a2 b2 => h _ t1 (inv_but J ox (fun t ht => by cases ht; exact ot) (b2.mono fun _ z => absurd z (by simp))) a2 ot
end
def tTry (K : Frag) (CH : Value) (tb : (St → XK) → TS) (th : TS) (Ex : St → XK) : TS := fun D σ H =>
  tb (fun σ' C dx H' => ∃ b, exmOne K C CH = some b ∧ if b = true then th D σ' H' else Ex σ' C dx H') D σ H
section
variable {X : Cx} {Ex : St → XK} {body suite : List Stmt} {b₀ : Stmt} {cx n : Str} {np hpos pos : Pos} {CH : Addr} {i : Nat} {tb : (St → XK) → TS} {th : TS}
theorem looks_cls {M : Model} {h : Heap} {x : Addr} {C : Value} {dx T : Option Addr} {fl : Value} (ex : ExcAt h x C dx T fl) : Looks M h (typeOf (.ref x)) C := by
  obtain ⟨oe, vs, e1, e2, _⟩ := ex
  rw [← e2]
  exact (Looks.ld e1).andThen .now
theorem pass_on {pins : List (Addr × Obj)} {σ : St} {H : Hp} {s : Shared} {x t : Addr} {C fl : Value} {dx : Option Addr} {Q : Flow → Shared → Prop} (hf : X.env.frame = some X.env.locals) (hx : PaX X Ex) (I : Inv X pins σ H s) (ex : ExcAt s.heap x C dx (some t) fl) (ox : Own1 X pins H x) (ot : Own1 X pins H t) (q : Ex σ C dx H) :
    wpAny (model X.prog X.w) X.A (handleBy (.ref x) X.env []) Q X.xe s := by
  refine wpAny_handleBy_nil ?_
  unfold PySem.passOn
  obtain ⟨oe, vs, e1, e2, e3, e4, e5, e6⟩ := id ex
  refine wpAny_bind (wpAny_field e1 e4 e5 ?_)
  rw [if_neg (by simp)]
  refine wpAny_bind (set_flight (fr := X.env.frame) ex fun h2 a2 b2 => wpAny_throw (hx _ _ ?_))
  exact ⟨pins, σ, H, x, C, dx, some t, _, rfl, inv_but I ox (fun t ht => by cases ht; exact ot) (b2.mono fun _ z => absurd z (by simp)), a2, .inr (by rw [hf]; rfl), ox, fun t ht => by cases ht; exact ot, q⟩
theorem ps_try (hs : X.stack = X.env :: X.outer) (hf : X.env.frame = some X.env.locals) (hm : X.mg cx = some (.ref CH)) (hx : PaX X Ex)
    (hb : ∀ pins Exb, PSs (xcx (Cx.pinned X pins) Exb) body (tb Exb)) (hh : ∀ x, PSs (Cx.hand X x) (b₀ :: suite) th) (hg : Gl X cx := by rfl) (hdb : (cx == ("__debug__" : Str)) = false := by decide) :
    PS X (.Try body [.ExceptHandler (some (.Name cx np)) none (b₀ :: suite) hpos] [] [] pos) (tTry X.K (.ref CH) tb th Ex) := by
  intro pins s σ H D I h
  refine wpAny_Try_except (wpAny_mono (hb pins _ [] s σ H D ((inv_pin I).wish _) h) (fun f s1 q => ?_) (fun e s1 q => ?_))
  · have q := sp_unpin q
    cases f with
    | next => obtain ⟨σ', H', I', q⟩ := q; exact pss_nil pins s1 σ' H' D I' q
    | _ => exact q
  · obtain ⟨pins', σ', H', x, C, dx, T, fl, rfl, I', ex, hfl, ox, oT, b, hm2, q⟩ := q
    refine at_handler hs hf (inv_unpin I') ex hfl (own_unpin ox) (fun t ht => own_unpin (oT t ht)) fun s2 t I2 ex2 ot => ?_
    have ox := own_unpin ox
    refine wpAny_handleBy_cons (codeAny_handlers_test ?_) (by intro z; cases z)
    refine ld_glob (X := Cx.hand X x) (inv_hand I2) hg hm ?_ hdb
    refine (exm_one I2.kIn (looks_cls ex2) hm2).here ?_
    cases b with
    | false => exact pass_on hf hx I2 ex2 ox ot q
    | true =>
      refine codeAny_handlers_suite ?_
      refine set_flight (fr := none) ex2 fun h3 a3 b3 => ?_
      have I3 := inv_but I2 ox (fun t ht => by cases ht; exact ot) (b3.mono fun _ z => absurd z (by simp))
      refine wpAny_mono (hh x pins _ _ _ D (inv_hand I3) q) (fun f s6 r => ?_) fun _ _ z => False.elim z
      cases f with
      | next => obtain ⟨σ6, H6, I6, q6⟩ := r; exact ⟨_, H6, inv_unhand I.ok I6, q6⟩
      | brk => obtain ⟨σ6, H6, I6, q6⟩ := r; exact ⟨_, H6, inv_unhand I.ok I6, q6⟩
      | cont => obtain ⟨σ6, H6, I6, q6⟩ := r; exact ⟨_, H6, inv_unhand I.ok I6, q6⟩
      | ret u => obtain ⟨v, σ6, H6, I6, r6, q6⟩ := r; exact ⟨v, _, H6, inv_unhand I.ok I6, r6, q6⟩
end
end L4
namespace L4
open PySem PySem.Spec PyProof.Rows L2 L3 PySem.W
structure EGet (K : Frag) (C : Addr) : Prop where
  ga : findIn K (.ref C) "__getattribute__" = some (some (.builtin "BaseException.__getattribute__"))
  gh : findIn K (.ref C) "__getattr__" = some none
  bs : mroIn K C (.type "BaseException") = some true
  ob : mroIn K C (.type "object") = some true
  ca : findIn K (.ref C) "__class__" = some (some (.builtin "object.__class__"))
  cg : specialIn K (.builtin "object.__class__") "__get__" = some (some (.builtin "getset_descriptor.__get__"))
  ct : takesIn K (.builtin "object.__class__") = some true
  cd : (clsIn K C).isSome = true
section
variable {prog : Program} {w : World} {A : Around} {E : Value → Shared → Prop} {s : Shared} {K : Frag} {x C : Addr} {ox : Obj} {od : Option Obj} {name : Str}
end
end L4
namespace L4
open PySem PySem.Spec PyProof.Rows L2 L3 PySem.W
def ExD (H : Hp) : Option Addr → Prop
  | none => True
  | some d => ∃ fs, H d = some (.xd fs)
structure ExA (K : Frag) (H : Hp) (x C : Addr) (dx : Option Addr) : Prop where
  at_ : H x = some (ExcO x (.ref C) dx)
  g : EGet K C
  d : ExD H dx
section
variable {X : Cx} {pins : List (Addr × Obj)} {σ : St} {H : Hp} {s : Shared} {x C : Addr} {dx : Option Addr}
end
section
variable {X : Cx}
end
end L4
namespace L4
open PySem PySem.Spec PyProof.Rows L2 L3 PySem.W
theorem paX_no {X : Cx} : PaX X.nox (fun _ _ _ _ => False) := fun _ _ ⟨_, _, _, _, _, _, _, _, _, _, _, _, _, _, q⟩ => q
section
variable {X : Cx} {K : Frag} {e : Expr} {te : TE} {c : Str} {T : String} {D : Addr} {p p' pos : Pos}
end
section
variable {X : Cx} {K : Frag} {Ex : St → XK} {body suite : List Stmt} {b₀ : Stmt} {cx n : Str} {np hpos pos : Pos} {CH : Addr} {i : Nat} {tb : (St → XK) → TS} {th : TS}
theorem ps_tryK (hK : X.K = K) (hs : X.stack = X.env :: X.outer) (hf : X.env.frame = some X.env.locals) (hm : X.mg cx = some (.ref CH)) (hx : PaX X Ex)
    (hb : ∀ pins Exb, PSs (xcx (Cx.pinned X pins) Exb) body (tb Exb)) (hh : ∀ x, PSs (Cx.hand X x) (b₀ :: suite) th) (hg : Gl X cx := by rfl) (hdb : (cx == ("__debug__" : Str)) = false := by decide) :
    PS X (.Try body [.ExceptHandler (some (.Name cx np)) none (b₀ :: suite) hpos] [] [] pos) (tTry K (.ref CH) tb th Ex) := by
  subst hK
  exact ps_try hs hf hm hx hb hh hg hdb
end
section
variable {K : Frag} {σ : St} {H : Hp} {Q : VK} {D : Ends} {tl : TA} {ta : TE} {sp : Sp} {Ex : St → XK} {C : Addr}
def Raises (C : Addr) (Ex : XK) (vs : List V) (H : Hp) : Prop := vs.length ≤ 1000 ∧ Ex (.ref C) none H
theorem g_raise (h : tl σ H fun vs H1 => Raises C (Ex σ) vs H1) : tRaise C Ex tl D σ H := h
theorem g_raise1 {E : XK} {v : V} (h : E (.ref C) none H) : Raises C E [v] H := ⟨(by show 1 ≤ 1000; decide), h⟩
def tHand (K : Frag) (CH : Value) (th : TS) (Ex : St → XK) (D : Ends) : St → XK := fun σ' C dx H' => ∃ b, exmOne K C CH = some b ∧ if b = true then th D σ' H' else Ex σ' C dx H'
theorem g_try {CH : Value} {tb : (St → XK) → TS} {th : TS} (h : tb (tHand K CH th Ex D) D σ H) : tTry K CH tb th Ex D σ H := h
theorem g_hand {CH C : Value} {th : TS} {dx : Option Addr} (e : exmOne K C CH = some true) (h : th D σ H) : tHand K CH th Ex D σ C dx H := ⟨true, e, by rw [if_pos rfl]; exact h⟩
end
end L4
namespace L4
open PySem PySem.Spec PyProof.Rows L2 L3 PySem.W
open Builtin Builtin.ObjectAttr
inductive OverErr : List Value → Prop
  | base : OverErr vErr
  | own {c : Addr} {r : List Value} : OverErr r → OverErr (.ref c :: r)
theorem refuse_over (self : Value) {l : List Value} (h : OverErr l) : refuseLoop self "__setattr__" l = pure () := by
  induction h with
  | base => exact PySem.F.store_ValueError.passes self
  | own _ ih => rw [refuseLoop_ref]; exact ih
section
variable {prog : Program} {w : World} {A : Around} {E : Value → Shared → Prop} {s : Shared} {K : Frag} {x C : Addr} {ox : Obj} {od : Option Obj} {name : Str} {v : Value} {cd : ClassData}
theorem exc_osa_open {R : Result → Shared → Prop} {tk : Tok} {r : Option Value} (X : K.In s.heap) (I : InstAt s.heap x ox C od) (G : EGet K C) (hc : clsIn K C = some cd) (ho : OverErr cd.mro) (ht : takerIn K C name = some r)
    (h : ∀ b, wpAny (model prog w) A.in1 (match r with | some a => setByDescriptor a (.ref x) v | none => storeInOwnDict (.ref x) (.ref C) (.str name tk) name v b)
      (fun fin s' => match fin with | .done f => R (.ok f) s' | .again c' => c'.quiet = true ∧ codeAny (model prog w) A c' R s') (fun e s' => R (.error e) s') s) :
    codeAny (model prog w) A (.call (.builtin "object.__setattr__") ⟨[.ref x, .str name tk, v], []⟩) R s := by
  have SF := PySem.F.store_object
  have sub : Looks (model prog w) s.heap (isInstance (.ref x) (.type "object")) true := I.type.andThen (looks_mroIn X G.ob)
  refine codeAny_call_builtin SF.slot.plain SF.entry (@check_slot (model prog w) _ _ s "object.__setattr__" "object" "__setattr__" (.ref x) [.str name tk, v] [] _ SF.kind SF.split sub (SF.args (.ref x) (.str name tk) v) ?_)
  obtain ⟨attr, ha, hr⟩ := Option.bind_eq_some_iff.mp ht
  have hm : Looks (model prog w) s.heap (mroOf (.ref C)) cd.mro := (looks_clsIn X hc).andThen .now
  have L3 : Looks (model prog w) s.heap (storeTaker? attr) r := by
    cases attr with
    | none => cases hr; exact .now
    | some a =>
      obtain ⟨b, hb, rfl⟩ := Option.map_eq_some_iff.mp hr
      refine (looks_takesIn X hb).andThen ?_
      cases b <;> exact .now
  rw [osa_eq, refuse_eq]
  refine wpAny_bind (wpAny_bind (I.type.here (wpAny_bind (hm.here ?_))))
  rw [refuse_over _ ho]
  refine wpAny_pure (wpAny_bind (I.type.here (wpAny_bind ((looks_findIn X ha).here (wpAny_bind (L3.here ?_))))))
  exact h _
theorem exc_set0 {Q : Unit → Shared → Prop} {vs : Array Value} (X : K.In s.heap) (I : InstAt s.heap x ox C none) (G : EGet K C) (hs : findIn K (.ref C) "__setattr__" = some (some (.builtin "object.__setattr__")))
    (hc : clsIn K C = some cd) (ho : OverErr cd.mro) (hh : cd.hasDict = true) (ht : takerIn K C name = some none) (hdn : ox.dict = none) (hda : ox.data = .fields vs)
    (h : ∀ h' t, h'.get? x = some { ox with dict := some s.heap.objs.size } → h'.Ns1 s.heap.objs.size (fun y => if y = name then some v else none) → (∀ b o, b ≠ x → s.heap.get? b = some o → h'.get? b = some o) → Q () { s with heap := h', toks := t }) :
    wpAny (model prog w) A (setAttr (.ref x) name v) Q E s := by
  refine set_plain X I hs (exc_osa_open (s := { s with toks := s.toks + 1 }) (r := none) X I G hc ho ht fun b => ?_)
  have hx := I.at_
  have hcl := I.cls
  obtain ⟨oc, odi, oda, osl⟩ := ox
  dsimp only at hcl hdn hda hx
  subst hcl hdn hda
  refine wpAny_bind (wpAny_pure (wpAny_bind (wpAny_bind (wpAny_loadPart hx (wpAny_bind (PySem.W.Looks.here (s := { s with toks := s.toks + 1 }) (PySem.W.looks_clsIn X hc) ?_))))))
  rw [hh, if_neg (by decide)]
  have hxs : x ≠ s.heap.objs.size := Nat.ne_of_lt (Heap.lt_size hx)
  have hx1 : (s.heap.push { cls := .type "dict", data := .dict #[] }).get? x = some ⟨.ref C, none, .fields vs, osl⟩ := Heap.get?_push_of_some _ hx
  show wpAny (model prog w) A.in1 (alloc { cls := Value.type "dict", data := Data.dict #[] } >>= fun d => update x (fun o => { cls := o.cls, dict := some d, data := o.data, slots := o.slots }) >>= fun _ => dictMade (.ref C) x d) _ _ _
  refine wpAny_bind (wpAny_alloc' ?_)
  refine wpAny_bind (wpAny_update' hx1 ?_)
  refine wpAny_pure ?_
  have hgd : ((s.heap.push { cls := .type "dict", data := .dict #[] }).update x fun o => { cls := o.cls, dict := some s.heap.objs.size, data := o.data, slots := o.slots }).get? s.heap.objs.size
      = some { cls := .type "dict", data := .dict #[] } := (Heap.get?_update_ne _ _ _ _ hxs.symm).trans (Heap.get?_push_at rfl rfl)
  have hnd : ((s.heap.push { cls := .type "dict", data := .dict #[] }).update x fun o => { cls := o.cls, dict := some s.heap.objs.size, data := o.data, slots := o.slots }).Ns s.heap.objs.size (fun _ => none) :=
    ⟨_, #[], _, hgd, rfl, fun e he => absurd he (by simp), fun _ => rfl⟩
  show wpAny _ _ (storeInDict s.heap.objs.size (.str name _) name v) _ _ _
  unfold storeInDict newKeyGuard
  refine wpAny_bind (wpAny_pure (wpAny_bind (wpAny_nsSet1 (Heap.Ns1.of_empty hnd) fun h' hn' sb => ?_)))
  obtain ⟨oD, esD, epD, hoD, hdD, hcD⟩ := hn'.count (PySem.Within.cons name v PySem.Within.nil)
  refine wpAny_bind (wpAny_lookBehind hoD (by rw [hdD]; exact pastItsLine_dict (Nat.le_trans hcD (by rw [List.length_cons, List.length_nil, sizeLine_eq]; omega))) ?_)
  refine wpAny_pure (h h' _ ?_ hn' fun b o nb hb => ?_)
  · exact (sb.2 x hxs).trans (Heap.get?_update_self _ hx1 rfl)
  · exact (sb.2 b (Nat.ne_of_lt (Heap.lt_size hb))).trans ((Heap.get?_update_ne _ _ _ _ nb).trans (Heap.get?_push_of_some _ hb))
theorem exc_set1 {Q : Unit → Shared → Prop} {dx : Addr} {mA : Str → Option Value} {ns : List Str} {oD : Obj} (X : K.In s.heap) (I : InstAt s.heap x ox C (some oD)) (G : EGet K C) (hs : findIn K (.ref C) "__setattr__" = some (some (.builtin "object.__setattr__")))
    (hc : clsIn K C = some cd) (ho : OverErr cd.mro) (hh : cd.hasDict = true) (ht : takerIn K C name = some none) (hdn : ox.dict = some dx) (hN : s.heap.Ns1 dx mA) (hw : PySem.Within mA ns) (hsz : ns.length ≤ sizeLine)
    (h : ∀ h' t, h'.Ns1 dx (fun y => if y = name then some v else mA y) → Heap.SameBut dx s.heap h' → Q () { s with heap := h', toks := t }) :
    wpAny (model prog w) A (setAttr (.ref x) name v) Q E s := by
  refine set_plain X I hs (exc_osa_open (s := { s with toks := s.toks + 1 }) (r := none) X I G hc ho ht fun b => ?_)
  have hx := I.at_
  have hcl := I.cls
  obtain ⟨oc, odi, oda, osl⟩ := ox
  dsimp only at hcl hdn hx
  subst hcl hdn
  refine wpAny_bind (wpAny_pure (wpAny_bind (wpAny_bind (wpAny_loadPart hx (wpAny_bind (PySem.W.Looks.here (s := { s with toks := s.toks + 1 }) (PySem.W.looks_clsIn X hc) ?_))))))
  rw [hh]
  refine wpAny_pure (a := some dx) (wpAny_bind (wpAny_pure (wpAny_bind ?_)))
  refine wpAny_nsSet1 (s := { s with toks := s.toks + 1 }) hN fun h' hn2 hs2 => ?_
  obtain ⟨oD, esD, epD, hoD, hdD, hcD⟩ := hn2.count (PySem.Within.cons name v hw)
  refine wpAny_bind (wpAny_lookBehind hoD (by rw [hdD]; exact pastItsLine_dict (Nat.le_trans hcD (by rw [List.length_cons]; omega))) ?_)
  exact wpAny_pure (h _ _ hn2 hs2)
end
def ExN (x : Addr) (C : Value) (dx : Option Addr) : Heap → Prop := fun h => ∃ oe a0, h.get? x = some oe ∧ oe.cls = C ∧ oe.dict = dx ∧ oe.data = .fields #[.ref a0, .none, .none, .none, .bool false, .none]
abbrev ExNO (x : Addr) (C : Value) (dx : Option Addr) : HO := .ext (ExN x C dx)
def XdP (d : Addr) (fs : List (Str × V)) : Heap → Prop := fun h => ∃ mA, h.Ns1 d mA ∧ (∀ f, RelO (fs.lookup f) (mA f)) ∧ PySem.Within mA (fs.map (·.1))
abbrev XdO (d : Addr) (fs : List (Str × V)) : HO := .ext (XdP d fs)
def ers (H : Hp) (x : Addr) : Hp := fun b => if b = x then none else H b
theorem ers_same {H : Hp} {x : Addr} : ers H x x = none := if_pos rfl
theorem ers_ne {H : Hp} {x b : Addr} (h : b ≠ x) : ers H x b = H b := if_neg h
theorem ExN.stay {x : Addr} {C : Value} {dx : Option Addr} : ∀ h1 h2 : Heap, ExN x C dx h1 → (∀ ob, h1.get? x = some ob → h2.get? x = some ob) → ExN x C dx h2 := fun _ _ ⟨oe, a, e, b⟩ k => ⟨oe, a, k _ e, b⟩
theorem XdP.stay {d : Addr} {fs : List (Str × V)} : ∀ h1 h2 : Heap, XdP d fs h1 → (∀ ob, h1.get? d = some ob → h2.get? d = some ob) → XdP d fs h2 := fun _ _ ⟨mA, N, r⟩ k => ⟨mA, N.at k, r⟩
section
variable {X : Cx} {pins : List (Addr × Obj)} {σ : St} {H : Hp} {s : Shared} {x C : Addr} {dx : Option Addr}
theorem inv_erase {φ : Heap → Prop} (I : Inv X pins σ H s) (e : H x = some (.ext φ)) : Inv X pins σ (ers H x) s := by
  have nn : ∀ b, H b = none → ers H x b = none := fun b n => by unfold ers; split <;> first | rfl | exact n
  have ne : ∀ b u, H b = some u → (∀ ψ, u ≠ .ext ψ) → b ≠ x := fun b u q n z => by rw [z, e] at q; cases q; exact n _ rfl
  refine ⟨I.ok, I.os, I.bare, ⟨I.base.keep, I.base.slot, fun b ob q n hx => nn _ (I.base.free b ob q n hx), I.base.there, fun b xs q => ?_, fun b ob u q => ?_, fun b ps q => ?_⟩, I.loc, I.cell, nn _ I.free, fun y c q => nn _ (I.freeC y c q), fun q hq => ?_, fun b u q => ?_, I.len⟩
  · have := I.base.tups b xs q; rw [ers_ne (ne _ _ this fun _ z => by cases z)]; exact this
  · have := I.base.frzs b ob u q; rw [ers_ne (ne _ _ this fun _ z => by cases z)]; exact this
  · obtain ⟨m, h⟩ := I.base.tbls b ps q
    exact ⟨m, by rw [ers_ne (ne _ _ h fun _ z => by cases z)]; exact h⟩
  · obtain ⟨a, b, r⟩ := I.pin q hq
    exact ⟨a, nn _ b, r⟩
  · by_cases z : b = x
    · rw [z, ers_same] at q; cases q
    · rw [ers_ne z] at q
      exact (I.hok b u q).stay (fun _ _ _ r => r) (fun c r => by rw [ers_ne (ne _ _ r fun _ z => by cases z)]; exact r) fun c xs r => by rw [ers_ne (ne _ _ r fun _ z => by cases z)]; exact r
end
structure EBase (K : Frag) (mg : Str → Option Value) (R : Str) (CR : Addr) : Prop where
  gm : mg R = some (.ref CR)
  sg : specialIn K (.ref CR) "__getattribute__" = some (some (.builtin "type.__getattribute__"))
  rd : readsIn K CR (.type "type") = true
  fc : findCls K (.ref CR) (.type "type") "__init__" = some (.val (.builtin "ValueError.__init__"))
def rBaseI (K : Frag) : RL := fun vs H Q => ∃ (x C : Addr) (dx : Option Addr) (rest : List V), vs = .ref x :: rest ∧ H x = some (ExNO x (.ref C) dx) ∧ exc1In K C vErr "ValueError.__new__" = true ∧ rest.length ≤ 1000 ∧ Q .non H
def tBaseI (K : Frag) (t : TA) : TE := fun σ H Q => t σ H fun vs H1 => rBaseI K vs H1 Q
theorem upd_own {H : Hp} {x : Addr} {o : HO} (h : H x = some o) : upd H x o = H := by
  funext b
  by_cases z : b = x
  · subst z; rw [upd_same, h]
  · rw [upd_ne z]
section
variable {X : Cx}
theorem pe_baseI {R : Str} {CR : Addr} {np apos pos : Pos} {e : Expr} {es : List Expr} {t : TA} {pl : Sem Bool} (B : EBase X.K X.mg R CR) (ha : PA X (e :: es) t) (hg : Gl X R := by rfl) (hdb : (R == ("__debug__" : Str)) = false := by decide)
    (hst : starEach (e :: es) X.env = (false, eval e X.env) :: starEach es X.env := by rfl) (hpl : (backTo pos (starEach es X.env)).any (·.1) = false := by rfl)
    (ht : eval (.Call (.Attribute (.Name R np) "__init__" apos) (e :: es) [] pos) X.env = (do
      let ov ← eval (.Name R np) X.env
      standAt apos.atName
      let (f, first) ← holding [ov] (getMethod ov "__init__" pl)
      callWith pos f first (backTo pos (starEach (e :: es) X.env)) (backToKw pos (keywordEach [] X.env))) := by rfl) :
    PE X (.Call (.Attribute (.Name R np) "__init__" apos) (e :: es) [] pos) (tBaseI X.K t) := by
  intro pins s σ H Q I h
  refine PySem.W.methodCall_KW (pl := pl) (ld_glob I hg B.gm ?_ hdb) ht
  refine method_cls I.kIn B.sg (cls_value I.kIn B.rd B.fc rfl ?_)
  have I0 := I.tok (s.toks + 1)
  refine PyProof.Rows.callWith_method1 (first := []) (thn (ha pos pins _ σ H _ I0 h) fun us s1 ⟨vs, H1, I1, r, x, C, dx, rest, ev, hx, hC, hz, q⟩ => ?_) hst hpl
  subst ev
  cases r with
  | @cons _ u _ us' r0 r1 =>
    obtain rfl : u = Value.ref x := r0
    obtain ⟨⟨oe, a0, e1, e2, e3, e4⟩, _⟩ := (show ObjOk X.prog X.w H1 s1.heap x (ExNO x (.ref C) dx) from I1.hok x _ hx)
    obtain ⟨nm, q', N, bs, bm, hdct, sn, sub, ab, col, dd, k0, k1, k2, k3, k5, hCC, T⟩ := exc1_of I1.kIn hC
    have hl : us'.length ≤ sizeLine := by rw [← r1.length]; exact Nat.le_of_lt (small1000 hz)
    obtain ⟨hp, g, d, tk, os⟩ := s1
    show wpAny (model X.prog X.w) X.A (call (.builtin "ValueError.__init__") (.ref x :: us')) _ _ _
    refine exc_init PySem.F.excBase_ValueError T hCC e1 e2 e4 (Nat.zero_lt_succ _) rfl (fun h3 eh => ?_) hl
    obtain ⟨oc, odd, da, sl⟩ := oe
    dsimp only at e2 e3 e4
    subst e2 e3 e4
    have g3 := Heap.get?_update_self (Obj.mapFields (·.setIfInBounds 0 (.ref hp.objs.size))) (Heap.get?_push_of_some { cls := .type "tuple", data := .seq us'.toArray } e1) rfl
    rw [← eh] at g3
    have J := I1.write (x := x) (e := x) (o := ExNO x (.ref C) odd) (h' := h3) (t' := tk) (by rw [hx]; exact True.intro) (.inl rfl) (fun b u nb hb => by rw [eh, Heap.get?_update_other _ _ (Ne.symm nb)]; exact Heap.get?_push_of_some _ hb) ⟨_, g3⟩ ⟨⟨_, _, g3, rfl, rfl, rfl⟩, ⟨_, g3⟩, ExN.stay⟩
    rw [upd_own hx] at J
    exact ⟨.non, H1, J, rfl, q⟩
end
structure EPut (K : Frag) (C : Addr) (f : Str) : Prop where
  g : EGet K C
  sa : findIn K (.ref C) "__setattr__" = some (some (.builtin "object.__setattr__"))
  cd : ∃ cd, clsIn K C = some cd ∧ OverErr cd.mro ∧ cd.hasDict = true
  tk : takerIn K C f = some none
def SetN (K : Frag) (f : Str) (x y : V) (H : Hp) (R : Hp → Prop) : Prop := ∃ a C dx, x = .ref a ∧ H a = some (ExNO a (.ref C) dx) ∧ EPut K C f ∧
  (dx = none → ∀ d, H d = none → R (upd (upd H a (ExNO a (.ref C) (some d))) d (XdO d [(f, y)]))) ∧ ∀ d, dx = some d → ∃ fs, H d = some (XdO d fs) ∧ fs.length < 1000 ∧ R (upd H d (XdO d (putF f y fs)))
def sFldN (K : Frag) (ta tv : TE) (f : Str) : TS := fun D σ H => tv σ H fun y H1 => ta σ H1 fun x H2 => SetN K f x y H2 fun H3 => D.nx σ H3
section
variable {X : Cx} {pins : List (Addr × Obj)} {σ : St} {H : Hp} {s : Shared}
theorem setn_ok {A : Around} {E : Value → Shared → Prop} {f : Str} {a : Addr} {x y : V} {u : Value} {R : Hp → Prop} {Q : Unit → Shared → Prop} (I : Inv X pins σ H s) (ex : x = .ref a) (ry : RelV y u) (h : SetN X.K f x y H R)
    (hq : ∀ H' s', Inv X pins σ H' s' → R H' → Q () s') : wpAny (model X.prog X.w) A (setAttr (.ref a) f u) Q E s := by
  obtain ⟨a', C, dx, ex', ha, P, h0, h1⟩ := h
  rw [ex] at ex'
  cases ex'
  obtain ⟨⟨oe, a0, e1, e2, e3, e4⟩, _⟩ := (show ObjOk X.prog X.w H s.heap a (ExNO a (.ref C) dx) from I.hok a _ ha)
  obtain ⟨cd, c1, c2, c3⟩ := P.cd
  have nc : notCls oe = true := by unfold notCls; rw [e4]
  cases dx with
  | none =>
    have J : InstAt s.heap a oe C none := ⟨e1, e2, nc, by rw [e3]; trivial⟩
    refine exc_set0 I.kIn J P.g P.sa c1 c2 c3 P.tk e3 e4 fun h' t b1 b2 b3 => ?_
    have hd := I.hok.fresh (Nat.le_refl s.heap.objs.size)
    have na : a ≠ s.heap.objs.size := Nat.ne_of_lt (Heap.lt_size e1)
    have I1 := I.write (x := a) (e := a) (o := ExNO a (.ref C) (some s.heap.objs.size)) (h' := h') (t' := t) (by rw [ha]; exact True.intro) (.inl rfl) (fun b u nb hb => b3 b u nb hb) ⟨_, b1⟩ ⟨⟨_, a0, b1, e2, rfl, e4⟩, ⟨_, b1⟩, ExN.stay⟩
    have o1 : Own1 X pins (upd H a (ExNO a (.ref C) (some s.heap.objs.size))) s.heap.objs.size := own1_of I (Nat.le_refl _) (by rw [upd_ne na.symm]; exact hd)
    have pd : XdP s.heap.objs.size [(f, y)] h' := ⟨_, b2, fun g => by
      show RelO (List.lookup g [(f, y)]) (if g = f then some u else none)
      by_cases z : g = f
      · subst z; rw [if_pos rfl, lk_hit]; exact ry
      · rw [if_neg z, lk_miss (beq_eq_false_iff_ne.mpr z)]; trivial, fun g hg => by
      by_cases z : g = f
      · rw [z]; exact List.mem_cons_self
      · exact absurd (show (if g = f then some u else none) = none by rw [if_neg z]) hg⟩
    have I2 := inv_track I1 o1 pd (let ⟨o, _, _, e, _⟩ := b2; ⟨o, e⟩) XdP.stay
    exact hq _ _ I2 (h0 rfl _ hd)
  | some d =>
    obtain ⟨fs, hd, hz, r⟩ := h1 d rfl
    obtain ⟨⟨mA, N, rel, wi⟩, _⟩ := (show ObjOk X.prog X.w H s.heap d (XdO d fs) from I.hok d _ hd)
    obtain ⟨oD, hoD⟩ : ∃ o, s.heap.get? d = some o := let ⟨o, _, _, e, _⟩ := N; ⟨o, e⟩
    have J : InstAt s.heap a oe C (some oD) := ⟨e1, e2, nc, by rw [e3]; exact hoD⟩
    have hz' : (fs.map (·.1)).length ≤ sizeLine := by rw [List.length_map, sizeLine_eq]; omega
    refine exc_set1 I.kIn J P.g P.sa c1 c2 c3 P.tk e3 N wi hz' fun h' t b2 sb => ?_
    refine hq _ _ (I.write (x := d) (e := d) (o := XdO d (putF f y fs)) (h' := h') (t' := t) (by rw [hd]; exact True.intro) (.inl rfl) (fun b u nb hb => (sb.2 b nb).trans hb) (let ⟨o, _, _, e, _⟩ := b2; ⟨o, e⟩) ⟨⟨_, b2, fun g => ?_, fun g hg => ?_⟩, (let ⟨o, _, _, e, _⟩ := b2; ⟨o, e⟩), XdP.stay⟩) r
    · show RelO ((putF f y fs).lookup g) (if g = f then some u else mA g)
      rw [lookup_putF]
      by_cases z : g = f
      · rw [if_pos z, if_pos z]; exact ry
      · rw [if_neg z, if_neg z]; exact rel g
    · by_cases z : g = f
      · rw [z]; exact (keys_putF f y fs).1
      · refine (keys_putF f y fs).2 g (wi g fun n => hg ?_)
        show (if g = f then some u else mA g) = none
        rw [if_neg z]; exact n
theorem ps_fldN {o value : Expr} {f : Str} {pos pos' : Pos} {ta tv : TE} (ha : PE X o ta) (hv : PE X value tv) (hs : swapsWith value (some (.Attribute o f pos')) pos.line X.env = pure false) : PS X (.Assign [.Attribute o f pos'] value pos) (sFldN X.K ta tv f) := by
  intro pins s σ H D I h
  refine plainObj_wpAny_Assign_Attribute (thn (hv pins s σ H _ I h) fun u s1 ⟨y, H1, I1, ry, q⟩ => thn (ha pins s1 σ H1 _ I1 q) fun ov s2 ⟨x, H2, I2, rx, q2⟩ => ?_) hs
  obtain ⟨a, C, dx, ex, r⟩ := id q2
  subst ex
  obtain rfl : ov = Value.ref a := rx
  exact setn_ok I2 rfl ry q2 fun H3 s3 I3 q3 => ⟨σ, H3, I3, q3⟩
end
structure EOwn (P : Program) (w : World) (K : Frag) (mg : Str → Option Value) (base : Heap) (x : Str) (C : Addr) (k : Nat) (ps : List Str) (sp : Sp) : Prop where
  ok : exc1In K C vErr "ValueError.__new__" = true
  kp : keepIn K (.ref C) = true
  gm : mg x = some (.ref C)
  fn : ∃ f fd, findIn K (.ref C) "__init__" = some (some (.ref f)) ∧ typeIn K (.ref f) = some (.type "function") ∧ FnOk P w K mg base (CX1 P w) k f fd ps sp ∧ Binds K fd ps []
def Rz (C x : Addr) (Ex : XK) (r : V) (H : Hp) : Prop := r = .non ∧ ∃ dx, H x = some (ExNO x (.ref C) dx) ∧ (dx = none → Ex (.ref C) none (ers H x)) ∧ ∀ d, dx = some d → ∃ fs, H d = some (XdO d fs) ∧ d ≠ x ∧ Ex (.ref C) (some d) (upd (ers H x) d (.xd fs))
def tRaiseI (C : Addr) (sp : Sp) (Ex : St → XK) (tl : TA) : TS := fun _ σ H => tl σ H fun vs H1 => vs.length ≤ 1000 ∧ ∀ x, H1 x = none → sp (.ref x :: vs) (upd H1 x (ExNO x (.ref C) none)) (Rz C x (Ex σ)) fun _ _ _ => False
theorem ps_raiseI {X : Cx} {Ex : St → XK} {x : Str} {C : Addr} {k : Nat} {ps : List Str} {sp : Sp} {e : Expr} {es : List Expr} {t : TA} {np cpos pos : Pos} (O : EOwn X.prog X.w X.K X.mg X.base x C k ps sp) (hr : Room (k + 1) X.A) (hc : X.calm = true) (hx : PaX X Ex) (ha : PA X (e :: es) t) (hg : Gl X x := by rfl)
    (hdb : (x == ("__debug__" : Str)) = false := by decide) (he : starEach (e :: es) X.env = (false, eval e X.env) :: starEach es X.env := by rfl) (hpl : (backTo cpos (starEach es X.env)).any (·.1) = false := by rfl) :
    PS X (.Raise (some (.Call (.Name x np) (e :: es) [] cpos)) none pos) (tRaiseI C sp Ex t) := by
  intro pins s σ H D I h
  obtain ⟨f, fd, fi, ft, F, fb⟩ := O.fn
  obtain ⟨nm, q, N, bs, bm, hdct, sn, sub, ab, col, dd, k0, k1, k2, k3, k5, hC, T⟩ := exc1_of I.ok.mod.kin O.ok
  rw [arm_exec_Raise]
  refine wpAny_bind (wpAny_standAt (raise_made (C := C) (nm := nm) (q := q) (N := N) (bs := bs) (bm := bm) (hdct := hdct) (sn := sn) (sub := sub) (ab := ab) (col := col) (dd := dd) (k0 := k0) (k1 := k1) (k2 := k2) (k3 := k3) (k5 := k5) (newId := "ValueError.__new__") (T.hasType (by decide +kernel)) (I.ok.hd hc) (wpAny_bind ?_)))
  refine wpAny_Call_Name_kw (ld_glob I hg O.gm ?_ hdb)
  refine callWith_K (h₀ := X.base) I.ok.mod.kin O.kp (thn (ha cpos pins s σ H _ I h) fun us s1 ⟨vs, H1, I1, r, hz, qx⟩ => ⟨I1.kIn, ?_⟩) he hpl
  have hl : us.length ≤ sizeLine := by rw [← r.length]; exact Nat.le_of_lt (small1000 hz)
  have T1 := T.keeps I1.bk
  have hC1 := I1.bk _ _ hC
  have nx := I1.hok.fresh (Nat.le_succ s1.heap.objs.size)
  have hq := qx _ nx
  have I2 := I1.laid (a := s1.heap.objs.size + 1) (o := ExNO (s1.heap.objs.size + 1) (.ref C) none) (h' := exc2 s1.heap C us) (t' := s1.toks) exc2_keeps (Nat.le_succ _) ⟨⟨_, _, exc2_get, rfl, rfl, rfl⟩, ⟨_, exc2_get⟩, ExN.stay⟩
  have r2 : Vals (V.ref (s1.heap.objs.size + 1) :: vs) (Value.ref (s1.heap.objs.size + 1) :: us) := .cons rfl r
  have hl2 : (Value.ref (s1.heap.objs.size + 1) :: us).length = ps.length := by rw [← r2.length]; exact F.len _ _ _ _ hq
  have hb' := fb _ (Value.ref (s1.heap.objs.size + 1) :: us) I2.kIn (by rw [List.append_nil]; exact hl2)
  rw [List.append_nil] at hb'
  obtain ⟨hp, g, d, tk, os⟩ := s1
  show wpAny (model X.prog X.w) X.A (call (.ref C) us) _ _ _
  refine exc_call PySem.F.excBase_ValueError T1 hC1 (looks_findIn I1.kIn fi) (fun self => bind_fn I1.kIn self ft) ?_ hl
  refine wpAny_call (codeAny_mono (F.run _ X.stack _ _ ⟨Value.ref (hp.objs.size + 1) :: us, []⟩ (Value.ref (hp.objs.size + 1) :: us) _ _ (fun _ _ _ => False) (hr.make C us []) (I2.env0.make C us []) hb' r2 hq) fun r s' hq' => ?_)
  cases r with
  | error e => exact (noErr1 _ _ _ _ _ hq').elim
  | ok fl =>
    cases fl with
    | ret u =>
      obtain ⟨v, H3, I3, rv, ev, dx, hx3, q0, q1⟩ := I2.after hq'
      subst ev
      refine ⟨rv, ?_⟩
      obtain ⟨⟨oe, a0, e1, e2, e3, e4⟩, _⟩ := (show ObjOk X.prog X.w H3 s'.heap (hp.objs.size + 1) (ExNO (hp.objs.size + 1) (.ref C) dx) from I3.hok _ _ hx3)
      have ea : ExcAt s'.heap (hp.objs.size + 1) (.ref C) dx none .none := ⟨oe, _, e1, e2, e3, e4, rfl, fun t ht => by cases ht⟩
      have I4 := inv_erase I3 hx3
      have hCs := I3.bk _ _ hC
      refine wpAny_bind (wpAny_standAt (wpAny_pure ⟨_, oe, _, rfl, hCs, e1, e2, e4, rfl, hx _ _ ?_⟩))
      cases dx with
      | none => exact ⟨pins, σ, _, hp.objs.size + 1, .ref C, none, none, .none, rfl, I4, ea, .inl rfl, own1_of I1 (Nat.le_succ _) ers_same, (fun t ht => by cases ht), q0 rfl⟩
      | some d =>
        obtain ⟨fs, hd, nd, qd⟩ := q1 d rfl
        obtain ⟨⟨mA, N', rel, _⟩, od, _⟩ := (show ObjOk X.prog X.w H3 s'.heap d (XdO d fs) from I3.hok _ _ hd)
        have hd4 : ers H3 (hp.objs.size + 1) d = some (XdO d fs) := by rw [ers_ne nd]; exact hd
        have I5 := I4.write (x := d) (e := d) (o := .xd fs) (h' := s'.heap) (t' := s'.toks) (by rw [hd4]; exact True.intro) (.inl rfl) (fun b u _ hb => hb) od ⟨mA, N', rel⟩
        exact ⟨pins, σ, _, hp.objs.size + 1, .ref C, some d, none, .none, rfl, I5, ea, .inl rfl, own1_of I1 (Nat.le_succ _) (by rw [upd_ne (Ne.symm nd)]; exact ers_same), (fun t ht => by cases ht), qd⟩
    | _ => exact False.elim hq'
end L4
namespace L4
open PySem PySem.Spec PyProof.Rows L2 L3 PySem.W
structure RoomU (k : Nat) (A : Around) : Prop where
  dp : A.depth + 3 * k + 5 < recursionLimit
  un : A.units + 16 * k + 200 < cLine
theorem roomU {k : Nat} {A : Around} (r : Room k A) : RoomU k A := ⟨r.dp, r.un⟩
theorem RoomU.mono {j k : Nat} {A : Around} (r : RoomU k A) (h : j ≤ k) : RoomU j A := ⟨by have := r.dp; omega, by have := r.un; omega⟩
theorem RoomU.deeper {k : Nat} {A : Around} (r : RoomU (k + 1) A) (env : Env) : RoomU k (A.deeper env) :=
  ⟨by have := r.dp; show A.depth + 1 + 3 * k + 5 < _; omega, by have := r.un; show A.units + 3 + 16 * k + 200 < _; omega⟩
theorem RoomU.mark {k : Nat} {A : Around} (r : RoomU k A) (h : Option Value) : RoomU k (A.mark h) := ⟨r.dp, r.un⟩
structure FnOkU (P : Program) (w : World) (K : Frag) (mg : Str → Option Value) (base : Heap) (CX : CXT) (k : Nat) (f : Addr) (fd : FuncData) (ps : List Str) (sp : Sp) : Prop where
  len : ∀ vs H Q E, sp vs H Q E → vs.length = ps.length
  run : ∀ (A : Around) (outer : List Env) (s : Shared) (H : Hp) (args : Args) (us : List Value) (vs : List V) (Q : VK) (E : XK), RoomU k A → Env0 P w K mg base A outer s H → BindsTo s fd args (ps.zip us) → Vals vs us → sp vs H Q E →
    codeAny (model P w) A (.call (.ref f) args) (CR CX outer P w H s Q E) s
abbrev cxU (CX : CXT) (P : Program) (w : World) (K : Frag) (mg : Str → Option Value) (base : Heap) (N : List Str) (qual : Str) (scope : Scope) (f : Addr) (cd : Value) (A : Around) (outer : List Env) (s : Shared) (H : Hp) (E : XK) : Cx :=
  { cxOf CX P w K mg base N qual scope f cd A outer s H E with calm := false }
section
variable {CX : CXT} {P : Program} {w : World} {K : Frag} {mg : Str → Option Value} {base : Heap} {k : Nat} {f : Addr} {N ps : List Str} {sp : Sp}
theorem FnOkU.fn {fd : FuncData} (F : FnOkU P w K mg base CX k f fd ps sp) : FnOk P w K mg base CX k f fd ps sp := ⟨F.len, fun A outer s H args us vs Q E hr => F.run A outer s H args us vs Q E (roomU hr)⟩
theorem inv_startU {qual : Str} {scope : Scope} {cd : Value} {A : Around} {outer : List Env} {s s1 : Shared} {H : Hp} {E : XK} {us : List Value} {vs : List V} (S : FnScope N ps scope) (e0 : Env0 P w K mg base A outer s H) (hl : vs.length = ps.length) (r : Vals vs us)
    (x : InCallC s s.heap.objs.size (bindL (envOfC qual scope s.heap.objs.size f cd).kindOf (ps.zip us) fun _ => none) (cellsFrom (s.heap.objs.size + 1) scope.names []) (bindC (envOfC qual scope s.heap.objs.size f cd).kindOf (ps.zip us) fun _ => none) s1) :
    Inv (cxU CX P w K mg base N qual scope f cd A outer s H E) [] (start N vs) H s1 := by
  have e1 : Env0 P w K mg base { A with handled := none } outer s H := ⟨e0.frames, e0.mod, e0.bs, e0.bsz, e0.funs, e0.frf, e0.hok, e0.bare⟩
  have I := inv_start (CX := CX) (E := E) S rfl e1 hl r x
  exact ⟨⟨I.ok.mod, I.ok.kind, I.ok.glob, I.ok.blt, I.ok.above, I.ok.inj, I.ok.has, I.ok.cab, (fun z => absurd z Bool.false_ne_true), Around.frames_deeper e0.frames, I.ok.stk, I.ok.exf, I.ok.bs, I.ok.bsz, I.ok.noex, I.ok.exfs, I.ok.funs, I.ok.frf⟩, I.os, I.bare, I.base, I.loc, I.cell, I.free, I.freeC, I.pin, I.hok, I.len⟩
theorem fn_ofU {name qual : Str} {params : Arguments} {body : List Stmt} {scope : Scope} {dV kV doc pm cdv ct oc : Value} {an od : Option Addr} {osl : Array (Option Value)}
    (lk : K.lookup f = some ⟨oc, od, .func (PySem.W.fnOf name qual params body scope dV kV doc pm an cdv ct), osl⟩) (hcd : PySem.W.codeIn K cdv qual = true) (S : FnScope N ps scope)
    (len : ∀ vs H Q E, sp vs H Q E → vs.length = ps.length)
    (hbody : ∀ (A : Around) (outer : List Env) (s : Shared) (H : Hp) (vs : List V) (Q : VK) (E : XK), RoomU k (A.deeper (envOfC qual scope s.heap.objs.size f cdv)) → sp vs H Q E →
      ∃ t, PSs (cxU CX P w K mg base N qual scope f cdv A outer s H E) body t ∧ t { nx := fun _ H' => Q .non H', rt := Q } (start N vs) H) :
    FnOkU P w K mg base CX (k + 1) f (PySem.W.fnOf name qual params body scope dV kV doc pm an cdv ct) ps sp := by
  refine ⟨len, fun A outer s H args us vs Q E hr e0 hb r hsp => ?_⟩
  have hl := len _ _ _ _ hsp
  have KX : K.In s.heap := e0.mod.kin.keeps fun b o e => (e0.bs b o e).1
  have lim : s.heap.NoLimit := e0.mod.nolimit.keeps fun b o e => (e0.bs b o e).1
  have hkind : ∀ y ∈ ps.zip us, scope.names.lookup y.1 = some .local ∨ (scope.names.lookup y.1 = some .cell ∧ ((cellsFrom (s.heap.objs.size + 1) scope.names []).lookup y.1).isSome = true) := fun ⟨n, v⟩ hy => by
    rcases S.par n (List.of_mem_zip hy).1 with q | q
    · exact .inl q
    · exact .inr ⟨q, PySem.W.cellsFrom_some _ _ _ (.inl q)⟩
  refine codeAny_call_function (by have := hr.dp; omega) (KX _ _ lk) rfl S.co S.gen rfl (PySem.W.codeRec_of KX hcd) (hb _ _ _ _ ?_)
  refine wpAny_newFunctionEnv_cells S.kind hkind fun env he s1 x => ?_
  subst he
  refine ⟨lim.keeps x.toInCall.keep, codeAny_func ?_⟩
  obtain ⟨t, ht, hq⟩ := hbody A outer s H vs Q E (hr.deeper _) hsp
  have I : Inv (cxU CX P w K mg base N qual scope f cdv A outer s H E) [] (start N vs) H s1 := inv_startU S e0 hl r x
  refine wpAny_mono (ht [] s1 (start N vs) H _ I hq) (fun fl s' hs => ?_) fun e s' hs => hs
  have fin : ∀ {σ' : St} {H' : Hp} {v : V} {u : Value}, Inv (cxU CX P w K mg base N qual scope f cdv A outer s H E) [] σ' H' s' → RelV v u → Q v H' → CE outer P w H s Q u s' :=
    fun {σ' H' v u} J rv q => ⟨v, H', J.os, J.bare, J.base, J.hok, rv, q⟩
  cases fl with
  | ret u =>
    obtain ⟨v, σ', H', J, rv, q⟩ := hs
    exact fin J rv q
  | next =>
    obtain ⟨σ', H', J, q⟩ := hs
    exact fin (v := V.non) (u := Value.none) J rfl q
  | brk =>
    obtain ⟨_, _, _, q⟩ := hs
    exact False.elim q
  | cont =>
    obtain ⟨_, _, _, q⟩ := hs
    exact False.elim q
end
structure CalU (P : Program) (w : World) (K : Frag) (mg : Str → Option Value) (base : Heap) (CX : CXT) (x : Str) (k : Nat) (ps : List Str) (sp : Sp) : Prop where
  ex : ∃ f fd, FnOkU P w K mg base CX k f fd ps sp ∧ Binds K fd ps [] ∧ PySem.W.keepIn K (.ref f) = true ∧ mg x = some (.ref f)
section
variable {P : Program} {w : World} {K : Frag} {mg : Str → Option Value} {base : Heap} {CX : CXT} {x qual : Str} {st : Stmt} {N ps : List Str} {k : Nat} {sp : Sp}
theorem CalU.cal (c : CalU P w K mg base CX x k ps sp) : Cal P w K mg base CX x k ps sp := let ⟨f, fd, F, r⟩ := c.ex; ⟨f, fd, F.fn, r⟩
end
section
variable {X : Cx} {CX : CXT} {k : Nat} {ps : List Str} {sp : Sp} {E : XK} {x : Str} {p pos : Pos} {e : Expr} {es : List Expr} {t : TA}
end
end L4
namespace L4
open PySem PySem.Spec PyProof.Rows L2 L3 PySem.W
theorem some_is {α : Type} {o : Option α} {x : α} (e : o = some x) : o.isSome = true := by rw [e]; rfl
theorem exc1_ofIn {K : Frag} {C : Addr} {bmB : List Value} {newId : String} (q : excIn K C bmB newId = true) : exc1In K C bmB newId = true := by
  unfold excIn at q
  unfold exc1In
  split at q
  · rename_i dd cd sl ho
    split at q
    · rename_i C' bm k0 k1 k2 k3 n k5 hm hs
      simp only [Bool.and_eq_true] at q
      simp only [ho, hm, hs, Bool.and_eq_true]
      exact q.1.1
    · cases q
  · cases q
theorem exc1_own {K : Frag} {C CR : Addr} {newId : String} {dd : Option Addr} {cd : ClassData} {k0 k1 k2 k3 k5 : Option Value} (l : K.lookup C = some ⟨.type "type", dd, .cls cd, #[k0, k1, k2, k3, some (.builtin newId), k5]⟩) (hm : cd.mro = .ref C :: .ref CR :: vErr) (hdel : cd.hasDel = false) (q : excIn K CR vErr newId = true) : exc1In K C vErr newId = true := by
  have hv : tailIn K vErr vErr = true := by
    show tailIn K vErr (.type "ValueError" :: [.type "Exception", .type "BaseException", .type "object"]) = true
    unfold tailIn
    rw [show ((Value.type "ValueError" :: [Value.type "Exception", .type "BaseException", .type "object"]) == vErr) = true from beq_self_eq_true vErr, Bool.true_or]
  have ht : tailIn K vErr (.ref CR :: vErr) = true := by
    unfold excIn at q
    unfold tailIn
    refine Bool.or_eq_true_iff.mpr (.inr ?_)
    split at q
    · rename_i ho
      split at q
      · simp only [Bool.and_eq_true] at q
        simp only [ho, Bool.and_eq_true]
        exact ⟨⟨q.1.2, q.2⟩, hv⟩
      · cases q
    · cases q
  unfold exc1In
  simp only [l, hm]
  simp [hdel, ht]
theorem OverErr.two {C CR : Addr} : OverErr (.ref C :: .ref CR :: vErr) := .own (.own .base)
structure EDat (K : Frag) (mg : Str → Option Value) (x qual : Str) (C : Addr) (st : Stmt) (ps : List Str) : Prop where
  ok : exc1In K C vErr "ValueError.__new__" = true
  kp : keepIn K (.ref C) = true
  gm : mg x = some (.ref C)
  ex : ∃ f fd, Fun K "__init__" qual st f fd ∧ Binds K fd ps [] ∧ findIn K (.ref C) "__init__" = some (some (.ref f)) ∧ typeIn K (.ref f) = some (.type "function")
section
variable {P : Program} {w : World} {K : Frag} {mg : Str → Option Value} {base : Heap} {x qual : Str} {C : Addr} {st : Stmt} {N ps : List Str} {k : Nat} {sp : Sp}
theorem edat_mk {h : Heap} (X : K.In h) (G : h.Ns mainGlobals mg) {f : Addr} {oc : Value} {od an : Option Addr} {osl : Array (Option Value)} {kV doc pm cdv ct : Value} (aC : nsIn K mainGlobals x = some (some (.ref C))) (o : exc1In K C vErr "ValueError.__new__" = true)
    (a : findIn K (.ref C) "__init__" = some (some (.ref f))) (i : typeIn K (.ref f) = some (.type "function"))
    (l : K.lookup f = some ⟨oc, od, .func (fnOf "__init__" qual (defArgs st) (defBody st) (defScope st) .none kV doc pm an cdv ct), osl⟩) (c : codeIn K cdv qual = true) (kp : keepIn K (.ref f) = true) (kc : keepIn K (.ref C) = true)
    (b : ∀ (kV doc pm : Value) (an : Option Addr) (cdv ct : Value) (us : List Value), us.length = ps.length → bindArgs (fnOf "__init__" qual (defArgs st) (defBody st) (defScope st) .none kV doc pm an cdv ct) ⟨us, []⟩ = pure (ps.zip us)) : EDat K mg x qual C st ps := by
  have F := fun_mk (st := st) l c kp
  exact ⟨o, kc, mg_of X G aC, f, _, F, F.binds b, a, i⟩
theorem EDat.ok' (D : EDat K mg x qual C st ps) (S : FnScope N ps (defScope st)) (len : ∀ vs H Q E, sp vs H Q E → vs.length = ps.length)
    (hbody : ∀ (f : Addr) (cdv : Value) (A : Around) (outer : List Env) (s : Shared) (H : Hp) (vs : List V) (Q : VK) (E : XK), Room k (A.deeper (envOfC qual (defScope st) s.heap.objs.size f cdv)) → sp vs H Q E →
      ∃ t, PSs (cxOf (CX1 P w) P w K mg base N qual (defScope st) f cdv A outer s H E).nox (defBody st) t ∧ t { nx := fun _ H' => Q .non H', rt := Q } (start N vs) H) : EOwn P w K mg base x C (k + 1) ps sp := by
  obtain ⟨f, fd, F, b, a, i⟩ := D.ex
  exact ⟨D.ok, D.kp, D.gm, f, fd, a, i, fun_ok F S len hbody, b⟩
end
section
variable {K : Frag} {σ : St} {H : Hp} {Q : VK} {D : Ends} {tl : TA} {ta tv : TE} {sp : Sp} {Ex : St → XK} {C : Addr}
theorem g_baseI (h : tl σ H fun vs H1 => rBaseI K vs H1 Q) : tBaseI K tl σ H Q := h
theorem g_baseIv {x : Addr} {dx : Option Addr} {v : V} (e : H x = some (ExNO x (.ref C) dx)) (k : exc1In K C vErr "ValueError.__new__" = true) (h : Q .non H) : rBaseI K [.ref x, v] H Q := ⟨x, C, dx, [v], rfl, e, k, (by show 1 ≤ 1000; decide), h⟩
theorem g_sfldN {f : Str} (h : tv σ H fun y H1 => ta σ H1 fun x H2 => SetN K f x y H2 fun H3 => D.nx σ H3) : sFldN K ta tv f D σ H := h
theorem g_set0 {f : Str} {a : Addr} {y : V} {R : Hp → Prop} (e : H a = some (ExNO a (.ref C) none)) (P : EPut K C f) (h : ∀ d, H d = none → R (upd (upd H a (ExNO a (.ref C) (some d))) d (XdO d [(f, y)]))) : SetN K f (.ref a) y H R := ⟨a, C, none, rfl, e, P, fun _ => h, fun d z => by cases z⟩
theorem g_set1 {f : Str} {a d : Addr} {y : V} {fs : List (Str × V)} {R : Hp → Prop} (e : H a = some (ExNO a (.ref C) (some d))) (P : EPut K C f) (hd : H d = some (XdO d fs)) (hz : fs.length < 1000) (h : R (upd H d (XdO d (putF f y fs)))) : SetN K f (.ref a) y H R := ⟨a, C, some d, rfl, e, P, (fun z => by cases z), fun d' z => by cases z; exact ⟨fs, hd, hz, h⟩⟩
def RaisesI (C : Addr) (sp : Sp) (Ex : XK) (vs : List V) (H : Hp) : Prop := vs.length ≤ 1000 ∧ ∀ x, H x = none → sp (.ref x :: vs) (upd H x (ExNO x (.ref C) none)) (Rz C x Ex) fun _ _ _ => False
theorem g_raiseI (h : tl σ H fun vs H1 => RaisesI C sp (Ex σ) vs H1) : tRaiseI C sp Ex tl D σ H := h
def spInit1 (C : Addr) (f : Str) : Sp := fun vs H Q _ => ∃ x v, vs = [.ref x, v] ∧ H x = some (ExNO x (.ref C) none) ∧ ∀ d, H d = none → Q .non (upd (upd H x (ExNO x (.ref C) (some d))) d (XdO d [(f, v)]))
theorem g_raiseI1 {E : XK} {v : V} {f : Str} (h : ∀ d H', Same H H' → H' d = some (.xd [(f, v)]) → E (.ref C) (some d) H') : RaisesI C (spInit1 C f) E [v] H := by
  refine ⟨(by show 1 ≤ 1000; decide), fun x nx => ⟨x, v, rfl, upd_same, fun d nd => ⟨rfl, some d, ?_, (fun z => by cases z), fun d' z => ?_⟩⟩⟩
  · have ne : x ≠ d := fun z => by rw [z, upd_same] at nd; cases nd
    rw [upd_ne ne, upd_same]
  · cases z
    have ne : d ≠ x := fun z => by rw [z, upd_same] at nd; cases nd
    have nd' : H d = none := by rw [upd_ne ne] at nd; exact nd
    refine ⟨_, upd_same, ne, h d _ (fun b o e => ?_) upd_same⟩
    rw [upd_ne (ne_of_none e nd'), ers_ne (ne_of_none e nx), upd_ne (ne_of_none e nd'), upd_ne (ne_of_none e nx), upd_ne (ne_of_none e nx)]
    exact e
end
section
theorem walk_ofX {l : PySem.W.OpenLaw} {n k : Nat} {q : Program} {loose : List Str} {XP : (Str → Option Value) → Heap → Prop} {YP : World → Heap → Prop} {d : DefRec} {K : Params → PySem.W.Frag} {CX : Program → World → CXT} {sp : PySem.W.Frag → Sp} {x : Str}
    (hn : l.most = some n) (hn2 : n ≤ sizeLine) (hdf : d.params.defaults = []) (hr : Room k callerA)
    (hY : ∀ (w : World) (h : Heap), YP w h → (K w.params).In h)
    (F : ∀ (w : World) (mg : Str → Option Value) (fa : Addr) (h : Heap), (K w.params).In h → h.Ns mainGlobals mg → mg d.name = some (.ref fa) →
      ∃ fd : FuncData, (∀ (s : Shared) (u : Value), BindsTo s fd ⟨[u], []⟩ [(x, u)]) ∧
        ∀ base : Heap, (K w.params).In base → base.Ns mainGlobals mg → FnOk l.prog w (K w.params) mg base (CX l.prog w) k fa fd [x] (sp (K w.params)))
    (hsp : ∀ (K : PySem.W.Frag) (H : Hp) (a : Addr) (ns : List Int), ns.length ≤ n → Only H → SqL K H a (ns.map V.int) → sp K [.ref a] H (fun v _ => v = .bl true) fun _ _ _ => False)
    (hCX : ∀ (P : Program) (w : World) (H : Hp) (s : Shared) (e : Value) (s' : Shared), CX P w [] H s (fun _ _ _ => False) e s' → False) :
    PySem.W.WalkO q loose XP YP l.row.toRowW d [] (fun f vs => PySem.call f vs) :=
  walk_of (K := K) (CX := fun w => CX l.prog w) (sp := fun w => sp (K w.params)) hn hn2 hdf hr hY F (fun w H a ns h1 h2 h3 => hsp (K w.params) H a ns h1 h2 h3) fun w H s e s' => hCX l.prog w H s e s'
end
end L4
namespace HT3
open PySem PyProof.Rows HT
section
open PySem.SeqAt
open PySem.AutoSeq1 (wpAny_loadPart')
open PySem.MeetsSeq PySem.MeetsSeq2 PySem.MeetsSeq3
end
section
variable {prog : Program} {w : World} {A : Around} {E : Value → Shared → Prop} {s : Shared}
end
section
open PySem.SeqAt
open PySem.AutoSeq1 (wpAny_loadPart')
open PySem.MeetsSeq PySem.MeetsSeq2 PySem.MeetsSeq3
end
section
variable {prog : Program} {w : World} {A : Around} {E : Value → Shared → Prop} {s : Shared}
end
end HT3
namespace L4
open PySem PySem.Spec PyProof.Rows L2 L3
section
variable {X : Cx}
end
section
variable {K : PySem.W.Frag} {H : Hp} {Q : VK} {a b : Addr} {m k m' k' : Int}
end
end L4
namespace L4
open PySem PySem.Spec PyProof.Rows L2 L3
def Ite (K : PySem.W.Frag) (a : Addr) : It :=
  ⟨fun i H => ∃ xs x, SqL K H a xs ∧ xs[i]? = some x,
   fun i H v H' => ∃ T, H T = none ∧ v = .ref T ∧ ∀ xs x, SqL K H a xs → xs[i]? = some x → H' = upd H T (.tup [.int i, x]),
   fun i H => ∃ xs, SqL K H a xs ∧ xs.length ≤ i⟩
theorem turn_enum {P : Program} {w : World} {K : PySem.W.Frag} {es : List Expr} {x1 : Nat} {tp : Pos} {e it a : Addr} (ne : e ≠ it) : Turn P w K (.Tuple es x1 tp) (Ite K a) [e, it] e (fun n h => (∃ old, IsEnum h e it (n : Int) old) ∧ h.IsListIter it a n) where
  mem := by simp
  obj := fun n h Z c hc => by
    obtain ⟨⟨old, z⟩, oi, hi, ci, di⟩ := Z
    simp only [List.mem_cons, List.not_mem_nil, or_false] at hc
    rcases hc with rfl | rfl
    · exact ⟨_, z, fun v r => by cases r⟩
    · exact ⟨_, hi, fun v r => by rw [di] at r; cases r⟩
  keep := fun n h h' Z kk => by
    obtain ⟨⟨old, z⟩, oi, hi, r⟩ := Z
    exact ⟨⟨old, kk e (by simp) _ z⟩, oi, kk it (by simp) _ hi, r⟩
  item := by
    intro X hP hw hK hc n pins s σ H E I hf Z hg
    subst hP hw hK
    obtain ⟨⟨old, z⟩, hi⟩ := Z
    obtain ⟨xs, x, q1, e1⟩ := hg
    obtain ⟨its, rv, sr⟩ := SqK.get (k := true) I q1
    obtain ⟨u, hu, ru⟩ := rv.get e1
    refine wpAny_pyNext_enum_item z hi sr (by simpa using hu) ne fun h' z' hi' p' hz' kk => ?_
    have sz : s.heap.objs.size ≤ s.heap.objs.size := Nat.le_refl _
    have kk' : ∀ b o, b ∉ [e, it] → s.heap.get? b = some o → h'.get? b = some o := fun b o hb q => kk b o (fun r => hb (by simp [r])) (fun r => hb (by simp [r])) q
    have I1 : Inv X pins σ (upd H s.heap.objs.size (.tup [.int n, x])) { s with heap := h', toks := s.toks + 1 } := turnT (t' := s.toks + 1) I hf kk' sz ⟨by show 2 ≤ sizeLine; decide, [.int n s.toks, u], .cons ⟨_, rfl⟩ (.cons ru .nil), ⟨_, p', rfl, _, rfl⟩⟩
    refine ⟨_, rfl, wpAny_letOwnedTupleGo_enum (s := { s with heap := h', toks := s.toks + 1 }) z' fun h2 z2 e3 => ?_⟩
    have nz : ∀ c ∈ [e, it], (upd H s.heap.objs.size (.tup [.int n, x])) c = none := fun c hc => by
      have ho : ∃ o, s.heap.get? c = some o := by
        obtain ⟨oi, hio, _⟩ := hi
        have hc' := hc
        simp only [List.mem_cons, List.not_mem_nil, or_false] at hc'
        rcases hc' with rfl | rfl
        · exact ⟨_, z⟩
        · exact ⟨_, hio⟩
      obtain ⟨o, ho⟩ := ho
      rw [upd_ne (Nat.ne_of_lt (Heap.lt_size ho))]
      exact (hf c hc).1
    have I2 : Inv X pins σ (upd H s.heap.objs.size (.tup [.int n, x])) { s with heap := h2, toks := s.toks + 1 } := turnL (s := { s with heap := h', toks := s.toks + 1 }) (t' := s.toks + 1) (ch := [e]) I1 (fun c hc => by
      obtain rfl := List.mem_singleton.mp hc
      exact ⟨nz _ (by simp), (hf _ (by simp)).2⟩) fun c o hc q => e3.extBut _ _ (fun r => hc (by simp [r])) q
    obtain ⟨oi, hio, r⟩ := hi'
    refine ⟨.ref s.heap.objs.size, _, I2, rfl, ⟨_, I.hok.fresh sz, rfl, fun xs' x' r1 r3 => ?_⟩, ⟨⟨u, by simpa using z2⟩, oi, e3.extBut _ _ (Ne.symm ne) hio, r⟩, nz⟩
    rw [SqK.inj (k := true) I r1 q1] at r3
    rw [e1] at r3; cases r3
    rfl
  done := by
    intro X hP hw hK hc n pins s σ H E I hf Z hg
    subst hP hw hK
    obtain ⟨⟨old, z⟩, hi⟩ := Z
    obtain ⟨xs, q1, he⟩ := hg
    obtain ⟨its, rv, sr⟩ := SqK.get (k := true) I q1
    have l1 := rv.length
    refine wpAny_pyNext_enum_end (I.ok.hd hc) z hi sr (by simp; omega) fun h' kk => ⟨rfl, turnL (t' := s.toks) (ch := [it]) I (fun c hc => by
      obtain rfl := List.mem_singleton.mp hc
      exact hf _ (by simp)) fun c o hc q => kk c o (fun r => hc (by simp [r])) q⟩
  self := fun _ _ _ _ _ Z h => by
    obtain ⟨⟨old, z⟩, _⟩ := Z
    exact wpAny_pyIter_enum z h
def iEnum (K : PySem.W.Frag) (ta : TA) : TI := fun σ H R => ta σ H fun vs H1 => ∃ a xs, vs = [.ref a] ∧ SqL K H1 a xs ∧ R (Ite K a) H1
theorem enum_call {X : Cx} {pins : List (Addr × Obj)} {σ : St} {H : Hp} {s : Shared} {a : Addr} {xs : List V} {R : It → Hp → Prop} {E : Value → Shared → Prop} {es : List Expr} {x1 : Nat} {tp : Pos} (I : Inv X pins σ H s) (q1 : SqL X.K H a xs) (q : R (Ite X.K a) H) :
    wpAny (model X.prog X.w) X.A (call (.type "enumerate") [.ref a]) (fun v s1 => wpAny (model X.prog X.w) X.A (pyIter v) (PIE X pins σ (.Tuple es x1 tp) R) E s1) E s := by
  obtain ⟨its, rv, sr⟩ := SqK.get (k := true) I q1
  refine call_enumerate_list sr fun h' z hi hz kk => ?_
  have I1 : Inv X pins σ H { s with heap := h' } := I.kept (t' := s.toks) kk
  refine wpAny_pyIter_enum (s := { s with heap := h' }) z ⟨_, _, _, _, H, rfl, I1, turn_enum (Nat.succ_ne_self _), ⟨⟨_, z⟩, hi⟩, fun c hc => ?_, q⟩
  have ge : s.heap.objs.size ≤ c := by
    simp only [List.mem_cons, List.not_mem_nil, or_false] at hc
    rcases hc with rfl | rfl <;> first | exact Nat.le_add_right _ _ | exact Nat.le_refl _
  exact I.fpOk ge (I.hok.fresh ge)
theorem pi_enum {X : Cx} {es : List Expr} {x1 : Nat} {tp p pos : Pos} {e1 : Expr} {ta : TA} (hg : Gl X "enumerate") (hm : X.mg "enumerate" = none) (ha : PA X [e1] ta) (hs : starEach [e1] X.env = [(false, eval e1 X.env)] := by rfl) :
    PI X (.Tuple es x1 tp) (.Call (.Name "enumerate" p) [e1] [] pos) (iEnum X.K ta) := by
  intro pins s σ H R I h
  refine Call_ (ld_blt I hg hm PyProof.Rows.boot_enumerate (PyProof.Rows.callWith_type1 (thn (ha pos pins s σ H _ I h) fun us s1 ⟨vs, H1, I1, r1, q1⟩ => ?_) (by rw [hs]; rfl) (by rfl)))
  obtain ⟨a, xs, rfl, w1, q⟩ := q1
  obtain ⟨u, rfl, ru⟩ := vals1 r1
  cases ru
  exact enum_call I1 w1 q
def En (K : PySem.W.Frag) (vs : List V) (H : Hp) (R : It → Hp → Prop) : Prop := ∃ a xs, vs = [.ref a] ∧ SqL K H a xs ∧ R (Ite K a) H
theorem g_enum {K : PySem.W.Frag} {tl : TA} {σ : St} {H : Hp} {R : It → Hp → Prop} (h : tl σ H fun vs H1 => En K vs H1 R) : iEnum K tl σ H R := h
theorem g_enumv {K : PySem.W.Frag} {H : Hp} {R : It → Hp → Prop} {a : Addr} {xs : List V} (h1 : SqL K H a xs) (h : R (Ite K a) H) : En K [.ref a] H R := ⟨a, xs, rfl, h1, h⟩
theorem g_forE {K : PySem.W.Frag} {σ : St} {H : Hp} {D : Ends} {g : TG} {tb : TS} {a : Addr} (xs : List V) (Pv : Nat → St → Hp → Prop) (h0 : Pv 0 σ H) (hl : ∀ i σ H, i ≤ xs.length → Pv i σ H → SqL K H a xs)
    (hs : ∀ i x T σ H, xs[i]? = some x → Pv i σ H → H T = none → g (.ref T) σ (upd H T (.tup [.int i, x])) fun σ2 H2 => tb { D with nx := Pv (i + 1), ct := Pv (i + 1), bk := D.nx } σ2 H2)
    (hd : ∀ σ H, Pv xs.length σ H → D.nx σ H) : ForW (Ite K a) g tb D σ H := by
  refine ⟨fun i m σ H => m = xs.length - i ∧ i ≤ xs.length ∧ Pv i σ H, ⟨_, rfl, Nat.zero_le _, h0⟩, ?_⟩
  rintro i m σ H ⟨rfl, hi, p⟩
  have q1 := hl i σ H hi p
  by_cases hlt : i < xs.length
  · refine .inr ⟨⟨xs, xs[i], q1, by simp [hlt]⟩, Pv (i + 1), fun σ' H' p' => ⟨xs.length - (i + 1), by omega, rfl, hlt, p'⟩, fun v H' yl => ?_⟩
    obtain ⟨T, nT, rfl, yl⟩ := yl
    rw [yl xs xs[i] q1 (by simp [hlt])]
    exact hs i xs[i] T σ H (by simp [hlt]) p nT
  · have e : i = xs.length := by omega
    subst e
    exact .inl ⟨⟨xs, q1, by omega⟩, hd σ H p⟩
end L4
namespace L4
open PySem PySem.Spec PyProof.Rows L2 L3
theorem bl_at {bs : List Bool} {us : List Value} (rv : Vals (bs.map V.bl) us) {i : Nat} {v : Value} (e : us[i]? = some v) : ∃ b, bs[i]? = some b ∧ v = .bool b := by
  have hi : i < bs.length := by
    have h1 := (List.getElem?_eq_some_iff.mp e).1
    have h2 := rv.length
    rw [List.length_map] at h2
    omega
  obtain ⟨u, hu, ru⟩ := rv.get (i := i) (x := V.bl bs[i]) (by rw [List.getElem?_map, List.getElem?_eq_getElem hi]; rfl)
  rw [e] at hu
  cases hu
  cases ru
  exact ⟨_, List.getElem?_eq_getElem hi, rfl⟩
theorem range_allB (bs : List Bool) : ((List.range bs.length).all fun i => (bs[i]?).getD true) = bs.all id := by
  rw [Bool.eq_iff_iff, List.all_eq_true, List.all_eq_true]
  constructor
  · intro h b hb
    obtain ⟨i, hi, e⟩ := List.getElem_of_mem hb
    have := h i (List.mem_range.mpr hi)
    rw [List.getElem?_eq_getElem hi, Option.getD_some, e] at this
    exact this
  · intro h i hi
    have hi' := List.mem_range.mp hi
    rw [List.getElem?_eq_getElem hi', Option.getD_some]
    exact h _ (List.getElem_mem hi')
theorem range_anyB (bs : List Bool) : ((List.range bs.length).any fun i => (bs[i]?).getD false) = bs.any id := by
  rw [Bool.eq_iff_iff, List.any_eq_true, List.any_eq_true]
  constructor
  · rintro ⟨i, hi, e⟩
    have hi' := List.mem_range.mp hi
    rw [List.getElem?_eq_getElem hi', Option.getD_some] at e
    exact ⟨_, List.getElem_mem hi', e⟩
  · rintro ⟨b, hb, e⟩
    obtain ⟨i, hi, rfl⟩ := List.getElem_of_mem hb
    exact ⟨i, List.mem_range.mpr hi, by rw [List.getElem?_eq_getElem hi, Option.getD_some]; exact e⟩
theorem kept_it {s : Shared} {h' : Heap} {o : Obj} (hk : ∀ b x, b ∉ [s.heap.objs.size] → (s.heap.push o).get? b = some x → h'.get? b = some x) : ∀ b x, s.heap.get? b = some x → h'.get? b = some x :=
  fun b x e => hk b x (fun hm => by rw [List.mem_singleton.mp hm] at e; exact Nat.lt_irrefl _ (Heap.lt_size e)) (Heap.get?_push_of_some _ e)
def rAll (K : PySem.W.Frag) : RL := fun xs H Q => ∃ (p : Addr) (bs : List Bool), xs = [.ref p] ∧ SqL K H p (bs.map V.bl) ∧ Q (.bl (bs.all id)) H
def rAny (K : PySem.W.Frag) : RL := fun xs H Q => ∃ (p : Addr) (bs : List Bool), xs = [.ref p] ∧ SqL K H p (bs.map V.bl) ∧ Q (.bl (bs.any id)) H
section
variable {X : Cx}
theorem call_all (hc : X.calm = true) : CallR X (.builtin "all") (rAll X.K) := by
  intro pins s σ H xs us Q I r h
  obtain ⟨p, bs, rfl, hq, q⟩ := h
  obtain ⟨u, rfl, rx⟩ := vals1 r
  cases rx
  obtain ⟨its, rv, pl, hz⟩ := I.list hq
  have hl := pl.isList
  have hlt : p < s.heap.objs.size := by obtain ⟨_, e, _⟩ := hl; exact Heap.lt_size e
  have hlen : its.length = bs.length := by rw [← rv.length, List.length_map]
  refine call_all_walk (wpAny_pyIter_list hl ?_)
  refine ⟨s.heap.objs.size, [s.heap.objs.size, p], [s.heap.objs.size], its.toArray.size, _, _, fun i => (bs[i]?).getD true, rfl, Walks.list (A := X.A.in1) (I.ok.hd hc) _ p (Nat.ne_of_lt hlt) its.toArray,
    ⟨⟨_, Heap.get?_push_size _ rfl, rfl, rfl⟩, hl.push _⟩, fun i v s' Q' E' hP hQ => ?_, fun h' tk hk => ?_⟩
  · obtain ⟨b, e, rfl⟩ := bl_at rv (i := i) (v := v) (by simpa using hP)
    simp only [e, Option.getD_some] at hQ
    exact wpAny_truthy_bool hQ
  · have e : ((List.range its.toArray.size).all fun i => (bs[i]?).getD true) = bs.all id := by
      rw [List.size_toArray, hlen]; exact range_allB bs
    rw [e]
    exact ⟨.bl _, H, I.kept (kept_it hk), rfl, q⟩
theorem call_any (hc : X.calm = true) : CallR X (.builtin "any") (rAny X.K) := by
  intro pins s σ H xs us Q I r h
  obtain ⟨p, bs, rfl, hq, q⟩ := h
  obtain ⟨u, rfl, rx⟩ := vals1 r
  cases rx
  obtain ⟨its, rv, pl, hz⟩ := I.list hq
  have hl := pl.isList
  have hlt : p < s.heap.objs.size := by obtain ⟨_, e, _⟩ := hl; exact Heap.lt_size e
  have hlen : its.length = bs.length := by rw [← rv.length, List.length_map]
  refine call_any_walk (wpAny_pyIter_list hl ?_)
  refine ⟨s.heap.objs.size, [s.heap.objs.size, p], [s.heap.objs.size], its.toArray.size, _, _, fun i => (bs[i]?).getD false, rfl, Walks.list (A := X.A.in1) (I.ok.hd hc) _ p (Nat.ne_of_lt hlt) its.toArray,
    ⟨⟨_, Heap.get?_push_size _ rfl, rfl, rfl⟩, hl.push _⟩, fun i v s' Q' E' hP hQ => ?_, fun h' tk hk => ?_⟩
  · obtain ⟨b, e, rfl⟩ := bl_at rv (i := i) (v := v) (by simpa using hP)
    simp only [e, Option.getD_some] at hQ
    exact wpAny_truthy_bool hQ
  · have e : ((List.range its.toArray.size).any fun i => (bs[i]?).getD false) = bs.any id := by
      rw [List.size_toArray, hlen]; exact range_anyB bs
    rw [e]
    exact ⟨.bl _, H, I.kept (kept_it hk), rfl, q⟩
theorem ix_tupK {K : PySem.W.Frag} (h : X.K = K) : IxR X (rIxT K) := h ▸ ix_tup
end
section
variable {K : PySem.W.Frag} {H : Hp} {Q : VK} {p : Addr} {P : Addr → Prop} {H0 : Hp} {l : List (Addr × Ob)} {fs : List Pr} {a b : Addr} {xs ys : List V}
theorem g_allB {bs : List Bool} (s : SqL K H p (bs.map V.bl)) (h : Q (.bl (bs.all id)) H) : rAll K [.ref p] H Q := ⟨p, bs, rfl, s, h⟩
theorem g_anyB {bs : List Bool} (s : SqL K H p (bs.map V.bl)) (h : Q (.bl (bs.any id)) H) : rAny K [.ref p] H Q := ⟨p, bs, rfl, s, h⟩
end
end L4
namespace L4
open PySem PySem.Spec PyProof.Rows L2 L3 PySem.W
structure MCal (P : Program) (w : World) (K : Frag) (mg : Str → Option Value) (base : Heap) (CX : CXT) (C : Addr) (m : Str) (k : Nat) (ps : List Str) (sp : Sp) : Prop where
  cl : Cls K C
  ex : ∃ f fd, Meth K C m f ∧ FnOk P w K mg base CX k f fd ps sp ∧ Binds K fd ps []
section
variable {P : Program} {w : World} {K : Frag} {mg : Str → Option Value} {base : Heap} {CX : CXT} {x qual : Str} {C : Addr} {st : Stmt} {N ps : List Str} {k j : Nat} {sp sp' : Sp}
theorem mdat_ok (D : MDat K C x qual st ps) (S : FnScope N ps (defScope st)) (len : ∀ vs H Q E, sp vs H Q E → vs.length = ps.length)
    (hbody : ∀ (f : Addr) (cdv : Value) (A : Around) (outer : List Env) (s : Shared) (H : Hp) (vs : List V) (Q : VK) (E : XK), Room k (A.deeper (envOfC qual (defScope st) s.heap.objs.size f cdv)) → sp vs H Q E →
      ∃ t, PSs (cxOf CX P w K mg base N qual (defScope st) f cdv A outer s H E).nox (defBody st) t ∧ t { nx := fun _ H' => Q .non H', rt := Q } (start N vs) H) : MCal P w K mg base CX C x (k + 1) ps sp := by
  obtain ⟨f, fd, F, b, m, c⟩ := D.ex
  exact ⟨c, f, fd, m, fun_ok F S len hbody, b⟩
theorem mdat_okR (D : MDat K C x qual st ps) (S : FnScope N ps (defScope st)) (len : ∀ vs H Q E, sp vs H Q E → vs.length = ps.length)
    (hbody : ∀ (f : Addr) (cdv : Value) (A : Around) (outer : List Env) (s : Shared) (H : Hp) (vs : List V) (Q : VK) (E : XK), Room k (A.deeper (envOfC qual (defScope st) s.heap.objs.size f cdv)) → sp vs H Q E →
      ∃ t, PSs (xcx (cxOf (CX1 P w) P w K mg base N qual (defScope st) f cdv A outer s H E) (fun _ => E)) (defBody st) t ∧ t { nx := fun _ H' => Q .non H', rt := Q } (start N vs) H) : MCal P w K mg base (CX1 P w) C x (k + 1) ps sp := by
  obtain ⟨f, fd, F, b, m, c⟩ := D.ex
  obtain ⟨oc, od, kV, doc, pm, an, cdv, ct, osl, rfl, lk, hcd⟩ := F.ex
  refine ⟨c, f, _, m, fn_of lk hcd S len fun A outer s H vs Q E hr hsp => ?_, b⟩
  obtain ⟨t, ht, q⟩ := hbody f cdv A outer s H vs Q E hr hsp
  exact ⟨t, L4.PSs.x ht xs_leave, q⟩
theorem mdat_mk {f : Addr} {oc : Value} {od an : Option Addr} {osl : Array (Option Value)} {kV doc pm cdv ct : Value} (c : Cls K C) (a : findIn K (.ref C) x = some (some (.ref f))) (i : isFn K (.ref f) = true)
    (l : K.lookup f = some ⟨oc, od, .func (fnOf x qual (defArgs st) (defBody st) (defScope st) .none kV doc pm an cdv ct), osl⟩) (cd : codeIn K cdv qual = true) (kp : keepIn K (.ref f) = true)
    (b : ∀ (kV doc pm : Value) (an : Option Addr) (cdv ct : Value) (us : List Value), us.length = ps.length → bindArgs (fnOf x qual (defArgs st) (defBody st) (defScope st) .none kV doc pm an cdv ct) ⟨us, []⟩ = pure (ps.zip us)) : MDat K C x qual st ps := by
  have F := fun_mk (st := st) l cd kp
  exact ⟨f, _, F, F.binds b, ⟨a, i, kp⟩, c⟩
end
section
variable {X : Cx} {CX : CXT} {k : Nat} {C : Addr} {ps : List Str} {sp : Sp} {E : XK} {Ex : St → XK} {m : Str} {pos apos : Pos} {e o : Expr} {es : List Expr} {ta : TE} {t : TA}
theorem pe_mt {pl : Sem Bool} (M : MCal X.prog X.w X.K X.mg X.base CX C m k ps sp) (hr : Room k X.A) (hx : Passes CX X E) (he : PE X o ta) (ha : PA X (e :: es) t)
    (hst : starEach (e :: es) X.env = (false, eval e X.env) :: starEach es X.env := by rfl) (hpl : (backTo pos (starEach es X.env)).any (·.1) = false := by rfl)
    (ht : eval (.Call (.Attribute o m apos) (e :: es) [] pos) X.env = (do
      let ov ← eval o X.env
      standAt apos.atName
      let (f, first) ← holding [ov] (getMethod ov m pl)
      callWith pos f first (backTo pos (starEach (e :: es) X.env)) (backToKw pos (keywordEach [] X.env))) := by rfl) :
    PE X (.Call (.Attribute o m apos) (e :: es) [] pos) (tMeth C m sp [] E ta t) := by
  obtain ⟨f, fd, hm, F, b⟩ := M.ex
  exact pe_meth he M.cl hm F hr b .nil hx ha hst hpl ht
theorem pe_mt0 {pl : Sem Bool} (M : MCal X.prog X.w X.K X.mg X.base CX C m k ps sp) (hr : Room k X.A) (hx : Passes CX X E) (he : PE X o ta)
    (ht : eval (.Call (.Attribute o m apos) [] [] pos) X.env = (do
      let ov ← eval o X.env
      standAt apos.atName
      let (f, first) ← holding [ov] (getMethod ov m pl)
      callWith pos f first (backTo pos (starEach [] X.env)) (backToKw pos (keywordEach [] X.env))) := by rfl) :
    PE X (.Call (.Attribute o m apos) [] [] pos) (tMeth C m sp [] E ta tNil) := by
  obtain ⟨f, fd, hm, F, b⟩ := M.ex
  exact pe_meth0 he M.cl hm F hr b .nil hx ht
def tMethX (C : Addr) (m : Str) (sp : Sp) (Ex : St → XK) (ta : TE) (t : TA) : TE := fun σ H Q => ta σ H fun x H1 => ∃ a dx fs, x = .ref a ∧ H1 a = some (.ins C dx fs) ∧ fs.lookup m = none ∧ t σ H1 fun vs H2 => sp (x :: vs) H2 Q (Ex σ)
theorem pe_mtX {pl : Sem Bool} (M : MCal X.prog X.w X.K X.mg X.base (CX1 X.prog X.w) C m k ps sp) (hr : Room k X.A) (hx : PaX X Ex) (he : PE X o ta) (ha : PA X (e :: es) t)
    (hst : starEach (e :: es) X.env = (false, eval e X.env) :: starEach es X.env := by rfl) (hpl : (backTo pos (starEach es X.env)).any (·.1) = false := by rfl)
    (ht : eval (.Call (.Attribute o m apos) (e :: es) [] pos) X.env = (do
      let ov ← eval o X.env
      standAt apos.atName
      let (f, first) ← holding [ov] (getMethod ov m pl)
      callWith pos f first (backTo pos (starEach (e :: es) X.env)) (backToKw pos (keywordEach [] X.env))) := by rfl) :
    PE X (.Call (.Attribute o m apos) (e :: es) [] pos) (tMethX C m sp Ex ta t) := by
  obtain ⟨f, fd, hm, F, b⟩ := M.ex
  intro pins s σ H Q I h
  refine methodCall_KW (pl := pl) (thn (he pins s σ H _ I h) fun u s1 ⟨x, H1, I1, rx, a, dx, fs, ex, ea, l, q⟩ => ?_) ht
  subst ex
  obtain rfl : u = Value.ref a := rx
  refine getmeth_ok I1 ea M.cl hm l ?_
  refine callWith_K (first := [.ref a]) (h₀ := X.base) I.ok.mod.kin hm.kp (thn (ha pos pins s1 σ H1 _ I1 q) fun us s2 ⟨vs, H2, I2, r, q2⟩ => ⟨I2.kIn, ?_⟩) hst hpl
  exact run_fnX (us := .ref a :: us) (vs := .ref a :: vs) F hr b hx I2 (.cons rfl r) q2
def Mth (C : Addr) (m : Str) (sp : Sp) (E : XK) (t : TA) (σ : St) (x : V) (H : Hp) (Q : VK) : Prop := ∃ a dx fs, x = .ref a ∧ H a = some (.ins C dx fs) ∧ fs.lookup m = none ∧ t σ H fun vs H2 => sp (x :: vs) H2 Q E
theorem g_meth {σ : St} {H : Hp} {Q : VK} (h : ta σ H fun x H1 => Mth C m sp E t σ x H1 Q) : tMeth C m sp [] E ta t σ H Q := by
  have e : (fun x H1 => Mth C m sp E t σ x H1 Q) = fun x H1 => ∃ a dx fs, x = .ref a ∧ H1 a = some (.ins C dx fs) ∧ fs.lookup m = none ∧ t σ H1 fun vs H2 => sp (x :: (vs ++ [])) H2 Q E := by
    funext x H1
    unfold Mth
    simp only [List.append_nil]
  rw [e] at h
  exact h
theorem g_methX {σ : St} {H : Hp} {Q : VK} (h : ta σ H fun x H1 => Mth C m sp (Ex σ) t σ x H1 Q) : tMethX C m sp Ex ta t σ H Q := h
theorem g_methv {σ : St} {H : Hp} {Q : VK} {a dx : Addr} {fs : List (Str × V)} (hx : H a = some (.ins C dx fs)) (hl : fs.lookup m = none) (h : t σ H fun vs H2 => sp (.ref a :: vs) H2 Q E) : Mth C m sp E t σ (.ref a) H Q := ⟨a, dx, fs, rfl, hx, hl, h⟩
end
end L4
namespace L4
open PySem PySem.Spec PyProof.Rows L2 L3
section
variable {X : Cx} {e st : Expr} {te : TE} {ts : TO} {pos p2 : Pos}
end
section
variable {K : PySem.W.Frag} {P : Addr → Prop} {H0 H : Hp} {l l' : List (Addr × Ob)} {fs : List Pr} {Q : VK} {σ : St} {r r' : R2} {ta tb tc te : TE} {ts : TO} {tl : TA}
end
end L4
namespace L4
open PySem PySem.Spec PyProof.Rows L2 L3
def rMinL (K : PySem.W.Frag) : RL := fun xs H Q => ∃ (p : Addr) (ns : List Int), xs = [.ref p] ∧ SqL K H p (ns.map V.int) ∧ 0 < ns.length ∧ ∀ M, M ∈ ns → (∀ a ∈ ns, M ≤ a) → Q (.int M) H
section
variable {X : Cx}
theorem c_minL (hc : X.calm = true) : CallR X (.builtin "min") (rMinL X.K) := by
  intro pins s σ H xs us Q I r h
  obtain ⟨p, ns, rfl, hq, hne, q⟩ := h
  obtain ⟨u, rfl, rx⟩ := vals1 r
  cases rx
  obtain ⟨its, rv, pl, hz⟩ := I.list hq
  have hi := ints_of rv
  obtain ⟨xs, e⟩ := hi.allInts.items
  have hl : s.heap.IsList p (intItems xs) := e ▸ pl.isList
  have hns : ns = xs.toList.map (·.1) := by
    rw [← nums_intItems, ← e]
    exact (show numsOf its.toArray.toList = ns from hi.numsOf).symm
  have hsz : 0 < xs.size := by
    have h3 := hne; rw [hns, List.length_map, Array.length_toList] at h3; exact h3
  refine min_intList (I.ok.hd hc) hl hsz fun v h' tk hv hk => ?_
  obtain ⟨t, rfl⟩ := intItems_at hv
  obtain ⟨h1, h2⟩ := argBest_lt (numAt xs) (xs.size - 1)
  refine ⟨.int _, H, I.kept hk, ⟨_, rfl⟩, q _ ?_ fun a ha => ?_⟩
  · rw [hns, numAt_eq]; exact getD_mem (by rw [List.length_map, Array.length_toList]; omega)
  · rw [hns] at ha
    obtain ⟨j, hj, rfl⟩ := mem_getD ha
    rw [List.length_map, Array.length_toList] at hj
    rw [← numAt_eq]; exact h2 j (by omega)
end
section
variable {K : PySem.W.Frag} {H : Hp} {Q : VK} {p : Addr} {ns : List Int} {P : Addr → Prop} {H0 : Hp} {l : List (Addr × Ob)} {fs : List Pr}
theorem g_minL (s : SqL K H p (ns.map V.int)) (hne : 0 < ns.length) (h : ∀ M, M ∈ ns → (∀ a ∈ ns, M ≤ a) → Q (.int M) H) : rMinL K [.ref p] H Q := ⟨p, ns, rfl, s, hne, h⟩
end
end L4
namespace L4
open PySem PySem.Spec PyProof.Rows L2 L3
section
variable {prog : Program} {w : World} {A : Around} {E : Value → Shared → Prop} {s : Shared} {R : Result → Shared → Prop} {I S : Addr} {fp wr : List Addr} {n : Nat} {P : Nat → Value → Prop} {St : Nat → Heap → Prop}
end
section
variable {X : Cx} {p pos kp : Pos} {e d : Expr} {te td : TE}
end
section
variable {K : PySem.W.Frag} {H : Hp} {Q : VK} {p : Addr} {ns : List Int} {d : Int} {te td : TE} {σ : St}
end
section
variable {X : Cx} {pins : List (Addr × Obj)} {σ : St} {H : Hp} {s : Shared} {A : Around} {E : Value → Shared → Prop} {Q : Value → Shared → Prop} {c : Value} {b : Bool}
end
section
variable {X : Cx}
end
end L4
namespace L4
open PySem PySem.Spec PyProof.Rows L2 L3
def apartS : List Str → List Str → List Str
  | acc, [] => acc
  | acc, x :: xs => apartS (if x ∈ acc then acc else acc ++ [x]) xs
theorem apartS_app : ∀ (xs ys acc : List Str), apartS acc (xs ++ ys) = apartS (apartS acc xs) ys
  | [], _, _ => rfl
  | x :: xs, ys, acc => apartS_app xs ys _
theorem apartS_snoc {xs : List Str} {i : Nat} {x : Str} (h : xs[i]? = some x) : apartS [] (xs.take (i + 1)) = if x ∈ apartS [] (xs.take i) then apartS [] (xs.take i) else apartS [] (xs.take i) ++ [x] := by
  rw [List.take_add_one, h, apartS_app]; rfl
theorem apartS_len : ∀ (xs acc : List Str), (apartS acc xs).length ≤ acc.length + xs.length
  | [], _ => Nat.le_refl _
  | x :: xs, acc => by
    have := apartS_len xs (if x ∈ acc then acc else acc ++ [x])
    show (apartS (if x ∈ acc then acc else acc ++ [x]) xs).length ≤ _
    rw [List.length_cons]
    by_cases c : x ∈ acc
    · rw [if_pos c] at this ⊢; omega
    · rw [if_neg c] at this ⊢; rw [List.length_append, List.length_singleton] at this; omega
theorem apartS_all : ∀ (xs acc : List Str), xs.Nodup → (∀ x ∈ xs, ¬ x ∈ acc) → (apartS acc xs).length = acc.length + xs.length
  | [], _, _, _ => rfl
  | x :: xs, acc, h, hn => by
    rw [List.nodup_cons] at h
    show (apartS (if x ∈ acc then acc else acc ++ [x]) xs).length = _
    rw [if_neg (hn x List.mem_cons_self), apartS_all xs (acc ++ [x]) h.2 fun y hy z => ?_]
    · rw [List.length_append, List.length_singleton, List.length_cons]; omega
    · rcases List.mem_append.mp z with z | z
      · exact hn y (List.mem_cons_of_mem _ hy) z
      · rw [List.mem_singleton.mp z] at hy; exact h.1 hy
section
variable {prog : Program} {w : World} {A : Around} {E : Value → Shared → Prop} {s : Shared} {R : Result → Shared → Prop} {I S : Addr} {fp wr : List Addr} {G : Array GenState → Array GenState → Prop} {P : Nat → Value → Prop} {St : Nat → Shared → Prop} {xs : List Str}
theorem seto_keep {h h' : Heap} {f : Str → Bool} {c : Nat} (hS : h.SetOf (strKind prog w) S f c) (k : ∀ o, h.get? S = some o → h'.get? S = some o) : h'.SetOf (strKind prog w) S f c := by
  obtain ⟨o, es, ep, t, ho, rest⟩ := hS
  exact ⟨o, es, ep, t, k o ho, rest⟩
theorem setx_go (W : WalksS prog w A.in1 I fp wr G xs.length P St) (hSf : S ∉ fp) (hval : ∀ i v, P i v → ∃ x t, xs[i]? = some x ∧ v = .str x t) (hb : xs.length + 1 < scanBound) :
    ∀ (r i : Nat) (s : Shared), xs.length - i = r → i ≤ xs.length → St i s → s.heap.SetOf (strKind prog w) S (fun k => decide (k ∈ apartS [] (xs.take i))) (apartS [] (xs.take i)).length →
      (∀ s', Moved (S :: wr) G s s' → s'.heap.SetOf (strKind prog w) S (fun k => decide (k ∈ apartS [] xs)) (apartS [] xs).length → R (.ok (.ret .none)) s') →
      codeAny (model prog w) A (.builtin "set.update.loop" ⟨[.ref S, .ref I], []⟩) R s := by
  have hSw : S ∉ wr := fun h => hSf (W.sub _ h)
  have up : ∀ b ∈ wr, b ∈ S :: wr := fun b hb => List.mem_cons_of_mem _ hb
  intro r
  induction r with
  | zero =>
    intro i s hr hi st hS k
    obtain rfl : i = xs.length := by omega
    rw [List.take_length] at hS
    refine codeAny_builtin F.entry_set_update_loop ?_
    rw [Around.under_plainId F.plain_set_update_loop _]
    show wpAny _ A.in1 (pyNext (.ref I) >>= _) _ _ s
    refine wpAny_bind (W.done s _ _ st fun s' hm => ?_)
    exact wpAny_pure (k s' (hm.mono up) (seto_keep hS fun o e => hm.heap S o hSw e))
  | succ r ih =>
    intro i s hr hi st hS k
    have hlt : i < xs.length := by omega
    refine codeAny_builtin F.entry_set_update_loop ?_
    rw [Around.under_plainId F.plain_set_update_loop _]
    show wpAny _ A.in1 (pyNext (.ref I) >>= _) _ _ s
    refine wpAny_bind (W.item i s _ _ hlt st fun v s1 hP st1 hm => ?_)
    obtain ⟨x, t, hx, rfl⟩ := hval i v hP
    have hS1 := seto_keep hS fun o e => hm.heap S o hSw e
    have hl := apartS_len (xs.take i) []
    rw [List.length_take] at hl
    show wpAny _ A.in1 (holding [Value.str x t] (setAdd S (.str x t)) >>= _) _ _ s1
    refine wpAny_bind (wpAny_holding ?_)
    unfold setAdd
    refine wpAny_holding (wpAny_bind ((strKind prog w).pyHash (k := x) (strKind_is _ _ _ _) ?_))
    refine wpAny_setAddHashed_of (knd := strKind prog w) (s := { s1 with toks := s1.toks + 1 }) (strKind_is _ _ _ _) rfl hS1 (by simp at hl; omega) fun h2 same hS2 => ?_
    have hS3 : h2.SetOf (strKind prog w) S (fun k => decide (k ∈ apartS [] (xs.take (i + 1)))) (apartS [] (xs.take (i + 1))).length := by
      refine SetOf_congr hS2 (fun k' => ?_) ?_
      · rw [apartS_snoc hx]
        by_cases c : x ∈ apartS [] (xs.take i)
        · rw [if_pos c]
          by_cases e : k' = x
          · subst e; simp [c]
          · simp [e]
        · rw [if_neg c]; simp [List.mem_append]
      · rw [apartS_snoc hx]
        by_cases c : x ∈ apartS [] (xs.take i)
        · rw [if_pos c, if_pos (decide_eq_true c)]
        · rw [if_neg c, if_neg (by rw [decide_eq_false c]; exact Bool.false_ne_true), List.length_append, List.length_singleton]
    refine wpAny_pure ⟨plainId_quiet F.plain_set_update_loop _, ih (i + 1) _ (by omega) hlt (W.frame _ s1 _ _ st1 (Nat.le_succ _) fun b hb o e => ?_) hS3 fun s' hm' hS' => ?_⟩
    · rw [same.2 b (fun h : b = S => hSf (by rw [← h]; exact hb))]; exact e
    · refine k s' (Moved.trans W.gtrans ((hm.mono up).then_heap (Nat.le_succ _) fun b o hb e => ?_) hm') hS'
      rw [same.2 b (fun h : b = S => hb (by rw [h]; exact List.mem_cons_self))]; exact e
set_option maxRecDepth 100000 in
set_option maxHeartbeats 3200000 in
theorem set_texts {l : Addr} {items : Array Value} {Q : Value → Shared → Prop} (hh : A.handled = none) (hl : s.heap.IsList l items) (hn : items.size = xs.length) (hi : ∀ (i : Nat) (v : Value), items[i]? = some v → ∃ x t, xs[i]? = some x ∧ v = Value.str x t) (hb : xs.length + 1 < scanBound)
    (h : ∀ (h' : Heap) (tk : Nat), h'.SetOf (strKind prog w) s.heap.objs.size (fun k => decide (k ∈ apartS [] xs)) (apartS [] xs).length → (∀ b o, s.heap.get? b = some o → h'.get? b = some o) → Q (.ref s.heap.objs.size) { s with heap := h', toks := tk }) :
    wpAny (model prog w) A (call (.type "set") [.ref l]) Q E s := by
  obtain ⟨c, tl, hmro⟩ := F.called_set.mro
  have hmade := F.called_set.made
  have hsub := F.called_set.sub
  have h1 := F.called_set.notType
  have h2 := F.called_set.canCreate
  have hct := F.typeCall_set_1 (.ref l)
  refine wpAny_call (codeAny_of_tree ?_)
  show wpAny _ _ (callAny (.type "set") _) _ _ _
  refine wpAny_pure ⟨Code.quiet_builtin _ (by decide +kernel), codeAny_builtin F.entry_type_call ?_⟩
  rw [Around.under_plain (weight_type_call_type "set" [.ref l] []) rfl]
  repeat (any_goals (first | assumption | wp_step))
  refine codeAny_mono (code_set_new_1 (.ref l) (E := E) (Q₁ := fun obj s₁ => ∃ led : Bool, obj = .ref s.heap.objs.size ∧ s₁ = { s with heap := s.heap.push { cls := .type "set", dict := none, data := .set #[] 0 (.fresh 0 0 led) } }) fun led => ⟨led, rfl, rfl⟩) fun r s₁ hr => ?_
  rcases r with e | fl
  · exact hr
  cases fl with
  | ret obj =>
    obtain ⟨led, rfl, rfl⟩ := hr
    generalize ho : ({ cls := .type "set", dict := none, data := .set #[] 0 (.fresh 0 0 led) } : Obj) = so at *
    have hS : (s.heap.push so).get? s.heap.objs.size = some so := Heap.get?_push_size _ (by rw [← ho]; rfl)
    have hT : Shared.TypeIs { s with heap := s.heap.push so } (.ref s.heap.objs.size) "set" := ⟨_, hS, by rw [← ho]⟩
    have hli := F.called_set.init.lookup
    have hbi := F.called_set.init.bind (.ref s.heap.objs.size)
    repeat (any_goals (first | assumption | wp_step))
    refine codeAny_mono (codeAny_call_builtin (R := wants (fun r s₂ => r = .none ∧ ∃ h' tk, s₂ = { s with heap := h', toks := tk } ∧ h'.SetOf (strKind prog w) s.heap.objs.size (fun k => decide (k ∈ apartS [] xs)) (apartS [] xs).length ∧ ∀ b o, s.heap.get? b = some o → h'.get? b = some o) E) F.called_set.init.plain F.entry_set_init (check_set_init_1 hT ?_)) fun r₂ s₂ hr₂ => ?_
    · have hlS : l < s.heap.objs.size := by obtain ⟨_, e, _⟩ := hl; exact Heap.lt_size e
      subst ho
      have hl1 := hl.push { cls := .type "set", dict := none, data := .set #[] 0 (.fresh 0 0 led) }
      obtain ⟨⟨lc, ld, ldat, lsl⟩, e1, e2, nl, e3⟩ := id hl1
      simp only at e2 e3
      subst e2 e3
      have hsls := F.sub_list_set
      have hslf := F.sub_list_frozenset
      have hne : (Value.type "list" == Value.type "dict") = false := by decide
      unfold Builtin.«set.__init__» noKeywords Builtin.Frozenset.updateFrom
      generalize hPI : pyIter = PI
      wp_walk
      subst hPI
      refine wpAny_pyIter_list hl1 ?_
      refine wpAny_bind (wpAny_runValue ?_)
      have hsz : (s.heap.push { cls := .type "set", dict := none, data := .set #[] 0 (.fresh 0 0 led) }).objs.size = s.heap.objs.size + 1 := Heap.size_push ..
      have W := (Walks.list (prog := prog) (w := w) (A := A.in1.in1.in1) (by simp [hh]) (s.heap.push { cls := .type "set", dict := none, data := .set #[] 0 (.fresh 0 0 led) }).objs.size l (by rw [hsz]; exact Nat.ne_of_lt (Nat.lt_succ_of_lt hlS)) items).toS
      rw [hn] at W
      refine setx_go (xs := xs) W (by rw [hsz]; simp only [List.mem_cons, List.not_mem_nil, or_false, not_or]; exact ⟨Nat.ne_of_lt (Nat.lt_succ_self _), Nat.ne_of_gt hlS⟩) (fun i v hv => hi i v hv) hb _ 0 _ rfl (Nat.zero_le _) ⟨⟨_, Heap.get?_push_size _ rfl, rfl, rfl⟩, hl1.push _⟩ ?_ fun s' hm hS' => ?_
      · exact SetOf_congr ((setObjOf_fresh (knd := strKind prog w) led).setOf (Heap.get?_push_of_some _ hS) (by unfold scanBound; decide)) (fun _ => rfl) rfl
      · obtain ⟨h', g', d', tk', os'⟩ := s'
        obtain rfl : g' = s.gens := hm.gens
        obtain rfl : d' = s.drawn := hm.drawn
        obtain rfl : os' = s.os := hm.os
        refine wpAny_pure (wpAny_pure ⟨rfl, h', tk', rfl, hS', fun b o e => ?_⟩)
        have hb1 := Heap.lt_size e
        exact hm.heap b o (by rw [hsz]; simp only [List.mem_cons, List.not_mem_nil, or_false, not_or]; exact ⟨Nat.ne_of_lt hb1, Nat.ne_of_lt (Nat.lt_succ_of_lt hb1)⟩) (Heap.get?_push_of_some _ (Heap.get?_push_of_some _ e))
    · rcases r₂ with e | fl₂
      · exact hr₂
      cases fl₂ with
      | ret r =>
        obtain ⟨rfl, h', tk, rfl, hS', hk'⟩ := hr₂
        repeat (any_goals (first | assumption | wp_step))
        exact h _ _ hS' hk'
      | _ => exact hr₂.elim
  | _ => exact hr.elim
end
end L4
namespace L4
open PySem PySem.Spec PyProof.Rows L2 L3
def rLenSet (K : PySem.W.Frag) (x : V) (H : Hp) (Q : VK) : Prop := ∃ (a : Addr) (xs : List Str), x = .ref a ∧ SqL K H a (xs.map V.str) ∧ xs.length ≤ 1000 ∧ Q (.int (((apartS [] xs).length : Nat) : Int)) H
def tLenSet (K : PySem.W.Frag) (te : TE) : TE := fun σ H Q => te σ H fun x H1 => rLenSet K x H1 Q
section
variable {X : Cx} {e : Expr} {te : TE} {p p2 pos pos2 : Pos}
theorem pe_lenSet (hc : X.calm = true) (hg : Gl X "len") (hg2 : Gl X "set") (hm : X.mg "len" = none) (hm2 : X.mg "set" = none) (he : PE X e te) (hs1 : starEach [.Call (.Name "set" p2) [e] [] pos2] X.env = [(false, eval (.Call (.Name "set" p2) [e] [] pos2) X.env)] := by rfl) (hs2 : starEach [e] X.env = [(false, eval e X.env)] := by rfl) :
    PE X (.Call (.Name "len" p) [.Call (.Name "set" p2) [e] [] pos2] [] pos) (tLenSet X.K te) := by
  intro pins s σ H Q I h
  refine wpAny_Call_Name_kw (ld_blt I hg hm L3.bt_len ?_)
  refine PyProof.Rows.callWith_builtin1 ?_ (by rw [hs1]; rfl) (by rfl)
  rw [hs1]
  show wpAny (model X.prog X.w) X.A (spliced ((false, eval (.Call (.Name "set" p2) [e] [] pos2) X.env) :: [])) _ X.xe s
  refine Calls.spliced_cons (wpAny_Call_Name_kw (ld_blt I hg2 hm2 L3.bt_set ?_))
  refine PyProof.Rows.callWith_type1 ?_ (by rw [hs2]; rfl) (by rfl)
  rw [hs2]
  show wpAny (model X.prog X.w) X.A (spliced ((false, eval e X.env) :: [])) _ X.xe s
  refine Calls.spliced_cons (thn (he pins s σ H _ I h) fun u s1 ⟨x, H1, I1, r1, q1⟩ => Calls.spliced_nil ?_)
  obtain ⟨a, xs, rfl, hq, h1000, q⟩ := q1
  cases r1
  obtain ⟨its, rv, pl, hz⟩ := I1.list hq
  have hlen : its.length = xs.length := by rw [← rv.length, List.length_map]
  have hsb : xs.length + 1 < scanBound := by unfold scanBound; omega
  refine set_texts (I.ok.hd hc) pl.isList (by rw [List.size_toArray]; exact hlen) (fun i v hv => ?_) hsb fun h' tk hS hk => ?_
  · have hv' : its[i]? = some v := by simpa using hv
    have hi : i < xs.length := by
      have := (List.getElem?_eq_some_iff.mp hv').1
      omega
    obtain ⟨u, hu, ru⟩ := rv.get (i := i) (x := V.str xs[i]) (by rw [List.getElem?_map, List.getElem?_eq_getElem hi]; rfl)
    rw [hv'] at hu
    cases hu
    obtain ⟨t, rfl⟩ := ru
    exact ⟨_, t, List.getElem?_eq_getElem hi, rfl⟩
  · have I2 := I1.kept (t' := tk) hk
    refine Calls.spliced_nil ?_
    obtain ⟨o, es, ep, t, ho, hex, hd, _, _, hb, hf, hn⟩ := hS
    have h63 : (es.size : Int) < 2 ^ 63 := by unfold scanBound at hb; omega
    exact call_len_set ho hex hd hf h63 ⟨.int es.size, H1, I2.tok _, ⟨_, rfl⟩, by rw [hn]; exact q⟩
theorem g_lenSet {K : PySem.W.Frag} {σ : St} {H : Hp} {Q : VK} (h : te σ H fun x H1 => rLenSet K x H1 Q) : tLenSet K te σ H Q := h
theorem g_lenSetv {K : PySem.W.Frag} {H : Hp} {Q : VK} {a : Addr} {xs : List Str} (s : SqL K H a (xs.map V.str)) (hl : xs.length ≤ 1000) (h : Q (.int (((apartS [] xs).length : Nat) : Int)) H) : rLenSet K (.ref a) H Q := ⟨a, xs, rfl, s, hl, h⟩
end
structure CDatD (K : PySem.W.Frag) (mg : Str → Option Value) (x qual : Str) (C : Addr) (st : Stmt) (ps : List Str) : Prop where
  ex : ∃ (f : Addr) (oc dV kV doc pm cdv ct : Value) (od an : Option Addr) (osl : Array (Option Value)), K.lookup f = some ⟨oc, od, .func (PySem.W.fnOf "__init__" qual (defArgs st) (defBody st) (defScope st) dV kV doc pm an cdv ct), osl⟩ ∧ PySem.W.codeIn K cdv qual = true ∧
    Binds K (PySem.W.fnOf "__init__" qual (defArgs st) (defBody st) (defScope st) dV kV doc pm an cdv ct) ps [] ∧ mg x = some (.ref C) ∧ Mk K C f
  cl : Cls K C
section
variable {P : Program} {w : World} {K : PySem.W.Frag} {mg : Str → Option Value} {base : Heap} {CX : CXT} {x qual : Str} {C : Addr} {st : Stmt} {N ps : List Str} {k : Nat} {sp : Sp}
end
end L4
namespace L4
open PySem PySem.Spec PyProof.Rows L2 L3
def rIsiN (K : PySem.W.Frag) : RL := fun vs H Q => ∃ (x : V) (t : Value) (tp : Addr) (Ts : List String) (b : Bool), vs = [x, .ref tp] ∧ TyOf K H x t ∧ H tp = some (.tup (Ts.map V.ty)) ∧ PySem.W.kitAny K t (Ts.map Value.type) = some b ∧ Q (.bl b) H
theorem vals_tys : ∀ {Ts : List String} {us : List Value}, Vals (Ts.map V.ty) us → us = Ts.map Value.type
  | [], _, .nil => rfl
  | T :: Ts, _, .cons r t => by rw [List.map_cons, vals_tys t]; cases (show _ = Value.type T from r); rfl
section
variable {X : Cx}
theorem call_isiN : CallR X (.builtin "isinstance") (rIsiN X.K) := by
  intro pins s σ H xs us Q I r h
  obtain ⟨x, t, tp, Ts, b, rfl, ty, ht, e, q⟩ := h
  obtain ⟨u, w', rfl, rx, rc⟩ := vals2 r
  cases (show w' = Value.ref tp from rc)
  obtain ⟨_, its, rv, ⟨⟨oc, od', da, sl⟩, h1, h2, n, h3⟩⟩ := (show ObjOk X.prog X.w H s.heap tp (.tup (Ts.map V.ty)) from I.hok tp _ ht)
  have ei := vals_tys rv
  subst ei
  dsimp only at h2 h3
  subst h2 h3
  have fin : ∀ tk, EP X pins σ Q (.bool b) { s with toks := tk } := fun tk => ⟨.bl b, H, I.tok _, rfl, q⟩
  cases ty with
  | non => cases (show u = Value.none from rx); exact PySem.W.kia_tup PySem.W.kitx_none I.kIn True.intro h1 e (fun z => nomatch z) fin
  | bl y => cases (show u = Value.bool y from rx); exact PySem.W.kia_tup PySem.W.kitx_bool I.kIn True.intro h1 e (fun z => nomatch z) fin
  | int i => obtain ⟨t, q⟩ := (show ∃ t, u = Value.int i t from rx); cases q; exact PySem.W.kia_tup PySem.W.kitx_int I.kIn True.intro h1 e (fun z => nomatch z) fin
  | str y => obtain ⟨t, q⟩ := (show ∃ t, u = Value.str y t from rx); cases q; exact PySem.W.kia_tup PySem.W.kitx_str I.kIn True.intro h1 e (fun z => nomatch z) fin
  | flt y => obtain ⟨t, q⟩ := (show ∃ t, u = Value.float y t from rx); cases q; exact PySem.W.kia_tup PySem.W.kitx_float I.kIn True.intro h1 e (fun z => nomatch z) fin
  | @lst a xs ea =>
    cases (show u = Value.ref a from rx)
    obtain ⟨_, _, n, _, h4⟩ := (show ObjOk X.prog X.w H s.heap a (.lst xs) from I.hok a _ ea)
    exact PySem.W.kia_tup PySem.W.kitx_list I.kIn ⟨_, h4, rfl⟩ h1 e (fun z => nomatch z) fin
  | @frz a ob xs ea =>
    cases (show u = Value.ref a from rx)
    obtain ⟨_, _, _, n, _, h4⟩ := (show ObjOk X.prog X.w H s.heap a (.frz ob (.lst xs)) from I.hok a _ ea)
    exact PySem.W.kia_tup PySem.W.kitx_list I.kIn ⟨_, h4, rfl⟩ h1 e (fun z => nomatch z) fin
  | @tup a xs ea =>
    cases (show u = Value.ref a from rx)
    obtain ⟨_, _, _, p⟩ := (show ObjOk X.prog X.w H s.heap a (.tup xs) from I.hok a _ ea)
    obtain ⟨o, h4, h5, _⟩ := p
    exact PySem.W.kia_tup PySem.W.kitx_tuple I.kIn ⟨o, h4, h5⟩ h1 e (fun z => nomatch z) fin
  | @dK a kvs ea =>
    cases (show u = Value.ref a from rx)
    obtain ⟨_, _, vs, _, p⟩ := (show ObjOk X.prog X.w H s.heap a (.dK kvs) from I.hok a _ ea)
    obtain ⟨o, es, ep, h4, h5, _⟩ := p
    exact PySem.W.kia_tup PySem.W.kitx_dict I.kIn ⟨o, h4, h5.1⟩ h1 e (fun z => nomatch z) fin
  | @dT a kvs ea =>
    cases (show u = Value.ref a from rx)
    obtain ⟨_, _, xs, _, o, es, ep, h4, h5, _⟩ := (show ObjOk X.prog X.w H s.heap a (.dT kvs) from I.hok a _ ea)
    exact PySem.W.kia_tup PySem.W.kitx_dict I.kIn ⟨o, h4, h5.1⟩ h1 e (fun z => nomatch z) fin
  | @ins a C dx fs ea cl ha hn htk hm =>
    cases (show u = Value.ref a from rx)
    obtain ⟨mA, O, _⟩ := ins_get I.hok ea
    obtain ⟨od, J, _⟩ := O.look
    exact PySem.W.kia_tup (PySem.W.kitx_own (cl.get _) cl.hd ha hn htk hm) I.kIn J h1 e (fun z => nomatch z) fin
theorem pe_isiT {e : Expr} {te : TE} {p pos : Pos} {es : List Expr} {ec : Nat} {tpos : Pos} {tl : TA} (hm : X.mg "isinstance" = none) (he : PE X e te) (ht : PE X (.Tuple es ec tpos) (tTup tl)) (hg : Gl X "isinstance" := by rfl)
    (hs : starEach [e, .Tuple es ec tpos] X.env = (false, eval e X.env) :: starEach [.Tuple es ec tpos] X.env := by rfl) (hs2 : starEach [.Tuple es ec tpos] X.env = (false, eval (.Tuple es ec tpos) X.env) :: starEach [] X.env := by rfl) (hpl : (backTo pos (starEach [.Tuple es ec tpos] X.env)).any (·.1) = false := by rfl) :
    PE X (.Call (.Name "isinstance" p) [e, .Tuple es ec tpos] [] pos) (tCB (rIsiN X.K) (tCons te (tCons (tTup tl) tNil))) :=
  pe_callB call_isiN hg hm bt_isinstance (pa_cons he (pa_cons ht pa_nil hs2) hs) (by decide) (by decide) hs hpl
end
theorem inV_str (z : Str) (ws : List Str) : inV (.str z) (ws.map V.str) = decide (z ∈ ws) := by
  unfold inV
  rw [List.any_map, Bool.eq_iff_iff, List.any_eq_true, decide_eq_true_iff]
  constructor
  · rintro ⟨x, hx, e⟩
    have e : (x == z) = true := e
    exact (eq_of_beq e) ▸ hx
  · intro h
    exact ⟨z, h, by show (z == z) = true; exact beq_self_eq_true z⟩
theorem flat_str (ws : List Str) : (ws.map V.str).all flatV = true := by
  rw [List.all_map, List.all_eq_true]
  intro _ _; rfl
section
variable {K : PySem.W.Frag} {H : Hp} {Q : VK} {p a : Addr} {z : Str} {ws : List Str} {P : Addr → Prop} {H0 : Hp} {l : List (Addr × Ob)} {fs : List Pr}
theorem g_isiN {x : V} {t : Value} {tp : Addr} {b : Bool} (Ts : List String) (ty : TyOf K H x t) (ht : H tp = some (.tup (Ts.map V.ty))) (e : PySem.W.kitAny K t (Ts.map Value.type) = some b) (h : Q (.bl b) H) : rIsiN K [x, .ref tp] H Q := ⟨x, t, tp, Ts, b, rfl, ty, ht, e, h⟩
theorem g_inT (s : SqT K H p (ws.map V.str)) (h : Q (.bl (decide (z ∈ ws))) H) : rIn K false (.str z) (.ref p) H Q :=
  ⟨p, _, rfl, .inr s, rfl, flat_str ws, by rw [if_neg Bool.false_ne_true, inV_str]; exact h⟩
theorem g_sortS (L : Led P H0 H l fs) (s : SqL K H p (ws.map V.str)) (hl : ws.length < 64) (h : ∀ (b : Addr) (ms : List Str) (H' : Hp), H b = none → ms.Perm ws → sortedS ms = true → Led P H0 H' ((b, Eo (.lst (ms.map V.str))) :: l) fs → Same H H' → Q (.ref b) H') : rSortS K [.ref p] H Q :=
  ⟨p, ws, rfl, s, hl, fun b ms nb pm pw => h b ms _ nb pm pw (L.newO nb rfl) (same_upd0 nb)⟩
theorem g_tupOfL {ys : List V} (L : Led P H0 H l fs) (s : SqL K H p ys) (h : ∀ (t : Addr) (H' : Hp), H t = none → Led P H0 H' l (tupAt t ys :: fs) → Same H H' → Q (.ref t) H') : rTupOf K [.ref p] H Q :=
  ⟨p, ys, rfl, .inl ⟨s, fun t nt => h t _ nt (L.newT nt) (same_upd0 nt)⟩⟩
end
end L4
namespace LS
open PySem PySem.W PyProof.Rows
def Asks (n : Nat) (f : Nat → Int) (cmp : Nat → Nat → (Bool → Shared → Prop) → Shared → Prop) (s : Shared) : Prop :=
  ∀ i j C, i < n → j < n → C (decide (f i < f j)) s → cmp i j C s
def Ky (f : Nat → Int) (p : Array Nat) (i : Nat) : Int := f (p.getD i 0)
structure Pm (n : Nat) (p : Array Nat) : Prop where
  size : p.size = n
  perm : p.toList.Perm (List.range n)
theorem getD_eq (p : Array Nat) (i : Nat) : p.getD i 0 = (p[i]?).getD 0 := by
  rw [Array.getD_eq_getD_getElem?]
theorem Pm.lt {n : Nat} {p : Array Nat} (h : Pm n p) (h0 : 0 < n) (i : Nat) : p.getD i 0 < n := by
  rw [getD_eq]
  by_cases hi : i < p.size
  · rw [getElem?_pos p i hi]
    have hm : p[i] ∈ p.toList := by simp
    exact List.mem_range.mp (h.perm.mem_iff.mp hm)
  · rw [getElem?_neg p i hi]; exact h0
def Up (f : Nat → Int) (p : Array Nat) (b : Nat) : Prop := ∀ i j, i ≤ j → j < b → Ky f p i ≤ Ky f p j
def Dn (f : Nat → Int) (p : Array Nat) (b : Nat) : Prop := ∀ i j, i ≤ j → j < b → Ky f p j ≤ Ky f p i
def Eqs (f : Nat → Int) (p : Array Nat) (a b : Nat) : Prop := ∀ i, a ≤ i → i < b → Ky f p i = Ky f p (b - 1)
theorem rev_pm {n : Nat} {p : Array Nat} (h : Pm n p) (i j : Nat) : Pm n (kas_rev p i j) :=
  ⟨(mirror_size _ _ _ _).trans h.size, (Array.perm_iff_toList_perm.mp (mirror_perm _ _ _ _)).trans h.perm⟩
theorem bub_pm {n : Nat} {p : Array Nat} (h : Pm n p) (i j : Nat) : Pm n (bubble p i j) :=
  ⟨(bubble_size _ _ _).trans h.size, (Array.perm_iff_toList_perm.mp (bubble_perm _ _ _)).trans h.perm⟩
theorem rev_ky (f : Nat → Int) {n : Nat} {p : Array Nat} (h : Pm n p) {i j : Nat} (hj : j ≤ n) (k : Nat) : Ky f (kas_rev p i j) k = if i ≤ k ∧ k < j then Ky f p (i + j - 1 - k) else Ky f p k := by
  unfold Ky kas_rev
  rw [getD_eq, getElem?_mirror_all (by rw [h.size]; exact hj)]
  by_cases c : i ≤ k ∧ k < j
  · rw [if_pos c, if_pos c, getD_eq]
  · rw [if_neg c, if_neg c, getD_eq]
theorem bub_ky (f : Nat → Int) {n : Nat} {p : Array Nat} (h : Pm n p) {k l : Nat} (hk : k < n) (hl : l ≤ k) (i : Nat) :
    Ky f (bubble p k (k - l)) i = if i = l then Ky f p k else if l < i ∧ i ≤ k then Ky f p (i - 1) else Ky f p i := by
  have e := getElem?_bubble (xs := p) (src := k) (by rw [h.size]; exact hk) (k - l) (by omega) i
  rw [show k - (k - l) = l by omega] at e
  unfold Ky
  rw [getD_eq, e]
  by_cases c : i = l
  · rw [if_pos c, if_pos c, getD_eq]
  · rw [if_neg c, if_neg c]
    by_cases c2 : l < i ∧ i ≤ k
    · rw [if_pos c2, if_pos c2, getD_eq]
    · rw [if_neg c2, if_neg c2, getD_eq]
theorem rev_same {f : Nat → Int} {n : Nat} {p : Array Nat} (h : Pm n p) {a b : Nat} (hb : b ≤ n) (e : Eqs f p a b) (k : Nat) : Ky f (kas_rev p a b) k = Ky f p k := by
  rw [rev_ky f h hb]
  by_cases c : a ≤ k ∧ k < b
  · rw [if_pos c, e k c.1 c.2, e (a + b - 1 - k) (by omega) (by omega)]
  · rw [if_neg c]
section
variable {n : Nat} {f : Nat → Int} {cmp : Nat → Nat → (Bool → Shared → Prop) → Shared → Prop} {s : Shared}
theorem asc_wp {p : Array Nat} (P : Pm n p) (A : Asks n f cmp s) (h0 : 0 < n) {Q : Nat → Shared → Prop} : ∀ (fu m : Nat), 1 ≤ m → Up f p m →
    (∀ m', m ≤ m' → m' ≤ m + fu → Up f p m' → (m' = m + fu ∨ Ky f p m' < Ky f p (m' - 1)) → Q m' s) → (kas_asc p fu m).kasWp cmp Q s
  | 0, m, _, u, h => h m (Nat.le_refl _) (Nat.le_refl _) u (.inl rfl)
  | fu + 1, m, h1, u, h => by
    refine A _ _ _ (P.lt h0 _) (P.lt h0 _) ?_
    show (if decide (Ky f p m < Ky f p (m - 1)) = true then KasT.ret m else kas_asc p fu (m + 1)).kasWp cmp Q s
    by_cases c : Ky f p m < Ky f p (m - 1)
    · rw [if_pos (by simpa using c)]
      exact h m (Nat.le_refl _) (by omega) u (.inr c)
    · rw [if_neg (by simpa using c)]
      refine asc_wp P A h0 fu (m + 1) (by omega) (fun i j hij hj => ?_) fun m' a1 a2 a3 a4 => h m' (by omega) (by omega) a3 (a4.imp (fun e => by omega) id)
      by_cases e : j = m
      · subst e
        by_cases e2 : i = j
        · subst e2; exact Int.le_refl _
        · have := u i (j - 1) (by omega) (by omega)
          omega
      · exact u i j hij (by omega)
theorem desc_wp (A : Asks n f cmp s) (h0 : 0 < n) {Q : Array Nat × Nat × Nat → Shared → Prop} : ∀ (fu : Nat) (p : Array Nat) (m q : Nat), Pm n p → m + fu ≤ n → 1 ≤ m → q + 1 ≤ m → Dn f p m → Eqs f p (m - (q + 1)) m →
    (∀ p' m' q', Pm n p' → m ≤ m' → m' ≤ m + fu → q' + 1 ≤ m' → Dn f p' m' → Eqs f p' (m' - (q' + 1)) m' → Q (p', m', q') s) → (kas_desc fu p m q).kasWp cmp Q s
  | 0, p, m, q, P, _, _, hq, d, e, h => h p m q P (Nat.le_refl _) (Nat.le_refl _) hq d e
  | fu + 1, p, m, q, P, hm, h1, hq, d, e, h => by
    refine A _ _ _ (P.lt h0 _) (P.lt h0 _) ?_
    show (if decide (Ky f p m < Ky f p (m - 1)) = true then (if q > 0 then kas_desc fu (kas_rev p (m - (q + 1)) m) (m + 1) 0 else kas_desc fu p (m + 1) 0)
      else .ask (p.getD (m - 1) 0) (p.getD m 0) fun d => if d = true then .ret (p, m, q) else kas_desc fu p (m + 1) (q + 1)).kasWp cmp Q s
    by_cases c : Ky f p m < Ky f p (m - 1)
    · rw [if_pos (by simpa using c)]
      have go : ∀ p1, Pm n p1 → (∀ k, Ky f p1 k = Ky f p k) → (kas_desc fu p1 (m + 1) 0).kasWp cmp Q s := fun p1 P1 k1 => by
        refine desc_wp A h0 fu p1 (m + 1) 0 P1 (by omega) (by omega) (by omega) (fun i j hij hj => ?_) (fun i a b => ?_) fun p' m' q' b1 b2 b3 b4 b5 b6 => h p' m' q' b1 (by omega) (by omega) b4 b5 b6
        · rw [k1, k1]
          by_cases e1 : j = m
          · subst e1
            by_cases e2 : i = j
            · subst e2; exact Int.le_refl _
            · have := d i (j - 1) (by omega) (by omega)
              omega
          · exact d i j hij (by omega)
        · rw [show i = m + 1 - 1 by omega]
      by_cases q0 : q > 0
      · rw [if_pos q0]; exact go _ (rev_pm P _ _) (rev_same P (by omega) e)
      · rw [if_neg q0]; exact go _ P fun _ => rfl
    · rw [if_neg (by simpa using c)]
      refine A _ _ _ (P.lt h0 _) (P.lt h0 _) ?_
      show (if decide (Ky f p (m - 1) < Ky f p m) = true then KasT.ret (p, m, q) else kas_desc fu p (m + 1) (q + 1)).kasWp cmp Q s
      by_cases c2 : Ky f p (m - 1) < Ky f p m
      · rw [if_pos (by simpa using c2)]
        exact h p m q P (Nat.le_refl _) (by omega) hq d e
      · rw [if_neg (by simpa using c2)]
        have em : Ky f p m = Ky f p (m - 1) := by omega
        refine desc_wp A h0 fu p (m + 1) (q + 1) P (by omega) (by omega) (by omega) (fun i j hij hj => ?_) (fun i a b => ?_) fun p' m' q' b1 b2 b3 b4 b5 b6 => h p' m' q' b1 (by omega) (by omega) b4 b5 b6
        · by_cases e1 : j = m
          · subst e1
            by_cases e2 : i = j
            · subst e2; exact Int.le_refl _
            · have := d i (j - 1) (by omega) (by omega)
              omega
          · exact d i j hij (by omega)
        · rw [show m + 1 - 1 = m by omega]
          by_cases e1 : i = m
          · subst e1; rfl
          · rw [em]; exact e i (by omega) (by omega)
theorem tail3_wp (A : Asks n f cmp s) (h0 : 0 < n) {p : Array Nat} (P : Pm n p) {m : Nat} (h1 : 1 ≤ m) (hm : m ≤ n) (d : Dn f p m) {Q : Nat × Array Nat → Shared → Prop}
    (h : ∀ m' p', Pm n p' → 1 ≤ m' → m' ≤ n → Up f p' m' → Q (m', p') s) : (kas_tail3 m n p).kasWp cmp Q s := by
  unfold kas_tail3
  rw [KasT.kasWp_bind]
  have P' := rev_pm P 0 m
  have u : Up f (kas_rev p 0 m) m := fun i j hij hj => by
    rw [rev_ky f P hm, rev_ky f P hm, if_pos (by omega), if_pos (by omega)]
    exact d _ _ (by omega) (by omega)
  exact asc_wp P' A h0 (n - m) m h1 u fun m' a1 a2 a3 _ => h m' _ P' (by omega) (by omega) a3
theorem descPart_wp (A : Asks n f cmp s) (h0 : 0 < n) {p : Array Nat} (P : Pm n p) {m : Nat} (h1 : 1 ≤ m) (hm : m + 1 ≤ n) (e : Eqs f p 0 m) (hlt : Ky f p m < Ky f p (m - 1)) {Q : Nat × Array Nat → Shared → Prop}
    (h : ∀ m' p', Pm n p' → 1 ≤ m' → m' ≤ n → Up f p' m' → Q (m', p') s) : (kas_descPart m n p).kasWp cmp Q s := by
  unfold kas_descPart
  rw [KasT.kasWp_bind]
  refine desc_wp A h0 _ p (m + 1) 0 P (by omega) (by omega) (by omega) (fun i j hij hj => ?_) (fun i a b => ?_) fun p' m' q' b1 b2 b3 b4 b5 b6 => ?_
  · by_cases e1 : j = m
    · subst e1
      by_cases e2 : i = j
      · subst e2; exact Int.le_refl _
      · have := e i (by omega) (by omega)
        omega
    · have a := e i (by omega) (by omega)
      have b := e j (by omega) (by omega)
      omega
  · rw [show i = m + 1 - 1 by omega]
  · show (if q' > 0 then kas_tail3 m' n (kas_rev p' (m' - (q' + 1)) m') else kas_tail3 m' n p').kasWp cmp Q s
    by_cases q0 : q' > 0
    · rw [if_pos q0]
      refine tail3_wp A h0 (rev_pm b1 _ _) (by omega) (by omega) (fun i j hij hj => ?_) h
      rw [rev_same b1 (by omega) b6, rev_same b1 (by omega) b6]
      exact b5 i j hij hj
    · rw [if_neg q0]
      exact tail3_wp A h0 b1 (by omega) (by omega) b5 h
theorem count_wp (A : Asks n f cmp s) (h0 : 0 < n) {p : Array Nat} (P : Pm n p) {Q : Nat × Array Nat → Shared → Prop}
    (h : ∀ m' p', Pm n p' → 1 ≤ m' → m' ≤ n → Up f p' m' → Q (m', p') s) : (kas_count n p).kasWp cmp Q s := by
  unfold kas_count
  rw [KasT.kasWp_bind]
  refine asc_wp P A h0 (n - 1) 1 (Nat.le_refl _) (fun i j hij hj => by rw [show i = j by omega]; exact Int.le_refl _) fun m a1 a2 a3 a4 => ?_
  show (if (m == n) = true then KasT.ret (m, p) else if m > 1 then .ask (p.getD 0 0) (p.getD (m - 1) 0) fun c => if c = true then .ret (m, p) else kas_descPart m n (kas_rev p 0 m) else kas_descPart m n p).kasWp cmp Q s
  by_cases e : m = n
  · rw [if_pos (by simpa using e)]
    exact h m p P (by omega) (by omega) a3
  · rw [if_neg (by simpa using e)]
    have hlt : Ky f p m < Ky f p (m - 1) := a4.resolve_left (by omega)
    by_cases m1 : m > 1
    · rw [if_pos m1]
      refine A _ _ _ (P.lt h0 _) (P.lt h0 _) ?_
      show (if decide (Ky f p 0 < Ky f p (m - 1)) = true then KasT.ret (m, p) else kas_descPart m n (kas_rev p 0 m)).kasWp cmp Q s
      by_cases c : Ky f p 0 < Ky f p (m - 1)
      · rw [if_pos (by simpa using c)]
        exact h m p P (by omega) (by omega) a3
      · rw [if_neg (by simpa using c)]
        have eqs : Eqs f p 0 m := fun i a b => by
          have x := a3 0 i (by omega) (by omega)
          have y := a3 i (m - 1) (by omega) (by omega)
          omega
        have k := rev_same P (a := 0) (b := m) (by omega) eqs
        refine descPart_wp A h0 (rev_pm P 0 m) (by omega) (by omega) (fun i a b => ?_) ?_ h
        · rw [k, k]; exact eqs i a b
        · rw [k, k]; exact hlt
    · rw [if_neg m1]
      exact descPart_wp A h0 P (by omega) (by omega) (fun i a b => by rw [show i = m - 1 by omega]) hlt h
theorem place_wp (A : Asks n f cmp s) (h0 : 0 < n) {p : Array Nat} (P : Pm n p) {k : Nat} (u : Up f p k) {Q : Nat → Shared → Prop}
    (h : ∀ l, l ≤ k → (∀ i, i < l → Ky f p i ≤ Ky f p k) → (∀ i, l ≤ i → i < k → Ky f p k < Ky f p i) → Q l s) :
    ∀ (fu l r : Nat), l ≤ r → r ≤ k → r - l ≤ fu → (∀ i, i < l → Ky f p i ≤ Ky f p k) → (∀ i, r ≤ i → i < k → Ky f p k < Ky f p i) → (kas_place p k fu l r).kasWp cmp Q s
  | 0, l, r, a, b, c, d, e => h l (by omega) d fun i x y => e i (by omega) y
  | fu + 1, l, r, a, b, c, d, e => by
    unfold kas_place
    by_cases lr : l ≥ r
    · rw [if_pos lr]; exact h l (by omega) d fun i x y => e i (by omega) y
    · rw [if_neg lr]
      refine A _ _ _ (P.lt h0 _) (P.lt h0 _) ?_
      show (if decide (Ky f p k < Ky f p ((l + r) / 2)) = true then kas_place p k fu l ((l + r) / 2) else kas_place p k fu ((l + r) / 2 + 1) r).kasWp cmp Q s
      by_cases cc : Ky f p k < Ky f p ((l + r) / 2)
      · rw [if_pos (by simpa using cc)]
        refine place_wp A h0 P u h fu l _ (by omega) (by omega) (by omega) d fun i x y => ?_
        have := u ((l + r) / 2) i x y
        omega
      · rw [if_neg (by simpa using cc)]
        refine place_wp A h0 P u h fu _ r (by omega) b (by omega) (fun i x => ?_) e
        have := u i ((l + r) / 2) (by omega) (by omega)
        omega
theorem bin_wp (A : Asks n f cmp s) (h0 : 0 < n) {Q : Array Nat → Shared → Prop} (h : ∀ p, Pm n p → Up f p n → Q p s) :
    ∀ (fu : Nat) (p : Array Nat) (k : Nat), Pm n p → k + fu = n → Up f p k → (kas_bin fu p k).kasWp cmp Q s
  | 0, p, k, P, e, u => h p P (by rw [← e]; exact u)
  | fu + 1, p, k, P, e, u => by
    unfold kas_bin
    rw [KasT.kasWp_bind]
    refine place_wp A h0 P u (fun l hl d1 d2 => ?_) k 0 k (Nat.zero_le _) (Nat.le_refl _) (by omega) (fun i x => absurd x (by omega)) fun i x y => absurd y (by omega)
    refine bin_wp A h0 h fu _ (k + 1) (bub_pm P _ _) (by omega) fun i j hij hj => ?_
    rw [bub_ky f P (by omega) hl, bub_ky f P (by omega) hl]
    by_cases i1 : i = l
    · rw [if_pos i1]
      by_cases j1 : j = l
      · rw [if_pos j1]; exact Int.le_refl _
      · rw [if_neg j1, if_pos (by omega)]
        exact Int.le_of_lt (d2 (j - 1) (by omega) (by omega))
    · rw [if_neg i1]
      by_cases i2 : l < i ∧ i ≤ k
      · rw [if_pos i2, if_neg (by omega), if_pos (by omega)]
        exact u _ _ (by omega) (by omega)
      · rw [if_neg i2]
        by_cases j1 : j = l
        · rw [if_pos j1]; exact d1 i (by omega)
        · rw [if_neg j1]
          by_cases j2 : l < j ∧ j ≤ k
          · rw [if_pos j2]; exact u _ _ (by omega) (by omega)
          · rw [if_neg j2]; exact u _ _ hij (by omega)
theorem sort_wp (A : Asks n f cmp s) (h0 : 0 < n) {Q : Array Nat → Shared → Prop} (h : ∀ p, Pm n p → Up f p n → Q p s) : (kas_sort n).kasWp cmp Q s := by
  unfold kas_sort
  rw [KasT.kasWp_bind]
  refine count_wp A h0 ⟨by simp, by simp⟩ fun m p P h1 h2 u => ?_
  show (if m < n then kas_bin (n - max m 1) p (max m 1) else KasT.ret p).kasWp cmp Q s
  by_cases c : m < n
  · rw [if_pos c]
    exact bin_wp A h0 h _ p _ P (by omega) (by rw [show max m 1 = m by omega]; exact u)
  · rw [if_neg c]
    exact h p P (by rw [show n = m by omega]; exact u)
end
end LS
namespace LS
open PySem PySem.W PyProof.Rows
def lexZ : List Int → List Int → Bool
  | a :: r, b :: t => if (a == b) = true then lexZ r t else decide (a < b)
  | _, _ => false
section
variable {prog : Program} {w : World} {A : Around} {E : Value → Shared → Prop} {s : Shared}
theorem lex_at {b : Bool} {Q : Bool → Shared → Prop} : ∀ {xs ys : List Value} {ns ms : List Int} (i : Nat), IntsAre xs ns → IntsAre ys ms → ns.length = ms.length → Q (lexZ ns ms) s → KatLex prog w A b false Q (xs.zip ys) i s
  | _, _, _, _, _, .nil, .nil, _, h => h
  | _, _, _, _, _, .nil, .cons .., e, _ => by simp at e
  | _, _, _, _, _, .cons .., .nil, e, _ => by simp at e
  | _, _, _, _, i, .cons n t r, .cons m u q, e, h => by
    refine kat_cons (wpAny_eqBool_int ?_)
    cases c : n == m with
    | true =>
      refine kat_yes (lex_at (i + 1) r q (by simpa using e) ?_)
      simpa [lexZ, c] using h
    | false =>
      have h' : Q (decide (n < m)) s := by simpa [lexZ, c] using h
      refine kat_no ?_
      cases b && i == 0 with
      | true => exact oneLt_int h'
      | false => exact kat_one _ _ (lt_int h')
theorem list_sort_T {f : Nat → Int} {a : Addr} {vs : List Value} {n : Nat} {P : PySem.Fin → Shared → Prop} (ho : s.heap.get? a = some (seqObj "list" vs.toArray n)) (h64 : vs.length < 64)
    (hk : ∀ h', (∀ b o, b ≠ a → s.heap.get? b = some o → h'.get? b = some o) → 2 ≤ vs.length → ∃ κ, (∀ Q : SortKind → Shared → Prop, Q κ { s with heap := h' } → wpAny (model prog w) A (keyKind' vs.toArray) Q E { s with heap := h' }) ∧ Asks vs.length f (kas_ask prog w A κ vs) { s with heap := h' })
    (h : ∀ p : Array Nat, Pm vs.length p → Up f p vs.length → P (.done (.ret .none)) { s with heap := sortedHeap s.heap a vs (List.toArray (p.toList.map fun i => vs.getD i Value.none)) }) :
    wpAny (model prog w) A (Builtin.«list.sort» ⟨[.ref a], []⟩) P E s := by
  rw [list_sort_plain]
  have ha : a < s.heap.objs.size := Heap.lt_size ho
  have hz1 : vs.toArray.size ≤ sizeLine := by rw [List.size_toArray, sizeLine_eq]; omega
  refine wpAny_bind (listItems_at ho rfl ?_)
  refine wpAny_bind (listUpdate_at ho rfl ?_ hz1 (Nat.zero_le _))
  obtain ⟨e1, ho1⟩ : ∃ e1, (s.heap.update a (Obj.mapSeq fun _ => (#[] : Array Value))).get? a = some (seqObj "list" #[] e1) := ⟨_, get?_update_seq ho (fun _ => #[])⟩
  refine wpAny_bind (seqEpoch_at ho1 rfl ?_)
  refine wpAny_bind (wpAny_newTuple ?_ (by show vs.length ≤ _; rw [sizeLine_eq]; omega))
  refine wpAny_bind (wpAny_newList ?_ (Nat.zero_le _))
  refine wpAny_holding ?_
  have keep6 : ∀ b o, b ≠ a → s.heap.get? b = some o → (((s.heap.update a (Obj.mapSeq fun _ => (#[] : Array Value))).push (seqObj "tuple" vs.toArray 0)).push (seqObj "list" #[] 0)).get? b = some o := fun b o hb q => by
    refine Heap.get?_push_of_some _ (Heap.get?_push_of_some _ ?_)
    rw [Heap.get?_update_ne _ _ _ _ hb]; exact q
  have ho6 : (((s.heap.update a (Obj.mapSeq fun _ => (#[] : Array Value))).push (seqObj "tuple" vs.toArray 0)).push (seqObj "list" #[] 0)).get? a = some (seqObj "list" #[] e1) :=
    Heap.get?_push_of_some _ (Heap.get?_push_of_some _ ho1)
  show wpAny (model prog w) A _ P E { s with heap := ((s.heap.update a (Obj.mapSeq fun _ => (#[] : Array Value))).push (seqObj "tuple" vs.toArray 0)).push (seqObj "list" #[] 0) }
  dsimp only
  by_cases h2 : vs.toArray.size < 2
  · rw [if_pos h2, if_pos h2]
    refine wpAny_bind (wpAny_pure ?_)
    rw [StateT.run_pure]
    refine wpAny_bind (wpAny_pure ?_)
    dsimp only
    have h2' : vs.length < 2 := by simpa using h2
    have e : (arrOf (SortSt.mk' general' (vs.toArray.zip vs.toArray) #[] 7 none)).map (·.2) = List.toArray ((List.toArray (List.range vs.length)).toList.map fun i => vs.getD i Value.none) := by
      refine kat_snds rfl ?_
      have e := kas_range (vs.toArray.zip vs.toArray)
      rw [show (vs.toArray.zip vs.toArray).size = vs.length by simp] at e
      exact e.symm
    have fin := h (List.toArray (List.range vs.length)) ⟨by simp, by simp⟩ (fun i j hij hj => by rw [show i = j by omega]; exact Int.le_refl _)
    refine wpAny_bind (seqEpoch_at ho6 rfl ?_)
    rw [e]
    refine wpAny_bind (listUpdate_at ho6 rfl ?_ (Nat.zero_le _) (by simp only [List.size_toArray, List.length_map, List.length_range]; rw [sizeLine_eq]; omega))
    simp only [bne_self_eq_false, Bool.false_eq_true, if_false]
    exact wpAny_pure fin
  · rw [if_neg h2, if_neg h2]
    have h2' : 2 ≤ vs.length := by
      have := h2
      rw [List.size_toArray] at this
      omega
    obtain ⟨κ, hκ, ask⟩ := hk _ keep6 h2'
    refine wpAny_bind (hκ _ ?_)
    refine wpAny_bind (wpAny_mono (kat_run (Q := fun st' s' => s' = { s with heap := ((s.heap.update a (Obj.mapSeq fun _ => (#[] : Array Value))).push (seqObj "tuple" vs.toArray 0)).push (seqObj "list" #[] 0) } ∧ ∃ p : Array Nat, arrOf st' = p.map (kas_item (vs.toArray.zip vs.toArray)) ∧ failedOf st' = none ∧ Pm vs.length p ∧ Up f p vs.length)
      (G := fun p s' => s' = { s with heap := ((s.heap.update a (Obj.mapSeq fun _ => (#[] : Array Value))).push (seqObj "tuple" vs.toArray 0)).push (seqObj "list" #[] 0) } ∧ Pm vs.length p ∧ Up f p vs.length)
      rfl h2' h64 (fun p' st' s' a1 a2 a3 a4 => ⟨a4.1, p', a2, a3, a4.2⟩) (sort_wp ask (by omega) fun p P U => ⟨rfl, P, U⟩)) ?_ fun _ _ e => e)
    rintro ⟨⟨⟩, st'⟩ s' ⟨rfl, p, har, hf, hp, hu⟩
    dsimp only
    rw [kat_snds rfl har]
    refine wpAny_bind (seqEpoch_at ho6 rfl ?_)
    refine wpAny_bind (listUpdate_at ho6 rfl ?_ (Nat.zero_le _) (by simp only [List.size_toArray, List.length_map, Array.length_toList, hp.size]; rw [sizeLine_eq]; omega))
    rw [hf]
    simp only [bne_self_eq_false, Bool.false_eq_true, if_false]
    exact wpAny_pure (h p hp hu)
theorem sorted_T {f : Nat → Int} {l : Addr} {vs : List Value} {Q : Value → Shared → Prop} (hl : s.heap.IsList l vs.toArray) (h64 : vs.length < 64)
    (hk : ∀ h' A' (E' : Value → Shared → Prop), (∀ b o, s.heap.get? b = some o → h'.get? b = some o) → 2 ≤ vs.length → ∃ κ, (∀ Q : SortKind → Shared → Prop, Q κ { s with heap := h' } → wpAny (model prog w) A' (keyKind' vs.toArray) Q E' { s with heap := h' }) ∧ Asks vs.length f (kas_ask prog w A' κ vs) { s with heap := h' })
    (h : ∀ p : Array Nat, Pm vs.length p → Up f p vs.length → Q (.ref (s.heap.objs.size + 1)) { s with heap := sortedAll s.heap vs (List.toArray (p.toList.map fun i => vs.getD i Value.none)) }) :
    wpAny (model prog w) A (call (.builtin "sorted") [.ref l]) Q E s := by
  refine Calls.call_function_entry kind_sorted plain_sorted entry_sorted (args_sorted1 _) ?_
  unfold Builtin.«sorted»
  refine wpAny_bind (m := checkCount "sorted" 1 1 _) (wpAny_pure ?_)
  refine wpAny_bind (collect_list hl ?_ (by rw [sizeLine_eq]; omega))
  refine wpAny_bind (wpAny_newList ?_ (by rw [sizeLine_eq]; omega))
  have hsz : ((s.heap.push (seqObj "list" #[] 0)).update s.heap.objs.size (Obj.mapSeq (· ++ vs.toArray))).objs.size = s.heap.objs.size + 1 := by
    rw [Heap.size_update, size_push']
  have hoL : (((s.heap.push (seqObj "list" #[] 0)).update s.heap.objs.size (Obj.mapSeq (· ++ vs.toArray))).push (seqObj "list" vs.toArray 0)).get? (s.heap.objs.size + 1) = some (seqObj "list" vs.toArray 0) := by
    rw [← hsz]; exact Heap.get?_push_size _ rfl
  have keep : ∀ b o, s.heap.get? b = some o → (((s.heap.push (seqObj "list" #[] 0)).update s.heap.objs.size (Obj.mapSeq (· ++ vs.toArray))).push (seqObj "list" vs.toArray 0)).get? b = some o := fun b o q => by
    have hlt : b < s.heap.objs.size := Heap.lt_size q
    rw [Heap.get?_push_ne _ _ _ (by rw [hsz]; exact Nat.ne_of_lt (Nat.lt_succ_of_lt hlt)), Heap.get?_update_ne _ _ _ _ (Nat.ne_of_lt hlt), Heap.get?_push_ne _ _ _ (Nat.ne_of_lt hlt)]
    exact q
  show wpAny _ _ _ _ _ { s with heap := ((s.heap.push (seqObj "list" #[] 0)).update s.heap.objs.size (Obj.mapSeq (· ++ vs.toArray))).push (seqObj "list" vs.toArray 0) }
  rw [hsz]
  refine wpAny_bind (wpAny_holding (wpAny_call_entry slot_list_sort ⟨_, hoL, rfl⟩ entry_list_sort (list_sort_T (f := f)
    (s := { s with heap := ((s.heap.push (seqObj "list" #[] 0)).update s.heap.objs.size (Obj.mapSeq (· ++ vs.toArray))).push (seqObj "list" vs.toArray 0) })
    hoL h64 (fun h' k => hk h' _ _ fun b o q => k b o (Nat.ne_of_lt (Nat.lt_succ_of_lt (Heap.lt_size q))) (keep b o q)) fun p P U => ⟨_, rfl, ?_⟩) (args_list_sort _)))
  exact wpAny_pure ⟨_, rfl, h p P U⟩
section
variable {α : Type}
def TupsAt (h : Heap) (ad : α → Addr) (T : α → List Int) (k : Nat) (ps : List α) : Prop :=
  ∀ a ∈ ps, ∃ o xs n, h.get? (ad a) = some o ∧ o.cls = .type "tuple" ∧ o.data = .seq xs n ∧ IntsAre xs.toList (T a) ∧ (T a).length = k
def keyAt (g : α → Int) (ps : List α) (i : Nat) : Int := match ps[i]? with
  | some x => g x
  | none => 0
theorem keyAt_eq {g : α → Int} {ps : List α} {i : Nat} (hi : i < ps.length) : keyAt g ps i = g ps[i] := by
  unfold keyAt; rw [List.getElem?_eq_getElem hi]
theorem refs_getD {ad : α → Addr} {ps : List α} {i : Nat} (hi : i < ps.length) : (ps.map fun x => Value.ref (ad x)).getD i Value.none = .ref (ad ps[i]) := by
  simp [List.getD, hi]
theorem sorted_tups {ad : α → Addr} {T : α → List Int} {g : α → Int} {k : Nat} {l : Addr} {ps : List α} {Q : Value → Shared → Prop} (hl : s.heap.IsList l (ps.map fun x => Value.ref (ad x)).toArray) (h64 : ps.length < 64) (ht : TupsAt s.heap ad T k ps) (hk : 1 ≤ k)
    (hg : ∀ a ∈ ps, ∀ b ∈ ps, lexZ (T a) (T b) = decide (g a < g b))
    (h : ∀ qs : List α, qs.Perm ps → qs.Pairwise (fun a b => g a ≤ g b) → Q (.ref (s.heap.objs.size + 1)) { s with heap := sortedAll s.heap (ps.map fun x => Value.ref (ad x)) (qs.map fun x => Value.ref (ad x)).toArray }) :
    wpAny (model prog w) A (call (.builtin "sorted") [.ref l]) Q E s := by
  have hlen : (ps.map fun x => Value.ref (ad x)).length = ps.length := List.length_map _
  refine sorted_T (f := keyAt g ps) hl (by omega) (fun h' A' E' keep h2 => ?_) fun p P U => ?_
  · refine ⟨tuples' (Value.type "int" != Value.type "tuple"), fun Q hq => ?_, fun i j C hi hj hc => ?_⟩
    · have firsts : ∀ cs : List α, (∀ a ∈ cs, a ∈ ps) → ∃ fs : List Value, KatTups h' (cs.map fun x => Value.ref (ad x)) fs ∧ fs.length = cs.length ∧ ∀ v ∈ fs, ∃ n t, v = .int n t := by
        intro cs
        induction cs with
        | nil => intro _; exact ⟨[], KatTups.nil, rfl, fun v hv => by cases hv⟩
        | cons a cs ih =>
          intro hm
          obtain ⟨fs, f1, f2, f3⟩ := ih fun b hb => hm b (.tail _ hb)
          obtain ⟨o, xs, n, x1, x2, x3, x4, x5⟩ := ht a (hm a (.head _))
          cases hT : T a with
          | nil => rw [hT] at x5; simp at x5; omega
          | cons z zs =>
            rw [hT] at x4
            cases hxs : xs.toList with
            | nil => rw [hxs] at x4; cases x4
            | cons v vs =>
              rw [hxs] at x4
              cases x4 with
              | cons _ t _ =>
                have e0 : xs[0]? = some (.int z t) := by rw [← Array.getElem?_toList, hxs]; rfl
                refine ⟨.int z t :: fs, KatTups.cons (keep _ _ x1) x2 x3 e0 f1, by simp [f2], fun v hv => ?_⟩
                rcases List.mem_cons.mp hv with rfl | hv
                · exact ⟨z, t, rfl⟩
                · exact f3 v hv
      obtain ⟨fs, f1, f2, f3⟩ := firsts ps fun _ x => x
      refine kat_kind (T := Value.type "int") f1 (by omega) (fun v hv => ?_) (by decide) hq
      obtain ⟨n, t, rfl⟩ := f3 v hv
      exact Looks.of_pure rfl
    · have hi' : i < ps.length := by omega
      have hj' : j < ps.length := by omega
      unfold kas_ask
      rw [refs_getD hi', refs_getD hj']
      obtain ⟨o, xs, n, x1, x2, x3, x4, x5⟩ := ht ps[i] (List.getElem_mem hi')
      obtain ⟨o', xs', n', y1, y2, y3, y4, y5⟩ := ht ps[j] (List.getElem_mem hj')
      have lx : xs.toList.length = (T ps[i]).length := x4.length
      have ly : xs'.toList.length = (T ps[j]).length := y4.length
      refine kat_lt (keep _ _ x1) x3 (keep _ _ y1) y3 ?_
      rw [show decide (xs.size < xs'.size) = false by simp only [decide_eq_false_iff_not]; rw [← Array.length_toList, ← Array.length_toList]; omega]
      refine lex_at 0 x4 y4 (by omega) ?_
      rw [hg _ (List.getElem_mem hi') _ (List.getElem_mem hj')]
      rw [keyAt_eq hi', keyAt_eq hj'] at hc
      exact hc
  · obtain ⟨qs, e, e2⟩ : ∃ qs : List α, p.toList.map (fun i => ps[i]?) = qs.map some ∧ qs.Perm ps := by
      have hr : ∀ is : List Nat, (∀ i ∈ is, i < ps.length) → ∃ qs : List α, is.map (fun i => ps[i]?) = qs.map some := by
        intro is
        induction is with
        | nil => intro _; exact ⟨[], rfl⟩
        | cons i is ih =>
          intro hm
          obtain ⟨qs, e⟩ := ih fun j hj => hm j (.tail _ hj)
          exact ⟨ps[i]'(hm i (.head _)) :: qs, by rw [List.map_cons, List.map_cons, e, List.getElem?_eq_getElem (hm i (.head _))]⟩
      obtain ⟨qs, e⟩ := hr p.toList fun i hi => by
        have := List.mem_range.mp (P.perm.mem_iff.mp hi)
        omega
      refine ⟨qs, e, ?_⟩
      have p1 := P.perm.map fun i => ps[i]?
      have e3 : (List.range (ps.map fun x => Value.ref (ad x)).length).map (fun i => ps[i]?) = ps.map some := by
        rw [hlen]
        refine List.ext_getElem (by simp) fun i h1 h2 => ?_
        have hi : i < ps.length := by simpa using h2
        simp [List.getElem?_eq_getElem hi]
      rw [e, e3] at p1
      have p2 := p1.filterMap id
      simpa using p2
    have hql : qs.length = p.toList.length := by
      have := congrArg List.length e
      simpa using this.symm
    have qAt : ∀ i (h1 : i < p.toList.length) (h2 : i < qs.length), ps[p.toList[i]]? = some qs[i] := fun i h1 h2 => by
      have := congrArg (fun l => l[i]?) e
      simp only [List.getElem?_map] at this
      rw [List.getElem?_eq_getElem h1, List.getElem?_eq_getElem h2] at this
      simpa using this
    have e4 : (p.toList.map fun i => (ps.map fun x => Value.ref (ad x)).getD i Value.none) = qs.map fun x => Value.ref (ad x) := by
      refine List.ext_getElem (by simp [hql]) fun i h1 h2 => ?_
      have h1' : i < p.toList.length := by simpa using h1
      have h2' : i < qs.length := by simpa using h2
      have q := qAt i h1' h2'
      have hlt := (List.getElem?_eq_some_iff.mp q).1
      rw [List.getElem_map, List.getElem_map, refs_getD hlt]
      rw [List.getElem?_eq_getElem hlt] at q
      rw [Option.some.inj q]
    rw [e4]
    refine h qs e2 ?_
    rw [List.pairwise_iff_getElem]
    intro i j h1 h2 hij
    have h1' : i < p.toList.length := by omega
    have h2' : j < p.toList.length := by omega
    have z : p.size = ps.length := by rw [P.size, hlen]
    have zz : p.toList.length = p.size := Array.length_toList
    have u := U i j (Nat.le_of_lt hij) (by omega)
    unfold Ky at u
    have g1 : p.getD i 0 = p.toList[i] := by
      have : i < p.size := by omega
      simp [Array.getD, this]
    have g2 : p.getD j 0 = p.toList[j] := by
      have : j < p.size := by omega
      simp [Array.getD, this]
    rw [g1, g2] at u
    have q1 := qAt i h1' h1
    have q2 := qAt j h2' h2
    unfold keyAt at u
    rw [q1, q2] at u
    exact u
end
end
end LS
namespace L4
open PySem PySem.Spec PyProof.Rows L2 L3
def rSortT (K : PySem.W.Frag) : RL := fun xs H Q => ∃ (p : Addr) (α : Type) (ps : List α) (ad : α → Addr) (T : α → List Int) (g : α → Int) (k : Nat), xs = [.ref p] ∧ SqL K H p (ps.map fun x => V.ref (ad x)) ∧ ps.length < 64 ∧ 1 ≤ k ∧
  (∀ x ∈ ps, H (ad x) = some (.tup ((T x).map V.int)) ∧ (T x).length = k) ∧ (∀ x ∈ ps, ∀ y ∈ ps, LS.lexZ (T x) (T y) = decide (g x < g y)) ∧
  ∀ (l : Addr) (qs : List α), H l = none → qs.Perm ps → qs.Pairwise (fun x y => g x ≤ g y) → Q (.ref l) (upd H l (.lst (qs.map fun x => V.ref (ad x))))
theorem vals_refsA {α : Type} {ad : α → Addr} : ∀ {ps : List α} {us : List Value}, Vals (ps.map fun x => V.ref (ad x)) us → us = ps.map fun x => Value.ref (ad x)
  | [], _, .nil => rfl
  | x :: ps, _, .cons r t => by
    rw [List.map_cons, vals_refsA t]; cases (show _ = Value.ref (ad x) from r); rfl
theorem refs_valsA {α : Type} {ad : α → Addr} : ∀ (ps : List α), Vals (ps.map fun x => V.ref (ad x)) (ps.map fun x => Value.ref (ad x))
  | [] => .nil
  | _ :: ps => .cons rfl (refs_valsA ps)
section
variable {X : Cx}
theorem c_sortT : CallR X (.builtin "sorted") (rSortT X.K) := by
  intro pins s σ H xs us Q I r h
  obtain ⟨p, α, ps, ad, T, g, k, rfl, hq, h64, hk, ht, hg, q⟩ := h
  obtain ⟨u, rfl, rx⟩ := vals1 r
  cases rx
  obtain ⟨its, rv, pl, hz⟩ := I.list hq
  have ei := vals_refsA rv
  subst ei
  refine LS.sorted_tups (g := g) pl.isList h64 (fun x hx => ?_) hk hg fun qs a1 a2 => ?_
  · obtain ⟨h1, h2⟩ := ht x hx
    obtain ⟨_, its, rv, ⟨o, z1, z2, n, z3⟩⟩ := (show ObjOk X.prog X.w H s.heap (ad x) (.tup ((T x).map V.int)) from I.hok _ _ h1)
    exact ⟨o, its.toArray, n, z1, z2, z3, by simpa using ints_of rv, h2⟩
  · obtain ⟨e, he⟩ := sortedAll_at s.heap (ps.map fun x => Value.ref (ad x)) (qs.map fun x => Value.ref (ad x)).toArray
    have hz2 : (qs.map fun x => V.ref (ad x)).length ≤ sizeLine := by rw [List.length_map, a1.length_eq]; exact Nat.le_of_lt (small1000 (by omega))
    exact ⟨.ref (s.heap.objs.size + 1), _, I.laid (a := s.heap.objs.size + 1) (o := .lst (qs.map fun x => V.ref (ad x))) (t' := s.toks) (fun b o hb => sortedAll_old hb) (Nat.le_succ _) ⟨hz2, _, e, refs_valsA qs, he⟩, rfl, q _ qs (I.hok.fresh (Nat.le_succ _)) a1 a2⟩
end
section
variable {K : PySem.W.Frag} {H : Hp} {Q : VK} {p : Addr} {P : Addr → Prop} {H0 : Hp} {l : List (Addr × Ob)} {fs : List Pr} {α : Type} {ps : List α} {ad : α → Addr}
theorem g_sortT (T : α → List Int) (g : α → Int) (k : Nat) (L : Led P H0 H l fs) (s : SqL K H p (ps.map fun x => V.ref (ad x))) (hl : ps.length < 64) (hk : 1 ≤ k) (ht : ∀ x ∈ ps, H (ad x) = some (.tup ((T x).map V.int)) ∧ (T x).length = k) (hg : ∀ x ∈ ps, ∀ y ∈ ps, LS.lexZ (T x) (T y) = decide (g x < g y))
    (h : ∀ (b : Addr) (qs : List α) (H' : Hp), H b = none → qs.Perm ps → qs.Pairwise (fun x y => g x ≤ g y) → Led P H0 H' ((b, Eo (.lst (qs.map fun x => V.ref (ad x)))) :: l) fs → Same H H' → Q (.ref b) H') : rSortT K [.ref p] H Q :=
  ⟨p, α, ps, ad, T, g, k, rfl, s, hl, hk, ht, hg, fun b qs nb pm pw => h b qs _ nb pm pw (L.newO nb rfl) (same_upd0 nb)⟩
end
end L4
set_option hygiene false
local macro_rules | `(tactic| walk_at "put") => `(tactic| first | exact L4.Put.head | (apply L4.Put.tail; walk_at "put"))
local macro_rules | `(tactic| walk_at "mem") => `(tactic| first | exact List.mem_cons_self | (refine List.mem_cons_of_mem _ ?_; walk_at "mem"))
local macro_rules | `(tactic| walk_at "lk") => `(tactic| first | exact L4.lk_hit | (refine (L4.lk_miss (by decide +kernel)).trans ?_; walk_at "lk"))
local macro_rules | `(tactic| walk_at "sz") => `(tactic| first | (show (_ : Nat) ≤ sizeLine; exact Nat.le_of_lt (L2.small1000 (by first | decide | omega | (simp only [List.length_cons, List.length_nil, List.length_append, List.length_map]; omega)))) | exact L2.small1000 (by first | decide | omega | (simp only [List.length_cons, List.length_nil, List.length_append, List.length_map]; omega)))
local macro_rules | `(tactic| walk_at "side") => `(tactic| first
  | omega
  | (show (0 : Int) < _; first | omega | decide)
  | (refine ⟨⟨?_, ?_⟩, ?_, ?_⟩ <;> first | omega | decide)
  | (refine ⟨?_, ?_⟩ <;> first | omega | decide)
  | (refine ⟨?_, ?_, ?_⟩ <;> first | omega | decide))
local macro_rules | `(tactic| walk_at "g0") => `(tactic| first
  | (with_reducible refine L4.g_asg ?_)
  | (with_reducible refine L4.g_var (by with_unfolding_all exact rfl) ?_)
  | (with_reducible refine L4.g_c ?_)
  | (with_reducible refine L4.g_cons ?_)
  | (with_reducible refine L4.g_nil ?_)
  | (with_reducible refine L4.g_op ?_)
  | (with_reducible refine L4.g_rI0 ?_)
  | (with_reducible refine L4.g_if ?_)
  | (with_reducible refine L4.g_test ?_)
  | (with_reducible refine L4.g_isB ?_)
  | (with_reducible refine L4.g_eqI ?_)
  | (with_reducible refine L4.g_eqS ?_)
  | (with_reducible refine L4.g_eqB ?_)
  | (with_reducible refine L4.g_neI ?_)
  | (with_reducible refine L4.g_neS ?_)
  | (with_reducible refine L4.g_call ?_)
  | (with_reducible refine L4.g_cb ?_)
  | (with_reducible refine L4.g_ret ?_)
  | (with_reducible refine L4.g_next ?_)
  | (with_reducible refine L4.g_drop ?_)
  | (with_reducible refine L4.g_b ?_)
  | (with_reducible refine L4.g_and ?_)
  | (with_reducible refine L4.g_or ?_)
  | (with_reducible refine L4.g_not ?_)
  | (with_reducible refine L4.g_andV ?_)
  | (with_reducible refine L4.g_orV ?_)
  | (with_reducible refine L4.g_notV ?_)
  | (with_reducible refine L4.g_isN ?_)
  | (with_reducible refine L4.g_notN ?_)
  | (with_reducible refine L4.g_un ?_)
  | (with_reducible refine L4.g_rU ?_)
  | (with_reducible refine L4.g_tup ?_)
  | (with_reducible refine L4.g_lst ?_)
  | (with_reducible refine L4.g_fld ?_)
  | (with_reducible refine L4.g_make ?_)
  | (with_reducible refine L4.g_sfld ?_)
  | (with_reducible refine L4.g_ifE ?_)
  | (with_reducible refine L4.g_sl ?_)
  | (with_reducible refine L4.g_noPart ?_)
  | (with_reducible refine L4.g_part ?_)
  | (with_reducible refine L4.g_part1 ?_)
  | (with_reducible refine L4.g_gCons ?_)
  | (with_reducible refine L4.g_gNil ?_)
  | (with_reducible refine L4.g_gSub ?_)
  | (with_reducible refine L4.g_retN ?_)
  | (with_reducible refine L4.g_break ?_)
  | (with_reducible refine L4.g_cont ?_)
  | (with_reducible refine L4.g_ifT ?_)
  | (with_reducible refine L4.g_ifF ?_)
  | (with_reducible refine L4.g_ifNbT ?_)
  | (with_reducible refine L4.g_ifNbF ?_)
  | (with_reducible refine L4.g_bm ?_)
  | (with_reducible refine L4.g_bm0 ?_)
  | (with_reducible refine L4.g_for ?_)
  | (with_reducible refine L4.g_rng1 ?_)
  | (with_reducible refine L4.g_rng2 ?_)
  | (with_reducible refine L4.g_wkL ?_)
  | (with_reducible refine L4.g_wkT ?_)
  | (with_reducible refine L4.g_zip ?_)
  | (with_reducible refine L4.g_enum ?_)
  | (with_reducible refine L4.g_meth ?_)
  | (with_reducible refine L4.g_methX ?_)
  | (with_reducible refine L4.g_comp ?_)
  | (with_reducible refine L4.g_compS ?_)
  | (with_reducible refine L4.g_tAll ?_)
  | (with_reducible refine L4.g_rev ?_)
  | (with_reducible refine L4.g_maxd ?_)
  | (with_reducible refine L4.g_lenSet ?_)
  | (with_reducible refine L4.g_chain ?_)
  | (with_reducible refine L4.g_revSq (by assumption) (L2.SqL.of (L4.Led.eo (by assumption) (by walk_at "put"))) fun l' H' n' L' _ => ?_)
  | (with_reducible refine L4.g_divm (by assumption) (by constructor <;> omega) fun t' H' n' L' _ => ?_)
  | (with_reducible refine L4.g_tTru ?_)
  | (with_reducible refine L4.g_addS (by walk_at "sz") ?_)
  | (with_reducible refine L4.g_lenStr (by first | assumption | walk_at "sz") ?_)
  | (with_reducible refine L4.g_mulS (by refine ⟨?_, ?_, ?_⟩ <;> first | omega | decide) ?_)
  | (with_reducible refine L4.g_cat (by assumption) (by walk_at "put") (by walk_at "put") (by first | assumption | walk_at "sz") fun l' H' n' L' _ => ?_)
  | (with_reducible refine L4.g_slI (by assumption) (by assumption) (by first | exact not_false | assumption) fun l' H' n' L' _ => ?_)
  | (with_reducible refine L4.g_callX ?_)
  | (with_reducible refine L4.g_makeX ?_)
  | (with_reducible refine L4.g_raise ?_)
  | (with_reducible refine L4.g_raise1 ?_)
  | (with_reducible refine L4.g_baseI ?_)
  | (with_reducible refine L4.g_sfldN ?_)
  | (with_reducible refine L4.g_raiseI ?_)
  | (with_reducible refine L4.g_undo ?_)
  | (with_reducible refine L4.g_undoR ?_)
  | (with_reducible refine L4.g_tryAs ?_)
  | (with_reducible refine L4.g_try ?_)
  | (with_reducible refine L4.g_fldX ?_)
  | (with_reducible refine L4.g_max ?_)
  | (with_reducible refine L4.g_max3 ?_)
  | (with_reducible refine L4.g_isBlB ?_)
  | (with_reducible refine L4.g_isNotBlB ?_)
  | (with_reducible refine L4.g_intB ?_)
  | (with_reducible refine L4.g_neB ?_)
  | (with_reducible refine L4.g_min ?_)
  | ((with_reducible refine L4.g_rng1v ?_ ?_); (focus (walk_at "side"; done)))
  | ((with_reducible refine L4.g_rng2v ?_ ?_); (focus (walk_at "side"; done)))
  | (with_reducible refine L4.g_tyL (L2.SqL.of (L4.Led.eo (by assumption) (by walk_at "put"))) ?_)
  | (with_reducible refine L4.g_tyS ?_)
  | (with_reducible refine L4.g_wkLv (L2.SqL.of (L4.Led.eo (by assumption) (by walk_at "put"))) ?_)
  | (with_reducible refine L4.g_wkTv (L2.SqT.of (L4.Led.tup (by assumption) (by walk_at "mem"))) ?_)
  | (with_reducible refine L4.g_lenI (by assumption) (by assumption) (by first | exact not_false | assumption) ?_)
  | (with_reducible refine L4.g_lenSq (L2.SqL.of (L4.Led.eo (by assumption) (by walk_at "put"))) ?_)
  | (with_reducible refine L4.g_lenTu (L2.SqT.of (L4.Led.tup (by assumption) (by walk_at "mem"))) ?_)
  | (with_reducible refine L4.g_append (by assumption) (by walk_at "put") (by walk_at "sz") fun H' L' _ => ?_)
  | (with_reducible refine L4.g_newT (by assumption) (by walk_at "sz") fun t' H' n' L' _ => ?_)
  | (with_reducible refine L4.g_newL (by assumption) (by walk_at "sz") fun l' H' n' L' _ => ?_)
  | ((with_reducible refine L4.g_rI ?_ ?_); (focus (walk_at "side"; done)))
  | (with_reducible refine L4.g_gTup (by assumption) (by walk_at "mem") (by with_unfolding_all exact rfl) ?_)
  | (with_reducible refine L4.g_geT2 (L4.Led.tup (by assumption) (by walk_at "mem")) (L4.Led.tup (by assumption) (by walk_at "mem")) ?_)
  | (with_reducible refine L4.g_leT2 (L4.Led.tup (by assumption) (by walk_at "mem")) (L4.Led.tup (by assumption) (by walk_at "mem")) ?_)
  | (with_reducible refine L4.g_ixL (by assumption) (by walk_at "put") (by with_unfolding_all exact rfl) ?_)
  | (with_reducible refine L4.g_ixT (by assumption) (by walk_at "mem") (by with_unfolding_all exact rfl) ?_)
  | (with_reducible refine L4.g_ixTq (by assumption) (by with_unfolding_all exact rfl) ?_)
  | (with_reducible refine L4.g_fldL (by assumption) (by walk_at "put") (by assumption) (by assumption) (by walk_at "lk") ?_)
  | (with_reducible refine L4.g_ifDT (by first | omega | assumption | exact rfl | (simp only [List.length_cons, List.length_nil, List.length_append, List.length_map]; omega)) ?_)
  | (with_reducible refine L4.g_ifDF (by first | omega | assumption | exact rfl | (simp only [List.length_cons, List.length_nil, List.length_append, List.length_map]; omega)) ?_)
  | (with_reducible refine L4.g_ifNT (by first | omega | assumption | exact rfl | (simp only [List.length_cons, List.length_nil, List.length_append, List.length_map]; omega)) ?_)
  | (with_reducible refine L4.g_ifNF (by first | omega | assumption | exact rfl | (simp only [List.length_cons, List.length_nil, List.length_append, List.length_map]; omega)) ?_))
local macro_rules | `(tactic| walk_at "g1") => `(tactic| first | (with_reducible refine L4.g_seq ?_) | walk_at "g0")
local macro_rules | `(tactic| walk_at "one") => `(tactic| repeat walk_at "g0")
local macro_rules | `(tactic| walk_at "go") => `(tactic| repeat walk_at "g1")
local macro_rules | `(tactic| walk_at "s") => `(tactic| exact ⟨rfl, rfl, rfl, by decide +kernel, rfl, by decide +kernel, by decide +kernel⟩)
local macro_rules | `(tactic| walk_at "d") => `(tactic| refine D.ok S (fun vs H Q E h => ?_) (fun f cdv A outer s H vs Q E hr h => ?_))
namespace Law
open PySem PySem.Spec PyProof.Rows L2 L3 L4
abbrev St := L2.St
def top (i : Nat) : Stmt := PySem.Challenge.pw_risemarks_k46_whole_none_meet.main.body.getD i (.Pass ⟨0, 0, 0, 0⟩)
theorem seq_mid {t u : TS} {D : Ends} {σ : St} {H : Hp} (P : St → Hp → Prop) (h1 : ∀ nx : St → Hp → Prop, (∀ σ H, P σ H → nx σ H) → t { D with nx := nx } σ H) (h2 : ∀ σ H, P σ H → u D σ H) : tSeq t u D σ H := h1 (u D) h2
def Oth (p : Addr) (H H' : Hp) : Prop := ∀ q o, H q = some o → q ≠ p → H' q = some o
theorem Oth.refl (p : Addr) (H : Hp) : Oth p H H := fun _ _ h _ => h
theorem Oth.trans {p : Addr} {H H1 H2 : Hp} (a : Oth p H H1) (b : Oth p H1 H2) : Oth p H H2 := fun q o h n => b q o (a q o h n) n
theorem Oth.upd {p : Addr} {H H1 : Hp} (a : Oth p H H1) (o : HO) : Oth p H (upd H1 p o) := fun q u h n => by rw [upd_ne n]; exact a q u h n
theorem Oth.same {p : Addr} {H0 H H' : Hp} (a : Oth p H H') (s : Same H0 H) (n : H0 p = none) : Same H0 H' := fun q o h => a q o (s q o h) (ne_of_none h n)
theorem same_new {H : Hp} {p : Addr} (h : H p = none) (o : HO) : Same H (upd H p o) := fun b u q => by rw [upd_ne (ne_of_none q h)]; exact q
def HandAt (H : Hp) (p : Addr) (n : Int) : Prop := ∃ a b c : Int, H p = some (.lst [.int a, .int b, .int c]) ∧ 0 ≤ a ∧ a < 10 ^ 121 ∧ 0 ≤ b ∧ b ≤ n
theorem HandAt.mono {H : Hp} {p : Addr} {n m : Int} (h : HandAt H p n) (l : n ≤ m) : HandAt H p m := by
 obtain ⟨a, b, c, e, h1, h2, h3, h4⟩ := h
 exact ⟨a, b, c, e, h1, h2, h3, Int.le_trans h4 l⟩
theorem HandAt.same {H H' : Hp} {p : Addr} {n : Int} (h : HandAt H p n) (o : Same H H') : HandAt H' p n := by
 obtain ⟨a, b, c, e, r⟩ := h
 exact ⟨a, b, c, o _ _ e, r⟩
theorem HandAt.not_none {H : Hp} {p : Addr} {n : Int} (h : HandAt H p n) : H p ≠ none := by
 obtain ⟨a, b, c, e, r⟩ := h
 rw [e]; exact fun z => nomatch z
section
variable {P : Program} {w : World} {K : PySem.W.Frag} {mg : Str → Option Value} {base : Heap} {CX : CXT}
theorem Dat.none {x qual : Str} {st : Stmt} {ps : List Str} {sp : Sp} (D : Dat K mg x qual st ps) (no : ∀ vs H Q E, ¬ sp vs H Q E) : Cal P w K mg base CX x 0 ps sp := by
 obtain ⟨f, fd, F, b, m⟩ := D.ex
 exact ⟨f, fd, ⟨fun vs H Q E h => absurd h (no vs H Q E), fun A outer s H args us vs Q E _ _ _ _ h => absurd h (no vs H Q E)⟩, b, F.kp, m⟩
end
end Law

namespace Law
open PySem PySem.Spec PyProof.Rows L2 L3 L4
section
variable {P : Program} {w : World} {K : PySem.W.Frag} {mg : Str → Option Value} {base : Heap} {CX : CXT}
theorem sc_hand : FnScope ["_law_script", "_law_k", "_law_hand_here"] ["_law_script", "_law_k"] (defScope (top 37)) := by walk_at "s"
def spHand (K : PySem.W.Frag) : Sp := fun vs H Q _ => ∃ (a : Addr) (ns : List Int) (k : Int), vs = [.ref a, .int k] ∧ SqL K H a (ns.map V.int) ∧ ns.length ≤ 63 ∧ 0 ≤ k ∧
 ∀ (p : Addr) (H' : Hp), H p = none → HandAt H' p 0 → Same H H' → Q (.ref p) H'
theorem atI_ints {ns : List Int} {k : Int} (h0 : 0 ≤ k) (h : k < (ns.length : Int)) : ∃ v : Int, atI (ns.map V.int) k = some (.int v) := by
 have hk : k.toNat < ns.length := by omega
 have ek : k = ((k.toNat : Nat) : Int) := by omega
 have q : atI (ns.map V.int) ((k.toNat : Nat) : Int) = some (.int ns[k.toNat]) := atI_nat (by rw [List.getElem?_map, List.getElem?_eq_getElem hk] <;> rfl)
 rw [← ek] at q
 exact ⟨_, q⟩
theorem ok_hand (D : Dat K mg "_law_hand" "_law_hand" (top 37) ["_law_script", "_law_k"]) (BT : Bt mg) : Cal P w K mg base CX "_law_hand" 1 ["_law_script", "_law_k"] (spHand K) := by
 have S := sc_hand
 walk_at "d"
 ·obtain ⟨a, ns, k, rfl, _⟩ := h
  rfl
 obtain ⟨a, ns, k, rfl, hS, h63, h0, q⟩ := h
 refine ⟨_, (@pss_cons _ _ _ _ _ (@ps_set _ _ 2 _ _ _ _ S.nd rfl (by first | exact Or.inl rfl | exact Or.inr rfl) (@pe_lst _ _ _ _ (@pa_cons _ _ _ _ _ (@pe_int _ _ _ _) (@pa_cons _ _ _ _ _ (@pe_int _ _ _ _) (@pa_cons _ _ _ _ _ (@pe_int _ _ _ _) (@pa_nil _) (by rfl)) (by rfl)) (by rfl))) (by rfl) (by first | exact .inl rfl | exact .inr rfl | assumption)) (@pss_cons _ _ _ _ _ (@ps_if _ _ _ _ _ _ _ _ (@pt_cmpR _ _ _ _ _ _ _ _ (@op_lt _) (@pv _ 1 _ _ (by rfl) (by first | exact Or.inl rfl | exact Or.inr (Or.inl rfl) | exact Or.inr (Or.inr rfl)) (by decide) (by decide)) (@pe_callB _ _ _ _ _ _ _ _ _ (@c_len _) rfl BT.len L3.bt_len (@pa_cons _ _ _ _ _ (@pv _ 0 _ _ (by rfl) (by first | exact Or.inl rfl | exact Or.inr (Or.inl rfl) | exact Or.inr (Or.inr rfl)) (by decide) (by decide)) (@pa_nil _) (by rfl)) (by decide) (by decide) (by rfl) (by rfl)) (@nomark _ _ (by decide) (by decide))) (@pss_one _ _ _ (@ps_asg _ _ _ _ _ _ (@pe_op _ _ _ _ _ _ _ _ (@op_mod _) (@pe_ix _ _ _ _ _ _ _ (@ix_list _) (@pv _ 0 _ _ (by rfl) (by first | exact Or.inl rfl | exact Or.inr (Or.inl rfl) | exact Or.inr (Or.inr rfl)) (by decide) (by decide)) (@pv _ 1 _ _ (by rfl) (by first | exact Or.inl rfl | exact Or.inr (Or.inl rfl) | exact Or.inr (Or.inr rfl)) (by decide) (by decide)) (fun _ _ => rfl)) (@pe_op _ _ _ _ _ _ _ _ (@op_mulB _) (@pe_op _ _ _ _ _ _ _ _ (@op_pow _) (@pe_int _ _ _ _) (@pe_int _ _ _ _)) (@pe_op _ _ _ _ _ _ _ _ (@op_pow _) (@pe_int _ _ _ _) (@pe_int _ _ _ _)))) (@pg_sub _ _ _ _ _ _ _ (@pv _ 2 _ _ (by rfl) (by first | exact Or.inl rfl | exact Or.inr (Or.inl rfl) | exact Or.inr (Or.inr rfl)) (by decide) (by decide)) (@pe_int _ _ _ _) (@set_list _) (by intro _; rfl)) (by rfl) (by rfl) (by rfl))) (@pss_nil _)) (@pss_cons _ _ _ _ _ (@ps_if _ _ _ _ _ _ _ _ (@PW.pt _ _ _ (@pw_and _ _ _ _ _ _ _ (@pt_cmpR _ _ _ _ _ _ _ _ (@op_ge _) (@pe_ix _ _ _ _ _ _ _ (@ix_list _) (@pv _ 2 _ _ (by rfl) (by first | exact Or.inl rfl | exact Or.inr (Or.inl rfl) | exact Or.inr (Or.inr rfl)) (by decide) (by decide)) (@pe_int _ _ _ _) (fun _ _ => rfl)) (@pe_op _ _ _ _ _ _ _ _ (@op_pow _) (@pe_int _ _ _ _) (@pe_int _ _ _ _)) (@nomark _ _ (by decide) (by decide))) (@pw_and1 _ _ _ _ (@pt_cmpR _ _ _ _ _ _ _ _ (@op_eq _) (@pe_op _ _ _ _ _ _ _ _ (@op_mod _) (@pe_ix _ _ _ _ _ _ _ (@ix_list _) (@pv _ 0 _ _ (by rfl) (by first | exact Or.inl rfl | exact Or.inr (Or.inl rfl) | exact Or.inr (Or.inr rfl)) (by decide) (by decide)) (@pe_int _ _ _ _) (fun _ _ => rfl)) (@pe_int _ _ _ _)) (@pe_int _ _ _ _) (@nomark _ _ (by decide) (by decide)))))) (@pss_one _ _ _ (@ps_asg _ _ _ _ _ _ (@pe_int _ _ _ _) (@pg_sub _ _ _ _ _ _ _ (@pv _ 2 _ _ (by rfl) (by first | exact Or.inl rfl | exact Or.inr (Or.inl rfl) | exact Or.inr (Or.inr rfl)) (by decide) (by decide)) (@pe_int _ _ _ _) (@set_list _) (by intro _; rfl)) (by rfl) (by rfl) (by rfl))) (@pss_nil _)) (@pss_cons _ _ _ _ _ (@ps_if _ _ _ _ _ _ _ _ (@pt_cmpR _ _ _ _ _ _ _ _ (@op_eq _) (@pv _ 1 _ _ (by rfl) (by first | exact Or.inl rfl | exact Or.inr (Or.inl rfl) | exact Or.inr (Or.inr rfl)) (by decide) (by decide)) (@pe_int _ _ _ _) (@nomark _ _ (by decide) (by decide))) (@pss_one _ _ _ (@ps_asg _ _ _ _ _ _ (@pe_op _ _ _ _ _ _ _ _ (@op_fdivB _) (@pe_ix _ _ _ _ _ _ _ (@ix_list _) (@pv _ 2 _ _ (by rfl) (by first | exact Or.inl rfl | exact Or.inr (Or.inl rfl) | exact Or.inr (Or.inr rfl)) (by decide) (by decide)) (@pe_int _ _ _ _) (fun _ _ => rfl)) (@pe_int _ _ _ _)) (@pg_sub _ _ _ _ _ _ _ (@pv _ 2 _ _ (by rfl) (by first | exact Or.inl rfl | exact Or.inr (Or.inl rfl) | exact Or.inr (Or.inr rfl)) (by decide) (by decide)) (@pe_int _ _ _ _) (@set_list _) (by intro _; rfl)) (by rfl) (by rfl) (by rfl))) (@pss_nil _)) (@pss_one _ _ _ (@ps_ret _ _ _ _ (@pv _ 2 _ _ (by rfl) (by first | exact Or.inl rfl | exact Or.inr (Or.inl rfl) | exact Or.inr (Or.inr rfl)) (by decide) (by decide)))))))), ?_⟩
 have hl : (ns.map V.int).length = ns.length := List.length_map _
 refine ⟨(by show 3 ≤ sizeLine; decide), fun p hp => ?_⟩
 have sq : ∀ o, SqL K (upd H p o) a (ns.map V.int) := fun o => (same_new hp o).seq hS
 -- the number
 dsimp only [gName]
 refine seq_mid (fun σ H' => ∃ x : Int, σ = [some (.ref a), some (.int k), some (.ref p)] ∧ H' = upd H p (.lst [.int x, .int 0, .int 1]) ∧ 0 ≤ x ∧ x < 10 ^ 121 ∧ (x = 0 ∨ k < (ns.length : Int))) (fun nx kk => ?_) ?_
 ·refine ⟨_, rfl, _, rfl, a, _, rfl, .inl (sq _), _, _, rfl, rfl, _, rfl, ?_⟩
  refine ite2 (fun c => ?_) (fun c => ?_)
  ·have c' : k < ((ns.map V.int).length : Int) := of_decide_eq_true c
   rw [hl] at c'
   obtain ⟨v, hv⟩ := atI_ints h0 c'
   refine ⟨_, rfl, _, rfl, a, _, _, _, rfl, rfl, sq _, hv, _, _, rfl, rfl, ⟨by decide, by decide, by decide⟩, _, _, rfl, rfl, ⟨by decide, by decide, by decide⟩, _, _, rfl, rfl, ⟨⟨by decide, by decide⟩, by decide, by decide⟩, _, _, rfl, rfl, (by show (0 : Int) < _; decide), ?_⟩
   refine ⟨_, rfl, p, _, _, 0, rfl, rfl, upd_same, rfl, ?_⟩
   refine kk _ _ ⟨_, rfl, upd_upd, ?_, ?_, .inr c'⟩
   ·exact Int.emod_nonneg _ (by decide)
   ·exact Int.lt_trans (Int.emod_lt_of_pos _ (by decide)) (by decide)
  ·exact kk _ _ ⟨0, rfl, rfl, by decide, by decide, .inl rfl⟩
 rintro σ H' ⟨x, rfl, rfl, x0, x1, xk⟩
 -- the way
 refine seq_mid (fun σ H' => ∃ m : Int, σ = [some (.ref a), some (.int k), some (.ref p)] ∧ H' = upd H p (.lst [.int x, .int 0, .int m])) (fun nx kk => ?_) ?_
 ·refine ⟨_, rfl, p, _, _, _, rfl, rfl, SqL.of upd_same, rfl, _, _, rfl, rfl, ⟨by decide, by decide, by decide⟩, _, _, rfl, rfl, _, rfl, ?_⟩
  refine ite2 (fun c => ?_) (fun c => ?_)
  ·have c' : (10 : Int) ^ 18 ≤ x := of_decide_eq_true c
   have hk : k < (ns.length : Int) := by
    rcases xk with z | z
    ·rw [z] at c'; exact absurd c' (by decide)
    ·exact z
   obtain ⟨v, hv⟩ := atI_ints (k := 0) (ns := ns) (Int.le_refl 0) (by omega)
   refine ⟨_, rfl, a, _, _, _, rfl, rfl, sq _, hv, _, _, rfl, rfl, (by show (0 : Int) < _; decide), rfl, _, rfl, ?_⟩
   refine ite2 (fun c => ?_) (fun c => ?_)
   ·refine ⟨_, rfl, p, _, _, 2, rfl, rfl, upd_same, rfl, ?_⟩
    exact kk _ _ ⟨0, rfl, upd_upd⟩
   ·exact kk _ _ ⟨1, rfl, rfl⟩
  ·refine iteF ?_
   exact kk _ _ ⟨1, rfl, rfl⟩
 rintro σ H' ⟨m, rfl, rfl⟩
 refine seq_mid (fun σ H' => ∃ y : Int, σ = [some (.ref a), some (.int k), some (.ref p)] ∧ H' = upd H p (.lst [.int y, .int 0, .int m]) ∧ 0 ≤ y ∧ y < 10 ^ 121) (fun nx kk => ?_) ?_
 ·refine ⟨_, rfl, rfl, _, rfl, ?_⟩
  refine ite2 (fun c => ?_) (fun c => ?_)
  ·refine ⟨_, rfl, p, _, _, _, rfl, rfl, SqL.of upd_same, rfl, _, _, rfl, rfl, ⟨by decide, by decide⟩, _, rfl, p, _, _, 0, rfl, rfl, upd_same, rfl, ?_⟩
   exact kk _ _ ⟨x / 2, rfl, upd_upd, by omega, by omega⟩
  ·exact kk _ _ ⟨x, rfl, rfl, x0, x1⟩
 rintro σ H' ⟨y, rfl, rfl, y0, y1⟩
 refine ⟨_, rfl, ?_⟩
 exact q p _ hp ⟨y, 0, m, upd_same, y0, y1, Int.le_refl _, Int.le_refl _⟩ (same_new hp _)

theorem sc_pick : FnScope ["_law_hand_here", "_law_many_here", "_law_found", "_law_low", "_law_by", "_law_one", "_law_two"] ["_law_hand_here", "_law_many_here"] (defScope (top 38)) := by walk_at "s"
def lim (n : Nat) : Int := 10 ^ (6 + 5 * n)
def spPickN : Nat → Sp
 | 0 => fun _ _ _ _ => False
 | n + 1 => fun vs H Q _ => ∃ (p : Addr) (many b : Int), vs = [.ref p, .int many] ∧ 0 < many ∧ many ≤ lim n ∧ HandAt H p b ∧ b + 2 ^ n ≤ 2 ^ 60 ∧ n ≤ 12 ∧
  ∀ (r : Int) (H' : Hp), 0 ≤ r → r < many → HandAt H' p (b + 2 ^ n) → Oth p H H' → Q (.int r) H'
theorem lim_next {n : Nat} {m : Int} (h0 : 0 < m) (h : m ≤ lim (n + 1)) : m / 1000000 + 1 ≤ lim n := by
 have e : lim (n + 1) = 100000 * lim n := by
  unfold lim
  rw [show 6 + 5 * (n + 1) = (6 + 5 * n) + 5 from by omega, Int.pow_add]
  rw [show (10 : Int) ^ 5 = 100000 from by decide, Int.mul_comm]
 have e1 : (1000000 : Int) ≤ lim n := by
  unfold lim
  rw [Int.pow_add]
  have : (0 : Int) < 10 ^ (5 * n) := Int.pow_pos (by decide)
  rw [show (10 : Int) ^ 6 = 1000000 from by decide]
  have h1 : (1 : Int) ≤ 10 ^ (5 * n) := this
  have := Int.mul_le_mul_of_nonneg_left h1 (show (0 : Int) ≤ 1000000 by decide)
  rw [Int.mul_one] at this
  exact this
 omega
theorem lim_big {n : Nat} : (1000000 : Int) ≤ lim n := by
 unfold lim
 rw [Int.pow_add]
 have : (0 : Int) < 10 ^ (5 * n) := Int.pow_pos (by decide)
 rw [show (10 : Int) ^ 6 = 1000000 from by decide]
 have h1 : (1 : Int) ≤ 10 ^ (5 * n) := this
 have := Int.mul_le_mul_of_nonneg_left h1 (show (0 : Int) ≤ 1000000 by decide)
 rw [Int.mul_one] at this
 exact this
theorem lim_le {n : Nat} (h : n ≤ 12) : lim n < 2 ^ 250 := by
 unfold lim
 refine Int.lt_of_le_of_lt (b := 10 ^ 66) ?_ (by decide)
 have : (10 : Nat) ^ (6 + 5 * n) ≤ 10 ^ 66 := Nat.pow_le_pow_right (by decide) (by omega)
 exact_mod_cast this
theorem mul_in {u v A B : Int} (h1 : 0 ≤ u) (h2 : u ≤ A) (h3 : 0 ≤ v) (h4 : v ≤ B) : 0 ≤ u * v ∧ u * v ≤ A * B :=
 ⟨Int.mul_nonneg h1 h3, Int.le_trans (Int.mul_le_mul_of_nonneg_right h2 h3) (Int.mul_le_mul_of_nonneg_left h4 (Int.le_trans h1 h2))⟩
theorem pow20 {n : Nat} (h : n ≤ 12) : (1 : Int) ≤ 2 ^ n ∧ (2 : Int) ^ n ≤ 1048576 := by
 have h1 : 1 ≤ 2 ^ n := Nat.one_le_two_pow
 have h2 : 2 ^ n ≤ 2 ^ 20 := Nat.pow_le_pow_right (by decide) (by omega)
 have e : ((2 : Int) ^ n) = ((2 ^ n : Nat) : Int) := by norm_cast
 rw [e]
 omega
theorem ok_pickN (D : Dat K mg "_law_pick" "_law_pick" (top 38) ["_law_hand_here", "_law_many_here"]) (NE : NoErr CX) : ∀ n : Nat, Cal P w K mg base CX "_law_pick" n ["_law_hand_here", "_law_many_here"] (spPickN n)
 | 0 => Dat.none D fun _ _ _ _ h => h
 | n + 1 => by
  have c__law_pick := ok_pickN D NE n
  have S := sc_pick
  walk_at "d"
  ·obtain ⟨p, many, b, rfl, _⟩ := h
   rfl
  obtain ⟨p, many, b, rfl, hm, hlm, hh, hb, hn, q⟩ := h
  have hm6 := Int.lt_of_le_of_lt hlm (lim_le hn)
  refine ⟨_, (@pss_cons _ _ _ _ _ (@ps_if _ _ _ _ _ _ _ _ (@pt_cmpR _ _ _ _ _ _ _ _ (@op_eq _) (@pe_ix _ _ _ _ _ _ _ (@ix_list _) (@pv _ 0 _ _ (by rfl) (by first | exact Or.inl rfl | exact Or.inr (Or.inl rfl) | exact Or.inr (Or.inr rfl)) (by decide) (by decide)) (@pe_int _ _ _ _) (fun _ _ => rfl)) (@pe_int _ _ _ _) (@nomark _ _ (by decide) (by decide))) (@pss_cons _ _ _ _ _ (@ps_set _ _ 2 _ _ _ _ S.nd rfl (by first | exact Or.inl rfl | exact Or.inr rfl) (@pe_op _ _ _ _ _ _ _ _ (@op_mod _) (@pe_ix _ _ _ _ _ _ _ (@ix_list _) (@pv _ 0 _ _ (by rfl) (by first | exact Or.inl rfl | exact Or.inr (Or.inl rfl) | exact Or.inr (Or.inr rfl)) (by decide) (by decide)) (@pe_int _ _ _ _) (fun _ _ => rfl)) (@pv _ 1 _ _ (by rfl) (by first | exact Or.inl rfl | exact Or.inr (Or.inl rfl) | exact Or.inr (Or.inr rfl)) (by decide) (by decide))) (by rfl) (by first | exact .inl rfl | exact .inr rfl | assumption)) (@pss_cons _ _ _ _ _ (@ps_asg _ _ _ _ _ _ (@pe_op _ _ _ _ _ _ _ _ (@op_fdivB _) (@pe_ix _ _ _ _ _ _ _ (@ix_list _) (@pv _ 0 _ _ (by rfl) (by first | exact Or.inl rfl | exact Or.inr (Or.inl rfl) | exact Or.inr (Or.inr rfl)) (by decide) (by decide)) (@pe_int _ _ _ _) (fun _ _ => rfl)) (@pv _ 1 _ _ (by rfl) (by first | exact Or.inl rfl | exact Or.inr (Or.inl rfl) | exact Or.inr (Or.inr rfl)) (by decide) (by decide))) (@pg_sub _ _ _ _ _ _ _ (@pv _ 0 _ _ (by rfl) (by first | exact Or.inl rfl | exact Or.inr (Or.inl rfl) | exact Or.inr (Or.inr rfl)) (by decide) (by decide)) (@pe_int _ _ _ _) (@set_list _) (by intro _; rfl)) (by rfl) (by rfl) (by rfl)) (@pss_one _ _ _ (@ps_ret _ _ _ _ (@pv _ 2 _ _ (by rfl) (by first | exact Or.inl rfl | exact Or.inr (Or.inl rfl) | exact Or.inr (Or.inr rfl)) (by decide) (by decide)))))) (@pss_nil _)) (@pss_cons _ _ _ _ _ (@ps_if _ _ _ _ _ _ _ _ (@pt_cmpR _ _ _ _ _ _ _ _ (@op_gt _) (@pv _ 1 _ _ (by rfl) (by first | exact Or.inl rfl | exact Or.inr (Or.inl rfl) | exact Or.inr (Or.inr rfl)) (by decide) (by decide)) (@pe_int _ _ _ _) (@nomark _ _ (by decide) (by decide))) (@pss_cons _ _ _ _ _ (@ps_set _ _ 3 _ _ _ _ S.nd rfl (by first | exact Or.inl rfl | exact Or.inr rfl) (@pe_fn _ _ _ _ _ _ _ _ _ _ _ _ c__law_pick (hr.mono (by first | decide | omega)) NE.pass (@pa_cons _ _ _ _ _ (@pv _ 0 _ _ (by rfl) (by first | exact Or.inl rfl | exact Or.inr (Or.inl rfl) | exact Or.inr (Or.inr rfl)) (by decide) (by decide)) (@pa_cons _ _ _ _ _ (@pe_int _ _ _ _) (@pa_nil _) (by rfl)) (by rfl)) (by rfl) (by decide) (by rfl) (by rfl)) (by rfl) (by first | exact .inl rfl | exact .inr rfl | assumption)) (@pss_one _ _ _ (@ps_ret _ _ _ _ (@pe_op _ _ _ _ _ _ _ _ (@op_mod _) (@pe_op _ _ _ _ _ _ _ _ (@op_add _) (@pv _ 3 _ _ (by rfl) (by first | exact Or.inl rfl | exact Or.inr (Or.inl rfl) | exact Or.inr (Or.inr rfl)) (by decide) (by decide)) (@pe_op _ _ _ _ _ _ _ _ (@op_mulB _) (@pe_int _ _ _ _) (@pe_fn _ _ _ _ _ _ _ _ _ _ _ _ c__law_pick (hr.mono (by first | decide | omega)) NE.pass (@pa_cons _ _ _ _ _ (@pv _ 0 _ _ (by rfl) (by first | exact Or.inl rfl | exact Or.inr (Or.inl rfl) | exact Or.inr (Or.inr rfl)) (by decide) (by decide)) (@pa_cons _ _ _ _ _ (@pe_op _ _ _ _ _ _ _ _ (@op_add _) (@pe_op _ _ _ _ _ _ _ _ (@op_fdivB _) (@pv _ 1 _ _ (by rfl) (by first | exact Or.inl rfl | exact Or.inr (Or.inl rfl) | exact Or.inr (Or.inr rfl)) (by decide) (by decide)) (@pe_int _ _ _ _)) (@pe_int _ _ _ _)) (@pa_nil _) (by rfl)) (by rfl)) (by rfl) (by decide) (by rfl) (by rfl)))) (@pv _ 1 _ _ (by rfl) (by first | exact Or.inl rfl | exact Or.inr (Or.inl rfl) | exact Or.inr (Or.inr rfl)) (by decide) (by decide)))))) (@pss_nil _)) (@pss_cons _ _ _ _ _ (@ps_asg _ _ _ _ _ _ (@pe_op _ _ _ _ _ _ _ _ (@op_add _) (@pe_ix _ _ _ _ _ _ _ (@ix_list _) (@pv _ 0 _ _ (by rfl) (by first | exact Or.inl rfl | exact Or.inr (Or.inl rfl) | exact Or.inr (Or.inr rfl)) (by decide) (by decide)) (@pe_int _ _ _ _) (fun _ _ => rfl)) (@pe_int _ _ _ _)) (@pg_sub _ _ _ _ _ _ _ (@pv _ 0 _ _ (by rfl) (by first | exact Or.inl rfl | exact Or.inr (Or.inl rfl) | exact Or.inr (Or.inr rfl)) (by decide) (by decide)) (@pe_int _ _ _ _) (@set_list _) (by intro _; rfl)) (by rfl) (by rfl) (by rfl)) (@pss_cons _ _ _ _ _ (@ps_set _ _ 4 _ _ _ _ S.nd rfl (by first | exact Or.inl rfl | exact Or.inr rfl) (@pe_op _ _ _ _ _ _ _ _ (@op_add _) (@pe_int _ _ _ _) (@pe_op _ _ _ _ _ _ _ _ (@op_mulB _) (@pe_op _ _ _ _ _ _ _ _ (@op_mulB _) (@pe_int _ _ _ _) (@pe_ix _ _ _ _ _ _ _ (@ix_list _) (@pv _ 0 _ _ (by rfl) (by first | exact Or.inl rfl | exact Or.inr (Or.inl rfl) | exact Or.inr (Or.inr rfl)) (by decide) (by decide)) (@pe_int _ _ _ _) (fun _ _ => rfl))) (@pe_ix _ _ _ _ _ _ _ (@ix_list _) (@pv _ 0 _ _ (by rfl) (by first | exact Or.inl rfl | exact Or.inr (Or.inl rfl) | exact Or.inr (Or.inr rfl)) (by decide) (by decide)) (@pe_int _ _ _ _) (fun _ _ => rfl)))) (by rfl) (by first | exact .inl rfl | exact .inr rfl | assumption)) (@pss_cons _ _ _ _ _ (@ps_set _ _ 5 _ _ _ _ S.nd rfl (by first | exact Or.inl rfl | exact Or.inr rfl) (@pe_op _ _ _ _ _ _ _ _ (@op_mod _) (@pe_op _ _ _ _ _ _ _ _ (@op_mulB _) (@pe_op _ _ _ _ _ _ _ _ (@op_add _) (@pe_op _ _ _ _ _ _ _ _ (@op_mod _) (@pe_ix _ _ _ _ _ _ _ (@ix_list _) (@pv _ 0 _ _ (by rfl) (by first | exact Or.inl rfl | exact Or.inr (Or.inl rfl) | exact Or.inr (Or.inr rfl)) (by decide) (by decide)) (@pe_int _ _ _ _) (fun _ _ => rfl)) (@pe_int _ _ _ _)) (@pe_int _ _ _ _)) (@pv _ 4 _ _ (by rfl) (by first | exact Or.inl rfl | exact Or.inr (Or.inl rfl) | exact Or.inr (Or.inr rfl)) (by decide) (by decide))) (@pe_int _ _ _ _)) (by rfl) (by first | exact .inl rfl | exact .inr rfl | assumption)) (@pss_cons _ _ _ _ _ (@ps_set _ _ 6 _ _ _ _ S.nd rfl (by first | exact Or.inl rfl | exact Or.inr rfl) (@pe_op _ _ _ _ _ _ _ _ (@op_mod _) (@pe_op _ _ _ _ _ _ _ _ (@op_add _) (@pe_op _ _ _ _ _ _ _ _ (@op_mulB _) (@pv _ 5 _ _ (by rfl) (by first | exact Or.inl rfl | exact Or.inr (Or.inl rfl) | exact Or.inr (Or.inr rfl)) (by decide) (by decide)) (@pv _ 5 _ _ (by rfl) (by first | exact Or.inl rfl | exact Or.inr (Or.inl rfl) | exact Or.inr (Or.inr rfl)) (by decide) (by decide))) (@pe_op _ _ _ _ _ _ _ _ (@op_mulB _) (@pe_int _ _ _ _) (@pv _ 5 _ _ (by rfl) (by first | exact Or.inl rfl | exact Or.inr (Or.inl rfl) | exact Or.inr (Or.inr rfl)) (by decide) (by decide)))) (@pe_int _ _ _ _)) (by rfl) (by first | exact .inl rfl | exact .inr rfl | assumption)) (@pss_one _ _ _ (@ps_ret _ _ _ _ (@pe_op _ _ _ _ _ _ _ _ (@op_mod _) (@pe_op _ _ _ _ _ _ _ _ (@op_fdivB _) (@pe_op _ _ _ _ _ _ _ _ (@op_mod _) (@pe_op _ _ _ _ _ _ _ _ (@op_mulB _) (@pv _ 6 _ _ (by rfl) (by first | exact Or.inl rfl | exact Or.inr (Or.inl rfl) | exact Or.inr (Or.inr rfl)) (by decide) (by decide)) (@pe_int _ _ _ _)) (@pe_int _ _ _ _)) (@pe_int _ _ _ _)) (@pv _ 1 _ _ (by rfl) (by first | exact Or.inl rfl | exact Or.inr (Or.inl rfl) | exact Or.inr (Or.inr rfl)) (by decide) (by decide))))))))))), ?_⟩
  obtain ⟨a, d, c, hp, a0, a1, d0, d1⟩ := id hh
  have p20 := pow20 hn
  refine ⟨_, rfl, p, _, _, _, rfl, rfl, SqL.of hp, rfl, rfl, _, rfl, ?_⟩
  refine ite2 (fun cc => ?_) (fun cc => ?_)
  ·refine ⟨_, rfl, p, _, _, _, rfl, rfl, SqL.of hp, rfl, _, rfl, _, _, rfl, rfl, hm, ?_⟩
   refine ⟨_, rfl, p, _, _, _, rfl, rfl, SqL.of hp, rfl, _, rfl, _, _, rfl, rfl, ⟨hm, hm6⟩, _, rfl, p, _, _, 0, rfl, rfl, hp, rfl, _, rfl, ?_⟩
   refine q _ _ (Int.emod_nonneg _ (by omega)) (Int.emod_lt_of_pos _ hm) ⟨a / many, d, c, upd_same, Int.ediv_nonneg a0 (by omega), Int.lt_of_le_of_lt (Int.ediv_le_self _ a0) a1, d0, by omega⟩ ((Oth.refl p H).upd _)
  refine ⟨_, rfl, _, _, rfl, rfl, _, rfl, ?_⟩
  refine ite2 (fun cg => ?_) (fun cg => ?_)
  ·have cg' : (1000000 : Int) < many := of_decide_eq_true cg
   -- two smaller ones
   cases n with
   | zero =>
    have : many ≤ 1000000 := hlm
    omega
   | succ n =>
    have p21 := pow20 (n := n) (by omega)
    have e2 : (2 : Int) ^ (n + 1) = 2 * 2 ^ n := by rw [Int.pow_succ, Int.mul_comm]
    have hm2 := lim_next hm hlm
    have hm3 := lim_le (n := n) (by omega)
    have hm4 := Int.ediv_nonneg (Int.le_of_lt hm) (show (0 : Int) ≤ 1000000 by decide)
    rw [e2] at hb
    refine ⟨_, rfl, p, 1000000, b, rfl, by decide, lim_big, hh, by omega, by omega, fun r1 H1 r10 r11 hh1 o1 => ?_⟩
    refine ⟨_, rfl, _, rfl, _, rfl, _, _, rfl, rfl, ⟨by decide, by decide⟩, _, _, rfl, rfl, p, _, _, rfl, by omega, hm2, hh1, by omega, by omega, fun r2 H2 r20 r21 hh2 o2 => ?_⟩
    ·refine ⟨_, _, rfl, rfl, ⟨⟨by decide, by decide⟩, by omega, by omega⟩, _, _, rfl, rfl, _, rfl, _, _, rfl, rfl, hm, ?_⟩
     refine q _ _ (Int.emod_nonneg _ (by omega)) (Int.emod_lt_of_pos _ hm) (hh2.mono ?_) (o1.trans o2)
     show b + 2 ^ n + 2 ^ n ≤ b + 2 ^ (n + 1)
     omega
  ·have hb60 : b ≤ 1152921504606846976 := by omega
   refine ⟨_, rfl, p, _, _, _, rfl, rfl, SqL.of hp, rfl, _, _, rfl, rfl, _, rfl, p, _, _, 1, rfl, rfl, hp, rfl, ?_⟩
   have hp1 : (upd H p (HO.lst [.int a, .int (d + 1), .int c])) p = some (.lst [.int a, .int (d + 1), .int c]) := upd_same
   have m1 := mul_in (u := 39916801 * (d + 1)) (v := d + 1) (A := 2 ^ 90) (B := 2 ^ 62) (by omega) (by omega) (by omega) (by omega)
   have m0 := Int.emod_nonneg a (show (2147483629 : Int) ≠ 0 by decide)
   have m0' := Int.emod_lt_of_pos a (show (0 : Int) < 2147483629 by decide)
   refine ⟨_, rfl, p, _, _, _, rfl, rfl, SqL.of hp1, rfl, _, _, rfl, rfl, ⟨⟨by decide, by decide⟩, by omega, by omega⟩, _, rfl, p, _, _, _, rfl, rfl, SqL.of hp1, rfl, _, _, rfl, rfl, ⟨⟨by omega, by omega⟩, by omega, by omega⟩, _, _, rfl, rfl, ?_⟩
   refine ⟨_, rfl, p, _, _, _, rfl, rfl, SqL.of hp1, rfl, _, _, rfl, rfl, (by show (0 : Int) < _; decide), _, _, rfl, rfl, _, rfl, _, _, rfl, rfl, ⟨⟨by omega, by omega⟩, by omega, by omega⟩, _, _, rfl, rfl, (by show (0 : Int) < _; decide), ?_⟩
   generalize hx : (a % 2147483629 + 11) * (716151937 + 39916801 * (d + 1) * (d + 1)) % 998244353 = x
   have x0 : 0 ≤ x := hx ▸ Int.emod_nonneg _ (by decide)
   have x1 : x < 998244353 := hx ▸ Int.emod_lt_of_pos _ (by decide)
   refine ⟨_, rfl, _, rfl, _, _, rfl, rfl, ⟨⟨by omega, by omega⟩, by omega, by omega⟩, _, rfl, _, _, rfl, rfl, ⟨⟨by decide, by decide⟩, by omega, by omega⟩, _, _, rfl, rfl, _, _, rfl, rfl, (by show (0 : Int) < _; decide), ?_⟩
   generalize hy : (x * x + 48271 * x) % 1000000007 = y
   have y0 : 0 ≤ y := hy ▸ Int.emod_nonneg _ (by decide)
   have y1 : y < 1000000007 := hy ▸ Int.emod_lt_of_pos _ (by decide)
   refine ⟨_, rfl, _, _, rfl, rfl, ⟨⟨by omega, by omega⟩, by decide, by decide⟩, _, _, rfl, rfl, (by show (0 : Int) < _; decide), _, _, rfl, rfl, ⟨by decide, by decide⟩, _, rfl, _, _, rfl, rfl, hm, ?_⟩
   exact q _ _ (Int.emod_nonneg _ (by omega)) (Int.emod_lt_of_pos _ hm) ⟨a, d + 1, c, hp1, a0, a1, by omega, by omega⟩ ((Oth.refl p H).upd _)
def spPick : Sp := fun vs H Q _ => ∃ (p : Addr) (many b : Int), vs = [.ref p, .int many] ∧ 0 < many ∧ many ≤ 10 ^ 50 ∧ HandAt H p b ∧ b ≤ 1000000000 ∧
  ∀ (r : Int) (H' : Hp), 0 ≤ r → r < many → HandAt H' p (b + 1024) → Oth p H H' → Q (.int r) H'
theorem ok_pick (D : Dat K mg "_law_pick" "_law_pick" (top 38) ["_law_hand_here", "_law_many_here"]) (NE : NoErr CX) : Cal P w K mg base CX "_law_pick" 11 ["_law_hand_here", "_law_many_here"] spPick :=
 (ok_pickN D NE 11).imp fun vs H Q E ⟨p, many, b, e, h1, h2, hh, hb, q⟩ => ⟨p, many, b, e, h1, Int.le_trans h2 (by decide), hh, (by show b + 1024 ≤ 1152921504606846976; omega), by decide, q⟩

end
end Law

namespace Law
open PySem PySem.Spec PyProof.Rows L2 L3 L4
def HandO (n : Int) : Ob := ⟨fun _ o => ∃ a b c : Int, o = .lst [.int a, .int b, .int c] ∧ 0 ≤ a ∧ a < 10 ^ 121 ∧ 0 ≤ b ∧ b ≤ n, fun _ h => h⟩
theorem HandO.at {n : Int} {H : Hp} {p : Addr} (h : ∃ o, H p = some o ∧ (HandO n).p H o) : HandAt H p n := by
 obtain ⟨o, e, a, b, c, rfl, r⟩ := h
 exact ⟨a, b, c, e, r⟩
theorem HandAt.ob {n : Int} {H : Hp} {p : Addr} (h : HandAt H p n) : ∃ o, H p = some o ∧ (HandO n).p H o := by
 obtain ⟨a, b, c, e, r⟩ := h
 exact ⟨_, e, a, b, c, rfl, r⟩
theorem HandAt.ts {n : Int} {H H' : Hp} {p : Addr} (h : HandAt H p n) (o : Oth p H H') : Chg p H H' := by
 obtain ⟨a, b, c, e, _⟩ := h
 exact ⟨o, fun q xs hq => o q _ hq fun z => by rw [z, e] at hq; cases hq⟩
section
variable {K : PySem.W.Frag} {P : Addr → Prop} {H0 H : Hp} {l l' : List (Addr × Ob)} {fs : List Pr} {p : Addr} {Q : VK} {E : XK}
theorem use_hand {a : Addr} {ns : List Int} {k : Int} (L : Led P H0 H l fs) (hS : SqL K H a (ns.map V.int)) (h63 : ns.length ≤ 63) (h0 : 0 ≤ k)
  (q : ∀ p H', H p = none → Led P H0 H' ((p, HandO 0) :: l) fs → Same H H' → Q (.ref p) H') : spHand K [.ref a, .int k] H Q E :=
 ⟨a, ns, k, rfl, hS, h63, h0, fun p H' np hh s => q p H' np ⟨fun x hx => by
   rcases List.mem_cons.mp hx with rfl | hx
   ·exact hh.ob
   ·exact (L.keep s).at_ x hx,
  by
   rw [List.map_cons, List.nodup_cons]
   refine ⟨fun z => ?_, L.nd⟩
   obtain ⟨x, hx, e⟩ := List.mem_map.mp z
   exact (L.fresh np).1 x hx e,
  fun x hx => by
   rcases List.mem_cons.mp hx with rfl | hx
   ·exact (L.fresh np).2
   ·exact L.own x hx, (L.keep s).fr, (L.keep s).st⟩ s⟩
theorem use_pick {many b : Int} (L : Led P H0 H l fs) (m : Put p (HandO b) (HandO (b + 1024)) l l') (h0 : 0 < many) (h1 : many ≤ 10 ^ 50) (hb : b ≤ 1000000000)
  (q : ∀ r H', 0 ≤ r → r < many → Led P H0 H' l' fs → Chg p H H' → Q (.int r) H') : spPick [.ref p, .int many] H Q E :=
 have hh := HandO.at (L.at_ _ m.mem)
 ⟨p, many, b, rfl, h0, h1, hh, hb, fun r H' r0 r1 hh' o => q r H' r0 r1 (L.set m (hh.ts o) hh'.ob) (hh.ts o)⟩
theorem led_hand {b : Int} (h : HandAt H p b) : Led (· = p) H H [(p, HandO b)] [] :=
 ⟨fun x hx => by rw [List.mem_singleton.mp hx]; exact h.ob, by simp, fun x hx => .inl (by rw [List.mem_singleton.mp hx]), fun _ _ h _ => h, fun _ h => by simp at h⟩
end
end Law

namespace Law
open PySem PySem.Spec PyProof.Rows L2 L3 L4
structure ShN (c s : Int) : Prop where
 c1 : 1 ≤ c
 c2 : c ≤ 1000
 s1 : 1 ≤ s
 s2 : s ≤ 1000
theorem cs_ne : ¬ (("counts" : Str) = "slots") := by decide +kernel
def shF (c s : Int) : List (Str × V) := [("counts", .int c), ("slots", .int s)]
theorem shF_put (c s : Int) : putF "slots" (.int s) (putF "counts" (.int c) []) = shF c s := by
 show (if ("counts" : Str) = "slots" then _ else (("counts" : Str), V.int c) :: [(("slots" : Str), V.int s)]) = _
 rw [if_neg cs_ne]
 rfl
theorem shF_c (c s : Int) : (shF c s).lookup ("counts" : Str) = some (.int c) := by unfold shF; walk_at "lk"
theorem shF_s (c s : Int) : (shF c s).lookup ("slots" : Str) = some (.int s) := by unfold shF; walk_at "lk"
def ShapeO (C : Addr) (c s : Int) : Ob := ⟨fun _ o => ∃ dx, o = .ins C dx (shF c s), fun _ h => h⟩
structure ShC (K : PySem.W.Frag) (C : Addr) : Prop where
 cl : Cls K C
 nc : NoAttr K C "counts"
 ns : NoAttr K C "slots"
section
variable {P : Program} {w : World} {K : PySem.W.Frag} {mg : Str → Option Value} {base : Heap} {CX : CXT} {C : Addr}
theorem sc_whole : FnScope ["thing"] ["thing"] (defScope (top 10)) := by walk_at "s"
def spWholeI : Sp := fun vs H Q _ => ∃ i : Int, vs = [.int i] ∧ Q (.bl true) H
theorem g_isiI {H : Hp} {Q : VK} {x : V} {t : Value} {T : String} {b : Bool} (ty : TyOf K H x t) (e : PySem.W.kitOne K t (.type T) = some b) (h : Q (.bl b) H) : rIsi K [x, .ty T] H Q := ⟨x, _, t, b, rfl, ty, .inl ⟨T, rfl, e⟩, h⟩
theorem ok_whole (D : Dat K mg "is_whole" "is_whole" (top 10) ["thing"]) (BT : Bt mg) : Cal P w K mg base CX "is_whole" 1 ["thing"] spWholeI := by
 have S := sc_whole
 walk_at "d"
 ·obtain ⟨i, rfl, _⟩ := h
  rfl
 obtain ⟨i, rfl, q⟩ := h
 refine ⟨_, (@pss_one _ _ _ (@ps_ret _ _ _ _ (@pe_and _ _ _ _ _ _ _ (@pe_isi _ _ _ _ _ _ _ _ BT.isinstance BT.int_ L3.bt_int (@pv _ 0 _ _ (by rfl) (by first | exact Or.inl rfl | exact Or.inr (Or.inl rfl) | exact Or.inr (Or.inr rfl)) (by decide) (by decide)) (by rfl) (by rfl) (by decide) (by decide) (by rfl) (by rfl) (by rfl)) (@pe_one _ _ _ _ _ (@pe_not _ _ _ _ (@pe_isi _ _ _ _ _ _ _ _ BT.isinstance BT.bool_ L3.bt_bool (@pv _ 0 _ _ (by rfl) (by first | exact Or.inl rfl | exact Or.inr (Or.inl rfl) | exact Or.inr (Or.inr rfl)) (by decide) (by decide)) (by rfl) (by rfl) (by decide) (by decide) (by rfl) (by rfl) (by rfl))))))), ?_⟩
 dsimp only [cxOf]
 walk_at "go"
 refine g_isiI (.int i) rfl ?_
 walk_at "go"
 refine g_isiI (.int i) rfl ?_
 walk_at "go"
 exact q
theorem sc_from : FnScope ["thing", "least"] ["thing", "least"] (defScope (top 11)) := by walk_at "s"
def spFromI : Sp := fun vs H Q _ => ∃ i n : Int, vs = [.int i, .int n] ∧ Q (.bl (decide (n ≤ i))) H
theorem ok_from (D : Dat K mg "is_whole_from" "is_whole_from" (top 11) ["thing", "least"]) (NE : NoErr CX) (c_is_whole : Cal P w K mg base CX "is_whole" 1 ["thing"] spWholeI) : Cal P w K mg base CX "is_whole_from" 2 ["thing", "least"] spFromI := by
 have S := sc_from
 walk_at "d"
 ·obtain ⟨i, n, rfl, _⟩ := h
  rfl
 obtain ⟨i, n, rfl, q⟩ := h
 refine ⟨_, (@pss_one _ _ _ (@ps_ret _ _ _ _ (@pe_and _ _ _ _ _ _ _ (@pe_fn _ _ _ _ _ _ _ _ _ _ _ _ c_is_whole (hr.mono (by first | decide | omega)) NE.pass (@pa_cons _ _ _ _ _ (@pv _ 0 _ _ (by rfl) (by first | exact Or.inl rfl | exact Or.inr (Or.inl rfl) | exact Or.inr (Or.inr rfl)) (by decide) (by decide)) (@pa_nil _) (by rfl)) (by rfl) (by decide) (by rfl) (by rfl)) (@pe_one _ _ _ _ _ (@pe_cmpR _ _ _ _ _ _ _ _ (@op_le _) (@pv _ 1 _ _ (by rfl) (by first | exact Or.inl rfl | exact Or.inr (Or.inl rfl) | exact Or.inr (Or.inr rfl)) (by decide) (by decide)) (@pv _ 0 _ _ (by rfl) (by first | exact Or.inl rfl | exact Or.inr (Or.inl rfl) | exact Or.inr (Or.inr rfl)) (by decide) (by decide)) (@nomark _ _ (by decide) (by decide))))))), ?_⟩
 walk_at "go"
 refine ⟨i, rfl, ?_⟩
 walk_at "go"
 exact q
theorem sc_side : FnScope ["thing"] ["thing"] (defScope (top 12)) := by walk_at "s"
def spSide : Sp := fun vs H Q _ => ∃ i : Int, vs = [.int i] ∧ 1 ≤ i ∧ i ≤ 1000 ∧ Q (.bl true) H
theorem ok_side (D : Dat K mg "is_side" "is_side" (top 12) ["thing"]) (NE : NoErr CX) (g_GREATEST_SIDE : GlV mg "GREATEST_SIDE" (.int 1000)) (c_is_whole_from : Cal P w K mg base CX "is_whole_from" 2 ["thing", "least"] spFromI) : Cal P w K mg base CX "is_side" 3 ["thing"] spSide := by
 have S := sc_side
 walk_at "d"
 ·obtain ⟨i, rfl, _⟩ := h
  rfl
 obtain ⟨i, rfl, h1, h2, q⟩ := h
 refine ⟨_, (@pss_one _ _ _ (@ps_ret _ _ _ _ (@pe_and _ _ _ _ _ _ _ (@pe_fn _ _ _ _ _ _ _ _ _ _ _ _ c_is_whole_from (hr.mono (by first | decide | omega)) NE.pass (@pa_cons _ _ _ _ _ (@pv _ 0 _ _ (by rfl) (by first | exact Or.inl rfl | exact Or.inr (Or.inl rfl) | exact Or.inr (Or.inr rfl)) (by decide) (by decide)) (@pa_cons _ _ _ _ _ (@pe_int _ _ _ _) (@pa_nil _) (by rfl)) (by rfl)) (by rfl) (by decide) (by rfl) (by rfl)) (@pe_one _ _ _ _ _ (@pe_cmpR _ _ _ _ _ _ _ _ (@op_le _) (@pv _ 0 _ _ (by rfl) (by first | exact Or.inl rfl | exact Or.inr (Or.inl rfl) | exact Or.inr (Or.inr rfl)) (by decide) (by decide)) (@pe_g _ _ _ _ g_GREATEST_SIDE (by rfl) (by decide)) (@nomark _ _ (by decide) (by decide))))))), ?_⟩
 walk_at "go"
 refine ⟨i, 1, rfl, ?_⟩
 rw [decide_eq_true h1]
 walk_at "go"
 rw [decide_eq_true h2]
 exact q
theorem sc_shape : FnScope ["self", "counts", "slots"] ["self", "counts", "slots"] (defScope (inClass (top 13) 0)) := by walk_at "s"
def spShape (C : Addr) : Sp := fun vs H Q _ => ∃ (p dx : Addr) (c s : Int), vs = [.ref p, .int c, .int s] ∧ ShN c s ∧ H p = some (.ins C dx []) ∧ ∀ H', H' p = some (.ins C dx (shF c s)) → (∀ q o, H q = some o → q ≠ p → H' q = some o) → Q .non H'
theorem ok_shape (D : CDat K mg "Shape" "Shape.__init__" C (inClass (top 13) 0) ["self", "counts", "slots"]) (SC : ShC K C) (NE : NoErr CX) (c_is_side : Cal P w K mg base CX "is_side" 3 ["thing"] spSide) : Mak P w K mg base CX "Shape" C 4 ["self", "counts", "slots"] (spShape C) := by
 have S := sc_shape
 walk_at "d"
 ·obtain ⟨p, dx, c, s, rfl, _⟩ := h
  rfl
 obtain ⟨p, dx, c, sl, rfl, n, hp, q⟩ := h
 refine ⟨_, (@pss_cons _ _ _ _ _ (@ps_if _ _ _ _ _ _ _ _ (@PW.pt _ _ _ (@pw_or _ _ _ _ _ _ _ (@pt_not _ _ _ _ (@pt_val _ _ _ (@pe_fn _ _ _ _ _ _ _ _ _ _ _ _ c_is_side (hr.mono (by first | decide | omega)) NE.pass (@pa_cons _ _ _ _ _ (@pv _ 1 _ _ (by rfl) (by first | exact Or.inl rfl | exact Or.inr (Or.inl rfl) | exact Or.inr (Or.inr rfl)) (by decide) (by decide)) (@pa_nil _) (by rfl)) (by rfl) (by decide) (by rfl) (by rfl)) (by intro _; rfl))) (@pw_or1 _ _ _ _ (@pt_not _ _ _ _ (@pt_val _ _ _ (@pe_fn _ _ _ _ _ _ _ _ _ _ _ _ c_is_side (hr.mono (by first | decide | omega)) NE.pass (@pa_cons _ _ _ _ _ (@pv _ 2 _ _ (by rfl) (by first | exact Or.inl rfl | exact Or.inr (Or.inl rfl) | exact Or.inr (Or.inr rfl)) (by decide) (by decide)) (@pa_nil _) (by rfl)) (by rfl) (by decide) (by rfl) (by rfl)) (by intro _; rfl)))))) (@pss_one _ _ _ (@ps_never _ _)) (@pss_nil _)) (@pss_cons _ _ _ _ _ (@ps_fld _ _ _ _ _ _ _ _ (@pv _ 0 _ _ (by rfl) (by first | exact Or.inl rfl | exact Or.inr (Or.inl rfl) | exact Or.inr (Or.inr rfl)) (by decide) (by decide)) (@pv _ 1 _ _ (by rfl) (by first | exact Or.inl rfl | exact Or.inr (Or.inl rfl) | exact Or.inr (Or.inr rfl)) (by decide) (by decide)) rfl) (@pss_one _ _ _ (@ps_fld _ _ _ _ _ _ _ _ (@pv _ 0 _ _ (by rfl) (by first | exact Or.inl rfl | exact Or.inr (Or.inl rfl) | exact Or.inr (Or.inr rfl)) (by decide) (by decide)) (@pv _ 2 _ _ (by rfl) (by first | exact Or.inl rfl | exact Or.inr (Or.inl rfl) | exact Or.inr (Or.inr rfl)) (by decide) (by decide)) rfl)))), ?_⟩
 dsimp only [cxOf]
 walk_at "go"
 refine ⟨c, rfl, n.c1, n.c2, ?_⟩
 walk_at "go"
 refine ⟨sl, rfl, n.s1, n.s2, ?_⟩
 walk_at "go"
 refine ⟨p, C, dx, [], rfl, hp, SC.cl, SC.nc, by decide, ?_⟩
 walk_at "go"
 refine ⟨p, C, dx, _, rfl, upd_same, SC.cl, SC.ns, (by show 1 < 1000; decide), ?_⟩
 rw [upd_upd, shF_put]
 exact q _ upd_same fun x o h z => by rw [upd_ne z]; exact h
theorem use_shape {PP : Addr → Prop} {H0 H : Hp} {l : List (Addr × Ob)} {fs : List Pr} {Q : VK} {E : XK} {c s : Int} (L : Led PP H0 H l fs) (n : ShN c s) (q : ∀ x H', H x = none → Led PP H0 H' ((x, ShapeO C c s) :: l) fs → Same H H' → Q (.ref x) H') : Made C (spShape C) E [.int c, .int s] H Q := by
 intro x dx nx nd ne
 refine ⟨x, dx, c, s, rfl, n, upd_same, fun H' h1 h2 => ⟨rfl, ?_⟩⟩
 have sm : Same H H' := fun b o e => h2 b o (by rw [upd_ne (ne_of_none e nx), upd_ne (ne_of_none e nd)]; exact e) (ne_of_none e nx)
 exact q x H' nx (L.add sm nx ⟨_, h1, dx, rfl⟩) sm
def mk (c s m l k : Int) : Int := (m * s + l) * c + k
def ShAt (C : Addr) (H : Hp) (p : Addr) (c s : Int) : Prop := ∃ dx, H p = some (.ins C dx (shF c s))
theorem sc_parts : FnScope ["shape", "mark", "count", "rest"] ["shape", "mark"] (defScope (top 14)) := by walk_at "s"
def spParts (C : Addr) : Sp := fun vs H Q _ => ∃ (p : Addr) (c s m : Int), vs = [.ref p, .int m] ∧ ShN c s ∧ ShAt C H p c s ∧ 0 ≤ m ∧
 ∀ t H', H t = none → H' t = some (.tup [.int (m / c / s), .int (m / c % s), .int (m % c)]) → Same H H' → Q (.ref t) H'
theorem ok_parts (D : Dat K mg "parts_of" "parts_of" (top 14) ["shape", "mark"]) (SC : ShC K C) : Cal P w K mg base CX "parts_of" 1 ["shape", "mark"] (spParts C) := by
 have S := sc_parts
 walk_at "d"
 ·obtain ⟨p, c, s, m, rfl, _⟩ := h
  rfl
 obtain ⟨p, c, sl, m, rfl, n, ⟨dx, hp⟩, m0, q⟩ := h
 obtain ⟨c1, c2, s1, s2⟩ := n
 refine ⟨_, (@pss_cons _ _ _ _ _ (@ps_set _ _ 2 _ _ _ _ S.nd rfl (by first | exact Or.inl rfl | exact Or.inr rfl) (@pe_op _ _ _ _ _ _ _ _ (@op_mod _) (@pv _ 1 _ _ (by rfl) (by first | exact Or.inl rfl | exact Or.inr (Or.inl rfl) | exact Or.inr (Or.inr rfl)) (by decide) (by decide)) (@pe_fld _ _ _ _ _ (@pv _ 0 _ _ (by rfl) (by first | exact Or.inl rfl | exact Or.inr (Or.inl rfl) | exact Or.inr (Or.inr rfl)) (by decide) (by decide)) rfl)) (by rfl) (by first | exact .inl rfl | exact .inr rfl | assumption)) (@pss_cons _ _ _ _ _ (@ps_set _ _ 3 _ _ _ _ S.nd rfl (by first | exact Or.inl rfl | exact Or.inr rfl) (@pe_op _ _ _ _ _ _ _ _ (@op_fdivB _) (@pv _ 1 _ _ (by rfl) (by first | exact Or.inl rfl | exact Or.inr (Or.inl rfl) | exact Or.inr (Or.inr rfl)) (by decide) (by decide)) (@pe_fld _ _ _ _ _ (@pv _ 0 _ _ (by rfl) (by first | exact Or.inl rfl | exact Or.inr (Or.inl rfl) | exact Or.inr (Or.inr rfl)) (by decide) (by decide)) rfl)) (by rfl) (by first | exact .inl rfl | exact .inr rfl | assumption)) (@pss_one _ _ _ (@ps_ret _ _ _ _ (@pe_tup _ _ _ _ _ (@pa_cons _ _ _ _ _ (@pe_op _ _ _ _ _ _ _ _ (@op_fdivB _) (@pv _ 3 _ _ (by rfl) (by first | exact Or.inl rfl | exact Or.inr (Or.inl rfl) | exact Or.inr (Or.inr rfl)) (by decide) (by decide)) (@pe_fld _ _ _ _ _ (@pv _ 0 _ _ (by rfl) (by first | exact Or.inl rfl | exact Or.inr (Or.inl rfl) | exact Or.inr (Or.inr rfl)) (by decide) (by decide)) rfl)) (@pa_cons _ _ _ _ _ (@pe_op _ _ _ _ _ _ _ _ (@op_mod _) (@pv _ 3 _ _ (by rfl) (by first | exact Or.inl rfl | exact Or.inr (Or.inl rfl) | exact Or.inr (Or.inr rfl)) (by decide) (by decide)) (@pe_fld _ _ _ _ _ (@pv _ 0 _ _ (by rfl) (by first | exact Or.inl rfl | exact Or.inr (Or.inl rfl) | exact Or.inr (Or.inr rfl)) (by decide) (by decide)) rfl)) (@pa_cons _ _ _ _ _ (@pv _ 2 _ _ (by rfl) (by first | exact Or.inl rfl | exact Or.inr (Or.inl rfl) | exact Or.inr (Or.inr rfl)) (by decide) (by decide)) (@pa_nil _) (by rfl)) (by rfl)) (by rfl))))))), ?_⟩
 dsimp only [cxOf]
 have L := Led.start H (fun _ => False)
 walk_at "go"
 refine ⟨p, C, dx, _, _, rfl, hp, SC.cl, SC.nc, shF_c c sl, ?_⟩
 walk_at "go"
 refine ⟨p, C, dx, _, _, rfl, hp, SC.cl, SC.nc, shF_c c sl, ?_⟩
 walk_at "go"
 refine ⟨p, C, dx, _, _, rfl, hp, SC.cl, SC.ns, shF_s c sl, ?_⟩
 walk_at "go"
 refine ⟨p, C, dx, _, _, rfl, hp, SC.cl, SC.ns, shF_s c sl, ?_⟩
 walk_at "go"
 exact q _ _ n' (L'.tup (by walk_at "mem")) (by assumption)
end
end Law

namespace Law
open PySem PySem.Spec PyProof.Rows L2 L3 L4
def ruleW : List Str := ["ahead", "apart", "ends", "once", "spoken"]
structure RuN (ws : List Str) : Prop where
 sub : ∀ x ∈ ws, x ∈ ruleW
 nd : ws.Nodup
def stF (sh : V) (far room term : Int) (tr : Addr) : List (Str × V) := [("shape", sh), ("far", .int far), ("room", .int room), ("term", .int term), ("rules", .ref tr)]
structure StC (K : PySem.W.Frag) (C : Addr) : Prop where
 cl : Cls K C
 n1 : NoAttr K C "shape"
 n2 : NoAttr K C "far"
 n3 : NoAttr K C "room"
 n4 : NoAttr K C "term"
 n5 : NoAttr K C "rules"
structure StN (far room term : Int) : Prop where
 f0 : 0 ≤ far
 f1 : far ≤ 1000000000000
 r0 : 1 ≤ room
 r1 : room ≤ 1000000000000
 t0 : 1 ≤ term
 t1 : term ≤ 1000000000000
theorem stF_put (sh : V) (far room term : Int) (tr : Addr) : putF "rules" (.ref tr) (putF "term" (.int term) (putF "room" (.int room) (putF "far" (.int far) (putF "shape" sh [])))) = stF sh far room term tr := by
 have a1 : ¬ (("shape" : Str) = "far") := by decide +kernel
 have a2 : ¬ (("shape" : Str) = "room") := by decide +kernel
 have a3 : ¬ (("shape" : Str) = "term") := by decide +kernel
 have a4 : ¬ (("shape" : Str) = "rules") := by decide +kernel
 have b2 : ¬ (("far" : Str) = "room") := by decide +kernel
 have b3 : ¬ (("far" : Str) = "term") := by decide +kernel
 have b4 : ¬ (("far" : Str) = "rules") := by decide +kernel
 have c3 : ¬ (("room" : Str) = "term") := by decide +kernel
 have c4 : ¬ (("room" : Str) = "rules") := by decide +kernel
 have d4 : ¬ (("term" : Str) = "rules") := by decide +kernel
 simp only [putF, if_neg a1, if_neg a2, if_neg a3, if_neg a4, if_neg b2, if_neg b3, if_neg b4, if_neg c3, if_neg c4, if_neg d4]
 rfl
theorem putF_len (f : Str) (v : V) : ∀ fs : List (Str × V), (putF f v fs).length ≤ fs.length + 1
 | [] => Nat.le_refl 1
 | (g, x) :: r => by
  show (if g = f then (g, v) :: r else (g, x) :: putF f v r).length ≤ _
  have := putF_len f v r
  by_cases c : g = f
  ·rw [if_pos c, List.length_cons, List.length_cons]; omega
  ·rw [if_neg c, List.length_cons, List.length_cons]; omega
theorem stF_rules (sh : V) (far room term : Int) (tr : Addr) : (stF sh far room term tr).lookup ("rules" : Str) = some (.ref tr) := by unfold stF; walk_at "lk"
theorem stF_shape (sh : V) (far room term : Int) (tr : Addr) : (stF sh far room term tr).lookup ("shape" : Str) = some sh := by unfold stF; walk_at "lk"
theorem stF_term (sh : V) (far room term : Int) (tr : Addr) : (stF sh far room term tr).lookup ("term" : Str) = some (.int term) := by unfold stF; walk_at "lk"
section
variable {P : Program} {w : World} {K : PySem.W.Frag} {mg : Str → Option Value} {base : Heap} {CX : CXT} {C aR : Addr}
theorem sc_span : FnScope ["thing", "least"] ["thing", "least"] (defScope (top 25)) := by walk_at "s"
def spSpan : Sp := fun vs H Q _ => ∃ i n : Int, vs = [.int i, .int n] ∧ n ≤ i ∧ i ≤ 1000000000000 ∧ Q (.bl true) H
theorem ok_span (D : Dat K mg "is_span" "is_span" (top 25) ["thing", "least"]) (NE : NoErr CX) (g_GREATEST_SPAN : GlV mg "GREATEST_SPAN" (.int 1000000000000)) (c_is_whole_from : Cal P w K mg base CX "is_whole_from" 2 ["thing", "least"] spFromI) : Cal P w K mg base CX "is_span" 3 ["thing", "least"] spSpan := by
 have S := sc_span
 walk_at "d"
 ·obtain ⟨i, n, rfl, _⟩ := h
  rfl
 obtain ⟨i, n, rfl, h1, h2, q⟩ := h
 refine ⟨_, (@pss_one _ _ _ (@ps_ret _ _ _ _ (@pe_and _ _ _ _ _ _ _ (@pe_fn _ _ _ _ _ _ _ _ _ _ _ _ c_is_whole_from (hr.mono (by first | decide | omega)) NE.pass (@pa_cons _ _ _ _ _ (@pv _ 0 _ _ (by rfl) (by first | exact Or.inl rfl | exact Or.inr (Or.inl rfl) | exact Or.inr (Or.inr rfl)) (by decide) (by decide)) (@pa_cons _ _ _ _ _ (@pv _ 1 _ _ (by rfl) (by first | exact Or.inl rfl | exact Or.inr (Or.inl rfl) | exact Or.inr (Or.inr rfl)) (by decide) (by decide)) (@pa_nil _) (by rfl)) (by rfl)) (by rfl) (by decide) (by rfl) (by rfl)) (@pe_one _ _ _ _ _ (@pe_cmpR _ _ _ _ _ _ _ _ (@op_le _) (@pv _ 0 _ _ (by rfl) (by first | exact Or.inl rfl | exact Or.inr (Or.inl rfl) | exact Or.inr (Or.inr rfl)) (by decide) (by decide)) (@pe_g _ _ _ _ g_GREATEST_SPAN (by rfl) (by decide)) (@nomark _ _ (by decide) (by decide))))))), ?_⟩
 try dsimp only [cxOf]
 walk_at "go"
 refine ⟨i, n, rfl, ?_⟩
 rw [decide_eq_true h1]
 walk_at "go"
 rw [decide_eq_true h2]
 exact q
theorem sc_rule : FnScope ["thing"] ["thing"] (defScope (top 26)) := by walk_at "s"
def spRule : Sp := fun vs H Q _ => ∃ z : Str, vs = [.str z] ∧ z ∈ ruleW ∧ Q (.bl true) H
theorem ok_rule (D : Dat K mg "is_rule" "is_rule" (top 26) ["thing"]) (BT : Bt mg) (g_RULES : GlV mg "RULES" (.ref aR)) (hR : ∀ H, SqT K H aR (ruleW.map V.str)) : Cal P w K mg base CX "is_rule" 1 ["thing"] spRule := by
 have S := sc_rule
 walk_at "d"
 ·obtain ⟨z, rfl, _⟩ := h
  rfl
 obtain ⟨z, rfl, hz, q⟩ := h
 refine ⟨_, (@pss_one _ _ _ (@ps_ret _ _ _ _ (@pe_and _ _ _ _ _ _ _ (@pe_isi _ _ _ _ _ _ _ _ BT.isinstance BT.str_ L3.bt_str (@pv _ 0 _ _ (by rfl) (by first | exact Or.inl rfl | exact Or.inr (Or.inl rfl) | exact Or.inr (Or.inr rfl)) (by decide) (by decide)) (by rfl) (by rfl) (by decide) (by decide) (by rfl) (by rfl) (by rfl)) (@pe_one _ _ _ _ _ (@pe_cmpR _ _ _ _ _ _ _ _ (@op_in_seq _) (@pv _ 0 _ _ (by rfl) (by first | exact Or.inl rfl | exact Or.inr (Or.inl rfl) | exact Or.inr (Or.inr rfl)) (by decide) (by decide)) (@pe_g _ _ _ _ g_RULES (by rfl) (by decide)) (by with_unfolding_all rfl)))))), ?_⟩
 try dsimp only [cxOf]
 walk_at "go"
 refine g_isiI (.str z) rfl ?_
 walk_at "go"
 refine g_inT (hR _) ?_
 rw [decide_eq_true hz]
 exact q
theorem sc_rules : FnScope ["thing"] ["thing"] (defScope (top 27)) := by walk_at "s"
theorem ru_len {ws : List Str} (h : RuN ws) : ws.length ≤ 5 := by
 have : ∀ (xs ys : List Str), xs.Nodup → (∀ x ∈ xs, x ∈ ys) → xs.length ≤ ys.length := by
  intro xs
  induction xs with
  | nil => intro ys _ _; exact Nat.zero_le _
  | cons x xs ih =>
   intro ys hn hs
   rw [List.nodup_cons] at hn
   have hx := hs x List.mem_cons_self
   have := ih (ys.erase x) hn.2 fun y hy => (List.mem_erase_of_ne (fun e => hn.1 (by rw [← e]; exact hy))).mpr (hs y (List.mem_cons_of_mem _ hy))
   rw [List.length_erase_of_mem hx] at this
   have hp := List.length_pos_of_mem hx
   rw [List.length_cons]; omega
 exact this ws ruleW h.nd h.sub
theorem sc_settings : FnScope ["self", "shape", "far", "room", "term", "rules"] ["self", "shape", "far", "room", "term", "rules"] (defScope (inClass (top 28) 0)) := by walk_at "s"
end
end Law

namespace Law
open PySem PySem.Spec PyProof.Rows L2 L3 L4
def tup3 (H : Hp) (t : Addr) (x y z : Int) : Prop := H t = some (.tup [.int x, .int y, .int z])
section
variable {P : Program} {w : World} {K : PySem.W.Frag} {mg : Str → Option Value} {base : Heap} {CX : CXT} {C : Addr}
theorem sc_slot_of : FnScope ["area"] ["area"] (defScope (top 16)) := by walk_at "s"
def spAt0 : Sp := fun vs H Q _ => ∃ (t : Addr) (x y z : Int), vs = [.ref t] ∧ tup3 H t x y z ∧ Q (.int x) H
def spAt1 : Sp := fun vs H Q _ => ∃ (t : Addr) (x y z : Int), vs = [.ref t] ∧ tup3 H t x y z ∧ Q (.int y) H
def spAt2 : Sp := fun vs H Q _ => ∃ (t : Addr) (x y z : Int), vs = [.ref t] ∧ tup3 H t x y z ∧ Q (.int z) H
theorem ok_slot_of (D : Dat K mg "slot_of" "slot_of" (top 16) ["area"]) : Cal P w K mg base CX "slot_of" 1 ["area"] spAt0 := by
 have S := sc_slot_of
 walk_at "d"
 ·obtain ⟨t, x, y, z, rfl, _⟩ := h
  rfl
 obtain ⟨t, x, y, z, rfl, ht, q⟩ := h
 refine ⟨_, (@pss_one _ _ _ (@ps_ret _ _ _ _ (@pe_ix _ _ _ _ _ _ _ (@ix_tup _) (@pv _ 0 _ _ (by rfl) (by first | exact Or.inl rfl | exact Or.inr (Or.inl rfl) | exact Or.inr (Or.inr rfl)) (by decide) (by decide)) (@pe_int _ _ _ _) (fun _ _ => rfl)))), ?_⟩
 dsimp only [cxOf]
 have L := (Led.start H (fun _ => False)).more (tupAt t [.int x, .int y, .int z]) ht
 walk_at "go"
 exact q
theorem sc_first_of : FnScope ["area"] ["area"] (defScope (top 17)) := by walk_at "s"
theorem ok_first_of (D : Dat K mg "first_of" "first_of" (top 17) ["area"]) : Cal P w K mg base CX "first_of" 1 ["area"] spAt1 := by
 have S := sc_first_of
 walk_at "d"
 ·obtain ⟨t, x, y, z, rfl, _⟩ := h
  rfl
 obtain ⟨t, x, y, z, rfl, ht, q⟩ := h
 refine ⟨_, (@pss_one _ _ _ (@ps_ret _ _ _ _ (@pe_ix _ _ _ _ _ _ _ (@ix_tup _) (@pv _ 0 _ _ (by rfl) (by first | exact Or.inl rfl | exact Or.inr (Or.inl rfl) | exact Or.inr (Or.inr rfl)) (by decide) (by decide)) (@pe_int _ _ _ _) (fun _ _ => rfl)))), ?_⟩
 dsimp only [cxOf]
 have L := (Led.start H (fun _ => False)).more (tupAt t [.int x, .int y, .int z]) ht
 walk_at "go"
 exact q
theorem sc_end_of : FnScope ["area"] ["area"] (defScope (top 18)) := by walk_at "s"
theorem ok_end_of (D : Dat K mg "end_of" "end_of" (top 18) ["area"]) : Cal P w K mg base CX "end_of" 1 ["area"] spAt2 := by
 have S := sc_end_of
 walk_at "d"
 ·obtain ⟨t, x, y, z, rfl, _⟩ := h
  rfl
 obtain ⟨t, x, y, z, rfl, ht, q⟩ := h
 refine ⟨_, (@pss_one _ _ _ (@ps_ret _ _ _ _ (@pe_ix _ _ _ _ _ _ _ (@ix_tup _) (@pv _ 0 _ _ (by rfl) (by first | exact Or.inl rfl | exact Or.inr (Or.inl rfl) | exact Or.inr (Or.inr rfl)) (by decide) (by decide)) (@pe_int _ _ _ _) (fun _ _ => rfl)))), ?_⟩
 dsimp only [cxOf]
 have L := (Led.start H (fun _ => False)).more (tupAt t [.int x, .int y, .int z]) ht
 walk_at "go"
 exact q
end
end Law

namespace Law
open PySem PySem.Spec PyProof.Rows L2 L3 L4
structure Gr where
 g : Addr
 ar : Addr
 n : Int
 nm : Str
 sl : Int
 f : Int
 e : Int
def GrAt (H : Hp) (x : Gr) : Prop := H x.g = some (.tup [.int x.n, .str x.nm, .ref x.ar]) ∧ tup3 H x.ar x.sl x.f x.e
theorem GrAt.ts {H H' : Hp} {x : Gr} (h : GrAt H x) (s : TSame H H') : GrAt H' x := ⟨s _ _ h.1, s _ _ h.2⟩
theorem GrAt.same {H H' : Hp} {x : Gr} (h : GrAt H x) (s : Same H H') : GrAt H' x := ⟨s _ _ h.1, s _ _ h.2⟩
def grV (gs : List Gr) : List V := gs.map fun x => .ref x.g
theorem grV_len (gs : List Gr) : (grV gs).length = gs.length := List.length_map ..
theorem grV_get {gs : List Gr} {i : Nat} {v : V} (h : (grV gs)[i]? = some v) : ∃ x, gs[i]? = some x ∧ v = .ref x.g := by
 unfold grV at h
 rw [List.getElem?_map] at h
 cases e : gs[i]? with
 | none => rw [e] at h; cases h
 | some x => rw [e] at h; cases h; exact ⟨x, rfl, rfl⟩
def GrsAt (H : Hp) (gs : List Gr) : Prop := ∀ x ∈ gs, GrAt H x
theorem GrsAt.same {H H' : Hp} {gs : List Gr} (h : GrsAt H gs) (s : Same H H') : GrsAt H' gs := fun x hx => (h x hx).same s
theorem GrsAt.ts {H H' : Hp} {gs : List Gr} (h : GrsAt H gs) (s : TSame H H') : GrsAt H' gs := fun x hx => (h x hx).ts s
def grD (x : Gr) : Dt := .tup [.int x.n, .str x.nm, .tup [.int x.sl, .int x.f, .int x.e]]
theorem GrAt.at {K : PySem.W.Frag} {H : Hp} {x : Gr} (h : GrAt H x) : At K H (.ref x.g) (grD x) := .tup (SqT.of h.1) (.cons (.int _) (.cons (.str _) (.cons (.tup (SqT.of h.2) (.cons (.int _) (.cons (.int _) (.cons (.int _) .nil)))) .nil)))
theorem grs_ats {K : PySem.W.Frag} {H : Hp} : ∀ {gs : List Gr}, GrsAt H gs → Ats K H (grV gs) (gs.map grD)
 | [], _ => .nil
 | x :: gs, h => .cons (h x List.mem_cons_self).at (grs_ats fun y hy => h y (List.mem_cons_of_mem _ hy))
theorem grs_dep : ∀ (gs : List Gr), deps (gs.map grD) ≤ 2
 | [] => Nat.zero_le _
 | x :: gs => by
  rw [List.map_cons, deps]
  exact Nat.max_le.mpr ⟨by unfold grD; simp [dep, deps], grs_dep gs⟩
theorem grs_at {K : PySem.W.Frag} {H : Hp} {gs : List Gr} {a : Addr} (s : SqL K H a (grV gs)) (h : GrsAt H gs) : At K H (.ref a) (.lst (gs.map grD)) := .lst s (grs_ats h)
theorem grs_dep' (gs : List Gr) : dep (.lst (gs.map grD)) ≤ 100 := by
 rw [dep]; have := grs_dep gs; omega
theorem cut_take {xs : List V} {i : Nat} (h : i ≤ xs.length) : cutV xs none (some (i : Int)) = xs.take i := by
 unfold cutV
 rw [HT.sIx_none, HT.sIx_nat, Nat.min_eq_left h, List.drop_zero, Nat.sub_zero]
end Law

namespace Law
theorem snoc_ind {α : Type} {p : List α → Prop} (nil : p []) (snoc : ∀ (l : List α) (a : α), p l → p (l ++ [a])) (l : List α) : p l := by
 have h : ∀ l : List α, p l.reverse := fun l => by
  induction l with
  | nil => exact nil
  | cons a l ih => rw [List.reverse_cons]; exact snoc _ _ ih
 have := h l.reverse
 rwa [List.reverse_reverse] at this
def endM (gs : List Gr) (s b : Int) : Int := gs.foldl (fun m x => if x.sl = s then max m x.e else m) b
theorem endM_snoc (gs : List Gr) (x : Gr) (s b : Int) : endM (gs ++ [x]) s b = if x.sl = s then max (endM gs s b) x.e else endM gs s b := by
 unfold endM; rw [List.foldl_append]; rfl
theorem endM_ge (gs : List Gr) (s b : Int) : b ≤ endM gs s b := by
 induction gs using snoc_ind with
 | nil => exact Int.le_refl b
 | snoc gs x ih =>
  rw [endM_snoc]
  by_cases c : x.sl = s
  ·rw [if_pos c]; omega
  ·rw [if_neg c]; exact ih
theorem endM_max (gs : List Gr) (s : Int) {b c : Int} (h : c ≤ b) : max (endM gs s c) b = endM gs s b := by
 induction gs using snoc_ind with
 | nil => show max c b = b; omega
 | snoc gs x ih =>
  rw [endM_snoc, endM_snoc]
  by_cases c : x.sl = s
  ·rw [if_pos c, if_pos c, ← ih]; omega
  ·rw [if_neg c, if_neg c]; exact ih
theorem endM_none {gs : List Gr} {s : Int} (b : Int) (h : ∀ x ∈ gs, x.sl ≠ s) : endM gs s b = b := by
 induction gs using snoc_ind with
 | nil => rfl
 | snoc gs x ih =>
  rw [endM_snoc, if_neg (h x (by simp))]
  exact ih fun y hy => h y (by simp [hy])
theorem le_endM {gs : List Gr} {s b : Int} {x : Gr} (hx : x ∈ gs) (h : x.sl = s) : x.e ≤ endM gs s b := by
 induction gs using snoc_ind with
 | nil => cases hx
 | snoc gs y ih =>
  rw [endM_snoc]
  rcases List.mem_append.mp hx with hx | hx
  ·by_cases c : y.sl = s
   ·rw [if_pos c]; have := ih hx; omega
   ·rw [if_neg c]; exact ih hx
  ·rw [← List.mem_singleton.mp hx, if_pos h]; omega
structure NxJ (gs : List Gr) (slots : Nat) (b : Int) (j : Nat) : Prop where
 lt : j < slots
 le : ∀ k : Nat, k < slots → endM gs j b ≤ endM gs k b
 fst : ∀ k : Nat, k < j → endM gs j b < endM gs k b
def Nx (apart : Bool) (gs : List Gr) (slots : Nat) (b s f : Int) : Prop := if apart = true then ∃ j : Nat, NxJ gs slots b j ∧ s = j ∧ f = endM gs j b else s = (gs.length : Int) % slots ∧ f = b
theorem Nx.ge {apart : Bool} {gs : List Gr} {slots : Nat} {b s f : Int} (h : Nx apart gs slots b s f) : b ≤ f := by
 unfold Nx at h
 cases apart with
 | true =>
  rw [if_pos rfl] at h
  obtain ⟨i, h1, rfl, rfl⟩ := h
  exact endM_ge ..
 | false =>
  rw [if_neg Bool.false_ne_true] at h
  rw [h.2]; exact Int.le_refl _
end Law

namespace L4
open PySem PySem.Spec PyProof.Rows L2 L3
section
variable {prog : Program} {w : World} {A : Around} {E : Value → Shared → Prop} {s : Shared}
end
section
variable {X : Cx}
end
def rIndexI : V → List V → Hp → VK → Prop := fun x vs H Q => ∃ (l : Addr) (ns : List Int) (k : Int) (j : Nat), x = .ref l ∧ vs = [.int k] ∧ H l = some (.lst (ns.map V.int)) ∧ ns.length ≤ 1000 ∧ ns[j]? = some k ∧ (∀ m, m < j → ns[m]? ≠ some k) ∧ Q (.int (j : Int)) H
def isIn (k : Int) : Value → Bool
 | .int b _ => b == k
 | _ => false
theorem vals_in : ∀ {ns : List Int} {us : List Value}, Vals (ns.map V.int) us → ∀ (i : Nat) (n : Int), ns[i]? = some n → ∃ t, us[i]? = some (.int n t)
 | _, _, h, i, n, e => by
  obtain ⟨u, hu, ru⟩ := h.get (x := .int n) (by rw [List.getElem?_map, e]; rfl)
  obtain ⟨t, rfl⟩ := ru
  exact ⟨t, hu⟩
section
variable {X : Cx}
theorem mt_indexI : MtM X "list.index" rIndexI := by
 intro pins s σ H x vs v us Q I rx rv h
 obtain ⟨l, ns, k, j, rfl, rfl, hH, hz, hk, hb, q⟩ := h
 cases rx
 obtain ⟨u, rfl, ru⟩ := rv.one
 obtain ⟨tk, rfl⟩ := ru
 obtain ⟨z, its, n, r, hl, e⟩ := I.lstM hH
 have hlen : ns.length = its.length := by have := r.length; rw [List.length_map] at this; exact this
 obtain ⟨hj, hje⟩ := List.getElem?_eq_some_iff.mp hk
 have at' : ∀ i (hi : i < its.length), ∃ t, its[i] = .int (ns[i]'(by omega)) t := fun i hi => by
  obtain ⟨t, ht⟩ := vals_in r i _ (List.getElem?_eq_getElem (by omega : i < ns.length))
  rw [List.getElem?_eq_getElem hi] at ht
  exact ⟨t, Option.some.inj ht⟩
 refine call_meets F.slot_list_index ⟨_, e, rfl⟩ F.entry_list_index (F.args_list_index_2 _ _) (PySem.SeqAt.list_indexAt l _ n _ _ (.int k tk) (isIn k) j (by simpa using (hlen ▸ hj)) (by omega) ?_ ?_) ⟨e, fun y hy => ?_, ?_⟩
 ·obtain ⟨t, ht⟩ := at' j (hlen ▸ hj)
  simp only [List.getElem_toArray, ht, isIn, hje, beq_self_eq_true]
 ·intro m hm hlt
  obtain ⟨t, ht⟩ := at' m (by omega)
  simp only [List.getElem_toArray, ht, isIn]
  have : ¬ (ns[m]'(by omega) = k) := fun z => hb m hlt (by rw [List.getElem?_eq_getElem (by omega), z])
  simpa using this
 ·obtain ⟨i, hi, rfl⟩ := List.getElem_of_mem (List.mem_toArray.mp hy)
  obtain ⟨t, ht⟩ := at' i hi
  rw [ht]
  exact PySem.SeqAt.EqAt.int_int _ t k tk
 ·exact ⟨.int _, H, I.tok _, ⟨_, rfl⟩, q⟩
end
section
variable {K : PySem.W.Frag} {H : Hp} {Q : VK}
end
end L4

namespace L4
open PySem PySem.Spec PyProof.Rows L2 L3
structure Mak1 (P : Program) (w : World) (K : PySem.W.Frag) (mg : Str → Option Value) (base : Heap) (CX : CXT) (x : Str) (C : Addr) (k : Nat) (ps : List Str) (sp : Sp) : Prop where
 ex : ∃ f fd, Mk K C f ∧ FnOk P w K mg base CX k f fd ps sp ∧ Binds K fd ps [.none] ∧ mg x = some (.ref C)
structure CDat1 (K : PySem.W.Frag) (mg : Str → Option Value) (x qual : Str) (C : Addr) (st : Stmt) (ps : List Str) : Prop where
 ex : ∃ (f : Addr) (oc dV kV doc pm cdv ct : Value) (od an : Option Addr) (osl : Array (Option Value)), K.lookup f = some ⟨oc, od, .func (PySem.W.fnOf "__init__" qual (defArgs st) (defBody st) (defScope st) dV kV doc pm an cdv ct), osl⟩ ∧ PySem.W.codeIn K cdv qual = true ∧
  Binds K (PySem.W.fnOf "__init__" qual (defArgs st) (defBody st) (defScope st) dV kV doc pm an cdv ct) ps [] ∧ Binds K (PySem.W.fnOf "__init__" qual (defArgs st) (defBody st) (defScope st) dV kV doc pm an cdv ct) ps [.none] ∧ mg x = some (.ref C) ∧ Mk K C f
 cl : Cls K C
section
variable {P : Program} {w : World} {K : PySem.W.Frag} {mg : Str → Option Value} {base : Heap} {CX : CXT} {x qual : Str} {C : Addr} {st : Stmt} {N ps : List Str} {k : Nat} {sp : Sp}
theorem CDat1.ok (D : CDat1 K mg x qual C st ps) (S : FnScope N ps (defScope st)) (len : ∀ vs H Q E, sp vs H Q E → vs.length = ps.length)
  (hbody : ∀ (f : Addr) (cdv : Value) (A : Around) (outer : List Env) (s : Shared) (H : Hp) (vs : List V) (Q : VK) (E : XK), Room k (A.deeper (envOfC qual (defScope st) s.heap.objs.size f cdv)) → sp vs H Q E →
   ∃ t, PSs (cxOf CX P w K mg base N qual (defScope st) f cdv A outer s H E).nox (defBody st) t ∧ t { nx := fun _ H' => Q .non H', rt := Q } (start N vs) H) : Mak P w K mg base CX x C (k + 1) ps sp ∧ Mak1 P w K mg base CX x C (k + 1) ps sp := by
 obtain ⟨f, oc, dV, kV, doc, pm, cdv, ct, od, an, osl, lk, hcd, b, b1, m, mk⟩ := D.ex
 have F : FnOk P w K mg base CX (k + 1) f _ ps sp := fn_of lk hcd S len fun A outer s H vs Q E hr hsp => by
  obtain ⟨t, h, q⟩ := hbody f cdv A outer s H vs Q E hr hsp
  exact ⟨t, h.nox, q⟩
 exact ⟨⟨f, _, mk, F, b, m⟩, ⟨f, _, mk, F, b1, m⟩⟩
theorem cdat1_mk {h : Heap} (X : K.In h) (G : h.Ns mainGlobals mg) {f T : Addr} {oc tc : Value} {od td an : Option Addr} {osl tsl : Array (Option Value)} {its : Array Value} {tn : Nat} {kV doc pm cdv ct : Value} (aC : PySem.W.nsIn K mainGlobals x = some (some (.ref C)))
  (a : PySem.W.findIn K (.ref C) "__init__" = some (some (.ref f))) (i : PySem.W.isFn K (.ref f) = true)
  (l : K.lookup f = some ⟨oc, od, .func (PySem.W.fnOf "__init__" qual (defArgs st) (defBody st) (defScope st) (.ref T) kV doc pm an cdv ct), osl⟩) (tl : K.lookup T = some ⟨tc, td, .seq its tn, tsl⟩) (c : PySem.W.codeIn K cdv qual = true)
  (pg : PySem.W.plainGet K C Str.empty = true) (hd : PySem.W.hasDictIn K C = true) (po : PySem.W.plainOver K C = true) (sa : PySem.W.findIn K (.ref C) "__setattr__" = some (some (.builtin "object.__setattr__"))) (mk : PySem.W.makesIn K C = true) (kc : PySem.W.keepIn K (.ref C) = true)
  (b : ∀ (T : Addr) (kV doc pm : Value) (an : Option Addr) (cdv ct : Value) (us : List Value), us.length = ps.length → ∃ k : Option (Array Value) → Sem (List (Str × Value)), bindArgs (PySem.W.fnOf "__init__" qual (defArgs st) (defBody st) (defScope st) (.ref T) kV doc pm an cdv ct) ⟨us, []⟩ = (seqItems? (.ref T) >>= k) ∧ k (some its) = pure (ps.zip us))
  (b1 : ∀ (T : Addr) (kV doc pm : Value) (an : Option Addr) (cdv ct : Value) (us : List Value), us.length + 1 = ps.length → ∃ k : Option (Array Value) → Sem (List (Str × Value)), bindArgs (PySem.W.fnOf "__init__" qual (defArgs st) (defBody st) (defScope st) (.ref T) kV doc pm an cdv ct) ⟨us, []⟩ = (seqItems? (.ref T) >>= k) ∧ k (some its) = pure (ps.zip (us ++ [.none]))) : CDat1 K mg x qual C st ps :=
 ⟨⟨f, oc, .ref T, kV, doc, pm, cdv, ct, od, an, osl, l, c, (fun s us hK hl => by
  rw [List.append_nil] at hl ⊢
  obtain ⟨k, h1, h2⟩ := b T kV doc pm an cdv ct us hl
  exact BindsTo.of_defaults (T := T) rfl (hK _ _ tl) rfl h1 h2), (fun s us hK hl => by
  rw [List.length_append, List.length_singleton] at hl
  obtain ⟨k, h1, h2⟩ := b1 T kV doc pm an cdv ct us hl
  exact BindsTo.of_defaults (T := T) rfl (hK _ _ tl) rfl h1 h2), PySem.W.mg_of X G aC, ⟨mk, a, i, kc⟩⟩, ⟨pg, hd, po, sa⟩⟩
end
section
variable {X : Cx} {CX : CXT} {k : Nat} {ps : List Str} {sp : Sp} {E : XK} {x : Str} {C : Addr} {p pos : Pos} {e : Expr} {es : List Expr} {t : TA}
theorem pe_mk1 (M : Mak1 X.prog X.w X.K X.mg X.base CX x C k ps sp) (hr : Room (k + 1) X.A) (hx : Passes CX X E) (ha : PA X (e :: es) t) (hg : Gl X x := by rfl)
  (hdb : (x == ("__debug__" : Str)) = false := by decide) (he : starEach (e :: es) X.env = (false, eval e X.env) :: starEach es X.env := by rfl) (hpl : (backTo pos (starEach es X.env)).any (·.1) = false := by rfl) :
  PE X (.Call (.Name x p) (e :: es) [] pos) (tMake C sp [.non] E t) := by
 obtain ⟨f, fd, m, F, b, g⟩ := M.ex
 exact pe_make m F hr hg g b (.cons rfl .nil) hx ha hdb he hpl
theorem g_make1 {H : Hp} {σ : St} {Q : VK} (h : t σ H fun vs H1 => Made C sp E (vs ++ [.non]) H1 Q) : tMake C sp [.non] E t σ H Q := h
end
end L4

namespace Law
open PySem PySem.Spec PyProof.Rows L2 L3 L4
theorem sqT_same {K : PySem.W.Frag} {H H' : Hp} {a : Addr} {xs : List V} (e : Same H H') (h : SqT K H a xs) : SqT K H' a xs := by
 rcases h with (h | ⟨o, h⟩) | h
 ·exact .inl (.inl (e _ _ h))
 ·exact .inl (.inr ⟨o, e _ _ h⟩)
 ·exact .inr h
def ARu (H : Hp) (v : V) (ws : List Str) : Prop := (v = .non ∧ ws = ruleW) ∨ ∃ a, v = .ref a ∧ H a = some (.lst (ws.map V.str)) ∧ RuN ws
def StB (K : PySem.W.Frag) (C : Addr) (H : Hp) (p : Addr) (sh : V) (far room term : Int) (ws : List Str) : Prop := ∃ (dx tr : Addr) (ms : List Str), H p = some (.ins C dx (stF sh far room term tr)) ∧ SqT K H tr (ms.map V.str) ∧ ms.Perm ws
section
variable {P : Program} {w : World} {K : PySem.W.Frag} {mg : Str → Option Value} {base : Heap} {CX : CXT} {C aR : Addr}
theorem StB.same {H H' : Hp} {p : Addr} {sh : V} {far room term : Int} {ws : List Str} (h : StB K C H p sh far room term ws) (s : Same H H') : StB K C H' p sh far room term ws := by
 obtain ⟨dx, tr, ms, h1, h2, h3⟩ := h
 exact ⟨dx, tr, ms, s _ _ h1, sqT_same s h2, h3⟩
def spAreRulesB : Sp := fun vs H Q _ => ∃ (v : V) (ws : List Str), vs = [v] ∧ ARu H v ws ∧ ∀ H', Same H H' → Q (.bl true) H'
theorem ok_rulesB (D : Dat K mg "are_rules" "are_rules" (top 27) ["thing"]) (BT : Bt mg) (NE : NoErr CX) (c_is_rule : Cal P w K mg base CX "is_rule" 1 ["thing"] spRule) : Cal P w K mg base CX "are_rules" 3 ["thing"] spAreRulesB := by
 have S := sc_rules
 walk_at "d"
 ·obtain ⟨v, ws, rfl, _⟩ := h
  rfl
 obtain ⟨v, ws, rfl, hv, q⟩ := h
 refine ⟨_, (@pss_cons _ _ _ _ _ (@ps_if _ _ _ _ _ _ _ _ (@pt_cmp _ _ _ _ _ _ (@pc_isN _ _ _ _ _ (@pv _ 0 _ _ (by rfl) (by first | exact Or.inl rfl | exact Or.inr (Or.inl rfl) | exact Or.inr (Or.inr rfl)) (by decide) (by decide))) (by first | exact nobehind _ (by decide) (by decide) | rfl)) (@pss_one _ _ _ (@ps_ret _ _ _ _ (@pe_bl _ _ _ _))) (@pss_nil _)) (@pss_cons _ _ _ _ _ (@ps_if _ _ _ _ _ _ _ _ (@pt_not _ _ _ _ (@pt_val _ _ _ (@pe_isiT _ _ _ _ _ _ _ _ _ BT.isinstance (@pv _ 0 _ _ (by rfl) (by first | exact Or.inl rfl | exact Or.inr (Or.inl rfl) | exact Or.inr (Or.inr rfl)) (by decide) (by decide)) (@pe_tup _ _ _ _ _ (@pa_cons _ _ _ _ _ (@pe_bltn _ _ (V.ty "list") _ _ rfl BT.list_ L3.bt_list rfl (by decide) (by decide)) (@pa_cons _ _ _ _ _ (@pe_bltn _ _ (V.ty "tuple") _ _ rfl BT.tuple_ L3.bt_tuple rfl (by decide) (by decide)) (@pa_nil _) (by rfl)) (by rfl))) (by rfl) (by rfl) (by rfl) (by rfl)) (by intro _; rfl))) (@pss_one _ _ _ (@ps_ret _ _ _ _ (@pe_bl _ _ _ _))) (@pss_nil _)) (@pss_cons _ _ _ _ _ (@ps_if _ _ _ _ _ _ _ _ (@pt_not _ _ _ _ (@pt_val _ _ _ (@pe_callB _ _ _ _ _ _ _ _ _ (@call_all _ rfl) rfl BT.all L3.bt_all (@pa_cons _ _ _ _ _ (@pe_comp _ _ _ _ _ _ _ _ _ _ (gName 0) _ _ rfl (@pi_list _ _ _ _ (@pv _ 0 _ _ (by rfl) (by first | exact Or.inl rfl | exact Or.inr (Or.inl rfl) | exact Or.inr (Or.inr rfl)) (by decide) (by decide))) (@blk_of _ _ ["word"] [] (defScope (top 27)).names ["thing"] rfl rfl rfl (by decide +kernel)) (fun _ _ _ _ => (@pg_name _ _ 0 _ (show (blkN ["thing"] ["word"] []).Nodup by decide +kernel) rfl (by first | exact Or.inl rfl | exact Or.inr rfl) (by first | exact .inl rfl | exact .inr rfl | assumption))) (fun _ _ _ _ => (@pifs_nil _)) (fun _ _ _ _ => (@pe_fn _ _ _ _ _ _ _ _ _ _ _ _ c_is_rule (hr.mono (by first | decide | omega)) NE.pass (@pa_cons _ _ _ _ _ (@pv _ 0 _ _ (by rfl) (by first | exact Or.inl rfl | exact Or.inr (Or.inl rfl) | exact Or.inr (Or.inr rfl)) (by decide) (by decide)) (@pa_nil _) (by rfl)) (by rfl) (by decide) (by rfl) (by rfl))) (by intro _; rfl)) (@pa_nil _) (by rfl)) (by decide) (by decide) (by rfl) (by rfl)) (by intro _; rfl))) (@pss_one _ _ _ (@ps_ret _ _ _ _ (@pe_bl _ _ _ _))) (@pss_nil _)) (@pss_one _ _ _ (@ps_ret _ _ _ _ (@pe_cmpR _ _ _ _ _ _ _ _ (@op_eq _) (@pe_lenSet _ _ _ _ _ _ _ rfl rfl rfl BT.len BT.set_ (@pv _ 0 _ _ (by rfl) (by first | exact Or.inl rfl | exact Or.inr (Or.inl rfl) | exact Or.inr (Or.inr rfl)) (by decide) (by decide)) (by rfl) (by rfl)) (@pe_callB _ _ _ _ _ _ _ _ _ (@c_len _) rfl BT.len L3.bt_len (@pa_cons _ _ _ _ _ (@pv _ 0 _ _ (by rfl) (by first | exact Or.inl rfl | exact Or.inr (Or.inl rfl) | exact Or.inr (Or.inr rfl)) (by decide) (by decide)) (@pa_nil _) (by rfl)) (by decide) (by decide) (by rfl) (by rfl)) (@nomark _ _ (by decide) (by decide)))))))), ?_⟩
 try dsimp only [cxOf]
 have L := Led.start H (fun _ => False)
 rcases hv with ⟨rfl, rfl⟩ | ⟨a, rfl, ha, hw⟩
 ·walk_at "go"
  exact q _ (Same.refl _)
 have hl5 := ru_len hw
 walk_at "go"
 refine g_ifD (fun z => nomatch z) fun _ => ?_
 walk_at "go"
 have s1 := L'.same
 refine g_isiN ["list", "tuple"] (.lst (s1 _ _ ha)) (L'.tup (by walk_at "mem")) rfl ?_
 clear L L'
 rename Hp => H1
 walk_at "go"
 refine g_wkLv (SqL.of (s1 _ _ ha)) ?_
 refine g_compL (ws.map V.str) (fun i ys Hx => ys = (List.replicate i true).map V.bl ∧ Hx = H1) ⟨rfl, rfl⟩ (fun i ys Hx hi ⟨e, e2⟩ => ⟨e2 ▸ SqL.of (s1 _ _ ha), by
  rw [e, List.length_map, List.length_replicate]
  rw [List.length_map] at hi
  exact Nat.le_of_lt (small1000 (by omega))⟩) ?_ ?_
 ·rintro i v ys H2 hv ⟨rfl, rfl⟩
  obtain ⟨z, hz, rfl⟩ : ∃ z, z ∈ ws ∧ v = .str z := by
   obtain ⟨z, hz, e⟩ := List.mem_map.mp (List.mem_of_getElem? hv)
   exact ⟨z, hz, e.symm⟩
  try dsimp only [gName]
  walk_at "go"
  refine ⟨z, rfl, hw.sub z hz, ?_⟩
  exact ⟨by rw [List.replicate_succ', List.map_append]; rfl, rfl⟩
 ·rintro ys H2 ⟨rfl, rfl⟩ lc nlc
  rw [List.length_map]
  have s2 : Same H2 (upd H2 lc (.lst ((List.replicate ws.length true).map V.bl))) := same_new nlc _
  walk_at "go"
  refine g_allB (bs := List.replicate ws.length true) (SqL.of upd_same) ?_
  rw [show (List.replicate ws.length true).all id = true by rw [List.all_eq_true]; intro b hb; exact (List.mem_replicate.mp hb).2]
  walk_at "go"
  refine g_lenSetv (SqL.of (s2 _ _ (s1 _ _ ha))) (by omega) ?_
  walk_at "go"
  refine g_lenSq (SqL.of (s2 _ _ (s1 _ _ ha))) ?_
  walk_at "go"
  have e : decide ((((apartS [] ws).length : Nat) : Int) = (((ws.map V.str).length : Nat) : Int)) = true := decide_eq_true (by rw [apartS_all ws [] hw.nd (fun _ _ h => by simp at h), List.length_nil, Nat.zero_add, List.length_map])
  rw [e]
  exact q _ (s1.trans s2)
def spSettingsB (K : PySem.W.Frag) (C : Addr) : Sp := fun vs H Q _ => ∃ (p dx : Addr) (v sh : V) (far room term : Int) (ws : List Str), vs = [.ref p, sh, .int far, .int room, .int term, v] ∧ StN far room term ∧ ARu H v ws ∧ H p = some (.ins C dx []) ∧
 ∀ (tr : Addr) (ms : List Str) (H' : Hp), ms.Perm ws → H' p = some (.ins C dx (stF sh far room term tr)) → SqT K H' tr (ms.map V.str) → (∀ q o, H q = some o → q ≠ p → H' q = some o) → Q .non H'
theorem ok_settingsB (D : CDat1 K mg "Settings" "Settings.__init__" C (inClass (top 28) 0) ["self", "shape", "far", "room", "term", "rules"]) (SC : StC K C) (BT : Bt mg) (NE : NoErr CX) (g_RULES : GlV mg "RULES" (.ref aR)) (hR : ∀ H, SqT K H aR (ruleW.map V.str)) (c_is_span : Cal P w K mg base CX "is_span" 3 ["thing", "least"] spSpan) (c_are_rules : Cal P w K mg base CX "are_rules" 3 ["thing"] spAreRulesB) : Mak P w K mg base CX "Settings" C 4 ["self", "shape", "far", "room", "term", "rules"] (spSettingsB K C) ∧ Mak1 P w K mg base CX "Settings" C 4 ["self", "shape", "far", "room", "term", "rules"] (spSettingsB K C) := by
 have S := sc_settings
 walk_at "d"
 ·obtain ⟨p, dx, v, sh, far, room, term, ws, rfl, _⟩ := h
  rfl
 obtain ⟨p, dx, v, sh, far, room, term, ws, rfl, n, hv, hp, q⟩ := h
 refine ⟨_, (@pss_cons _ _ _ _ _ (@ps_if _ _ _ _ _ _ _ _ (@pt_not _ _ _ _ (@pt_val _ _ _ (@pe_fn _ _ _ _ _ _ _ _ _ _ _ _ c_is_span (hr.mono (by first | decide | omega)) NE.pass (@pa_cons _ _ _ _ _ (@pv _ 2 _ _ (by rfl) (by first | exact Or.inl rfl | exact Or.inr (Or.inl rfl) | exact Or.inr (Or.inr rfl)) (by decide) (by decide)) (@pa_cons _ _ _ _ _ (@pe_int _ _ _ _) (@pa_nil _) (by rfl)) (by rfl)) (by rfl) (by decide) (by rfl) (by rfl)) (by intro _; rfl))) (@pss_one _ _ _ (@ps_never _ _)) (@pss_nil _)) (@pss_cons _ _ _ _ _ (@ps_if _ _ _ _ _ _ _ _ (@pt_not _ _ _ _ (@pt_val _ _ _ (@pe_fn _ _ _ _ _ _ _ _ _ _ _ _ c_is_span (hr.mono (by first | decide | omega)) NE.pass (@pa_cons _ _ _ _ _ (@pv _ 3 _ _ (by rfl) (by first | exact Or.inl rfl | exact Or.inr (Or.inl rfl) | exact Or.inr (Or.inr rfl)) (by decide) (by decide)) (@pa_cons _ _ _ _ _ (@pe_int _ _ _ _) (@pa_nil _) (by rfl)) (by rfl)) (by rfl) (by decide) (by rfl) (by rfl)) (by intro _; rfl))) (@pss_one _ _ _ (@ps_never _ _)) (@pss_nil _)) (@pss_cons _ _ _ _ _ (@ps_if _ _ _ _ _ _ _ _ (@pt_not _ _ _ _ (@pt_val _ _ _ (@pe_fn _ _ _ _ _ _ _ _ _ _ _ _ c_is_span (hr.mono (by first | decide | omega)) NE.pass (@pa_cons _ _ _ _ _ (@pv _ 4 _ _ (by rfl) (by first | exact Or.inl rfl | exact Or.inr (Or.inl rfl) | exact Or.inr (Or.inr rfl)) (by decide) (by decide)) (@pa_cons _ _ _ _ _ (@pe_int _ _ _ _) (@pa_nil _) (by rfl)) (by rfl)) (by rfl) (by decide) (by rfl) (by rfl)) (by intro _; rfl))) (@pss_one _ _ _ (@ps_never _ _)) (@pss_nil _)) (@pss_cons _ _ _ _ _ (@ps_if _ _ _ _ _ _ _ _ (@pt_not _ _ _ _ (@pt_val _ _ _ (@pe_fn _ _ _ _ _ _ _ _ _ _ _ _ c_are_rules (hr.mono (by first | decide | omega)) NE.pass (@pa_cons _ _ _ _ _ (@pv _ 5 _ _ (by rfl) (by first | exact Or.inl rfl | exact Or.inr (Or.inl rfl) | exact Or.inr (Or.inr rfl)) (by decide) (by decide)) (@pa_nil _) (by rfl)) (by rfl) (by decide) (by rfl) (by rfl)) (by intro _; rfl))) (@pss_one _ _ _ (@ps_never _ _)) (@pss_nil _)) (@pss_cons _ _ _ _ _ (@ps_fld _ _ _ _ _ _ _ _ (@pv _ 0 _ _ (by rfl) (by first | exact Or.inl rfl | exact Or.inr (Or.inl rfl) | exact Or.inr (Or.inr rfl)) (by decide) (by decide)) (@pv _ 1 _ _ (by rfl) (by first | exact Or.inl rfl | exact Or.inr (Or.inl rfl) | exact Or.inr (Or.inr rfl)) (by decide) (by decide)) rfl) (@pss_cons _ _ _ _ _ (@ps_fld _ _ _ _ _ _ _ _ (@pv _ 0 _ _ (by rfl) (by first | exact Or.inl rfl | exact Or.inr (Or.inl rfl) | exact Or.inr (Or.inr rfl)) (by decide) (by decide)) (@pv _ 2 _ _ (by rfl) (by first | exact Or.inl rfl | exact Or.inr (Or.inl rfl) | exact Or.inr (Or.inr rfl)) (by decide) (by decide)) rfl) (@pss_cons _ _ _ _ _ (@ps_fld _ _ _ _ _ _ _ _ (@pv _ 0 _ _ (by rfl) (by first | exact Or.inl rfl | exact Or.inr (Or.inl rfl) | exact Or.inr (Or.inr rfl)) (by decide) (by decide)) (@pv _ 3 _ _ (by rfl) (by first | exact Or.inl rfl | exact Or.inr (Or.inl rfl) | exact Or.inr (Or.inr rfl)) (by decide) (by decide)) rfl) (@pss_cons _ _ _ _ _ (@ps_fld _ _ _ _ _ _ _ _ (@pv _ 0 _ _ (by rfl) (by first | exact Or.inl rfl | exact Or.inr (Or.inl rfl) | exact Or.inr (Or.inr rfl)) (by decide) (by decide)) (@pv _ 4 _ _ (by rfl) (by first | exact Or.inl rfl | exact Or.inr (Or.inl rfl) | exact Or.inr (Or.inr rfl)) (by decide) (by decide)) rfl) (@pss_one _ _ _ (@ps_fld _ _ _ _ _ _ _ _ (@pv _ 0 _ _ (by rfl) (by first | exact Or.inl rfl | exact Or.inr (Or.inl rfl) | exact Or.inr (Or.inr rfl)) (by decide) (by decide)) (@pe_ifExp _ _ _ _ _ _ _ _ (@pt_cmp _ _ _ _ _ _ (@pc_isN _ _ _ _ _ (@pv _ 5 _ _ (by rfl) (by first | exact Or.inl rfl | exact Or.inr (Or.inl rfl) | exact Or.inr (Or.inr rfl)) (by decide) (by decide))) (by first | exact nobehind _ (by decide) (by decide) | rfl)) (@pe_g _ _ _ _ g_RULES (by rfl) (by decide)) (@pe_callTy _ _ _ _ _ _ _ _ _ (@c_tupOf _) rfl BT.tuple_ L3.bt_tuple (@pa_cons _ _ _ _ _ (@pe_callB _ _ _ _ _ _ _ _ _ (@c_sortS _) rfl BT.sorted L3.bt_sorted (@pa_cons _ _ _ _ _ (@pv _ 5 _ _ (by rfl) (by first | exact Or.inl rfl | exact Or.inr (Or.inl rfl) | exact Or.inr (Or.inr rfl)) (by decide) (by decide)) (@pa_nil _) (by rfl)) (by decide) (by decide) (by rfl) (by rfl)) (@pa_nil _) (by rfl)) (by decide) (by decide) (by rfl) (by rfl))) rfl)))))))))), ?_⟩
 try dsimp only [cxOf]
 walk_at "go"
 refine ⟨far, 0, rfl, n.f0, n.f1, ?_⟩
 walk_at "go"
 refine ⟨room, 1, rfl, n.r0, n.r1, ?_⟩
 walk_at "go"
 refine ⟨term, 1, rfl, n.t0, n.t1, ?_⟩
 walk_at "go"
 refine ⟨v, ws, rfl, hv, fun H1 s1 => ?_⟩
 have hp1 := s1 _ _ hp
 have k1 := putF_len ("shape" : Str) sh []
 have k2 := putF_len ("far" : Str) (.int far) (putF "shape" sh [])
 have k3 := putF_len ("room" : Str) (.int room) (putF "far" (.int far) (putF "shape" sh []))
 have k4 := putF_len ("term" : Str) (.int term) (putF "room" (.int room) (putF "far" (.int far) (putF "shape" sh [])))
 rw [List.length_nil] at k1
 walk_at "go"
 refine ⟨p, C, dx, [], rfl, hp1, SC.cl, SC.n1, by decide, ?_⟩
 walk_at "go"
 refine ⟨p, C, dx, _, rfl, upd_same, SC.cl, SC.n2, by omega, ?_⟩
 rw [upd_upd]
 walk_at "go"
 refine ⟨p, C, dx, _, rfl, upd_same, SC.cl, SC.n3, by omega, ?_⟩
 rw [upd_upd]
 walk_at "go"
 refine ⟨p, C, dx, _, rfl, upd_same, SC.cl, SC.n4, by omega, ?_⟩
 rw [upd_upd]
 have key := fun tr => stF_put sh far room term tr
 generalize putF ("term" : Str) (.int term) (putF "room" (.int room) (putF "far" (.int far) (putF "shape" sh []))) = fs at *
 have hpc : (upd H1 p (.ins C dx fs)) p = some (.ins C dx fs) := upd_same
 have oc : ∀ q o, H q = some o → q ≠ p → (upd H1 p (.ins C dx fs)) q = some o := fun q o e z => by rw [upd_ne z]; exact s1 _ _ e
 rcases hv with ⟨rfl, rfl⟩ | ⟨a, rfl, ha, hw⟩
 ·generalize upd H1 p (.ins C dx fs) = Hc at *
  walk_at "go"
  refine ⟨p, C, dx, fs, rfl, hpc, SC.cl, SC.n5, by omega, ?_⟩
  refine q aR ruleW _ (List.Perm.refl _) (by rw [upd_same, key]) (hR _) fun x o e z => by rw [upd_ne z]; exact oc x o e z
 have hl5 := ru_len hw
 have ha1 := s1 _ _ ha
 have npa : a ≠ p := fun z => by rw [z, hp] at ha; cases ha
 have hac : (upd H1 p (.ins C dx fs)) a = some (.lst (ws.map V.str)) := by rw [upd_ne npa]; exact ha1
 generalize upd H1 p (.ins C dx fs) = Hc at *
 have L := Led.start Hc (fun _ => False)
 walk_at "go"
 refine g_ifD (fun z => nomatch z) fun _ => ?_
 walk_at "go"
 refine g_sortS L (SqL.of hac) (by omega) fun lb ms H2 nb pm _ L s2 => ?_
 walk_at "go"
 refine g_tupOfL L (SqL.of (L.eo (p := lb) .head)) fun tr H3 nt L s3 => ?_
 walk_at "go"
 have hp3 := s3 _ _ (s2 _ _ hpc)
 have htr := L.tup (r := tr) (xs := ms.map V.str) (by walk_at "mem")
 have nptr : tr ≠ p := fun z => by rw [z, hp3] at htr; cases htr
 refine ⟨p, C, dx, fs, rfl, hp3, SC.cl, SC.n5, by omega, ?_⟩
 refine q tr ms _ pm (by rw [upd_same, key]) (SqT.of (by rw [upd_ne nptr]; exact htr)) fun x o e z => by rw [upd_ne z]; exact s3 _ _ (s2 _ _ (oc x o e z))
theorem use_settingsB {H : Hp} {Q : VK} {E : XK} {v sh : V} {far room term : Int} {ws : List Str} (n : StN far room term) (hv : ARu H v ws) (q : ∀ x H', H x = none → StB K C H' x sh far room term ws → Same H H' → Q (.ref x) H') : Made C (spSettingsB K C) E [sh, .int far, .int room, .int term, v] H Q := by
 intro x dx nx nd ne
 have sm0 : ∀ b o, H b = some o → (upd (upd H dx (.own x)) x (.ins C dx [])) b = some o := fun b o e => by rw [upd_ne (ne_of_none e nx), upd_ne (ne_of_none e nd)]; exact e
 have hv' : ARu (upd (upd H dx (.own x)) x (.ins C dx [])) v ws := hv.elim .inl fun ⟨a, e, h, r⟩ => .inr ⟨a, e, sm0 _ _ h, r⟩
 refine ⟨x, dx, v, sh, far, room, term, ws, rfl, n, hv', upd_same, fun tr ms H' pm h1 h2 h3 => ⟨rfl, ?_⟩⟩
 exact q x H' nx ⟨dx, tr, ms, h1, h2, pm⟩ fun b o e => h3 b o (sm0 _ _ e) (ne_of_none e nx)
theorem sc_hasruleB : FnScope ["settings", "word"] ["settings", "word"] (defScope (top 29)) := by walk_at "s"
def spHasRuleB (K : PySem.W.Frag) (C : Addr) : Sp := fun vs H Q _ => ∃ (p : Addr) (sh : V) (far room term : Int) (ws : List Str) (z : Str), vs = [.ref p, .str z] ∧ StB K C H p sh far room term ws ∧ Q (.bl (decide (z ∈ ws))) H
theorem ok_hasruleB (D : Dat K mg "has_rule" "has_rule" (top 29) ["settings", "word"]) (SC : StC K C) : Cal P w K mg base CX "has_rule" 1 ["settings", "word"] (spHasRuleB K C) := by
 have S := sc_hasruleB
 walk_at "d"
 ·obtain ⟨p, sh, far, room, term, ws, z, rfl, _⟩ := h
  rfl
 obtain ⟨p, sh, far, room, term, ws, z, rfl, ⟨dx, tr, ms, hp, ht, pm⟩, q⟩ := h
 refine ⟨_, (@pss_one _ _ _ (@ps_ret _ _ _ _ (@pe_cmpR _ _ _ _ _ _ _ _ (@op_in_seq _) (@pv _ 1 _ _ (by rfl) (by first | exact Or.inl rfl | exact Or.inr (Or.inl rfl) | exact Or.inr (Or.inr rfl)) (by decide) (by decide)) (@pe_fld _ _ _ _ _ (@pv _ 0 _ _ (by rfl) (by first | exact Or.inl rfl | exact Or.inr (Or.inl rfl) | exact Or.inr (Or.inr rfl)) (by decide) (by decide)) rfl) (by with_unfolding_all rfl)))), ?_⟩
 try dsimp only [cxOf]
 walk_at "go"
 refine ⟨p, C, dx, _, _, rfl, hp, SC.cl, SC.n5, stF_rules sh far room term tr, ?_⟩
 refine g_inT ht ?_
 rw [show decide (z ∈ ms) = decide (z ∈ ws) from decide_eq_decide.mpr pm.mem_iff]
 exact q
end
end Law

namespace Law
open PySem PySem.Spec PyProof.Rows L2 L3 L4
structure Ld where
 p : Addr
 l : Addr
 ps : Addr
 sp : Addr
 c : Int
 s : Nat
 far : Int
 room : Int
 term : Int
 ws : List Str
def ldF (ps l : Addr) : List (Str × V) := [("settings", .ref ps), ("lent", .ref l)]
structure LdC (K : PySem.W.Frag) (CL : Addr) : Prop where
 cl : Cls K CL
 n1 : NoAttr K CL "settings"
 n2 : NoAttr K CL "lent"
theorem ldF_mk (ps l : Addr) : putF "lent" (.ref l) (putF "settings" (.ref ps) []) = ldF ps l := by
 have a1 : ¬ (("settings" : Str) = "lent") := by decide +kernel
 simp only [putF, if_neg a1]
 rfl
theorem ldF_s (ps l : Addr) : (ldF ps l).lookup ("settings" : Str) = some (.ref ps) := by unfold ldF; walk_at "lk"
theorem ldF_l (ps l : Addr) : (ldF ps l).lookup ("lent" : Str) = some (.ref l) := by unfold ldF; walk_at "lk"
theorem l_miss {m : Str} {ps l : Addr} (a1 : (m == ("settings" : Str)) = false) (a2 : (m == ("lent" : Str)) = false) : (ldF ps l).lookup m = none := by
 unfold ldF
 rw [lk_miss a1, lk_miss a2]; rfl
structure SgAt (K : PySem.W.Frag) (C CS : Addr) (H : Hp) (ps sp : Addr) (c : Int) (s : Nat) (far room term : Int) (ws : List Str) : Prop where
 st : StB K CS H ps (.ref sp) far room term ws
 sh : ∃ dx, H sp = some (.ins C dx (shF c s))
 ok : ShN c s
 n : StN far room term
theorem SgAt.same {K : PySem.W.Frag} {C CS : Addr} {H H' : Hp} {ps sp : Addr} {c : Int} {s : Nat} {far room term : Int} {ws : List Str} (h : SgAt K C CS H ps sp c s far room term ws) (m : Same H H') : SgAt K C CS H' ps sp c s far room term ws :=
 ⟨h.st.same m, h.sh.elim fun dx e => ⟨dx, m _ _ e⟩, h.ok, h.n⟩
structure GrsOk (gs : List Gr) (slots : Nat) : Prop where
 sl : ∀ x ∈ gs, 0 ≤ x.sl ∧ x.sl < slots
 len : gs.length ≤ 63
def LdAt (K : PySem.W.Frag) (C CS CL : Addr) (H : Hp) (d : Ld) (gs : List Gr) : Prop := (∃ dx, H d.p = some (.ins CL dx (ldF d.ps d.l))) ∧ H d.l = some (.lst (grV gs)) ∧ GrsAt H gs ∧ SgAt K C CS H d.ps d.sp d.c d.s d.far d.room d.term d.ws
theorem LdAt.same {K : PySem.W.Frag} {C CS CL : Addr} {H H' : Hp} {d : Ld} {gs : List Gr} (h : LdAt K C CS CL H d gs) (m : Same H H') : LdAt K C CS CL H' d gs :=
 ⟨h.1.elim fun dx e => ⟨dx, m _ _ e⟩, m _ _ h.2.1, h.2.2.1.same m, h.2.2.2.same m⟩
theorem sqT_chg {K : PySem.W.Frag} {H H' : Hp} {q t : Addr} {xs ys : List V} (hq : H q = some (.lst xs)) (c : Chg q H H') (h : SqT K H t ys) : SqT K H' t ys := by
 rcases h with (h | ⟨o, h⟩) | h
 ·exact .inl (.inl (c.oth _ _ h fun z => by rw [z, hq] at h; cases h))
 ·exact .inl (.inr ⟨o, c.oth _ _ h fun z => by rw [z, hq] at h; cases h⟩)
 ·exact .inr h
theorem SgAt.chg {K : PySem.W.Frag} {C CS q : Addr} {H H' : Hp} {ps sp : Addr} {c : Int} {s : Nat} {far room term : Int} {ws : List Str} {xs : List V} (h : SgAt K C CS H ps sp c s far room term ws) (hq : H q = some (.lst xs)) (ch : Chg q H H') : SgAt K C CS H' ps sp c s far room term ws := by
 obtain ⟨⟨dx, tr, ms, h1, h2, h3⟩, ⟨dy, h4⟩, h5, h6⟩ := h
 exact ⟨⟨dx, tr, ms, ch.oth _ _ h1 (fun z => by rw [z, hq] at h1; cases h1), sqT_chg hq ch h2, h3⟩, ⟨dy, ch.oth _ _ h4 fun z => by rw [z, hq] at h4; cases h4⟩, h5, h6⟩
theorem LdAt.chg {K : PySem.W.Frag} {C CS CL q : Addr} {H H' : Hp} {d : Ld} {gs : List Gr} {xs : List V} (h : LdAt K C CS CL H d gs) (hq : H q = some (.lst xs)) (n : d.l ≠ q) (ch : Chg q H H') : LdAt K C CS CL H' d gs := by
 obtain ⟨⟨dx, h1⟩, h2, h3, h4⟩ := h
 exact ⟨⟨dx, ch.oth _ _ h1 fun z => by rw [z, hq] at h1; cases h1⟩, ch.oth _ _ h2 n, h3.ts ch.ts, h4.chg hq ch⟩
theorem LdAt.put {K : PySem.W.Frag} {C CS CL : Addr} {H H' : Hp} {d : Ld} {gs gs' : List Gr} (h : LdAt K C CS CL H d gs) (ch : Chg d.l H H') (e : H' d.l = some (.lst (grV gs'))) (g : GrsAt H' gs') : LdAt K C CS CL H' d gs' := by
 obtain ⟨⟨dx, h1⟩, h2, h3, h4⟩ := h
 exact ⟨⟨dx, ch.oth _ _ h1 fun z => by rw [z, h2] at h1; cases h1⟩, e, g, h4.chg h2 ch⟩
theorem grV_snoc (gs : List Gr) (x : Gr) : grV (gs ++ [x]) = grV gs ++ [.ref x.g] := by unfold grV; rw [List.map_append]; rfl
theorem GrsAt.snoc {H : Hp} {gs : List Gr} {x : Gr} (h : GrsAt H gs) (k : GrAt H x) : GrsAt H (gs ++ [x]) := fun y hy => (List.mem_append.mp hy).elim (h y) fun z => by rw [List.mem_singleton.mp z]; exact k
def mfr (gs : List Gr) (slots : Nat) (b : Int) : List Int := (List.range slots).map fun k : Nat => endM gs k b
theorem mfr_len (gs : List Gr) (slots : Nat) (b : Int) : (mfr gs slots b).length = slots := by unfold mfr; rw [List.length_map, List.length_range]
theorem mfr_get {gs : List Gr} {slots k : Nat} {b : Int} (h : k < slots) : (mfr gs slots b)[k]? = some (endM gs k b) := by
 unfold mfr; rw [List.getElem?_map, List.getElem?_range h]; rfl
theorem mfr_set {gs : List Gr} {x : Gr} {slots j : Nat} {b : Int} (hj : x.sl = j) : (mfr gs slots b).set j (max (endM gs j b) x.e) = mfr (gs ++ [x]) slots b := by
 refine List.ext_getElem? fun k => ?_
 by_cases hk : k < slots
 ·rw [mfr_get hk, endM_snoc, List.getElem?_set, mfr_len]
  by_cases e : j = k
  ·subst e
   rw [if_pos rfl, if_pos hk, if_pos hj]
  ·rw [if_neg e, mfr_get hk, if_neg (by rw [hj]; omega)]
 ·rw [List.getElem?_eq_none (by rw [List.length_set, mfr_len]; omega), List.getElem?_eq_none (by rw [mfr_len]; omega)]
theorem led_one {H : Hp} {p : Addr} {o : HO} (h : H p = some o) : Led (· = p) H H [(p, Eo o)] [] := ⟨fun x hx => by rw [List.mem_singleton.mp hx]; exact ⟨_, h, rfl⟩, by simp, fun x hx => by rw [List.mem_singleton.mp hx]; exact .inl rfl, fun _ _ h _ => h, fun _ z => (by simp at z)⟩
theorem none_of' {H H1 : Hp} {a : Addr} (s : Same H H1) (n : H1 a = none) : H a = none := by
 cases e : H a with
 | none => rfl
 | some o => rw [s _ _ e] at n; cases n
theorem ixN_nat {n j : Nat} (h : j < n) : ixN n (j : Int) = some j := by
 unfold ixN
 rw [if_pos (by omega), if_pos (by omega)]; rfl
theorem take_snoc {α : Type} {xs : List α} {i : Nat} {x : α} (h : xs[i]? = some x) : xs.take (i + 1) = xs.take i ++ [x] := by
 rw [List.take_add_one, h]; rfl
theorem rep0 : ∀ n : Nat, (List.replicate n [V.int 0]).flatten = (mfr [] n 0).map V.int := fun n => by
 unfold mfr
 rw [List.map_map]
 have : (fun k : Nat => endM ([] : List Gr) (k : Int) 0) = fun _ => 0 := rfl
 rw [show (V.int ∘ fun k : Nat => endM ([] : List Gr) (k : Int) 0) = fun _ => V.int 0 from rfl, List.map_const', List.length_range]
 induction n with
 | zero => rfl
 | succ n ih => rw [List.replicate_succ, List.replicate_succ, List.flatten_cons, ih]; rfl
theorem first_of' {n : Nat} {f : Nat → Int} {M : Int} (h : ∃ k, k < n ∧ f k = M) : ∃ j, j < n ∧ f j = M ∧ ∀ k, k < j → f k ≠ M := by
 obtain ⟨k, hk, e⟩ := h
 induction k using Nat.strongRecOn with
 | _ k ih =>
  by_cases c : ∃ i, i < k ∧ f i = M
  ·obtain ⟨i, hi, ei⟩ := c
   exact ih i hi (by omega) ei
  ·exact ⟨k, hk, e, fun i hi z => c ⟨i, hi, z⟩⟩
theorem small1000' {n : Nat} (h : n ≤ 1000) : n < sizeLine := Nat.lt_of_lt_of_le (Nat.lt_succ_of_le h) (by decide)
section
variable {P : Program} {w : World} {K : PySem.W.Frag} {mg : Str → Option Value} {base : Heap} {CX : CXT} {C CS CL CN : Addr}
theorem sc_freem : FnScope ["slots", "grants", "moments", "grant", "slot"] ["slots", "grants"] (defScope (top 31)) := by walk_at "s"
def spFreeM (K : PySem.W.Frag) : Sp := fun vs H Q _ => ∃ (s : Nat) (a : Addr) (gs : List Gr), vs = [.int s, .ref a] ∧ 1 ≤ s ∧ s ≤ 1000 ∧ SqL K H a (grV gs) ∧ GrsAt H gs ∧ GrsOk gs s ∧ ∀ m H', H m = none → H' m = some (.lst ((mfr gs s 0).map V.int)) → Same H H' → Q (.ref m) H'
theorem ok_freem (D : Dat K mg "free_moments" "free_moments" (top 31) ["slots", "grants"]) (BT : Bt mg) (NE : NoErr CX) (c_slot_of : Cal P w K mg base CX "slot_of" 1 ["area"] spAt0) (c_end_of : Cal P w K mg base CX "end_of" 1 ["area"] spAt2) : Cal P w K mg base CX "free_moments" 2 ["slots", "grants"] (spFreeM K) := by
 have S := sc_freem
 walk_at "d"
 ·obtain ⟨s, a, gs, rfl, _⟩ := h
  rfl
 obtain ⟨n, a, gs, rfl, h1, h2, hS, hG, hok, q⟩ := h
 refine ⟨_, (@pss_cons _ _ _ _ _ (@ps_set _ _ 2 _ _ _ _ S.nd rfl (by first | exact Or.inl rfl | exact Or.inr rfl) (@pe_op _ _ _ _ _ _ _ _ (@op_rep _) (@pe_lst _ _ _ _ (@pa_cons _ _ _ _ _ (@pe_int _ _ _ _) (@pa_nil _) (by rfl))) (@pv _ 0 _ _ (by rfl) (by first | exact Or.inl rfl | exact Or.inr (Or.inl rfl) | exact Or.inr (Or.inr rfl)) (by decide) (by decide))) (by rfl) (by first | exact .inl rfl | exact .inr rfl | assumption)) (@pss_cons _ _ _ _ _ (@ps_for _ _ _ _ _ _ _ _ PassesOwn.never rfl (@pi_list _ _ _ _ (@pv _ 1 _ _ (by rfl) (by first | exact Or.inl rfl | exact Or.inr (Or.inl rfl) | exact Or.inr (Or.inr rfl)) (by decide) (by decide))) (@pg_name _ _ 3 _ S.nd rfl (by first | exact Or.inl rfl | exact Or.inr rfl) (by first | exact .inl rfl | exact .inr rfl | assumption)) (@pss_cons _ _ _ _ _ (@ps_set _ _ 4 _ _ _ _ S.nd rfl (by first | exact Or.inl rfl | exact Or.inr rfl) (@pe_fn _ _ _ _ _ _ _ _ _ _ _ _ c_slot_of (hr.mono (by first | decide | omega)) NE.pass (@pa_cons _ _ _ _ _ (@pe_ix _ _ _ _ _ _ _ (@ix_tup _) (@pv _ 3 _ _ (by rfl) (by first | exact Or.inl rfl | exact Or.inr (Or.inl rfl) | exact Or.inr (Or.inr rfl)) (by decide) (by decide)) (@pe_int _ _ _ _) (fun _ _ => rfl)) (@pa_nil _) (by rfl)) (by rfl) (by decide) (by rfl) (by rfl)) (by rfl) (by first | exact .inl rfl | exact .inr rfl | assumption)) (@pss_one _ _ _ (@ps_asg _ _ _ _ _ _ (@pe_callB _ _ _ _ _ _ _ _ _ (@c_max _ rfl) rfl BT.max L3.bt_max (@pa_cons _ _ _ _ _ (@pe_ix _ _ _ _ _ _ _ (@ix_list _) (@pv _ 2 _ _ (by rfl) (by first | exact Or.inl rfl | exact Or.inr (Or.inl rfl) | exact Or.inr (Or.inr rfl)) (by decide) (by decide)) (@pv _ 4 _ _ (by rfl) (by first | exact Or.inl rfl | exact Or.inr (Or.inl rfl) | exact Or.inr (Or.inr rfl)) (by decide) (by decide)) (fun _ _ => rfl)) (@pa_cons _ _ _ _ _ (@pe_fn _ _ _ _ _ _ _ _ _ _ _ _ c_end_of (hr.mono (by first | decide | omega)) NE.pass (@pa_cons _ _ _ _ _ (@pe_ix _ _ _ _ _ _ _ (@ix_tup _) (@pv _ 3 _ _ (by rfl) (by first | exact Or.inl rfl | exact Or.inr (Or.inl rfl) | exact Or.inr (Or.inr rfl)) (by decide) (by decide)) (@pe_int _ _ _ _) (fun _ _ => rfl)) (@pa_nil _) (by rfl)) (by rfl) (by decide) (by rfl) (by rfl)) (@pa_nil _) (by rfl)) (by rfl)) (by decide) (by decide) (by rfl) (by rfl)) (@pg_sub _ _ _ _ _ _ _ (@pv _ 2 _ _ (by rfl) (by first | exact Or.inl rfl | exact Or.inr (Or.inl rfl) | exact Or.inr (Or.inr rfl)) (by decide) (by decide)) (@pv _ 4 _ _ (by rfl) (by first | exact Or.inl rfl | exact Or.inr (Or.inl rfl) | exact Or.inr (Or.inr rfl)) (by decide) (by decide)) (@set_list _) (by intro _; rfl)) (by rfl) (by rfl) (by rfl)))) (by intro _; rfl)) (@pss_one _ _ _ (@ps_ret _ _ _ _ (@pv _ 2 _ _ (by rfl) (by first | exact Or.inl rfl | exact Or.inr (Or.inl rfl) | exact Or.inr (Or.inr rfl)) (by decide) (by decide)))))), ?_⟩
 try dsimp only [cxOf]
 have L := Led.start H (fun _ => False)
 walk_at "go"
 refine ⟨l', n, [.int 0], rfl, rfl, L'.eo .head, by omega, by omega, by rw [show (Int.toNat (n : Int)) = n from rfl]; exact Nat.le_trans (Nat.le_of_eq (Nat.one_mul n)) (Nat.le_of_lt (small1000' h2)), fun m nm => ?_⟩
 have e0 : (List.replicate (Int.toNat (n : Int)) [V.int 0]).flatten = (mfr [] n 0).map V.int := by
  rw [show (Int.toNat (n : Int)) = n from rfl]
  exact rep0 n
 rw [e0]
 have sm := L'.same.trans (same_new nm (HO.lst ((mfr [] n 0).map V.int)))
 have hm : (upd H' m (.lst ((mfr [] n 0).map V.int))) m = some (.lst ((mfr [] n 0).map V.int)) := upd_same
 have nmH : H m = none := none_of' L'.same nm
 clear L L'
 generalize upd H' m (.lst ((mfr [] n 0).map V.int)) = H1 at *
 walk_at "go"
 refine g_wkLv (sm.seq hS) ?_
 refine g_forL (grV gs) (fun i σ Hx => ∃ u3 u4 : Option V, σ = [some (.int n), some (.ref a), some (.ref m), u3, u4] ∧ Same H Hx ∧ Hx m = some (.lst ((mfr (gs.take i) n 0).map V.int))) ⟨_, _, rfl, sm, hm⟩ (fun i σ Hx _ ⟨_, _, _, sx, _⟩ => sx.seq hS) ?_ ?_
 ·rintro i v σ HG hv ⟨u3, u4, rfl, sx, hx⟩
  obtain ⟨x, hxi, rfl⟩ := grV_get hv
  have hxm := List.mem_of_getElem? hxi
  obtain ⟨s0, s1⟩ := hok.sl x hxm
  obtain ⟨j, hj⟩ := Int.eq_ofNat_of_zero_le s0
  have hjn : j < n := by omega
  have hgx := (hG x hxm).same sx
  have L := (led_one hx).more (tupAt x.g [_, _, _]) hgx.1
  try dsimp only [gName]
  walk_at "go"
  refine ⟨x.ar, x.sl, x.f, x.e, rfl, hgx.2, ?_⟩
  walk_at "go"
  rw [hj]
  refine g_ixL L .head (atI_nat (by rw [List.getElem?_map, mfr_get hjn]; rfl)) ?_
  walk_at "go"
  refine ⟨x.ar, x.sl, x.f, x.e, rfl, hgx.2, ?_⟩
  walk_at "go"
  refine g_set (j := j) L .head (ixN_nat (by rw [List.length_map, mfr_len]; exact hjn)) fun HA LA _ => ?_
  have ch := LA.chg (fun xs z => by rw [hx] at z; cases z)
  walk_at "go"
  refine ⟨_, _, rfl, fun q o e => ch.oth q o (sx _ _ e) (fun z => by rw [z, nmH] at e; cases e), ?_⟩
  have e1 : gs.take (i + 1) = gs.take i ++ [x] := take_snoc hxi
  rw [e1, ← mfr_set hj, List.map_set]
  exact LA.eo .head
 ·rintro σ HG ⟨u3, u4, rfl, sx, hx⟩
  rw [grV_len, List.take_length] at hx
  walk_at "go"
  exact q m HG nmH hx sx
theorem sc_linit : FnScope ["self", "settings", "grants"] ["self", "settings", "grants"] (defScope (inClass (top 32) 0)) := by walk_at "s"
def AG (H : Hp) (v : V) (gs : List Gr) : Prop := (v = .non ∧ gs = []) ∨ ∃ a, v = .ref a ∧ H a = some (.lst (grV gs))
def spLenderI (CL : Addr) : Sp := fun vs H Q _ => ∃ (p dx ps : Addr) (v : V) (gs : List Gr), vs = [.ref p, .ref ps, v] ∧ AG H v gs ∧ GrsAt H gs ∧ H p = some (.ins CL dx []) ∧
 ∀ (l : Addr) (H' : Hp), H l = none → H' p = some (.ins CL dx (ldF ps l)) → H' l = some (.lst (grV gs)) → (∀ q o, H q = some o → q ≠ p → H' q = some o) → Q .non H'
theorem ok_linit (D : CDat1 K mg "Lender" "Lender.__init__" CL (inClass (top 32) 0) ["self", "settings", "grants"]) (SC : LdC K CL) (BT : Bt mg) (NE : NoErr CX) : Mak P w K mg base CX "Lender" CL 2 ["self", "settings", "grants"] (spLenderI CL) ∧ Mak1 P w K mg base CX "Lender" CL 2 ["self", "settings", "grants"] (spLenderI CL) := by
 have S := sc_linit
 walk_at "d"
 ·obtain ⟨p, dx, ps, v, gs, rfl, _⟩ := h
  rfl
 obtain ⟨p, dx, ps, v, gs, rfl, hal, hG, hp, q⟩ := h
 refine ⟨_, (@pss_cons _ _ _ _ _ (@ps_fld _ _ _ _ _ _ _ _ (@pv _ 0 _ _ (by rfl) (by first | exact Or.inl rfl | exact Or.inr (Or.inl rfl) | exact Or.inr (Or.inr rfl)) (by decide) (by decide)) (@pv _ 1 _ _ (by rfl) (by first | exact Or.inl rfl | exact Or.inr (Or.inl rfl) | exact Or.inr (Or.inr rfl)) (by decide) (by decide)) rfl) (@pss_one _ _ _ (@ps_fld _ _ _ _ _ _ _ _ (@pv _ 0 _ _ (by rfl) (by first | exact Or.inl rfl | exact Or.inr (Or.inl rfl) | exact Or.inr (Or.inr rfl)) (by decide) (by decide)) (@pe_ifExp _ _ _ _ _ _ _ _ (@pt_cmp _ _ _ _ _ _ (@pc_isN _ _ _ _ _ (@pv _ 2 _ _ (by rfl) (by first | exact Or.inl rfl | exact Or.inr (Or.inl rfl) | exact Or.inr (Or.inr rfl)) (by decide) (by decide))) (by first | exact nobehind _ (by decide) (by decide) | rfl)) (@pe_lst _ _ _ _ (@pa_nil _)) (@pe_callTy _ _ _ _ _ _ _ _ _ (@c_listOf _) rfl BT.list_ L3.bt_list (@pa_cons _ _ _ _ _ (@pv _ 2 _ _ (by rfl) (by first | exact Or.inl rfl | exact Or.inr (Or.inl rfl) | exact Or.inr (Or.inr rfl)) (by decide) (by decide)) (@pa_nil _) (by rfl)) (by decide) (by decide) (by rfl) (by rfl))) rfl))), ?_⟩
 try dsimp only [cxOf]
 have k1 := putF_len ("settings" : Str) (.ref ps) []
 rw [List.length_nil] at k1
 walk_at "go"
 refine ⟨p, CL, dx, [], rfl, hp, SC.cl, SC.n1, by decide, ?_⟩
 have key := fun l => ldF_mk ps l
 generalize putF ("settings" : Str) (.ref ps) [] = fs at *
 have hpc : (upd H p (.ins CL dx fs)) p = some (.ins CL dx fs) := upd_same
 have oc : ∀ q o, H q = some o → q ≠ p → (upd H p (.ins CL dx fs)) q = some o := fun q o e z => by rw [upd_ne z]; exact e
 have ic : ∀ q, (upd H p (.ins CL dx fs)) q = none → H q = none := fun q e => by
  by_cases z : q = p
  ·rw [z, upd_same] at e; cases e
  ·rwa [upd_ne z] at e
 have hac : AG (upd H p (.ins CL dx fs)) v gs := by
  rcases hal with z | ⟨a, rfl, ha⟩
  ·exact .inl z
  ·exact .inr ⟨a, rfl, oc _ _ ha fun z => by rw [z, hp] at ha; cases ha⟩
 generalize upd H p (.ins CL dx fs) = Hc at *
 have L := Led.start Hc (fun _ => False)
 walk_at "go"
 rcases hac with ⟨rfl, rfl⟩ | ⟨a, rfl, ha⟩
 ·refine g_ifDT rfl ?_
  walk_at "go"
  have np : p ≠ l' := fun z => by rw [z, n'] at hpc; cases hpc
  refine ⟨p, CL, dx, fs, rfl, L'.same _ _ hpc, SC.cl, SC.n2, by omega, ?_⟩
  walk_at "go"
  exact q l' _ (ic _ n') (by rw [upd_same, key]) (by rw [upd_ne (Ne.symm np)]; exact L'.eo .head) fun x o e z => by rw [upd_ne z]; exact L'.same _ _ (oc x o e z)
 ·refine g_ifD (fun z => nomatch z) fun _ => ?_
  walk_at "go"
  refine g_listOf L (.inl (SqL.of ha)) fun b HB nb L' sB => ?_
  have np : p ≠ b := fun z => by rw [z, nb] at hpc; cases hpc
  walk_at "go"
  refine ⟨p, CL, dx, fs, rfl, sB _ _ hpc, SC.cl, SC.n2, by omega, ?_⟩
  walk_at "go"
  exact q b _ (ic _ nb) (by rw [upd_same, key]) (by rw [upd_ne (Ne.symm np)]; exact L'.eo .head) fun x o e z => by rw [upd_ne z]; exact sB _ _ (oc x o e z)
theorem use_mkLender {H : Hp} {Q : VK} {E : XK} {ps sp : Addr} {v : V} {gs : List Gr} {c : Int} {s : Nat} {far room term : Int} {ws : List Str} (ha : AG H v gs) (hG : GrsAt H gs) (hs : SgAt K C CS H ps sp c s far room term ws)
  (q : ∀ x l H', H x = none → H l = none → LdAt K C CS CL H' ⟨x, l, ps, sp, c, s, far, room, term, ws⟩ gs → Same H H' → Q (.ref x) H') : Made CL (spLenderI CL) E [.ref ps, v] H Q := by
 intro x dx nx nd ne
 have sm0 : Same H (upd (upd H dx (.own x)) x (.ins CL dx [])) := fun b o e => by rw [upd_ne (ne_of_none e nx), upd_ne (ne_of_none e nd)]; exact e
 have ha' : AG (upd (upd H dx (.own x)) x (.ins CL dx [])) v gs := by
  rcases ha with z | ⟨a, rfl, h⟩
  ·exact .inl z
  ·exact .inr ⟨a, rfl, sm0 _ _ h⟩
 refine ⟨x, dx, ps, v, gs, rfl, ha', hG.same sm0, upd_same, fun l H' nl h1 h2 h3 => ⟨rfl, ?_⟩⟩
 have sm : Same H H' := fun b o e => h3 b o (sm0 _ _ e) (ne_of_none e nx)
 exact q x l H' nx (none_of' sm0 nl) ⟨⟨dx, h1⟩, h2, hG.same sm, hs.same sm⟩ sm
theorem sc_lgrants : FnScope ["self"] ["self"] (defScope (inClass (top 32) 1)) := by walk_at "s"
def spLGrants (K : PySem.W.Frag) (C CS CL : Addr) : Sp := fun vs H Q _ => ∃ (d : Ld) (gs : List Gr), vs = [.ref d.p] ∧ LdAt K C CS CL H d gs ∧ ∀ b H', H b = none → H' b = some (.lst (grV gs)) → Same H H' → Q (.ref b) H'
theorem sc_lfreem : FnScope ["self"] ["self"] (defScope (inClass (top 32) 2)) := by walk_at "s"
def spLFreeM (K : PySem.W.Frag) (C CS CL : Addr) : Sp := fun vs H Q _ => ∃ (d : Ld) (gs : List Gr), vs = [.ref d.p] ∧ LdAt K C CS CL H d gs ∧ GrsOk gs d.s ∧ ∀ m H', H m = none → H' m = some (.lst ((mfr gs d.s 0).map V.int)) → Same H H' → Q (.ref m) H'
theorem ok_lfreem (D : MDat K CL "moments_free" "Lender.moments_free" (inClass (top 32) 2) ["self"]) (SC : LdC K CL) (SS : StC K CS) (SH : ShC K C) (NE : NoErr CX) (c_free_moments : Cal P w K mg base CX "free_moments" 2 ["slots", "grants"] (spFreeM K)) : MCal P w K mg base CX CL "moments_free" 3 ["self"] (spLFreeM K C CS CL) := by
 have S := sc_lfreem
 refine mdat_ok D S (fun vs H Q E h => ?_) (fun f cdv A outer s H vs Q E hr h => ?_)
 ·obtain ⟨d, gs, rfl, _⟩ := h
  rfl
 obtain ⟨d, gs, rfl, ⟨⟨dx, hp⟩, hl, hG, ⟨⟨dy, tr, ms, hst, _, _⟩, ⟨dz, hsh⟩, hsn, _⟩⟩, hok, q⟩ := h
 refine ⟨_, (@pss_one _ _ _ (@ps_ret _ _ _ _ (@pe_fn _ _ _ _ _ _ _ _ _ _ _ _ c_free_moments (hr.mono (by first | decide | omega)) NE.pass (@pa_cons _ _ _ _ _ (@pe_fld _ _ _ _ _ (@pe_fld _ _ _ _ _ (@pe_fld _ _ _ _ _ (@pv _ 0 _ _ (by rfl) (by first | exact Or.inl rfl | exact Or.inr (Or.inl rfl) | exact Or.inr (Or.inr rfl)) (by decide) (by decide)) rfl) rfl) rfl) (@pa_cons _ _ _ _ _ (@pe_fld _ _ _ _ _ (@pv _ 0 _ _ (by rfl) (by first | exact Or.inl rfl | exact Or.inr (Or.inl rfl) | exact Or.inr (Or.inr rfl)) (by decide) (by decide)) rfl) (@pa_nil _) (by rfl)) (by rfl)) (by rfl) (by decide) (by rfl) (by rfl)))), ?_⟩
 try dsimp only [cxOf]
 walk_at "go"
 refine ⟨d.p, CL, dx, _, _, rfl, hp, SC.cl, SC.n1, ldF_s _ _, ?_⟩
 walk_at "go"
 refine ⟨d.ps, CS, dy, _, _, rfl, hst, SS.cl, SS.n1, stF_shape _ _ _ _ _, ?_⟩
 walk_at "go"
 refine ⟨d.sp, C, dz, _, _, rfl, hsh, SH.cl, SH.ns, shF_s _ _, ?_⟩
 walk_at "go"
 refine ⟨d.p, CL, dx, _, _, rfl, hp, SC.cl, SC.n2, ldF_l _ _, ?_⟩
 walk_at "go"
 have := hsn.s1
 have := hsn.s2
 exact ⟨d.s, d.l, gs, rfl, by omega, by omega, SqL.of hl, hG, hok, q⟩
theorem m_slotf {ps l : Addr} : (ldF ps l).lookup ("slot_and_first" : Str) = none := l_miss (by decide +kernel) (by decide +kernel)
theorem m_free {ps l : Addr} : (ldF ps l).lookup ("moments_free" : Str) = none := l_miss (by decide +kernel) (by decide +kernel)
theorem sc_lfreeat : FnScope ["self", "slot"] ["self", "slot"] (defScope (inClass (top 32) 3)) := by walk_at "s"
def spLFreeAt (K : PySem.W.Frag) (C CS CL : Addr) : Sp := fun vs H Q _ => ∃ (d : Ld) (gs : List Gr) (j : Nat), vs = [.ref d.p, .int j] ∧ LdAt K C CS CL H d gs ∧ GrsOk gs d.s ∧ j < d.s ∧ ∀ H', Same H H' → Q (.int (endM gs j 0)) H'
theorem ok_lfreeat (D : MDat K CL "free_at" "Lender.free_at" (inClass (top 32) 3) ["self", "slot"]) (SC : LdC K CL) (NE : NoErr CX) (M_Lender_moments_free : MCal P w K mg base CX CL "moments_free" 3 ["self"] (spLFreeM K C CS CL)) : MCal P w K mg base CX CL "free_at" 4 ["self", "slot"] (spLFreeAt K C CS CL) := by
 have S := sc_lfreeat
 refine mdat_ok D S (fun vs H Q E h => ?_) (fun f cdv A outer s H vs Q E hr h => ?_)
 ·obtain ⟨d, gs, j, rfl, _⟩ := h
  rfl
 obtain ⟨d, gs, j, rfl, hd, hok, hj, q⟩ := h
 obtain ⟨⟨dx, hp⟩, _⟩ := id hd
 refine ⟨_, (@pss_one _ _ _ (@ps_ret _ _ _ _ (@pe_ix _ _ _ _ _ _ _ (@ix_list _) (@pe_mt0 _ _ _ _ _ _ _ _ _ _ _ _ _ M_Lender_moments_free (hr.mono (by first | decide | omega)) NE.pass (@pv _ 0 _ _ (by rfl) (by first | exact Or.inl rfl | exact Or.inr (Or.inl rfl) | exact Or.inr (Or.inr rfl)) (by decide) (by decide)) (by rfl)) (@pv _ 1 _ _ (by rfl) (by first | exact Or.inl rfl | exact Or.inr (Or.inl rfl) | exact Or.inr (Or.inr rfl)) (by decide) (by decide)) (fun _ _ => rfl)))), ?_⟩
 try dsimp only [cxOf]
 walk_at "go"
 refine g_methv hp m_free ?_
 walk_at "go"
 refine ⟨d, gs, rfl, hd, hok, fun m H1 nm hm s1 => ?_⟩
 walk_at "go"
 refine g_ixSq (SqL.of hm) (atI_nat (by rw [List.getElem?_map, mfr_get hj]; rfl)) ?_
 exact q _ s1
theorem sc_slotf : FnScope ["self", "least", "firsts", "first"] ["self", "least"] (defScope (inClass (top 32) 4)) := by walk_at "s"
def spSlotF (K : PySem.W.Frag) (C CS CL : Addr) : Sp := fun vs H Q _ => ∃ (d : Ld) (gs : List Gr) (b : Int), vs = [.ref d.p, .int b] ∧ LdAt K C CS CL H d gs ∧ GrsOk gs d.s ∧ 0 ≤ b ∧ ∀ t x y H', Nx (decide (("apart" : Str) ∈ d.ws)) gs d.s b x y → H' t = some (.tup [.int x, .int y]) → Same H H' → Q (.ref t) H'
theorem ok_slotf (D : MDat K CL "slot_and_first" "Lender.slot_and_first" (inClass (top 32) 4) ["self", "least"]) (SC : LdC K CL) (SS : StC K CS) (SH : ShC K C) (BT : Bt mg) (NE : NoErr CX) (c_has_rule : Cal P w K mg base CX "has_rule" 1 ["settings", "word"] (spHasRuleB K CS)) (M_Lender_moments_free : MCal P w K mg base CX CL "moments_free" 3 ["self"] (spLFreeM K C CS CL)) : MCal P w K mg base CX CL "slot_and_first" 4 ["self", "least"] (spSlotF K C CS CL) := by
 have S := sc_slotf
 refine mdat_ok D S (fun vs H Q E h => ?_) (fun f cdv A outer s H vs Q E hr h => ?_)
 ·obtain ⟨d, gs, b, rfl, _⟩ := h
  rfl
 obtain ⟨d, gs, b, rfl, hd, hok, hb, q⟩ := h
 obtain ⟨⟨dx, hp⟩, hl, hG, ⟨hst, ⟨dz, hsh⟩, hsn, _⟩⟩ := id hd
 obtain ⟨dy, tr, ms, hst1, _, _⟩ := id hst
 have hs0 := hsn.s1
 have hs1 := hsn.s2
 refine ⟨_, (@pss_cons _ _ _ _ _ (@ps_if _ _ _ _ _ _ _ _ (@pt_not _ _ _ _ (@pt_val _ _ _ (@pe_fn _ _ _ _ _ _ _ _ _ _ _ _ c_has_rule (hr.mono (by first | decide | omega)) NE.pass (@pa_cons _ _ _ _ _ (@pe_fld _ _ _ _ _ (@pv _ 0 _ _ (by rfl) (by first | exact Or.inl rfl | exact Or.inr (Or.inl rfl) | exact Or.inr (Or.inr rfl)) (by decide) (by decide)) rfl) (@pa_cons _ _ _ _ _ (@pe_str _ _ _ _) (@pa_nil _) (by rfl)) (by rfl)) (by rfl) (by decide) (by rfl) (by rfl)) (by intro _; rfl))) (@pss_one _ _ _ (@ps_ret _ _ _ _ (@pe_tup _ _ _ _ _ (@pa_cons _ _ _ _ _ (@pe_op _ _ _ _ _ _ _ _ (@op_mod _) (@pe_callB _ _ _ _ _ _ _ _ _ (@c_len _) rfl BT.len L3.bt_len (@pa_cons _ _ _ _ _ (@pe_fld _ _ _ _ _ (@pv _ 0 _ _ (by rfl) (by first | exact Or.inl rfl | exact Or.inr (Or.inl rfl) | exact Or.inr (Or.inr rfl)) (by decide) (by decide)) rfl) (@pa_nil _) (by rfl)) (by decide) (by decide) (by rfl) (by rfl)) (@pe_fld _ _ _ _ _ (@pe_fld _ _ _ _ _ (@pe_fld _ _ _ _ _ (@pv _ 0 _ _ (by rfl) (by first | exact Or.inl rfl | exact Or.inr (Or.inl rfl) | exact Or.inr (Or.inr rfl)) (by decide) (by decide)) rfl) rfl) rfl)) (@pa_cons _ _ _ _ _ (@pv _ 1 _ _ (by rfl) (by first | exact Or.inl rfl | exact Or.inr (Or.inl rfl) | exact Or.inr (Or.inr rfl)) (by decide) (by decide)) (@pa_nil _) (by rfl)) (by rfl))))) (@pss_nil _)) (@pss_cons _ _ _ _ _ (@ps_compS _ _ _ _ _ _ _ _ _ _ (gName 0) _ _ 2 _ _ _ rfl S.nd rfl (by first | exact Or.inl rfl | exact Or.inr rfl) (@pi_list _ _ _ _ (@pe_mt0 _ _ _ _ _ _ _ _ _ _ _ _ _ M_Lender_moments_free (hr.mono (by first | decide | omega)) NE.pass (@pv _ 0 _ _ (by rfl) (by first | exact Or.inl rfl | exact Or.inr (Or.inl rfl) | exact Or.inr (Or.inr rfl)) (by decide) (by decide)) (by rfl))) (@blk_of _ _ ["moment"] [1] (defScope (inClass (top 32) 4)).names ["self", "least", "firsts", "first"] rfl rfl rfl (by decide +kernel)) (fun _ _ _ _ => (@pg_name _ _ 0 _ (show (blkN ["self", "least", "firsts", "first"] ["moment"] [1]).Nodup by decide +kernel) rfl (by first | exact Or.inl rfl | exact Or.inr rfl) (by first | exact .inl rfl | exact .inr rfl | assumption))) (fun _ _ _ _ => (@pifs_nil _)) (fun _ _ _ _ => (@pe_callB _ _ _ _ _ _ _ _ _ (@c_max _ rfl) rfl BT.max L3.bt_max (@pa_cons _ _ _ _ _ (@pv _ 0 _ _ (by rfl) (by first | exact Or.inl rfl | exact Or.inr (Or.inl rfl) | exact Or.inr (Or.inr rfl)) (by decide) (by decide)) (@pa_cons _ _ _ _ _ (@pv _ 1 _ _ (by rfl) (by first | exact Or.inl rfl | exact Or.inr (Or.inl rfl) | exact Or.inr (Or.inr rfl)) (by decide) (by decide)) (@pa_nil _) (by rfl)) (by rfl)) (by decide) (by decide) (by rfl) (by rfl))) (by with_unfolding_all rfl) (by first | exact .inl rfl | exact .inr rfl | assumption) (by intro _; rfl)) (@pss_cons _ _ _ _ _ (@ps_set _ _ 3 _ _ _ _ S.nd rfl (by first | exact Or.inl rfl | exact Or.inr rfl) (@pe_callB _ _ _ _ _ _ _ _ _ (@c_minL _ rfl) rfl BT.min L3.bt_min (@pa_cons _ _ _ _ _ (@pv _ 2 _ _ (by rfl) (by first | exact Or.inl rfl | exact Or.inr (Or.inl rfl) | exact Or.inr (Or.inr rfl)) (by decide) (by decide)) (@pa_nil _) (by rfl)) (by decide) (by decide) (by rfl) (by rfl)) (by rfl) (by first | exact .inl rfl | exact .inr rfl | assumption)) (@pss_one _ _ _ (@ps_ret _ _ _ _ (@pe_tup _ _ _ _ _ (@pa_cons _ _ _ _ _ (@pe_bm _ _ _ _ _ _ _ _ _ _ _ _ PySem.F.plainAttrs_list PySem.F.slot_list_index PySem.F.type_list_index mt_indexI (@pv _ 2 _ _ (by rfl) (by first | exact Or.inl rfl | exact Or.inr (Or.inl rfl) | exact Or.inr (Or.inr rfl)) (by decide) (by decide)) (@pa_cons _ _ _ _ _ (@pv _ 3 _ _ (by rfl) (by first | exact Or.inl rfl | exact Or.inr (Or.inl rfl) | exact Or.inr (Or.inr rfl)) (by decide) (by decide)) (@pa_nil _) (by rfl)) (by rfl) (by rfl) (by rfl) (by rfl) (by rfl)) (@pa_cons _ _ _ _ _ (@pv _ 3 _ _ (by rfl) (by first | exact Or.inl rfl | exact Or.inr (Or.inl rfl) | exact Or.inr (Or.inr rfl)) (by decide) (by decide)) (@pa_nil _) (by rfl)) (by rfl)))))))), ?_⟩
 try dsimp only [cxOf]
 walk_at "go"
 refine ⟨d.p, CL, dx, _, _, rfl, hp, SC.cl, SC.n1, ldF_s _ _, ?_⟩
 walk_at "go"
 refine ⟨d.ps, _, _, _, _, _, "apart", rfl, hst, ?_⟩
 walk_at "go"
 unfold Nx at q
 refine g_ifNB (fun ap => ?_) (fun ap => ?_)
 ·rw [ap] at q
  walk_at "go"
  refine g_methv hp m_free ?_
  walk_at "go"
  refine ⟨d, gs, rfl, hd, hok, fun m H1 nm hm s1 => ?_⟩
  walk_at "go"
  refine g_wkLv (SqL.of hm) ?_
  have hml : ((mfr gs d.s 0).map V.int).length = d.s := by rw [List.length_map, mfr_len]
  refine g_compL ((mfr gs d.s 0).map V.int) (fun i ys Hx => ys = ((mfr gs d.s b).take i).map V.int ∧ Hx = H1) ⟨rfl, rfl⟩ (fun i ys Hx hi ⟨e, e2⟩ => ⟨e2 ▸ SqL.of hm, by
   rw [e, List.length_map, List.length_take, mfr_len]
   exact Nat.le_of_lt (small1000' (by omega))⟩) ?_ ?_
  ·rintro i v ys H2 hv ⟨rfl, rfl⟩
   have hi : i < d.s := by rw [← hml]; exact (List.getElem?_eq_some_iff.mp hv).1
   obtain rfl : v = .int (endM gs i 0) := by
    rw [List.getElem?_map, mfr_get hi] at hv
    exact (Option.some.inj hv).symm
   try dsimp only [gName]
   walk_at "go"
   refine ⟨?_, rfl⟩
   rw [take_snoc (mfr_get hi), List.map_append, endM_max gs i hb]; rfl
  ·rintro ys H2 ⟨rfl, rfl⟩ lf nlf
   rw [hml, List.take_of_length_le (by rw [mfr_len]; exact Nat.le_refl _)]
   have s2 := same_new nlf (HO.lst ((mfr gs d.s b).map V.int))
   have hlf : (upd H2 lf (.lst ((mfr gs d.s b).map V.int))) lf = some (.lst ((mfr gs d.s b).map V.int)) := upd_same
   generalize upd H2 lf (.lst ((mfr gs d.s b).map V.int)) = H3 at *
   walk_at "go"
   refine g_minL (SqL.of hlf) (by rw [mfr_len]; omega) fun M hM hmin => ?_
   have L := led_one hlf
   walk_at "go"
   obtain ⟨j, hj, hjm, hjf⟩ : ∃ j : Nat, j < d.s ∧ endM gs j b = M ∧ ∀ k : Nat, k < j → endM gs k b ≠ M := first_of' (n := d.s) (f := fun k : Nat => endM gs k b) (by
    obtain ⟨k, hk, e⟩ := List.getElem_of_mem hM
    rw [mfr_len] at hk
    refine ⟨k, hk, ?_⟩
    have := mfr_get (gs := gs) (b := b) hk
    rw [List.getElem?_eq_getElem (by rw [mfr_len]; exact hk), e] at this
    exact (Option.some.inj this).symm)
   have hle : ∀ k : Nat, k < d.s → M ≤ endM gs k b := fun k hk => hmin _ (List.mem_of_getElem? (mfr_get hk))
   refine ⟨lf, mfr gs d.s b, M, j, rfl, rfl, L.eo .head, by rw [mfr_len]; omega, by rw [mfr_get hj, hjm], fun k hk => by rw [mfr_get (by omega)]; exact fun z => hjf k hk (Option.some.inj z), ?_⟩
   walk_at "go"
   refine q _ _ _ _ ?_ (L'.tup (by walk_at "mem")) ?_
   ·rw [if_pos rfl]
    exact ⟨j, ⟨hj, fun k hk => by rw [hjm]; exact hle k hk, fun k hk => by
     have h1 := hle k (by omega)
     have h2 := hjf k hk
     rw [hjm]; omega⟩, rfl, hjm.symm⟩
   ·have f1 := L'.chg (fun xs z => by rw [hlf] at z; cases z)
    have nH : H lf = none := none_of' s1 nlf
    exact fun x o e => f1.oth x o (s2 _ _ (s1 _ _ e)) (fun z => by rw [z, nH] at e; cases e)
 ·rw [ap] at q
  have L := Led.start H (fun _ => False)
  walk_at "go"
  refine ⟨d.p, CL, dx, _, _, rfl, hp, SC.cl, SC.n2, ldF_l _ _, ?_⟩
  walk_at "go"
  refine g_lenSq (SqL.of hl) ?_
  walk_at "go"
  refine ⟨d.p, CL, dx, _, _, rfl, hp, SC.cl, SC.n1, ldF_s _ _, ?_⟩
  walk_at "go"
  refine ⟨d.ps, CS, dy, _, _, rfl, hst1, SS.cl, SS.n1, stF_shape _ _ _ _ _, ?_⟩
  walk_at "go"
  refine ⟨d.sp, C, dz, _, _, rfl, hsh, SH.cl, SH.ns, shF_s _ _, ?_⟩
  walk_at "go"
  refine q _ _ _ _ ?_ (L'.tup (by walk_at "mem")) L'.same
  rw [if_neg Bool.false_ne_true, grV_len]
  exact ⟨rfl, rfl⟩
abbrev last30 : Int := 1000000000000000000000000000000
theorem sc_lend : FnScope ["self", "hand", "least", "start", "end", "grant", "area"] ["self", "hand", "least"] (defScope (inClass (top 32) 5)) := by walk_at "s"
def spLend (K : PySem.W.Frag) (C CS CL CN : Addr) : Sp := fun vs H Q E => ∃ (d : Ld) (gs : List Gr) (nm : Str) (b : Int), vs = [.ref d.p, .str nm, .int b] ∧ LdAt K C CS CL H d gs ∧ GrsOk gs d.s ∧ 0 ≤ b ∧
 (∀ x y, Nx (decide (("apart" : Str) ∈ d.ws)) gs d.s b x y → last30 < y + d.term → ∀ H', Same H H' → E (.ref CN) none H') ∧
 (∀ x y, Nx (decide (("apart" : Str) ∈ d.ws)) gs d.s b x y → ¬ last30 < y + d.term → ∀ g ar t H', LdAt K C CS CL H' d (gs ++ [⟨g, ar, gs.length + 1, nm, x, y, y + d.term⟩]) → H' t = some (.tup [.int (gs.length + 1), .ref ar]) → Chg d.l H H' → Q (.ref t) H')
theorem ok_lend (D : MDat K CL "lend" "Lender.lend" (inClass (top 32) 5) ["self", "hand", "least"]) (SC : LdC K CL) (SS : StC K CS) (BT : Bt mg) (NE : NoErr (CX1 P w)) (O_NoRoom : ECls K mg "NoRoom" CN) (g_LAST : GlV mg "LAST" (.int 1000000000000000000000000000000)) (M_Lender_slot_and_first : MCal P w K mg base (CX1 P w) CL "slot_and_first" 4 ["self", "least"] (spSlotF K C CS CL)) : MCal P w K mg base (CX1 P w) CL "lend" 5 ["self", "hand", "least"] (spLend K C CS CL CN) := by
 have S := sc_lend
 refine mdat_okR D S (fun vs H Q E h => ?_) (fun f cdv A outer s H vs Q E hr h => ?_)
 ·obtain ⟨d, gs, nm, b, rfl, _⟩ := h
  rfl
 obtain ⟨d, gs, nm, b, rfl, hd, hok, hb, qe, q⟩ := h
 obtain ⟨⟨dx, hp⟩, hl, hG, ⟨hst, ⟨dz, hsh⟩, hsn, _⟩⟩ := id hd
 obtain ⟨dy, tr, ms, hst1, _, _⟩ := id hst
 have hlen := hok.len
 refine ⟨_, (@pss_cons _ _ _ _ _ (@ps_set _ _ 3 _ _ _ _ S.nd rfl (by first | exact Or.inl rfl | exact Or.inr rfl) (@pe_mt _ _ _ _ _ _ _ _ _ _ _ _ _ _ _ _ M_Lender_slot_and_first (hr.mono (by first | decide | omega)) NE.pass (@pv _ 0 _ _ (by rfl) (by first | exact Or.inl rfl | exact Or.inr (Or.inl rfl) | exact Or.inr (Or.inr rfl)) (by decide) (by decide)) (@pa_cons _ _ _ _ _ (@pv _ 2 _ _ (by rfl) (by first | exact Or.inl rfl | exact Or.inr (Or.inl rfl) | exact Or.inr (Or.inr rfl)) (by decide) (by decide)) (@pa_nil _) (by rfl)) (by rfl) (by rfl) (by rfl)) (by rfl) (by first | exact .inl rfl | exact .inr rfl | assumption)) (@pss_cons _ _ _ _ _ (@ps_set _ _ 4 _ _ _ _ S.nd rfl (by first | exact Or.inl rfl | exact Or.inr rfl) (@pe_op _ _ _ _ _ _ _ _ (@op_add _) (@pe_ix _ _ _ _ _ _ _ (@ix_tup _) (@pv _ 3 _ _ (by rfl) (by first | exact Or.inl rfl | exact Or.inr (Or.inl rfl) | exact Or.inr (Or.inr rfl)) (by decide) (by decide)) (@pe_int _ _ _ _) (fun _ _ => rfl)) (@pe_fld _ _ _ _ _ (@pe_fld _ _ _ _ _ (@pv _ 0 _ _ (by rfl) (by first | exact Or.inl rfl | exact Or.inr (Or.inl rfl) | exact Or.inr (Or.inr rfl)) (by decide) (by decide)) rfl) rfl)) (by rfl) (by first | exact .inl rfl | exact .inr rfl | assumption)) (@pss_cons _ _ _ _ _ (@ps_if _ _ _ _ _ _ _ _ (@pt_cmpR _ _ _ _ _ _ _ _ (@op_gt _) (@pv _ 4 _ _ (by rfl) (by first | exact Or.inl rfl | exact Or.inr (Or.inl rfl) | exact Or.inr (Or.inr rfl)) (by decide) (by decide)) (@pe_g _ _ _ _ g_LAST (by rfl) (by decide)) (@nomark _ _ (by decide) (by decide))) (@pss_one _ _ _ (@ps_raise _ _ _ _ _ _ _ _ _ _ O_NoRoom rfl (@paX_self _ _) (@pa_cons _ _ _ _ _ (@pe_str _ _ _ _) (@pa_nil _) (by rfl)) (by rfl) (by decide) (by rfl) (by rfl))) (@pss_nil _)) (@pss_cons _ _ _ _ _ (@ps_set _ _ 5 _ _ _ _ S.nd rfl (by first | exact Or.inl rfl | exact Or.inr rfl) (@pe_op _ _ _ _ _ _ _ _ (@op_add _) (@pe_callB _ _ _ _ _ _ _ _ _ (@c_len _) rfl BT.len L3.bt_len (@pa_cons _ _ _ _ _ (@pe_fld _ _ _ _ _ (@pv _ 0 _ _ (by rfl) (by first | exact Or.inl rfl | exact Or.inr (Or.inl rfl) | exact Or.inr (Or.inr rfl)) (by decide) (by decide)) rfl) (@pa_nil _) (by rfl)) (by decide) (by decide) (by rfl) (by rfl)) (@pe_int _ _ _ _)) (by rfl) (by first | exact .inl rfl | exact .inr rfl | assumption)) (@pss_cons _ _ _ _ _ (@ps_set _ _ 6 _ _ _ _ S.nd rfl (by first | exact Or.inl rfl | exact Or.inr rfl) (@pe_tup _ _ _ _ _ (@pa_cons _ _ _ _ _ (@pe_ix _ _ _ _ _ _ _ (@ix_tup _) (@pv _ 3 _ _ (by rfl) (by first | exact Or.inl rfl | exact Or.inr (Or.inl rfl) | exact Or.inr (Or.inr rfl)) (by decide) (by decide)) (@pe_int _ _ _ _) (fun _ _ => rfl)) (@pa_cons _ _ _ _ _ (@pe_ix _ _ _ _ _ _ _ (@ix_tup _) (@pv _ 3 _ _ (by rfl) (by first | exact Or.inl rfl | exact Or.inr (Or.inl rfl) | exact Or.inr (Or.inr rfl)) (by decide) (by decide)) (@pe_int _ _ _ _) (fun _ _ => rfl)) (@pa_cons _ _ _ _ _ (@pv _ 4 _ _ (by rfl) (by first | exact Or.inl rfl | exact Or.inr (Or.inl rfl) | exact Or.inr (Or.inr rfl)) (by decide) (by decide)) (@pa_nil _) (by rfl)) (by rfl)) (by rfl))) (by rfl) (by first | exact .inl rfl | exact .inr rfl | assumption)) (@pss_cons _ _ _ _ _ (@ps_expr _ _ _ _ (@pe_bm _ _ _ _ _ _ _ _ _ _ _ _ PySem.F.plainAttrs_list PySem.F.slot_list_append PySem.F.type_list_append (@mt_append _) (@pe_fld _ _ _ _ _ (@pv _ 0 _ _ (by rfl) (by first | exact Or.inl rfl | exact Or.inr (Or.inl rfl) | exact Or.inr (Or.inr rfl)) (by decide) (by decide)) rfl) (@pa_cons _ _ _ _ _ (@pe_tup _ _ _ _ _ (@pa_cons _ _ _ _ _ (@pv _ 5 _ _ (by rfl) (by first | exact Or.inl rfl | exact Or.inr (Or.inl rfl) | exact Or.inr (Or.inr rfl)) (by decide) (by decide)) (@pa_cons _ _ _ _ _ (@pv _ 1 _ _ (by rfl) (by first | exact Or.inl rfl | exact Or.inr (Or.inl rfl) | exact Or.inr (Or.inr rfl)) (by decide) (by decide)) (@pa_cons _ _ _ _ _ (@pv _ 6 _ _ (by rfl) (by first | exact Or.inl rfl | exact Or.inr (Or.inl rfl) | exact Or.inr (Or.inr rfl)) (by decide) (by decide)) (@pa_nil _) (by rfl)) (by rfl)) (by rfl))) (@pa_nil _) (by rfl)) (by rfl) (by rfl) (by rfl) (by rfl) (by rfl)) (by rfl)) (@pss_one _ _ _ (@ps_ret _ _ _ _ (@pe_tup _ _ _ _ _ (@pa_cons _ _ _ _ _ (@pv _ 5 _ _ (by rfl) (by first | exact Or.inl rfl | exact Or.inr (Or.inl rfl) | exact Or.inr (Or.inr rfl)) (by decide) (by decide)) (@pa_cons _ _ _ _ _ (@pv _ 6 _ _ (by rfl) (by first | exact Or.inl rfl | exact Or.inr (Or.inl rfl) | exact Or.inr (Or.inr rfl)) (by decide) (by decide)) (@pa_nil _) (by rfl)) (by rfl))))))))))), ?_⟩
 try dsimp only [cxOf]
 walk_at "go"
 refine g_methv hp m_slotf ?_
 walk_at "go"
 refine ⟨d, gs, b, rfl, hd, hok, hb, fun t x y H1 hn ht s1 => ?_⟩
 have hl1 := s1 _ _ hl
 have L := (led_one hl1).more (tupAt t [.int x, .int y]) ht
 walk_at "go"
 refine ⟨d.p, CL, dx, _, _, rfl, s1 _ _ hp, SC.cl, SC.n1, ldF_s _ _, ?_⟩
 walk_at "go"
 refine ⟨d.ps, CS, dy, _, _, rfl, s1 _ _ hst1, SS.cl, SS.n4, stF_term _ _ _ _ _, ?_⟩
 walk_at "go"
 refine g_ifD (fun c1 => ?_) (fun c1 => ?_)
 ·walk_at "go"
  exact qe x y hn c1 H1 s1
 walk_at "go"
 refine ⟨d.p, CL, dx, _, _, rfl, s1 _ _ hp, SC.cl, SC.n2, ldF_l _ _, ?_⟩
 walk_at "go"
 rename_i sA
 obtain ⟨ar, ear⟩ : ∃ z, z = t' := ⟨_, rfl⟩
 subst ear
 have hpA := L'.fr _ _ (s1 _ _ hp) (fun z => by have e := s1 _ _ hp; rw [z, hl1] at e; cases e)
 refine ⟨d.p, CL, dx, _, _, rfl, hpA, SC.cl, SC.n2, ldF_l _ _, ?_⟩
 walk_at "go"
 obtain ⟨g, eg⟩ : ∃ z, z = t' := ⟨_, rfl⟩
 subst eg
 rw [grV_len] at L'
 rw [grV_len]
 refine g_append L' .head (by rw [grV_len]; exact small1000 (by omega)) fun HA LA _ => ?_
 walk_at "go"
 have ch := L'.chg (fun xs z => by rw [hl1] at z; cases z)
 refine q x y hn c1 g ar _ _ ((hd.same s1).put ch (by rw [grV_snoc]; exact L'.eo .head) (GrsAt.snoc ((hG.same s1).ts ch.ts) ⟨L'.tup (by walk_at "mem"), L'.tup (by walk_at "mem")⟩)) (L'.tup (by walk_at "mem")) ⟨fun q o e n => ch.oth q o (s1 _ _ e) n, fun q xs e => ch.ts q xs (s1 _ _ e)⟩
end
end Law

namespace Law
open PySem PySem.Spec PyProof.Rows L2 L3 L4
theorem str_at {z : Str} {r : Int} (h0 : 0 ≤ r) (h1 : r < z.cps.toList.length) : ∃ c, atI z.cps.toList r = some c := by
 obtain ⟨n, rfl⟩ := Int.eq_ofNat_of_zero_le h0
 exact ⟨_, atI_nat (List.getElem?_eq_getElem (by omega))⟩
section
variable {P : Program} {w : World} {K : PySem.W.Frag} {mg : Str → Option Value} {base : Heap} {CX : CXT}
theorem sc_word : FnScope ["_law_hand_here", "_law_letters", "_law_word_here", "_law_k"] ["_law_hand_here"] (defScope (top 39)) := by walk_at "s"
def spWord : Sp := fun vs H Q _ => ∃ (p : Addr) (b : Int), vs = [.ref p] ∧ HandAt H p b ∧ b ≤ 10000000 ∧ ∀ (x : Str) (H' : Hp), x.length ≤ 8 → HandAt H' p (b + 9216) → Oth p H H' → Q (.str x) H'
theorem ok_word (D : Dat K mg "_law_word" "_law_word" (top 39) ["_law_hand_here"]) (BT : Bt mg) (NE : NoErr CX) (c__law_pick : Cal P w K mg base CX "_law_pick" 11 ["_law_hand_here", "_law_many_here"] spPick) : Cal P w K mg base CX "_law_word" 12 ["_law_hand_here"] spWord := by
 have S := sc_word
 walk_at "d"
 ·obtain ⟨p, b, rfl, _⟩ := h
  rfl
 obtain ⟨p, b, rfl, hh, hb, q⟩ := h
 refine ⟨_, (@pss_cons _ _ _ _ _ (@ps_set _ _ 1 _ _ _ _ S.nd rfl (by first | exact Or.inl rfl | exact Or.inr rfl) (@pe_str _ _ _ _) (by rfl) (by first | exact .inl rfl | exact .inr rfl | assumption)) (@pss_cons _ _ _ _ _ (@ps_set _ _ 2 _ _ _ _ S.nd rfl (by first | exact Or.inl rfl | exact Or.inr rfl) (@pe_str _ _ _ _) (by rfl) (by first | exact .inl rfl | exact .inr rfl | assumption)) (@pss_cons _ _ _ _ _ (@ps_for _ _ _ _ _ _ _ _ PassesOwn.never rfl (@pi_range1 _ _ _ _ _ _ rfl BT.range (@pa_cons _ _ _ _ _ (@pe_op _ _ _ _ _ _ _ _ (@op_add _) (@pe_int _ _ _ _) (@pe_fn _ _ _ _ _ _ _ _ _ _ _ _ c__law_pick (hr.mono (by first | decide | omega)) NE.pass (@pa_cons _ _ _ _ _ (@pv _ 0 _ _ (by rfl) (by first | exact Or.inl rfl | exact Or.inr (Or.inl rfl) | exact Or.inr (Or.inr rfl)) (by decide) (by decide)) (@pa_cons _ _ _ _ _ (@pe_int _ _ _ _) (@pa_nil _) (by rfl)) (by rfl)) (by rfl) (by decide) (by rfl) (by rfl))) (@pa_nil _) (by rfl)) (by rfl)) (@pg_name _ _ 3 _ S.nd rfl (by first | exact Or.inl rfl | exact Or.inr rfl) (by first | exact .inl rfl | exact .inr rfl | assumption)) (@pss_one _ _ _ (@ps_set _ _ 2 _ _ _ _ S.nd rfl (by first | exact Or.inl rfl | exact Or.inr rfl) (@pe_op _ _ _ _ _ _ _ _ (@o_addS _) (@pv _ 2 _ _ (by rfl) (by first | exact Or.inl rfl | exact Or.inr (Or.inl rfl) | exact Or.inr (Or.inr rfl)) (by decide) (by decide)) (@pe_ix _ _ _ _ _ _ _ (@ix_str _) (@pv _ 1 _ _ (by rfl) (by first | exact Or.inl rfl | exact Or.inr (Or.inl rfl) | exact Or.inr (Or.inr rfl)) (by decide) (by decide)) (@pe_fn _ _ _ _ _ _ _ _ _ _ _ _ c__law_pick (hr.mono (by first | decide | omega)) NE.pass (@pa_cons _ _ _ _ _ (@pv _ 0 _ _ (by rfl) (by first | exact Or.inl rfl | exact Or.inr (Or.inl rfl) | exact Or.inr (Or.inr rfl)) (by decide) (by decide)) (@pa_cons _ _ _ _ _ (@pe_int _ _ _ _) (@pa_nil _) (by rfl)) (by rfl)) (by rfl) (by decide) (by rfl) (by rfl)) (fun _ _ => rfl))) (by rfl) (by first | exact .inl rfl | exact .inr rfl | assumption))) (by intro _; rfl)) (@pss_one _ _ _ (@ps_ret _ _ _ _ (@pv _ 2 _ _ (by rfl) (by first | exact Or.inl rfl | exact Or.inr (Or.inl rfl) | exact Or.inr (Or.inr rfl)) (by decide) (by decide))))))), ?_⟩
 try dsimp only [cxOf]
 have L := led_hand hh
 walk_at "go"
 refine use_pick L .head (by decide) (by decide) (by omega) fun r1 H1 a0 a1 L _ => ?_
 have o1 : Oth p H H1 := L.fr
 have h1 := HandO.at (L.at_ (p, HandO _) (by walk_at "mem"))
 clear L
 walk_at "go"
 refine g_forR (fun i σ H' => ∃ (u3 : Option V) (z : Str), σ = [some (.ref p), some (.str "abcdefghijklmnopqrstuvwxyz"), some (.str z), u3] ∧ z.length ≤ i ∧ HandAt H' p (b + 1024 + 1024 * i) ∧ Oth p H H') ⟨_, _, rfl, Nat.le_refl 0, h1.mono (by omega), o1⟩ ?_ ?_
 ·rintro i σ HG hi ⟨u3, z, rfl, hz, hG, oG⟩
  have hi8 : i < 8 := by omega
  have L := led_hand hG
  try dsimp only [gName]
  walk_at "go"
  refine use_pick L .head (by decide) (by decide) (by omega) fun r2 H2 b0 b1 L _ => ?_
  walk_at "go"
  obtain ⟨cc, hc⟩ := str_at (z := "abcdefghijklmnopqrstuvwxyz") b0 (show r2 < (26 : Nat) from b1)
  refine g_ixS (by decide +kernel) hc ?_
  have e1 : (⟨#[cc]⟩ : Str).length = 1 := rfl
  refine g_addS (Nat.le_of_lt (small1000 (by rw [e1]; omega))) ?_
  walk_at "go"
  exact ⟨_, _, rfl, by rw [Str.length_append, e1]; omega, (HandO.at (L.at_ (p, HandO _) (by walk_at "mem"))).mono (by omega), oG.trans L.fr⟩
 ·rintro σ HG ⟨u3, z, rfl, hz, hG, oG⟩
  walk_at "go"
  exact q _ _ (by omega) (hG.mono (by omega)) oG
end
end Law

namespace Law
open PySem PySem.Spec PyProof.Rows L2 L3 L4
section
variable {P : Program} {w : World} {K : PySem.W.Frag} {mg : Str → Option Value} {base : Heap} {CX : CXT} {C CS CL CN : Addr}
theorem sc_lmany : FnScope ["_law_hand_here", "_law_way"] ["_law_hand_here"] (defScope (top 40)) := by walk_at "s"
def spLMany : Sp := fun vs H Q _ => ∃ (p : Addr) (b : Int), vs = [.ref p] ∧ HandAt H p b ∧ b ≤ 100000000 ∧ ∀ (r : Int) (H' : Hp), 1 ≤ r → r ≤ 1000 → HandAt H' p (b + 2048) → Oth p H H' → Q (.int r) H'
theorem ok_lmany (D : Dat K mg "_law_many" "_law_many" (top 40) ["_law_hand_here"]) (NE : NoErr CX) (c__law_pick : Cal P w K mg base CX "_law_pick" 11 ["_law_hand_here", "_law_many_here"] spPick) : Cal P w K mg base CX "_law_many" 12 ["_law_hand_here"] spLMany := by
 have S := sc_lmany
 walk_at "d"
 ·obtain ⟨p, b, rfl, _⟩ := h
  rfl
 obtain ⟨p, b, rfl, hh, hb, q⟩ := h
 refine ⟨_, (@pss_cons _ _ _ _ _ (@ps_set _ _ 1 _ _ _ _ S.nd rfl (by first | exact Or.inl rfl | exact Or.inr rfl) (@pe_fn _ _ _ _ _ _ _ _ _ _ _ _ c__law_pick (hr.mono (by first | decide | omega)) NE.pass (@pa_cons _ _ _ _ _ (@pv _ 0 _ _ (by rfl) (by first | exact Or.inl rfl | exact Or.inr (Or.inl rfl) | exact Or.inr (Or.inr rfl)) (by decide) (by decide)) (@pa_cons _ _ _ _ _ (@pe_int _ _ _ _) (@pa_nil _) (by rfl)) (by rfl)) (by rfl) (by decide) (by rfl) (by rfl)) (by rfl) (by first | exact .inl rfl | exact .inr rfl | assumption)) (@pss_cons _ _ _ _ _ (@ps_if _ _ _ _ _ _ _ _ (@pt_cmpR _ _ _ _ _ _ _ _ (@op_eq _) (@pv _ 1 _ _ (by rfl) (by first | exact Or.inl rfl | exact Or.inr (Or.inl rfl) | exact Or.inr (Or.inr rfl)) (by decide) (by decide)) (@pe_int _ _ _ _) (@nomark _ _ (by decide) (by decide))) (@pss_one _ _ _ (@ps_ret _ _ _ _ (@pe_op _ _ _ _ _ _ _ _ (@op_add _) (@pe_int _ _ _ _) (@pe_fn _ _ _ _ _ _ _ _ _ _ _ _ c__law_pick (hr.mono (by first | decide | omega)) NE.pass (@pa_cons _ _ _ _ _ (@pv _ 0 _ _ (by rfl) (by first | exact Or.inl rfl | exact Or.inr (Or.inl rfl) | exact Or.inr (Or.inr rfl)) (by decide) (by decide)) (@pa_cons _ _ _ _ _ (@pe_int _ _ _ _) (@pa_nil _) (by rfl)) (by rfl)) (by rfl) (by decide) (by rfl) (by rfl))))) (@pss_nil _)) (@pss_cons _ _ _ _ _ (@ps_if _ _ _ _ _ _ _ _ (@pt_cmpR _ _ _ _ _ _ _ _ (@op_eq _) (@pv _ 1 _ _ (by rfl) (by first | exact Or.inl rfl | exact Or.inr (Or.inl rfl) | exact Or.inr (Or.inr rfl)) (by decide) (by decide)) (@pe_int _ _ _ _) (@nomark _ _ (by decide) (by decide))) (@pss_one _ _ _ (@ps_ret _ _ _ _ (@pe_op _ _ _ _ _ _ _ _ (@op_add _) (@pe_int _ _ _ _) (@pe_fn _ _ _ _ _ _ _ _ _ _ _ _ c__law_pick (hr.mono (by first | decide | omega)) NE.pass (@pa_cons _ _ _ _ _ (@pv _ 0 _ _ (by rfl) (by first | exact Or.inl rfl | exact Or.inr (Or.inl rfl) | exact Or.inr (Or.inr rfl)) (by decide) (by decide)) (@pa_cons _ _ _ _ _ (@pe_int _ _ _ _) (@pa_nil _) (by rfl)) (by rfl)) (by rfl) (by decide) (by rfl) (by rfl))))) (@pss_nil _)) (@pss_one _ _ _ (@ps_ret _ _ _ _ (@pe_op _ _ _ _ _ _ _ _ (@op_add _) (@pe_int _ _ _ _) (@pe_fn _ _ _ _ _ _ _ _ _ _ _ _ c__law_pick (hr.mono (by first | decide | omega)) NE.pass (@pa_cons _ _ _ _ _ (@pv _ 0 _ _ (by rfl) (by first | exact Or.inl rfl | exact Or.inr (Or.inl rfl) | exact Or.inr (Or.inr rfl)) (by decide) (by decide)) (@pa_cons _ _ _ _ _ (@pe_int _ _ _ _) (@pa_nil _) (by rfl)) (by rfl)) (by rfl) (by decide) (by rfl) (by rfl)))))))), ?_⟩
 try dsimp only [cxOf]
 have L := led_hand hh
 walk_at "go"
 refine use_pick L .head (by decide) (by decide) (by omega) fun r1 H1 a1 a2 L _ => ?_
 walk_at "go"
 refine g_ifD (fun c => ?_) (fun c => ?_)
 ·walk_at "go"
  refine use_pick L .head (by decide) (by decide) (by omega) fun r2 H2 b1 b2 L _ => ?_
  walk_at "go"
  exact q _ _ (by omega) (by omega) ((HandO.at (L.at_ _ (.head _))).mono (by omega)) L.fr
 walk_at "go"
 refine g_ifD (fun c => ?_) (fun c => ?_)
 ·walk_at "go"
  refine use_pick L .head (by decide) (by decide) (by omega) fun r2 H2 b1 b2 L _ => ?_
  walk_at "go"
  exact q _ _ (by omega) (by omega) ((HandO.at (L.at_ _ (.head _))).mono (by omega)) L.fr
 walk_at "go"
 refine use_pick L .head (by decide) (by decide) (by omega) fun r2 H2 b1 b2 L _ => ?_
 walk_at "go"
 exact q _ _ (by omega) (by omega) ((HandO.at (L.at_ _ (.head _))).mono (by omega)) L.fr
theorem sc_lterm : FnScope ["_law_hand_here", "_law_way"] ["_law_hand_here"] (defScope (top 41)) := by walk_at "s"
def spLTerm : Sp := fun vs H Q _ => ∃ (p : Addr) (b : Int), vs = [.ref p] ∧ HandAt H p b ∧ b ≤ 100000000 ∧ ∀ (r : Int) (H' : Hp), 1 ≤ r → r ≤ 1000000000000 → HandAt H' p (b + 2048) → Oth p H H' → Q (.int r) H'
theorem ok_lterm (D : Dat K mg "_law_term" "_law_term" (top 41) ["_law_hand_here"]) (NE : NoErr CX) (c__law_pick : Cal P w K mg base CX "_law_pick" 11 ["_law_hand_here", "_law_many_here"] spPick) : Cal P w K mg base CX "_law_term" 12 ["_law_hand_here"] spLTerm := by
 have S := sc_lterm
 walk_at "d"
 ·obtain ⟨p, b, rfl, _⟩ := h
  rfl
 obtain ⟨p, b, rfl, hh, hb, q⟩ := h
 refine ⟨_, (@pss_cons _ _ _ _ _ (@ps_set _ _ 1 _ _ _ _ S.nd rfl (by first | exact Or.inl rfl | exact Or.inr rfl) (@pe_fn _ _ _ _ _ _ _ _ _ _ _ _ c__law_pick (hr.mono (by first | decide | omega)) NE.pass (@pa_cons _ _ _ _ _ (@pv _ 0 _ _ (by rfl) (by first | exact Or.inl rfl | exact Or.inr (Or.inl rfl) | exact Or.inr (Or.inr rfl)) (by decide) (by decide)) (@pa_cons _ _ _ _ _ (@pe_int _ _ _ _) (@pa_nil _) (by rfl)) (by rfl)) (by rfl) (by decide) (by rfl) (by rfl)) (by rfl) (by first | exact .inl rfl | exact .inr rfl | assumption)) (@pss_cons _ _ _ _ _ (@ps_if _ _ _ _ _ _ _ _ (@pt_cmpR _ _ _ _ _ _ _ _ (@op_eq _) (@pv _ 1 _ _ (by rfl) (by first | exact Or.inl rfl | exact Or.inr (Or.inl rfl) | exact Or.inr (Or.inr rfl)) (by decide) (by decide)) (@pe_int _ _ _ _) (@nomark _ _ (by decide) (by decide))) (@pss_one _ _ _ (@ps_ret _ _ _ _ (@pe_op _ _ _ _ _ _ _ _ (@op_add _) (@pe_int _ _ _ _) (@pe_fn _ _ _ _ _ _ _ _ _ _ _ _ c__law_pick (hr.mono (by first | decide | omega)) NE.pass (@pa_cons _ _ _ _ _ (@pv _ 0 _ _ (by rfl) (by first | exact Or.inl rfl | exact Or.inr (Or.inl rfl) | exact Or.inr (Or.inr rfl)) (by decide) (by decide)) (@pa_cons _ _ _ _ _ (@pe_int _ _ _ _) (@pa_nil _) (by rfl)) (by rfl)) (by rfl) (by decide) (by rfl) (by rfl))))) (@pss_nil _)) (@pss_cons _ _ _ _ _ (@ps_if _ _ _ _ _ _ _ _ (@pt_cmpR _ _ _ _ _ _ _ _ (@op_eq _) (@pv _ 1 _ _ (by rfl) (by first | exact Or.inl rfl | exact Or.inr (Or.inl rfl) | exact Or.inr (Or.inr rfl)) (by decide) (by decide)) (@pe_int _ _ _ _) (@nomark _ _ (by decide) (by decide))) (@pss_one _ _ _ (@ps_ret _ _ _ _ (@pe_op _ _ _ _ _ _ _ _ (@op_sub _) (@pe_op _ _ _ _ _ _ _ _ (@op_pow _) (@pe_int _ _ _ _) (@pe_int _ _ _ _)) (@pe_fn _ _ _ _ _ _ _ _ _ _ _ _ c__law_pick (hr.mono (by first | decide | omega)) NE.pass (@pa_cons _ _ _ _ _ (@pv _ 0 _ _ (by rfl) (by first | exact Or.inl rfl | exact Or.inr (Or.inl rfl) | exact Or.inr (Or.inr rfl)) (by decide) (by decide)) (@pa_cons _ _ _ _ _ (@pe_int _ _ _ _) (@pa_nil _) (by rfl)) (by rfl)) (by rfl) (by decide) (by rfl) (by rfl))))) (@pss_nil _)) (@pss_cons _ _ _ _ _ (@ps_if _ _ _ _ _ _ _ _ (@pt_cmpR _ _ _ _ _ _ _ _ (@op_eq _) (@pv _ 1 _ _ (by rfl) (by first | exact Or.inl rfl | exact Or.inr (Or.inl rfl) | exact Or.inr (Or.inr rfl)) (by decide) (by decide)) (@pe_int _ _ _ _) (@nomark _ _ (by decide) (by decide))) (@pss_one _ _ _ (@ps_ret _ _ _ _ (@pe_op _ _ _ _ _ _ _ _ (@op_add _) (@pe_int _ _ _ _) (@pe_fn _ _ _ _ _ _ _ _ _ _ _ _ c__law_pick (hr.mono (by first | decide | omega)) NE.pass (@pa_cons _ _ _ _ _ (@pv _ 0 _ _ (by rfl) (by first | exact Or.inl rfl | exact Or.inr (Or.inl rfl) | exact Or.inr (Or.inr rfl)) (by decide) (by decide)) (@pa_cons _ _ _ _ _ (@pe_op _ _ _ _ _ _ _ _ (@op_pow _) (@pe_int _ _ _ _) (@pe_int _ _ _ _)) (@pa_nil _) (by rfl)) (by rfl)) (by rfl) (by decide) (by rfl) (by rfl))))) (@pss_nil _)) (@pss_one _ _ _ (@ps_ret _ _ _ _ (@pe_op _ _ _ _ _ _ _ _ (@op_add _) (@pe_int _ _ _ _) (@pe_fn _ _ _ _ _ _ _ _ _ _ _ _ c__law_pick (hr.mono (by first | decide | omega)) NE.pass (@pa_cons _ _ _ _ _ (@pv _ 0 _ _ (by rfl) (by first | exact Or.inl rfl | exact Or.inr (Or.inl rfl) | exact Or.inr (Or.inr rfl)) (by decide) (by decide)) (@pa_cons _ _ _ _ _ (@pe_int _ _ _ _) (@pa_nil _) (by rfl)) (by rfl)) (by rfl) (by decide) (by rfl) (by rfl))))))))), ?_⟩
 try dsimp only [cxOf]
 have tp : ((10 : Int) ^ Int.toNat 12) = 1000000000000 := rfl
 have L := led_hand hh
 walk_at "go"
 refine use_pick L .head (by decide) (by decide) (by omega) fun r1 H1 a1 a2 L _ => ?_
 walk_at "go"
 refine g_ifD (fun c => ?_) (fun c => ?_)
 ·walk_at "go"
  refine use_pick L .head (by decide) (by decide) (by omega) fun r2 H2 b1 b2 L _ => ?_
  walk_at "go"
  exact q _ _ (by omega) (by omega) ((HandO.at (L.at_ _ (.head _))).mono (by omega)) L.fr
 walk_at "go"
 refine g_ifD (fun c => ?_) (fun c => ?_)
 ·walk_at "go"
  rw [tp]
  refine use_pick L .head (by decide) (by decide) (by omega) fun r2 H2 b1 b2 L _ => ?_
  walk_at "go"
  exact q _ _ (by omega) (by omega) ((HandO.at (L.at_ _ (.head _))).mono (by omega)) L.fr
 walk_at "go"
 refine g_ifD (fun c => ?_) (fun c => ?_)
 ·walk_at "go"
  rw [tp]
  refine use_pick L .head (by decide) (by decide) (by omega) fun r2 H2 b1 b2 L _ => ?_
  walk_at "go"
  exact q _ _ (by omega) (by omega) ((HandO.at (L.at_ _ (.head _))).mono (by omega)) L.fr
 walk_at "go"
 refine use_pick L .head (by decide) (by decide) (by omega) fun r2 H2 b1 b2 L _ => ?_
 walk_at "go"
 exact q _ _ (by omega) (by omega) ((HandO.at (L.at_ _ (.head _))).mono (by omega)) L.fr
def w4 : List Str := ["ahead", "ends", "once", "spoken"]
theorem w4_nodup : w4.Nodup := by unfold w4; decide +kernel
theorem w4_mem : ∀ z ∈ w4, z ∈ ruleW := by
 intro z hz
 unfold w4 at hz
 unfold ruleW
 simp only [List.mem_cons, List.not_mem_nil, or_false] at hz ⊢
 rcases hz with rfl | rfl | rfl | rfl <;> simp
theorem w4_not : ¬ (("apart" : Str) ∈ w4) := by unfold w4; decide +kernel
theorem hand_up {PP : Addr → Prop} {H0 H : Hp} {l l' : List (Addr × Ob)} {fs : List Pr} {p : Addr} {b b' : Int} (L : Led PP H0 H l fs) (m : Put p (HandO b) (HandO b') l l') (h : b ≤ b') : Led PP H0 H l' fs :=
 L.weak m fun _ _ ⟨a, x, c, e, r0, r1, r2, r3⟩ => ⟨a, x, c, e, r0, r1, r2, by omega⟩
theorem ru_sub4 {ws : List Str} {i : Nat} (h : ws.Sublist (w4.take i)) : RuN ws ∧ ¬ (("apart" : Str) ∈ ws) :=
 ⟨⟨fun z hz => w4_mem z (List.mem_of_mem_take (h.mem hz)), (h.trans (List.take_sublist _ _)).nodup w4_nodup⟩, fun z => w4_not (List.mem_of_mem_take (h.mem z))⟩
theorem ru_apart {ws : List Str} (h : RuN ws) (n : ¬ (("apart" : Str) ∈ ws)) (i : Nat) : RuN (ws.take i ++ [("apart" : Str)] ++ ws.drop i) ∧ ("apart" : Str) ∈ ws.take i ++ [("apart" : Str)] ++ ws.drop i := by
 have pm : (ws.take i ++ [("apart" : Str)] ++ ws.drop i).Perm (("apart" : Str) :: ws) := by
  rw [List.append_assoc]
  have := (List.perm_middle (a := ("apart" : Str)) (l₁ := ws.take i) (l₂ := ws.drop i))
  rw [List.take_append_drop] at this
  exact this
 refine ⟨⟨fun z hz => ?_, pm.nodup_iff.mpr (List.nodup_cons.mpr ⟨n, h.nd⟩)⟩, pm.mem_iff.mpr List.mem_cons_self⟩
 rcases List.mem_cons.mp (pm.mem_iff.mp hz) with rfl | hz
 ·unfold ruleW; decide +kernel
 ·exact h.sub z hz
theorem g_newE {xs : List V} {H : Hp} {Q : VK} (hz : xs.length ≤ sizeLine) (h : ∀ p H', H p = none → H' p = some (.lst xs) → Same H H' → Q (.ref p) H') : NewL xs H Q :=
 ⟨hz, fun p np => h p _ np upd_same (same_upd0 np)⟩
theorem g_catE {p r : Addr} {xs ys : List V} {H : Hp} {Q : VK} (h1 : H p = some (.lst xs)) (h2 : H r = some (.lst ys)) (hz : xs.length + ys.length ≤ sizeLine) (h : ∀ b H', H b = none → H' b = some (.lst (xs ++ ys)) → Same H H' → Q (.ref b) H') : rCat (.ref p) (.ref r) H Q :=
 ⟨p, r, xs, ys, rfl, rfl, h1, h2, hz, fun b nb => h b _ nb upd_same (same_upd0 nb)⟩
theorem g_slE {p : Addr} {xs : List V} {lo hi : Option Int} {H : Hp} {Q : VK} (s : SqL K H p xs) (h : ∀ b H', H b = none → H' b = some (.lst (cutV xs lo hi)) → Same H H' → Q (.ref b) H') : rSlL K (.ref p) lo hi H Q :=
 ⟨p, xs, rfl, s, fun b nb => h b _ nb upd_same (same_upd0 nb)⟩
theorem cut_strs {ws : List Str} {i : Nat} (h : i ≤ ws.length) : cutV (ws.map V.str) none (some (i : Int)) = (ws.take i).map V.str ∧ cutV (ws.map V.str) (some (i : Int)) none = (ws.drop i).map V.str := by
 unfold cutV
 constructor
 ·rw [HT.sIx_none, HT.sIx_nat, List.length_map, Nat.min_eq_left h, List.drop_zero, Nat.sub_zero, List.map_take]
 ·rw [HT.sIx_none, HT.sIx_nat, List.length_map, Nat.min_eq_left h, List.map_drop]
  exact List.take_of_length_le (by rw [List.length_drop, List.length_map]; exact Nat.le_refl _)
theorem sc_lset : FnScope ["_law_hand_here", "_law_apart_here", "_law_slots", "_law_term_here", "_law_counts", "_law_far", "_law_room", "_law_rules", "_law_word_here", "_law_at"] ["_law_hand_here", "_law_apart_here"] (defScope (top 42)) := by walk_at "s"
def spLSet (K : PySem.W.Frag) (C CS : Addr) : Sp := fun vs H Q _ => ∃ (p : Addr) (b : Int) (ap : Bool), vs = [.ref p, .bl ap] ∧ HandAt H p b ∧ b ≤ 1000000 ∧ ∀ (t ps sp : Addr) (c : Int) (s : Nat) (far room term : Int) (ws : List Str) (H' : Hp), SgAt K C CS H' ps sp c s far room term ws → decide (("apart" : Str) ∈ ws) = ap → H' t = some (.tup [.ref ps, .int s, .int term]) → Oth p H H' → Q (.ref t) H'
theorem ok_lset (D : Dat K mg "_law_settings" "_law_settings" (top 42) ["_law_hand_here", "_law_apart_here"]) (BT : Bt mg) (NE : NoErr CX) (c__law_pick : Cal P w K mg base CX "_law_pick" 11 ["_law_hand_here", "_law_many_here"] spPick) (c__law_many : Cal P w K mg base CX "_law_many" 12 ["_law_hand_here"] spLMany) (c__law_term : Cal P w K mg base CX "_law_term" 12 ["_law_hand_here"] spLTerm)
  (m_Shape : Mak P w K mg base CX "Shape" C 4 ["self", "counts", "slots"] (spShape C)) (m_Settings : Mak P w K mg base CX "Settings" CS 4 ["self", "shape", "far", "room", "term", "rules"] (spSettingsB K CS)) (m1_Settings : Mak1 P w K mg base CX "Settings" CS 4 ["self", "shape", "far", "room", "term", "rules"] (spSettingsB K CS)) : Cal P w K mg base CX "_law_settings" 13 ["_law_hand_here", "_law_apart_here"] (spLSet K C CS) := by
 have S := sc_lset
 walk_at "d"
 ·obtain ⟨p, b, ap, rfl, _⟩ := h
  rfl
 obtain ⟨p, b, ap, rfl, hh, hb, q⟩ := h
 refine ⟨_, (@pss_cons _ _ _ _ _ (@ps_set _ _ 2 _ _ _ _ S.nd rfl (by first | exact Or.inl rfl | exact Or.inr rfl) (@pe_fn _ _ _ _ _ _ _ _ _ _ _ _ c__law_many (hr.mono (by first | decide | omega)) NE.pass (@pa_cons _ _ _ _ _ (@pv _ 0 _ _ (by rfl) (by first | exact Or.inl rfl | exact Or.inr (Or.inl rfl) | exact Or.inr (Or.inr rfl)) (by decide) (by decide)) (@pa_nil _) (by rfl)) (by rfl) (by decide) (by rfl) (by rfl)) (by rfl) (by first | exact .inl rfl | exact .inr rfl | assumption)) (@pss_cons _ _ _ _ _ (@ps_set _ _ 3 _ _ _ _ S.nd rfl (by first | exact Or.inl rfl | exact Or.inr rfl) (@pe_fn _ _ _ _ _ _ _ _ _ _ _ _ c__law_term (hr.mono (by first | decide | omega)) NE.pass (@pa_cons _ _ _ _ _ (@pv _ 0 _ _ (by rfl) (by first | exact Or.inl rfl | exact Or.inr (Or.inl rfl) | exact Or.inr (Or.inr rfl)) (by decide) (by decide)) (@pa_nil _) (by rfl)) (by rfl) (by decide) (by rfl) (by rfl)) (by rfl) (by first | exact .inl rfl | exact .inr rfl | assumption)) (@pss_cons _ _ _ _ _ (@ps_set _ _ 4 _ _ _ _ S.nd rfl (by first | exact Or.inl rfl | exact Or.inr rfl) (@pe_fn _ _ _ _ _ _ _ _ _ _ _ _ c__law_many (hr.mono (by first | decide | omega)) NE.pass (@pa_cons _ _ _ _ _ (@pv _ 0 _ _ (by rfl) (by first | exact Or.inl rfl | exact Or.inr (Or.inl rfl) | exact Or.inr (Or.inr rfl)) (by decide) (by decide)) (@pa_nil _) (by rfl)) (by rfl) (by decide) (by rfl) (by rfl)) (by rfl) (by first | exact .inl rfl | exact .inr rfl | assumption)) (@pss_cons _ _ _ _ _ (@ps_set _ _ 5 _ _ _ _ S.nd rfl (by first | exact Or.inl rfl | exact Or.inr rfl) (@pe_fn _ _ _ _ _ _ _ _ _ _ _ _ c__law_pick (hr.mono (by first | decide | omega)) NE.pass (@pa_cons _ _ _ _ _ (@pv _ 0 _ _ (by rfl) (by first | exact Or.inl rfl | exact Or.inr (Or.inl rfl) | exact Or.inr (Or.inr rfl)) (by decide) (by decide)) (@pa_cons _ _ _ _ _ (@pe_int _ _ _ _) (@pa_nil _) (by rfl)) (by rfl)) (by rfl) (by decide) (by rfl) (by rfl)) (by rfl) (by first | exact .inl rfl | exact .inr rfl | assumption)) (@pss_cons _ _ _ _ _ (@ps_set _ _ 6 _ _ _ _ S.nd rfl (by first | exact Or.inl rfl | exact Or.inr rfl) (@pe_op _ _ _ _ _ _ _ _ (@op_add _) (@pe_int _ _ _ _) (@pe_fn _ _ _ _ _ _ _ _ _ _ _ _ c__law_pick (hr.mono (by first | decide | omega)) NE.pass (@pa_cons _ _ _ _ _ (@pv _ 0 _ _ (by rfl) (by first | exact Or.inl rfl | exact Or.inr (Or.inl rfl) | exact Or.inr (Or.inr rfl)) (by decide) (by decide)) (@pa_cons _ _ _ _ _ (@pe_int _ _ _ _) (@pa_nil _) (by rfl)) (by rfl)) (by rfl) (by decide) (by rfl) (by rfl))) (by rfl) (by first | exact .inl rfl | exact .inr rfl | assumption)) (@pss_cons _ _ _ _ _ (@ps_if _ _ _ _ _ _ _ _ (@PW.pt _ _ _ (@pw_and _ _ _ _ _ _ _ (@pt_val _ _ _ (@pv _ 1 _ _ (by rfl) (by first | exact Or.inl rfl | exact Or.inr (Or.inl rfl) | exact Or.inr (Or.inr rfl)) (by decide) (by decide)) (by intro _; rfl)) (@pw_and1 _ _ _ _ (@pt_cmpR _ _ _ _ _ _ _ _ (@op_eq _) (@pe_fn _ _ _ _ _ _ _ _ _ _ _ _ c__law_pick (hr.mono (by first | decide | omega)) NE.pass (@pa_cons _ _ _ _ _ (@pv _ 0 _ _ (by rfl) (by first | exact Or.inl rfl | exact Or.inr (Or.inl rfl) | exact Or.inr (Or.inr rfl)) (by decide) (by decide)) (@pa_cons _ _ _ _ _ (@pe_int _ _ _ _) (@pa_nil _) (by rfl)) (by rfl)) (by rfl) (by decide) (by rfl) (by rfl)) (@pe_int _ _ _ _) (@nomark _ _ (by decide) (by decide)))))) (@pss_one _ _ _ (@ps_ret _ _ _ _ (@pe_tup _ _ _ _ _ (@pa_cons _ _ _ _ _ (pe_mk1 m1_Settings (hr.mono (by first | decide | omega)) NE.pass (@pa_cons _ _ _ _ _ (@pe_mk _ _ _ _ _ _ _ _ _ _ _ _ _ m_Shape (hr.mono (by first | decide | omega)) NE.pass (@pa_cons _ _ _ _ _ (@pv _ 4 _ _ (by rfl) (by first | exact Or.inl rfl | exact Or.inr (Or.inl rfl) | exact Or.inr (Or.inr rfl)) (by decide) (by decide)) (@pa_cons _ _ _ _ _ (@pv _ 2 _ _ (by rfl) (by first | exact Or.inl rfl | exact Or.inr (Or.inl rfl) | exact Or.inr (Or.inr rfl)) (by decide) (by decide)) (@pa_nil _) (by rfl)) (by rfl)) (by rfl) (by decide) (by rfl) (by rfl)) (@pa_cons _ _ _ _ _ (@pv _ 5 _ _ (by rfl) (by first | exact Or.inl rfl | exact Or.inr (Or.inl rfl) | exact Or.inr (Or.inr rfl)) (by decide) (by decide)) (@pa_cons _ _ _ _ _ (@pv _ 6 _ _ (by rfl) (by first | exact Or.inl rfl | exact Or.inr (Or.inl rfl) | exact Or.inr (Or.inr rfl)) (by decide) (by decide)) (@pa_cons _ _ _ _ _ (@pv _ 3 _ _ (by rfl) (by first | exact Or.inl rfl | exact Or.inr (Or.inl rfl) | exact Or.inr (Or.inr rfl)) (by decide) (by decide)) (@pa_nil _) (by rfl)) (by rfl)) (by rfl)) (by rfl))) (@pa_cons _ _ _ _ _ (@pv _ 2 _ _ (by rfl) (by first | exact Or.inl rfl | exact Or.inr (Or.inl rfl) | exact Or.inr (Or.inr rfl)) (by decide) (by decide)) (@pa_cons _ _ _ _ _ (@pv _ 3 _ _ (by rfl) (by first | exact Or.inl rfl | exact Or.inr (Or.inl rfl) | exact Or.inr (Or.inr rfl)) (by decide) (by decide)) (@pa_nil _) (by rfl)) (by rfl)) (by rfl))))) (@pss_nil _)) (@pss_cons _ _ _ _ _ (@ps_set _ _ 7 _ _ _ _ S.nd rfl (by first | exact Or.inl rfl | exact Or.inr rfl) (@pe_lst _ _ _ _ (@pa_nil _)) (by rfl) (by first | exact .inl rfl | exact .inr rfl | assumption)) (@pss_cons _ _ _ _ _ (@ps_for _ _ _ _ _ _ _ _ PassesOwn.never rfl (@pi_list _ _ _ _ (@pe_lst _ _ _ _ (@pa_cons _ _ _ _ _ (@pe_str _ _ _ _) (@pa_cons _ _ _ _ _ (@pe_str _ _ _ _) (@pa_cons _ _ _ _ _ (@pe_str _ _ _ _) (@pa_cons _ _ _ _ _ (@pe_str _ _ _ _) (@pa_nil _) (by rfl)) (by rfl)) (by rfl)) (by rfl)))) (@pg_name _ _ 8 _ S.nd rfl (by first | exact Or.inl rfl | exact Or.inr rfl) (by first | exact .inl rfl | exact .inr rfl | assumption)) (@pss_one _ _ _ (@ps_if _ _ _ _ _ _ _ _ (@pt_cmpR _ _ _ _ _ _ _ _ (@op_gt _) (@pe_fn _ _ _ _ _ _ _ _ _ _ _ _ c__law_pick (hr.mono (by first | decide | omega)) NE.pass (@pa_cons _ _ _ _ _ (@pv _ 0 _ _ (by rfl) (by first | exact Or.inl rfl | exact Or.inr (Or.inl rfl) | exact Or.inr (Or.inr rfl)) (by decide) (by decide)) (@pa_cons _ _ _ _ _ (@pe_int _ _ _ _) (@pa_nil _) (by rfl)) (by rfl)) (by rfl) (by decide) (by rfl) (by rfl)) (@pe_int _ _ _ _) (@nomark _ _ (by decide) (by decide))) (@pss_one _ _ _ (@ps_expr _ _ _ _ (@pe_bm _ _ _ _ _ _ _ _ _ _ _ _ PySem.F.plainAttrs_list PySem.F.slot_list_append PySem.F.type_list_append (@mt_append _) (@pv _ 7 _ _ (by rfl) (by first | exact Or.inl rfl | exact Or.inr (Or.inl rfl) | exact Or.inr (Or.inr rfl)) (by decide) (by decide)) (@pa_cons _ _ _ _ _ (@pv _ 8 _ _ (by rfl) (by first | exact Or.inl rfl | exact Or.inr (Or.inl rfl) | exact Or.inr (Or.inr rfl)) (by decide) (by decide)) (@pa_nil _) (by rfl)) (by rfl) (by rfl) (by rfl) (by rfl) (by rfl)) (by rfl))) (@pss_nil _))) (by intro _; rfl)) (@pss_cons _ _ _ _ _ (@ps_if _ _ _ _ _ _ _ _ (@pt_val _ _ _ (@pv _ 1 _ _ (by rfl) (by first | exact Or.inl rfl | exact Or.inr (Or.inl rfl) | exact Or.inr (Or.inr rfl)) (by decide) (by decide)) (by intro _; rfl)) (@pss_cons _ _ _ _ _ (@ps_set _ _ 9 _ _ _ _ S.nd rfl (by first | exact Or.inl rfl | exact Or.inr rfl) (@pe_fn _ _ _ _ _ _ _ _ _ _ _ _ c__law_pick (hr.mono (by first | decide | omega)) NE.pass (@pa_cons _ _ _ _ _ (@pv _ 0 _ _ (by rfl) (by first | exact Or.inl rfl | exact Or.inr (Or.inl rfl) | exact Or.inr (Or.inr rfl)) (by decide) (by decide)) (@pa_cons _ _ _ _ _ (@pe_op _ _ _ _ _ _ _ _ (@op_add _) (@pe_callB _ _ _ _ _ _ _ _ _ (@c_len _) rfl BT.len L3.bt_len (@pa_cons _ _ _ _ _ (@pv _ 7 _ _ (by rfl) (by first | exact Or.inl rfl | exact Or.inr (Or.inl rfl) | exact Or.inr (Or.inr rfl)) (by decide) (by decide)) (@pa_nil _) (by rfl)) (by decide) (by decide) (by rfl) (by rfl)) (@pe_int _ _ _ _)) (@pa_nil _) (by rfl)) (by rfl)) (by rfl) (by decide) (by rfl) (by rfl)) (by rfl) (by first | exact .inl rfl | exact .inr rfl | assumption)) (@pss_one _ _ _ (@ps_set _ _ 7 _ _ _ _ S.nd rfl (by first | exact Or.inl rfl | exact Or.inr rfl) (@pe_op _ _ _ _ _ _ _ _ (@op_cat _) (@pe_op _ _ _ _ _ _ _ _ (@op_cat _) (@pe_slice _ _ _ _ _ _ _ _ _ _ (@sl_list _) (@pv _ 7 _ _ (by rfl) (by first | exact Or.inl rfl | exact Or.inr (Or.inl rfl) | exact Or.inr (Or.inr rfl)) (by decide) (by decide)) (@po_none _) (@po_some _ _ _ (@pv _ 9 _ _ (by rfl) (by first | exact Or.inl rfl | exact Or.inr (Or.inl rfl) | exact Or.inr (Or.inr rfl)) (by decide) (by decide)))) (@pe_lst _ _ _ _ (@pa_cons _ _ _ _ _ (@pe_str _ _ _ _) (@pa_nil _) (by rfl)))) (@pe_slice _ _ _ _ _ _ _ _ _ _ (@sl_list _) (@pv _ 7 _ _ (by rfl) (by first | exact Or.inl rfl | exact Or.inr (Or.inl rfl) | exact Or.inr (Or.inr rfl)) (by decide) (by decide)) (@po_some _ _ _ (@pv _ 9 _ _ (by rfl) (by first | exact Or.inl rfl | exact Or.inr (Or.inl rfl) | exact Or.inr (Or.inr rfl)) (by decide) (by decide))) (@po_none _))) (by rfl) (by first | exact .inl rfl | exact .inr rfl | assumption)))) (@pss_nil _)) (@pss_one _ _ _ (@ps_ret _ _ _ _ (@pe_tup _ _ _ _ _ (@pa_cons _ _ _ _ _ (@pe_mk _ _ _ _ _ _ _ _ _ _ _ _ _ m_Settings (hr.mono (by first | decide | omega)) NE.pass (@pa_cons _ _ _ _ _ (@pe_mk _ _ _ _ _ _ _ _ _ _ _ _ _ m_Shape (hr.mono (by first | decide | omega)) NE.pass (@pa_cons _ _ _ _ _ (@pv _ 4 _ _ (by rfl) (by first | exact Or.inl rfl | exact Or.inr (Or.inl rfl) | exact Or.inr (Or.inr rfl)) (by decide) (by decide)) (@pa_cons _ _ _ _ _ (@pv _ 2 _ _ (by rfl) (by first | exact Or.inl rfl | exact Or.inr (Or.inl rfl) | exact Or.inr (Or.inr rfl)) (by decide) (by decide)) (@pa_nil _) (by rfl)) (by rfl)) (by rfl) (by decide) (by rfl) (by rfl)) (@pa_cons _ _ _ _ _ (@pv _ 5 _ _ (by rfl) (by first | exact Or.inl rfl | exact Or.inr (Or.inl rfl) | exact Or.inr (Or.inr rfl)) (by decide) (by decide)) (@pa_cons _ _ _ _ _ (@pv _ 6 _ _ (by rfl) (by first | exact Or.inl rfl | exact Or.inr (Or.inl rfl) | exact Or.inr (Or.inr rfl)) (by decide) (by decide)) (@pa_cons _ _ _ _ _ (@pv _ 3 _ _ (by rfl) (by first | exact Or.inl rfl | exact Or.inr (Or.inl rfl) | exact Or.inr (Or.inr rfl)) (by decide) (by decide)) (@pa_cons _ _ _ _ _ (@pv _ 7 _ _ (by rfl) (by first | exact Or.inl rfl | exact Or.inr (Or.inl rfl) | exact Or.inr (Or.inr rfl)) (by decide) (by decide)) (@pa_nil _) (by rfl)) (by rfl)) (by rfl)) (by rfl)) (by rfl)) (by rfl) (by decide) (by rfl) (by rfl)) (@pa_cons _ _ _ _ _ (@pv _ 2 _ _ (by rfl) (by first | exact Or.inl rfl | exact Or.inr (Or.inl rfl) | exact Or.inr (Or.inr rfl)) (by decide) (by decide)) (@pa_cons _ _ _ _ _ (@pv _ 3 _ _ (by rfl) (by first | exact Or.inl rfl | exact Or.inr (Or.inl rfl) | exact Or.inr (Or.inr rfl)) (by decide) (by decide)) (@pa_nil _) (by rfl)) (by rfl)) (by rfl)))))))))))))), ?_⟩
 try dsimp only [cxOf]
 walk_at "go"
 refine ⟨p, b, rfl, hh, by omega, fun sl H1 s1 s2 h1 o1 => ?_⟩
 walk_at "go"
 refine ⟨p, _, rfl, h1, by omega, fun te H2 t1 t2 h2 o2 => ?_⟩
 walk_at "go"
 refine ⟨p, _, rfl, h2, by omega, fun co H3 c1 c2 h3 o3 => ?_⟩
 have L := led_hand h3
 walk_at "go"
 refine use_pick L .head (by decide) (by decide) (by omega) fun fa H4 f0 f1 L _ => ?_
 walk_at "go"
 refine use_pick L .head (by decide) (by decide) (by omega) fun ro H5 r0 r1 L _ => ?_
 have o5 : Oth p H H5 := ((o1.trans o2).trans o3).trans L.fr
 have h5 := (HandO.at (L.at_ (p, HandO _) (by walk_at "mem"))).mono (show _ ≤ b + 10000 by omega)
 clear L
 obtain ⟨n, rfl⟩ := Int.eq_ofNat_of_zero_le (show 0 ≤ sl by omega)
 have shN : ShN co (n : Int) := ⟨by omega, by omega, by omega, by omega⟩
 have stN : StN fa (1 + ro) te := ⟨by omega, by omega, by omega, by omega, by omega, by omega⟩
 walk_at "one"
 try dsimp only [gName]
 refine seq_mid (fun σ H' => ∃ bb, σ = [some (.ref p), some (.bl ap), some (.int n), some (.int te), some (.int co), some (.int fa), some (.int (1 + ro)), none, none, none] ∧ HandAt H' p bb ∧ bb ≤ b + 20000 ∧ Oth p H H') (fun nx kk => ?_) ?_
 ·cases ap with
  | false =>
   walk_at "go"
   exact kk _ _ ⟨_, rfl, h5, by omega, o5⟩
  | true =>
   have L := led_hand h5
   walk_at "go"
   refine use_pick L .head (by decide) (by decide) (by omega) fun r3 H6 a0 a1 L _ => ?_
   walk_at "go"
   refine g_ifD (fun c => ?_) (fun c => ?_)
   ·walk_at "go"
    refine g_make1 ?_
    walk_at "go"
    refine use_shape L shN fun sp H7 nsp L s7 => ?_
    walk_at "go"
    refine use_settingsB stN (.inl ⟨rfl, rfl⟩) fun x H8 nx8 hst s8 => ?_
    obtain ⟨o, eo, dx, rfl⟩ := L.at_ (sp, ShapeO C co n) (by walk_at "mem")
    have L := L.keep s8
    walk_at "go"
    exact q _ x sp co n fa (1 + ro) te ruleW _ ⟨hst.same (by assumption), ⟨dx, (show Same H8 _ by assumption) _ _ (s8 _ _ eo)⟩, shN, stN⟩ (by unfold ruleW; decide +kernel) (L'.tup (by walk_at "mem")) (o5.trans L'.fr)
   ·walk_at "go"
    exact kk _ _ ⟨_, rfl, (HandO.at (L.at_ (p, HandO _) (by walk_at "mem"))), by omega, o5.trans L.fr⟩
 rintro σ H6 ⟨bb, rfl, h6, hbb, o6⟩
 have M := led_hand h6
 walk_at "go"
 rename_i lr Hr nr Lr sr _
 have N := L'
 clear L' Lr
 obtain ⟨wl, ewl⟩ : ∃ z, z = l' := ⟨_, rfl⟩
 subst ewl
 refine g_forL (w4.map V.str) (fun i σ H' => ∃ (u8 : Option V) (ws : List Str), σ = [some (.ref p), some (.bl ap), some (.int n), some (.int te), some (.int co), some (.int fa), some (.int (1 + ro)), some (.ref lr), u8, none] ∧ i ≤ 4 ∧ ws.Sublist (w4.take i) ∧ Led (fun x => x = p) H6 H' [(wl, Eo (.lst (w4.map V.str))), (lr, Eo (.lst (ws.map V.str))), (p, HandO (bb + 1024 * (i : Int)))] [])
  ⟨_, [], rfl, by omega, List.Sublist.refl _, hand_up N (by walk_at "put") (by omega)⟩ (fun i σ H' _ ⟨_, _, _, _, _, L⟩ => SqL.of (L.eo .head)) ?_ ?_
 ·rintro i v σ HG hv ⟨u8, ws, rfl, hi, hl, L⟩
  rw [List.getElem?_map] at hv
  cases hw : w4[i]? with
  | none => rw [hw] at hv; cases hv
  | some wo =>
   rw [hw] at hv
   cases Option.some.inj hv
   have hi5 : i < 4 := (List.getElem?_eq_some_iff.mp hw).1
   have hwl : (ws.map V.str).length ≤ 4 := by
    have := hl.length_le
    rw [List.length_take] at this
    rw [List.length_map]; omega
   have hl1 : (ws ++ [wo]).Sublist (w4.take (i + 1)) := by rw [take_snoc hw]; exact hl.append (List.Sublist.refl _)
   have hl2 : ws.Sublist (w4.take (i + 1)) := by rw [take_snoc hw]; exact hl.trans (List.sublist_append_left _ _)
   clear N M
   try dsimp only [gName]
   walk_at "go"
   refine use_pick L (by walk_at "put") (by decide) (by decide) (by omega) fun r2 H2 b1 b2 L _ => ?_
   walk_at "go"
   refine g_ifD (fun z => ?_) (fun z => ?_)
   ·walk_at "go"
    exact ⟨_, ws ++ [wo], rfl, by omega, hl1, by rw [List.map_append]; exact hand_up L' (by walk_at "put") (by omega)⟩
   ·walk_at "go"
    exact ⟨_, ws, rfl, by omega, hl2, hand_up L (by walk_at "put") (by omega)⟩
 ·rintro σ HG ⟨u8, ws, rfl, hi, hl, L⟩
  have e4 : (w4.map V.str).length = 4 := rfl
  rw [e4] at hl L
  obtain ⟨hru, hna⟩ := ru_sub4 hl
  have hwl : ws.length ≤ 4 := by
   have := hl.length_le
   rw [List.length_take] at this; omega
  clear N M
  cases ap with
  | false =>
   walk_at "go"
   refine use_shape L shN fun sp H7 nsp L s7 => ?_
   walk_at "go"
   refine use_settingsB stN (.inr ⟨lr, rfl, L.eo (by walk_at "put"), hru⟩) fun x H8 nx8 hst s8 => ?_
   obtain ⟨o, eo, dx, rfl⟩ := L.at_ (sp, ShapeO C co n) (by walk_at "mem")
   have L := L.keep s8
   walk_at "go"
   exact q _ x sp co n fa (1 + ro) te ws _ ⟨hst.same (by assumption), ⟨dx, (show Same H8 _ by assumption) _ _ (s8 _ _ eo)⟩, shN, stN⟩ (decide_eq_false hna) (L'.tup (by walk_at "mem")) (o6.trans L'.fr)
  | true =>
   walk_at "go"
   rw [List.length_map]
   walk_at "go"
   refine use_pick L (by walk_at "put") (by omega) (by omega) (by omega) fun r4 H8 b0 b1 L _ => ?_
   obtain ⟨i, rfl⟩ := Int.eq_ofNat_of_zero_le b0
   have hil : i ≤ ws.length := by omega
   have hlr := L.eo (p := lr) (by walk_at "put")
   have o8 := o6.trans L.fr
   clear L
   walk_at "go"
   refine g_slE (SqL.of hlr) fun b1 X1 n1 e1 t1 => ?_
   rw [(cut_strs hil).1] at e1
   walk_at "go"
   refine g_newE (by show 1 ≤ sizeLine; exact Nat.le_of_lt (small1000 (by decide))) fun b2 X2 n2 e2 t2 => ?_
   walk_at "go"
   refine g_catE (t2 _ _ e1) e2 (by rw [List.length_map, List.length_take]; exact Nat.le_of_lt (small1000 (by simp only [List.length_cons, List.length_nil]; omega))) fun b3 X3 n3 e3 t3 => ?_
   walk_at "go"
   refine g_slE (SqL.of (t3 _ _ (t2 _ _ (t1 _ _ hlr)))) fun b4 X4 n4 e4 t4 => ?_
   rw [(cut_strs hil).2] at e4
   walk_at "go"
   refine g_catE (t4 _ _ e3) e4 (by rw [List.length_append, List.length_map, List.length_take, List.length_map, List.length_drop]; exact Nat.le_of_lt (small1000 (by simp only [List.length_cons, List.length_nil]; omega))) fun b5 X5 n5 e5 t5 => ?_
   have e5' : X5 b5 = some (.lst ((ws.take i ++ [("apart" : Str)] ++ ws.drop i).map V.str)) := by rw [List.map_append, List.map_append]; exact e5
   obtain ⟨ra, rm⟩ := ru_apart hru hna i
   have t15 := (((t1.trans t2).trans t3).trans t4).trans t5
   have L := Led.start X5 (fun _ => False)
   walk_at "go"
   refine use_shape L shN fun sp H7 nsp L s7 => ?_
   walk_at "go"
   refine use_settingsB stN (.inr ⟨b5, rfl, s7 _ _ e5', ra⟩) fun x H9 nx8 hst s8 => ?_
   obtain ⟨o, eo, dx, rfl⟩ := L.at_ (sp, ShapeO C co n) (by walk_at "mem")
   have L := L.keep s8
   walk_at "go"
   exact q _ x sp co n fa (1 + ro) te _ _ ⟨hst.same (by assumption), ⟨dx, (show Same H9 _ by assumption) _ _ (s8 _ _ eo)⟩, shN, stN⟩ (decide_eq_true rm) (L'.tup (by walk_at "mem")) fun x o e z => L'.same _ _ (t15 _ _ (o8 x o e z))
end
end Law

namespace L4
open PySem PySem.Spec PyProof.Rows L2 L3
section
variable {td ty tx tv : TE} {σ : St} {H : Hp} {Q : VK} {D : Ends}
theorem g_dnewK (h : ∀ p, H p = none → Q (.ref p) (upd H p (.dK []))) : tDNewK σ H Q := h
theorem g_dget2 (h : td σ H fun x H1 => ∃ a, x = .ref a ∧ IsD H1 a ∧ ty σ H1 fun y H2 => tx σ H2 fun z H3 => ∃ o, DGet H3 a y o ∧ Q (o.getD z) H3) : tDGet2 td ty tx σ H Q := h
theorem g_dput (h : tv σ H fun v H1 => td σ H1 fun x H2 => ty σ H2 fun y H3 => ∃ a H4, x = .ref a ∧ DPut H3 a y v H4 ∧ D.nx σ H4) : sDPut td ty tv D σ H := h
end
theorem putK_len {κ : Type} [DecidableEq κ] (kvs : List (κ × V)) (k : κ) (v : V) : (putK kvs k v).length ≤ kvs.length + 1 := by
 unfold putK
 split
 ·rw [List.length_map]; omega
 ·rw [List.length_append]; exact Nat.le_refl _
end L4
namespace Law
open PySem PySem.Spec PyProof.Rows L2 L3 L4
section
variable {P : Program} {w : World} {K : PySem.W.Frag} {mg : Str → Option Value} {base : Heap} {CX : CXT} {C CS CL CN : Addr}
end
end Law

namespace Law
open PySem PySem.Spec PyProof.Rows L2 L3 L4
structure ErrL (K : PySem.W.Frag) (CN CR dA dG dO dT dW : Addr) : Prop where
 gN : EGet K CN
 mN : PySem.W.exmOne K (.ref CN) (.ref CN) = some true
 iR : PySem.W.kitOne K (.ref CN) (.ref CR) = some true
 iT : PySem.W.kitAny K (.ref CN) ([dA, dG, dO, dT, dW].map Value.ref) = some false
theorem m_lend {ps l : Addr} : (ldF ps l).lookup ("lend" : Str) = none := l_miss (by decide +kernel) (by decide +kernel)
theorem m_freeat {ps l : Addr} : (ldF ps l).lookup ("free_at" : Str) = none := l_miss (by decide +kernel) (by decide +kernel)
theorem m_grants {ps l : Addr} : (ldF ps l).lookup ("grants" : Str) = none := l_miss (by decide +kernel) (by decide +kernel)
def gT (x : Gr) : Int × Str × Int × Int × Int := (x.n, x.nm, x.sl, x.f, x.e)
def EqG (gs hs : List Gr) : Prop := gs.map gT = hs.map gT
theorem EqG.len {gs hs : List Gr} (h : EqG gs hs) : gs.length = hs.length := by
 have := congrArg List.length h
 rwa [List.length_map, List.length_map] at this
theorem EqG.get {gs hs : List Gr} {i : Nat} {x y : Gr} (h : EqG gs hs) (hx : gs[i]? = some x) (hy : hs[i]? = some y) : gT x = gT y := by
 have e : (gs.map gT)[i]? = (hs.map gT)[i]? := by rw [show gs.map gT = hs.map gT from h]
 rw [List.getElem?_map, List.getElem?_map, hx, hy] at e
 exact Option.some.inj e
section
variable {P : Program} {w : World} {K : PySem.W.Frag} {mg : Str → Option Value} {base : Heap} {CX : CXT} {C CS CL CN CR dA dG dO dT dW : Addr}
end
end Law

namespace Law
open PySem PySem.Spec PyProof.Rows L2 L3 L4
section
variable {P : Program} {w : World} {K : PySem.W.Frag} {mg : Str → Option Value} {base : Heap} {CX : CXT} {C CS CL CN CR dA dG dO dT dW : Addr}
end
end Law

namespace Law
open PySem PySem.Spec PyProof.Rows L2 L3 L4
structure Fre (gs : List Gr) (n : Int) (en : Int) (i : Nat) (x : Gr) : Prop where
 n_ : n = (i : Int) + 1
 at_ : gs[i]? = some x
 last : ∀ (k : Nat) (y : Gr), i < k → gs[k]? = some y → y.sl ≠ x.sl
 e_ : x.e = endM gs x.sl 0
 lo : x.f ≤ en
 hi : en < x.e
def CanF (gs : List Gr) (n en : Int) : Prop := ∃ i x, Fre gs n en i x
section
variable {P : Program} {w : World} {K : PySem.W.Frag} {mg : Str → Option Value} {base : Heap} {CX : CXT} {C CS CL CN : Addr}
theorem sc_ended : FnScope ["area", "end"] ["area", "end"] (defScope (top 19)) := by walk_at "s"
def spEnded : Sp := fun vs H Q _ => ∃ (t : Addr) (x y z en : Int), vs = [.ref t, .int en] ∧ tup3 H t x y z ∧ ∀ t' H', tup3 H' t' x y en → Same H H' → Q (.ref t') H'
theorem ok_ended (D : Dat K mg "ended_at" "ended_at" (top 19) ["area", "end"]) (NE : NoErr CX) (c_slot_of : Cal P w K mg base CX "slot_of" 1 ["area"] spAt0) (c_first_of : Cal P w K mg base CX "first_of" 1 ["area"] spAt1) : Cal P w K mg base CX "ended_at" 2 ["area", "end"] spEnded := by
 have S := sc_ended
 walk_at "d"
 ·obtain ⟨t, x, y, z, en, rfl, _⟩ := h
  rfl
 obtain ⟨t, x, y, z, en, rfl, ht, q⟩ := h
 refine ⟨_, (@pss_one _ _ _ (@ps_ret _ _ _ _ (@pe_tup _ _ _ _ _ (@pa_cons _ _ _ _ _ (@pe_fn _ _ _ _ _ _ _ _ _ _ _ _ c_slot_of (hr.mono (by first | decide | omega)) NE.pass (@pa_cons _ _ _ _ _ (@pv _ 0 _ _ (by rfl) (by first | exact Or.inl rfl | exact Or.inr (Or.inl rfl) | exact Or.inr (Or.inr rfl)) (by decide) (by decide)) (@pa_nil _) (by rfl)) (by rfl) (by decide) (by rfl) (by rfl)) (@pa_cons _ _ _ _ _ (@pe_fn _ _ _ _ _ _ _ _ _ _ _ _ c_first_of (hr.mono (by first | decide | omega)) NE.pass (@pa_cons _ _ _ _ _ (@pv _ 0 _ _ (by rfl) (by first | exact Or.inl rfl | exact Or.inr (Or.inl rfl) | exact Or.inr (Or.inr rfl)) (by decide) (by decide)) (@pa_nil _) (by rfl)) (by rfl) (by decide) (by rfl) (by rfl)) (@pa_cons _ _ _ _ _ (@pv _ 1 _ _ (by rfl) (by first | exact Or.inl rfl | exact Or.inr (Or.inl rfl) | exact Or.inr (Or.inr rfl)) (by decide) (by decide)) (@pa_nil _) (by rfl)) (by rfl)) (by rfl))))), ?_⟩
 try dsimp only [cxOf]
 have L := Led.start H (fun _ => False)
 walk_at "go"
 refine ⟨t, x, y, z, rfl, ht, ?_⟩
 walk_at "go"
 refine ⟨t, x, y, z, rfl, ht, ?_⟩
 walk_at "go"
 exact q _ _ (L'.tup (by walk_at "mem")) L'.same
theorem m_canf {ps l : Addr} : (ldF ps l).lookup ("can_free" : Str) = none := l_miss (by decide +kernel) (by decide +kernel)
theorem sc_canf : FnScope ["self", "grant", "end", "area"] ["self", "grant", "end"] (defScope (inClass (top 32) 6)) := by walk_at "s"
def spCanF (K : PySem.W.Frag) (C CS CL : Addr) : Sp := fun vs H Q _ => ∃ (d : Ld) (gs : List Gr) (n en : Int), vs = [.ref d.p, .int n, .int en] ∧ LdAt K C CS CL H d gs ∧ GrsOk gs d.s ∧ ∀ (b : Bool) H', (b = true ↔ CanF gs n en) → Same H H' → Q (.bl b) H'
theorem any_map {α : Type} (p : α → Bool) (xs : List α) : (xs.map p).any id = xs.any p := by rw [List.any_map]; rfl
theorem cut_grs {gs : List Gr} {i : Nat} (h : i ≤ gs.length) : cutV (grV gs) none (some (i : Int)) = grV (gs.take i) ∧ cutV (grV gs) (some (i : Int)) none = grV (gs.drop i) := by
 unfold cutV grV
 constructor
 ·rw [HT.sIx_none, HT.sIx_nat, List.length_map, Nat.min_eq_left h, List.drop_zero, Nat.sub_zero, List.map_take]
 ·rw [HT.sIx_none, HT.sIx_nat, List.length_map, Nat.min_eq_left h, List.map_drop]
  exact List.take_of_length_le (by rw [List.length_drop, List.length_map]; exact Nat.le_refl _)
theorem ok_canf (D : MDat K CL "can_free" "Lender.can_free" (inClass (top 32) 6) ["self", "grant", "end"]) (SC : LdC K CL) (BT : Bt mg) (NE : NoErr CX) (c_slot_of : Cal P w K mg base CX "slot_of" 1 ["area"] spAt0) (c_first_of : Cal P w K mg base CX "first_of" 1 ["area"] spAt1) (c_end_of : Cal P w K mg base CX "end_of" 1 ["area"] spAt2) (M_Lender_free_at : MCal P w K mg base CX CL "free_at" 4 ["self", "slot"] (spLFreeAt K C CS CL)) : MCal P w K mg base CX CL "can_free" 5 ["self", "grant", "end"] (spCanF K C CS CL) := by
 have S := sc_canf
 refine mdat_ok D S (fun vs H Q E h => ?_) (fun f cdv A outer s H vs Q E hr h => ?_)
 ·obtain ⟨d, gs, n, en, rfl, _⟩ := h
  rfl
 obtain ⟨d, gs, n, en, rfl, hd, hok, q⟩ := h
 obtain ⟨⟨dx, hp⟩, hl, hG, _⟩ := id hd
 have h63 := hok.len
 have no : ∀ (i : Nat) (x : Gr), n = (i : Int) + 1 → gs[i]? = some x → i < gs.length := fun i x _ h => (List.getElem?_eq_some_iff.mp h).1
 refine ⟨_, (@pss_cons _ _ _ _ _ (@ps_if _ _ _ _ _ _ _ _ (@PW.pt _ _ _ (@pw_or _ _ _ _ _ _ _ (@pt_cmpR _ _ _ _ _ _ _ _ (@op_lt _) (@pv _ 1 _ _ (by rfl) (by first | exact Or.inl rfl | exact Or.inr (Or.inl rfl) | exact Or.inr (Or.inr rfl)) (by decide) (by decide)) (@pe_int _ _ _ _) (@nomark _ _ (by decide) (by decide))) (@pw_or1 _ _ _ _ (@pt_cmpR _ _ _ _ _ _ _ _ (@op_gt _) (@pv _ 1 _ _ (by rfl) (by first | exact Or.inl rfl | exact Or.inr (Or.inl rfl) | exact Or.inr (Or.inr rfl)) (by decide) (by decide)) (@pe_callB _ _ _ _ _ _ _ _ _ (@c_len _) rfl BT.len L3.bt_len (@pa_cons _ _ _ _ _ (@pe_fld _ _ _ _ _ (@pv _ 0 _ _ (by rfl) (by first | exact Or.inl rfl | exact Or.inr (Or.inl rfl) | exact Or.inr (Or.inr rfl)) (by decide) (by decide)) rfl) (@pa_nil _) (by rfl)) (by decide) (by decide) (by rfl) (by rfl)) (@nomark _ _ (by decide) (by decide)))))) (@pss_one _ _ _ (@ps_ret _ _ _ _ (@pe_bl _ _ _ _))) (@pss_nil _)) (@pss_cons _ _ _ _ _ (@ps_set _ _ 3 _ _ _ _ S.nd rfl (by first | exact Or.inl rfl | exact Or.inr rfl) (@pe_ix _ _ _ _ _ _ _ (@ix_tup _) (@pe_ix _ _ _ _ _ _ _ (@ix_list _) (@pe_fld _ _ _ _ _ (@pv _ 0 _ _ (by rfl) (by first | exact Or.inl rfl | exact Or.inr (Or.inl rfl) | exact Or.inr (Or.inr rfl)) (by decide) (by decide)) rfl) (@pe_op _ _ _ _ _ _ _ _ (@op_sub _) (@pv _ 1 _ _ (by rfl) (by first | exact Or.inl rfl | exact Or.inr (Or.inl rfl) | exact Or.inr (Or.inr rfl)) (by decide) (by decide)) (@pe_int _ _ _ _)) (fun _ _ => rfl)) (@pe_int _ _ _ _) (fun _ _ => rfl)) (by rfl) (by first | exact .inl rfl | exact .inr rfl | assumption)) (@pss_cons _ _ _ _ _ (@ps_if _ _ _ _ _ _ _ _ (@pt_val _ _ _ (@pe_callB _ _ _ _ _ _ _ _ _ (@call_any _ rfl) rfl BT.any L3.bt_any (@pa_cons _ _ _ _ _ (@pe_comp _ _ _ _ _ _ _ _ _ _ (gName 0) _ _ rfl (@pi_list _ _ _ _ (@pe_slice _ _ _ _ _ _ _ _ _ _ (@sl_list _) (@pe_fld _ _ _ _ _ (@pv _ 0 _ _ (by rfl) (by first | exact Or.inl rfl | exact Or.inr (Or.inl rfl) | exact Or.inr (Or.inr rfl)) (by decide) (by decide)) rfl) (@po_some _ _ _ (@pv _ 1 _ _ (by rfl) (by first | exact Or.inl rfl | exact Or.inr (Or.inl rfl) | exact Or.inr (Or.inr rfl)) (by decide) (by decide))) (@po_none _))) (@blk_of _ _ ["later"] [3] (defScope (inClass (top 32) 6)).names ["self", "grant", "end", "area"] rfl rfl rfl (by decide +kernel)) (fun _ _ _ _ => (@pg_name _ _ 0 _ (show (blkN ["self", "grant", "end", "area"] ["later"] [3]).Nodup by decide +kernel) rfl (by first | exact Or.inl rfl | exact Or.inr rfl) (by first | exact .inl rfl | exact .inr rfl | assumption))) (fun _ _ _ _ => (@pifs_nil _)) (fun _ _ _ _ => (@pe_cmpR _ _ _ _ _ _ _ _ (@op_eq _) (@pe_fn _ _ _ _ _ _ _ _ _ _ _ _ c_slot_of (hr.mono (by first | decide | omega)) NE.pass (@pa_cons _ _ _ _ _ (@pe_ix _ _ _ _ _ _ _ (@ix_tupK _ K rfl) (@pv _ 0 _ _ (by rfl) (by first | exact Or.inl rfl | exact Or.inr (Or.inl rfl) | exact Or.inr (Or.inr rfl)) (by decide) (by decide)) (@pe_int _ _ _ _) (fun _ _ => rfl)) (@pa_nil _) (by rfl)) (by rfl) (by decide) (by rfl) (by rfl)) (@pe_fn _ _ _ _ _ _ _ _ _ _ _ _ c_slot_of (hr.mono (by first | decide | omega)) NE.pass (@pa_cons _ _ _ _ _ (@pv _ 1 _ _ (by rfl) (by first | exact Or.inl rfl | exact Or.inr (Or.inl rfl) | exact Or.inr (Or.inr rfl)) (by decide) (by decide)) (@pa_nil _) (by rfl)) (by rfl) (by decide) (by rfl) (by rfl)) (@nomark _ _ (by decide) (by decide)))) (by intro _; rfl)) (@pa_nil _) (by rfl)) (by decide) (by decide) (by rfl) (by rfl)) (by intro _; rfl)) (@pss_one _ _ _ (@ps_ret _ _ _ _ (@pe_bl _ _ _ _))) (@pss_nil _)) (@pss_cons _ _ _ _ _ (@ps_if _ _ _ _ _ _ _ _ (@pt_cmpR _ _ _ _ _ _ _ _ (@op_ne _) (@pe_fn _ _ _ _ _ _ _ _ _ _ _ _ c_end_of (hr.mono (by first | decide | omega)) NE.pass (@pa_cons _ _ _ _ _ (@pv _ 3 _ _ (by rfl) (by first | exact Or.inl rfl | exact Or.inr (Or.inl rfl) | exact Or.inr (Or.inr rfl)) (by decide) (by decide)) (@pa_nil _) (by rfl)) (by rfl) (by decide) (by rfl) (by rfl)) (@pe_mt _ _ _ _ _ _ _ _ _ _ _ _ _ _ _ _ M_Lender_free_at (hr.mono (by first | decide | omega)) NE.pass (@pv _ 0 _ _ (by rfl) (by first | exact Or.inl rfl | exact Or.inr (Or.inl rfl) | exact Or.inr (Or.inr rfl)) (by decide) (by decide)) (@pa_cons _ _ _ _ _ (@pe_fn _ _ _ _ _ _ _ _ _ _ _ _ c_slot_of (hr.mono (by first | decide | omega)) NE.pass (@pa_cons _ _ _ _ _ (@pv _ 3 _ _ (by rfl) (by first | exact Or.inl rfl | exact Or.inr (Or.inl rfl) | exact Or.inr (Or.inr rfl)) (by decide) (by decide)) (@pa_nil _) (by rfl)) (by rfl) (by decide) (by rfl) (by rfl)) (@pa_nil _) (by rfl)) (by rfl) (by rfl) (by rfl)) (@nomark _ _ (by decide) (by decide))) (@pss_one _ _ _ (@ps_ret _ _ _ _ (@pe_bl _ _ _ _))) (@pss_nil _)) (@pss_one _ _ _ (@ps_ret _ _ _ _ (@pe_and _ _ _ _ _ _ _ (@pe_cmpR _ _ _ _ _ _ _ _ (@op_le _) (@pe_fn _ _ _ _ _ _ _ _ _ _ _ _ c_first_of (hr.mono (by first | decide | omega)) NE.pass (@pa_cons _ _ _ _ _ (@pv _ 3 _ _ (by rfl) (by first | exact Or.inl rfl | exact Or.inr (Or.inl rfl) | exact Or.inr (Or.inr rfl)) (by decide) (by decide)) (@pa_nil _) (by rfl)) (by rfl) (by decide) (by rfl) (by rfl)) (@pv _ 2 _ _ (by rfl) (by first | exact Or.inl rfl | exact Or.inr (Or.inl rfl) | exact Or.inr (Or.inr rfl)) (by decide) (by decide)) (@nomark _ _ (by decide) (by decide))) (@pe_one _ _ _ _ _ (@pe_cmpR _ _ _ _ _ _ _ _ (@op_lt _) (@pv _ 2 _ _ (by rfl) (by first | exact Or.inl rfl | exact Or.inr (Or.inl rfl) | exact Or.inr (Or.inr rfl)) (by decide) (by decide)) (@pe_fn _ _ _ _ _ _ _ _ _ _ _ _ c_end_of (hr.mono (by first | decide | omega)) NE.pass (@pa_cons _ _ _ _ _ (@pv _ 3 _ _ (by rfl) (by first | exact Or.inl rfl | exact Or.inr (Or.inl rfl) | exact Or.inr (Or.inr rfl)) (by decide) (by decide)) (@pa_nil _) (by rfl)) (by rfl) (by decide) (by rfl) (by rfl)) (@nomark _ _ (by decide) (by decide))))))))))), ?_⟩
 try dsimp only [cxOf]
 walk_at "go"
 refine g_ifD (fun c1 => ?_) (fun c1 => ?_)
 ·walk_at "go"
  refine q false _ ⟨(fun z => nomatch z), fun ⟨i, x, r⟩ => ?_⟩ (Same.refl _)
  have := r.n_; omega
 walk_at "go"
 refine ⟨d.p, CL, dx, _, _, rfl, hp, SC.cl, SC.n2, ldF_l _ _, ?_⟩
 walk_at "go"
 refine g_lenSq (SqL.of hl) ?_
 rw [grV_len]
 walk_at "go"
 refine g_ifD (fun c2 => ?_) (fun c2 => ?_)
 ·walk_at "go"
  refine q false _ ⟨(fun z => nomatch z), fun ⟨i, x, r⟩ => ?_⟩ (Same.refl _)
  have := no i x r.n_ r.at_
  have := r.n_; omega
 obtain ⟨i, rfl⟩ : ∃ i : Nat, n = (i : Int) + 1 := by
  obtain ⟨i, e⟩ := Int.eq_ofNat_of_zero_le (show 0 ≤ n - 1 by omega)
  exact ⟨i, by omega⟩
 obtain ⟨x, hx⟩ : ∃ x, gs[i]? = some x := ⟨_, List.getElem?_eq_getElem (by omega)⟩
 have hxm := List.mem_of_getElem? hx
 have hgx := hG x hxm
 have hsl := hok.sl x hxm
 have one : ∀ (j : Nat) (y : Gr), (i : Int) + 1 = (j : Int) + 1 → gs[j]? = some y → y = x ∧ j = i := fun j y e h => by
  obtain rfl : j = i := by omega
  rw [hx] at h; cases h; exact ⟨rfl, rfl⟩
 have e1 : ((i : Int) + 1 - 1) = (i : Int) := by omega
 have L := ((Led.start H (fun _ => False)).more (tupAt x.g [_, _, _]) hgx.1).more (tupAt x.ar [_, _, _]) hgx.2
 walk_at "go"
 refine ⟨d.p, CL, dx, _, _, rfl, hp, SC.cl, SC.n2, ldF_l _ _, ?_⟩
 walk_at "go"
 rw [e1]
 refine g_ixSq (SqL.of hl) (atI_nat (by unfold grV; rw [List.getElem?_map, hx]; rfl)) ?_
 walk_at "go"
 refine ⟨d.p, CL, dx, _, _, rfl, hp, SC.cl, SC.n2, ldF_l _ _, ?_⟩
 walk_at "go"
 refine g_slE (SqL.of hl) fun b1 H1 n1 eb1 s1 => ?_
 rw [show ((i : Int) + 1) = ((i + 1 : Nat) : Int) by omega, (cut_grs (gs := gs) (i := i + 1) (by omega)).2] at eb1
 walk_at "go"
 refine g_wkLv (SqL.of eb1) ?_
 refine g_compL (grV (gs.drop (i + 1))) (fun k ys Hx => ys = (((gs.drop (i + 1)).take k).map fun y => decide (y.sl = x.sl)).map V.bl ∧ Hx = H1) ⟨rfl, rfl⟩ (fun k ys Hx hk ⟨e, e2⟩ => ⟨e2 ▸ SqL.of eb1, by
  rw [e, List.length_map, List.length_map, List.length_take, List.length_drop]
  exact Nat.le_of_lt (small1000 (by omega))⟩) ?_ ?_
 ·rintro k v ys H2 hv ⟨rfl, rfl⟩
  obtain ⟨y, hyk, rfl⟩ := grV_get hv
  have hy := (hG y (List.mem_of_mem_drop (List.mem_of_getElem? hyk))).same s1
  have L := (Led.start H2 (fun _ => False)).more (tupAt y.g [_, _, _]) hy.1
  try dsimp only [gName]
  walk_at "go"
  refine ⟨y.ar, _, _, _, rfl, hy.2, ?_⟩
  walk_at "go"
  refine ⟨x.ar, _, _, _, rfl, s1 _ _ hgx.2, ?_⟩
  walk_at "go"
  exact ⟨by rw [take_snoc hyk, List.map_append, List.map_append]; rfl, rfl⟩
 ·rintro ys H2 ⟨rfl, rfl⟩ lc nlc
  rw [grV_len, List.take_length]
  have s2 := same_new nlc (HO.lst (((gs.drop (i + 1)).map fun y => decide (y.sl = x.sl)).map V.bl))
  have hlc : (upd H2 lc (.lst (((gs.drop (i + 1)).map fun y => decide (y.sl = x.sl)).map V.bl))) lc = some (.lst (((gs.drop (i + 1)).map fun y => decide (y.sl = x.sl)).map V.bl)) := upd_same
  generalize upd H2 lc (.lst (((gs.drop (i + 1)).map fun y => decide (y.sl = x.sl)).map V.bl)) = H3 at *
  walk_at "go"
  refine g_anyB (bs := (gs.drop (i + 1)).map fun y => decide (y.sl = x.sl)) (SqL.of hlc) ?_
  rw [any_map]
  have s12 := s1.trans s2
  walk_at "go"
  refine g_ifB (fun c3 => ?_) (fun c3 => ?_)
  ·walk_at "go"
   refine q false _ ⟨(fun z => nomatch z), fun ⟨j, y, r⟩ => ?_⟩ s12
   obtain ⟨rfl, rfl⟩ := one j y r.n_ r.at_
   obtain ⟨u, hu, hu2⟩ := List.any_eq_true.mp c3
   obtain ⟨k, hk, rfl⟩ := List.getElem_of_mem hu
   rw [List.getElem_drop] at hu2
   exact absurd (of_decide_eq_true hu2) (r.last (j + 1 + k) _ (by omega) (List.getElem?_eq_getElem _))
  ·have hlast : ∀ (k : Nat) (y : Gr), i < k → gs[k]? = some y → y.sl ≠ x.sl := fun k y hk hy z => by
    have : (gs.drop (i + 1)).any (fun y => decide (y.sl = x.sl)) = true := by
     refine List.any_eq_true.mpr ⟨y, ?_, decide_eq_true z⟩
     refine List.mem_of_getElem? (i := k - (i + 1)) ?_
     rw [List.getElem?_drop, show i + 1 + (k - (i + 1)) = k by omega]; exact hy
    rw [c3] at this; cases this
   walk_at "go"
   refine ⟨x.ar, _, _, _, rfl, s12 _ _ hgx.2, ?_⟩
   walk_at "go"
   refine g_methv (s12 _ _ hp) m_freeat ?_
   walk_at "go"
   refine ⟨x.ar, _, _, _, rfl, s12 _ _ hgx.2, ?_⟩
   walk_at "go"
   obtain ⟨j, hj⟩ := Int.eq_ofNat_of_zero_le hsl.1
   rw [hj]
   refine ⟨d, gs, j, rfl, hd.same s12, hok, by omega, fun H4 s4 => ?_⟩
   rw [← hj]
   have s14 := s12.trans s4
   walk_at "go"
   refine g_ifN (fun c4 => ?_) (fun c4 => ?_)
   ·walk_at "go"
    refine ⟨x.ar, _, _, _, rfl, s14 _ _ hgx.2, ?_⟩
    walk_at "go"
    by_cases c5 : x.f ≤ en
    ·rw [if_pos (decide_eq_true c5)]
     walk_at "go"
     refine ⟨x.ar, _, _, _, rfl, s14 _ _ hgx.2, ?_⟩
     walk_at "go"
     refine q _ _ ⟨fun z => ⟨i, x, rfl, hx, hlast, c4, c5, of_decide_eq_true z⟩, fun ⟨k, y, r⟩ => ?_⟩ s14
     obtain ⟨rfl, rfl⟩ := one k y r.n_ r.at_
     exact decide_eq_true r.hi
    ·rw [if_neg (by simpa using c5)]
     walk_at "go"
     refine q false _ ⟨(fun z => nomatch z), fun ⟨k, y, r⟩ => ?_⟩ s14
     obtain ⟨rfl, rfl⟩ := one k y r.n_ r.at_
     exact absurd r.lo c5
   ·walk_at "go"
    refine q false _ ⟨(fun z => nomatch z), fun ⟨k, y, r⟩ => ?_⟩ s14
    obtain ⟨rfl, rfl⟩ := one k y r.n_ r.at_
    exact absurd r.e_ c4
theorem grV_set (gs : List Gr) (i : Nat) (x : Gr) : grV (gs.set i x) = (grV gs).set i (.ref x.g) := by unfold grV; rw [List.map_set]
theorem GrsAt.set {H : Hp} {gs : List Gr} {x : Gr} {i : Nat} (h : GrsAt H gs) (k : GrAt H x) : GrsAt H (gs.set i x) := fun y hy => (List.mem_or_eq_of_mem_set hy).elim (h y) fun z => z ▸ k
theorem sc_free : FnScope ["self", "grant", "end", "kept"] ["self", "grant", "end"] (defScope (inClass (top 32) 7)) := by walk_at "s"
def spFree (K : PySem.W.Frag) (C CS CL : Addr) : Sp := fun vs H Q _ => ∃ (d : Ld) (gs : List Gr) (n en : Int), vs = [.ref d.p, .int n, .int en] ∧ LdAt K C CS CL H d gs ∧ GrsOk gs d.s ∧ (¬ CanF gs n en → ∀ H', Same H H' → Q (.bl false) H') ∧
 (∀ i x, Fre gs n en i x → ∀ g ar H', LdAt K C CS CL H' d (gs.set i ⟨g, ar, n, x.nm, x.sl, x.f, en⟩) → Chg d.l H H' → Q (.bl true) H')
theorem ok_free (D : MDat K CL "free" "Lender.free" (inClass (top 32) 7) ["self", "grant", "end"]) (SC : LdC K CL) (BT : Bt mg) (NE : NoErr CX) (c_ended_at : Cal P w K mg base CX "ended_at" 2 ["area", "end"] spEnded) (M_Lender_can_free : MCal P w K mg base CX CL "can_free" 5 ["self", "grant", "end"] (spCanF K C CS CL)) : MCal P w K mg base CX CL "free" 6 ["self", "grant", "end"] (spFree K C CS CL) := by
 have S := sc_free
 refine mdat_ok D S (fun vs H Q E h => ?_) (fun f cdv A outer s H vs Q E hr h => ?_)
 ·obtain ⟨d, gs, n, en, rfl, _⟩ := h
  rfl
 obtain ⟨d, gs, n, en, rfl, hd, hok, q0, q⟩ := h
 obtain ⟨⟨dx, hp⟩, hl, hG, _⟩ := id hd
 refine ⟨_, (@pss_cons _ _ _ _ _ (@ps_if _ _ _ _ _ _ _ _ (@pt_not _ _ _ _ (@pt_val _ _ _ (@pe_mt _ _ _ _ _ _ _ _ _ _ _ _ _ _ _ _ M_Lender_can_free (hr.mono (by first | decide | omega)) NE.pass (@pv _ 0 _ _ (by rfl) (by first | exact Or.inl rfl | exact Or.inr (Or.inl rfl) | exact Or.inr (Or.inr rfl)) (by decide) (by decide)) (@pa_cons _ _ _ _ _ (@pv _ 1 _ _ (by rfl) (by first | exact Or.inl rfl | exact Or.inr (Or.inl rfl) | exact Or.inr (Or.inr rfl)) (by decide) (by decide)) (@pa_cons _ _ _ _ _ (@pv _ 2 _ _ (by rfl) (by first | exact Or.inl rfl | exact Or.inr (Or.inl rfl) | exact Or.inr (Or.inr rfl)) (by decide) (by decide)) (@pa_nil _) (by rfl)) (by rfl)) (by rfl) (by rfl) (by rfl)) (by intro _; rfl))) (@pss_one _ _ _ (@ps_ret _ _ _ _ (@pe_bl _ _ _ _))) (@pss_nil _)) (@pss_cons _ _ _ _ _ (@ps_set _ _ 3 _ _ _ _ S.nd rfl (by first | exact Or.inl rfl | exact Or.inr rfl) (@pe_ix _ _ _ _ _ _ _ (@ix_list _) (@pe_fld _ _ _ _ _ (@pv _ 0 _ _ (by rfl) (by first | exact Or.inl rfl | exact Or.inr (Or.inl rfl) | exact Or.inr (Or.inr rfl)) (by decide) (by decide)) rfl) (@pe_op _ _ _ _ _ _ _ _ (@op_sub _) (@pv _ 1 _ _ (by rfl) (by first | exact Or.inl rfl | exact Or.inr (Or.inl rfl) | exact Or.inr (Or.inr rfl)) (by decide) (by decide)) (@pe_int _ _ _ _)) (fun _ _ => rfl)) (by rfl) (by first | exact .inl rfl | exact .inr rfl | assumption)) (@pss_cons _ _ _ _ _ (@ps_asg _ _ _ _ _ _ (@pe_tup _ _ _ _ _ (@pa_cons _ _ _ _ _ (@pv _ 1 _ _ (by rfl) (by first | exact Or.inl rfl | exact Or.inr (Or.inl rfl) | exact Or.inr (Or.inr rfl)) (by decide) (by decide)) (@pa_cons _ _ _ _ _ (@pe_ix _ _ _ _ _ _ _ (@ix_tup _) (@pv _ 3 _ _ (by rfl) (by first | exact Or.inl rfl | exact Or.inr (Or.inl rfl) | exact Or.inr (Or.inr rfl)) (by decide) (by decide)) (@pe_int _ _ _ _) (fun _ _ => rfl)) (@pa_cons _ _ _ _ _ (@pe_fn _ _ _ _ _ _ _ _ _ _ _ _ c_ended_at (hr.mono (by first | decide | omega)) NE.pass (@pa_cons _ _ _ _ _ (@pe_ix _ _ _ _ _ _ _ (@ix_tup _) (@pv _ 3 _ _ (by rfl) (by first | exact Or.inl rfl | exact Or.inr (Or.inl rfl) | exact Or.inr (Or.inr rfl)) (by decide) (by decide)) (@pe_int _ _ _ _) (fun _ _ => rfl)) (@pa_cons _ _ _ _ _ (@pv _ 2 _ _ (by rfl) (by first | exact Or.inl rfl | exact Or.inr (Or.inl rfl) | exact Or.inr (Or.inr rfl)) (by decide) (by decide)) (@pa_nil _) (by rfl)) (by rfl)) (by rfl) (by decide) (by rfl) (by rfl)) (@pa_nil _) (by rfl)) (by rfl)) (by rfl))) (@pg_sub _ _ _ _ _ _ _ (@pe_fld _ _ _ _ _ (@pv _ 0 _ _ (by rfl) (by first | exact Or.inl rfl | exact Or.inr (Or.inl rfl) | exact Or.inr (Or.inr rfl)) (by decide) (by decide)) rfl) (@pe_op _ _ _ _ _ _ _ _ (@op_sub _) (@pv _ 1 _ _ (by rfl) (by first | exact Or.inl rfl | exact Or.inr (Or.inl rfl) | exact Or.inr (Or.inr rfl)) (by decide) (by decide)) (@pe_int _ _ _ _)) (@set_list _) (by intro _; rfl)) (by rfl) (by rfl) (by rfl)) (@pss_one _ _ _ (@ps_ret _ _ _ _ (@pe_bl _ _ _ _)))))), ?_⟩
 try dsimp only [cxOf]
 walk_at "go"
 refine g_methv hp m_canf ?_
 walk_at "go"
 refine ⟨d, gs, n, en, rfl, hd, hok, fun b H1 hb s1 => ?_⟩
 walk_at "go"
 refine g_ifNB (fun e => ?_) (fun e => ?_)
 ·obtain ⟨i, x, r⟩ := hb.mp e
  obtain rfl := r.n_
  have hx := r.at_
  have hgx := (hG x (List.mem_of_getElem? hx)).same s1
  have hl1 := s1 _ _ hl
  have e1 : ((i : Int) + 1 - 1) = (i : Int) := by omega
  have hi := (List.getElem?_eq_some_iff.mp hx).1
  have L := ((led_one hl1).more (tupAt x.g [_, _, _]) hgx.1).more (tupAt x.ar [_, _, _]) hgx.2
  walk_at "go"
  refine ⟨d.p, CL, dx, _, _, rfl, s1 _ _ hp, SC.cl, SC.n2, ldF_l _ _, ?_⟩
  walk_at "go"
  rw [e1]
  refine g_ixSq (SqL.of hl1) (atI_nat (by unfold grV; rw [List.getElem?_map, hx]; rfl)) ?_
  walk_at "go"
  refine ⟨x.ar, x.sl, x.f, x.e, en, rfl, hgx.2, fun ar H2 har s2 => ?_⟩
  have hl2 := s2 _ _ hl1
  clear L
  have L := (led_one hl2).more (tupAt ar [_, _, _]) har
  walk_at "go"
  obtain ⟨g, eg⟩ : ∃ z, z = t' := ⟨_, rfl⟩
  subst eg
  have hpA := L'.fr _ _ (s2 _ _ (s1 _ _ hp)) (fun z => by have e := s2 _ _ (s1 _ _ hp); rw [z, hl2] at e; cases e)
  refine ⟨d.p, CL, dx, _, _, rfl, hpA, SC.cl, SC.n2, ldF_l _ _, ?_⟩
  walk_at "go"
  rw [e1]
  refine g_set (j := i) L' .head (ixN_nat (by rw [grV_len]; exact hi)) fun HA LA _ => ?_
  walk_at "go"
  have ch := LA.chg (fun xs z => by rw [hl2] at z; cases z)
  have hd2 := hd.same (s1.trans s2)
  refine q i x r g ar _ (hd2.put ch (by rw [grV_set]; exact LA.eo .head) (GrsAt.set (hd2.2.2.1.ts ch.ts) ⟨LA.tup (by walk_at "mem"), LA.tup (by walk_at "mem")⟩)) ⟨fun q o e n => ch.oth q o (s2 _ _ (s1 _ _ e)) n, fun q xs e => ch.ts q xs (s2 _ _ (s1 _ _ e))⟩
 ·walk_at "go"
  exact q0 (fun z => by rw [hb.mpr z] at e; cases e) H1 s1
end
end Law

namespace Law
open PySem PySem.Spec PyProof.Rows L2 L3 L4
structure FreL (hs : List Gr) (n : Int) (en : Int) (i : Nat) (x : Gr) : Prop where
 n_ : n = (i : Int) + 1
 at_ : hs[i]? = some x
 all : ∀ (k : Nat) (y : Gr), hs[k]? = some y → y.sl = x.sl → ¬ (n ≤ (k : Int)) ∧ ¬ x.e < y.e
 lo : x.f ≤ en
 hi : en < x.e
theorem EqG.at_ {gs hs : List Gr} (h : EqG gs hs) {i : Nat} {x : Gr} (hx : gs[i]? = some x) : ∃ y, hs[i]? = some y ∧ gT x = gT y := by
 have hi := (List.getElem?_eq_some_iff.mp hx).1
 have hl := h.len
 exact ⟨_, List.getElem?_eq_getElem (by omega), h.get hx (List.getElem?_eq_getElem (by omega))⟩
section
variable {P : Program} {w : World} {K : PySem.W.Frag} {mg : Str → Option Value} {base : Heap} {CX : CXT} {C CS CL CN : Addr}
end
end Law

namespace Law
open PySem PySem.Spec PyProof.Rows L2 L3 L4
theorem at4 {a b c d r : Int} (h0 : 0 ≤ r) (h1 : r < 4) : ∃ z, atI [V.int a, .int b, .int c, .int d] r = some (.int z) ∧ (z = a ∨ z = b ∨ z = c ∨ z = d) := by
 have : r = 0 ∨ r = 1 ∨ r = 2 ∨ r = 3 := by omega
 rcases this with rfl | rfl | rfl | rfl
 ·exact ⟨a, rfl, .inl rfl⟩
 ·exact ⟨b, rfl, .inr (.inl rfl)⟩
 ·exact ⟨c, rfl, .inr (.inr (.inl rfl))⟩
 ·exact ⟨d, rfl, .inr (.inr (.inr rfl))⟩
theorem at5 {a b c d e r : Int} (h0 : 0 ≤ r) (h1 : r < 5) : ∃ z, atI [V.int a, .int b, .int c, .int d, .int e] r = some (.int z) := by
 have : r = 0 ∨ r = 1 ∨ r = 2 ∨ r = 3 ∨ r = 4 := by omega
 rcases this with rfl | rfl | rfl | rfl | rfl
 ·exact ⟨a, rfl⟩
 ·exact ⟨b, rfl⟩
 ·exact ⟨c, rfl⟩
 ·exact ⟨d, rfl⟩
 ·exact ⟨e, rfl⟩
theorem grs_eqnil (gs : List Gr) : eqD (.lst (gs.map grD)) (.lst []) = decide (gs.length = 0) := by
 cases gs with
 | nil => rfl
 | cons x gs => simp [eqD, eqDs]
section
variable {P : Program} {w : World} {K : PySem.W.Frag} {mg : Str → Option Value} {base : Heap} {CX : CXT} {C CS CL CN : Addr}
theorem sc_lleast : FnScope ["_law_hand_here", "_law_lent", "_law_term_here", "_law_way", "_law_slot", "_law_first", "_law_end"] ["_law_hand_here", "_law_lent", "_law_term_here"] (defScope (top 43)) := by walk_at "s"
def spLLeast : Sp := fun vs H Q _ => ∃ (p b : Addr) (te bb : Int) (hs : List Gr), vs = [.ref p, .ref b, .int te] ∧ HandAt H p bb ∧ bb ≤ 1000000 ∧ H b = some (.lst (grV hs)) ∧ GrsAt H hs ∧ hs.length ≤ 63 ∧ b ≠ p ∧ ∀ r H', 0 ≤ r → r ≤ last30 → HandAt H' p (bb + 4096) → Oth p H H' → Q (.int r) H'
theorem ok_lleast (D : Dat K mg "_law_least" "_law_least" (top 43) ["_law_hand_here", "_law_lent", "_law_term_here"]) (BT : Bt mg) (NE : NoErr CX) (c__law_pick : Cal P w K mg base CX "_law_pick" 11 ["_law_hand_here", "_law_many_here"] spPick) : Cal P w K mg base CX "_law_least" 12 ["_law_hand_here", "_law_lent", "_law_term_here"] spLLeast := by
 have S := sc_lleast
 walk_at "d"
 ·obtain ⟨p, b, te, bb, hs, rfl, _⟩ := h
  rfl
 obtain ⟨p, b, te, bb, hs, rfl, hh, hb6, hb, hH, h63, hne, q⟩ := h
 refine ⟨_, (@pss_cons _ _ _ _ _ (@ps_set _ _ 3 _ _ _ _ S.nd rfl (by first | exact Or.inl rfl | exact Or.inr rfl) (@pe_fn _ _ _ _ _ _ _ _ _ _ _ _ c__law_pick (hr.mono (by first | decide | omega)) NE.pass (@pa_cons _ _ _ _ _ (@pv _ 0 _ _ (by rfl) (by first | exact Or.inl rfl | exact Or.inr (Or.inl rfl) | exact Or.inr (Or.inr rfl)) (by decide) (by decide)) (@pa_cons _ _ _ _ _ (@pe_int _ _ _ _) (@pa_nil _) (by rfl)) (by rfl)) (by rfl) (by decide) (by rfl) (by rfl)) (by rfl) (by first | exact .inl rfl | exact .inr rfl | assumption)) (@pss_cons _ _ _ _ _ (@ps_if _ _ _ _ _ _ _ _ (@PW.pt _ _ _ (@pw_and _ _ _ _ _ _ _ (@pt_cmpR _ _ _ _ _ _ _ _ (@op_lt _) (@pv _ 3 _ _ (by rfl) (by first | exact Or.inl rfl | exact Or.inr (Or.inl rfl) | exact Or.inr (Or.inr rfl)) (by decide) (by decide)) (@pe_int _ _ _ _) (@nomark _ _ (by decide) (by decide))) (@pw_and1 _ _ _ _ (@pt_cmpR _ _ _ _ _ _ _ _ (@op_neD _ (hr.mono (Nat.zero_le _))) (@pv _ 1 _ _ (by rfl) (by first | exact Or.inl rfl | exact Or.inr (Or.inl rfl) | exact Or.inr (Or.inr rfl)) (by decide) (by decide)) (@pe_lst _ _ _ _ (@pa_nil _)) (@nomark _ _ (by decide) (by decide)))))) (@pss_cons _ _ _ _ _ (@ps_asg _ _ _ _ _ _ (@pe_ix _ _ _ _ _ _ _ (@ix_tup _) (@pe_ix _ _ _ _ _ _ _ (@ix_list _) (@pv _ 1 _ _ (by rfl) (by first | exact Or.inl rfl | exact Or.inr (Or.inl rfl) | exact Or.inr (Or.inr rfl)) (by decide) (by decide)) (@pe_fn _ _ _ _ _ _ _ _ _ _ _ _ c__law_pick (hr.mono (by first | decide | omega)) NE.pass (@pa_cons _ _ _ _ _ (@pv _ 0 _ _ (by rfl) (by first | exact Or.inl rfl | exact Or.inr (Or.inl rfl) | exact Or.inr (Or.inr rfl)) (by decide) (by decide)) (@pa_cons _ _ _ _ _ (@pe_callB _ _ _ _ _ _ _ _ _ (@c_len _) rfl BT.len L3.bt_len (@pa_cons _ _ _ _ _ (@pv _ 1 _ _ (by rfl) (by first | exact Or.inl rfl | exact Or.inr (Or.inl rfl) | exact Or.inr (Or.inr rfl)) (by decide) (by decide)) (@pa_nil _) (by rfl)) (by decide) (by decide) (by rfl) (by rfl)) (@pa_nil _) (by rfl)) (by rfl)) (by rfl) (by decide) (by rfl) (by rfl)) (fun _ _ => rfl)) (@pe_int _ _ _ _) (fun _ _ => rfl)) (@pg_tup _ _ _ _ _ _ rfl (@pgs_cons _ _ _ _ _ (@pg_name _ _ 4 _ S.nd rfl (by first | exact Or.inl rfl | exact Or.inr rfl) (by first | exact .inl rfl | exact .inr rfl | assumption)) (@pgs_cons _ _ _ _ _ (@pg_name _ _ 5 _ S.nd rfl (by first | exact Or.inl rfl | exact Or.inr rfl) (by first | exact .inl rfl | exact .inr rfl | assumption)) (@pgs_cons _ _ _ _ _ (@pg_name _ _ 6 _ S.nd rfl (by first | exact Or.inl rfl | exact Or.inr rfl) (by first | exact .inl rfl | exact .inr rfl | assumption)) (@pgs_nil _) (by rfl)) (by rfl)) (by rfl)) (by rfl) (by rfl)) (by rfl) (by rfl) (by rfl)) (@pss_one _ _ _ (@ps_ret _ _ _ _ (@pe_callB _ _ _ _ _ _ _ _ _ (@c_max _ rfl) rfl BT.max L3.bt_max (@pa_cons _ _ _ _ _ (@pe_int _ _ _ _) (@pa_cons _ _ _ _ _ (@pe_callB _ _ _ _ _ _ _ _ _ (@c_min _ rfl) rfl BT.min L3.bt_min (@pa_cons _ _ _ _ _ (@pe_op _ _ _ _ _ _ _ _ (@op_pow _) (@pe_int _ _ _ _) (@pe_int _ _ _ _)) (@pa_cons _ _ _ _ _ (@pe_op _ _ _ _ _ _ _ _ (@op_sub _) (@pe_op _ _ _ _ _ _ _ _ (@op_add _) (@pe_ix _ _ _ _ _ _ _ (@ix_list _) (@pe_lst _ _ _ _ (@pa_cons _ _ _ _ _ (@pv _ 5 _ _ (by rfl) (by first | exact Or.inl rfl | exact Or.inr (Or.inl rfl) | exact Or.inr (Or.inr rfl)) (by decide) (by decide)) (@pa_cons _ _ _ _ _ (@pv _ 6 _ _ (by rfl) (by first | exact Or.inl rfl | exact Or.inr (Or.inl rfl) | exact Or.inr (Or.inr rfl)) (by decide) (by decide)) (@pa_cons _ _ _ _ _ (@pv _ 6 _ _ (by rfl) (by first | exact Or.inl rfl | exact Or.inr (Or.inl rfl) | exact Or.inr (Or.inr rfl)) (by decide) (by decide)) (@pa_cons _ _ _ _ _ (@pe_op _ _ _ _ _ _ _ _ (@op_add _) (@pv _ 6 _ _ (by rfl) (by first | exact Or.inl rfl | exact Or.inr (Or.inl rfl) | exact Or.inr (Or.inr rfl)) (by decide) (by decide)) (@pv _ 2 _ _ (by rfl) (by first | exact Or.inl rfl | exact Or.inr (Or.inl rfl) | exact Or.inr (Or.inr rfl)) (by decide) (by decide))) (@pa_nil _) (by rfl)) (by rfl)) (by rfl)) (by rfl))) (@pv _ 3 _ _ (by rfl) (by first | exact Or.inl rfl | exact Or.inr (Or.inl rfl) | exact Or.inr (Or.inr rfl)) (by decide) (by decide)) (fun _ _ => rfl)) (@pe_fn _ _ _ _ _ _ _ _ _ _ _ _ c__law_pick (hr.mono (by first | decide | omega)) NE.pass (@pa_cons _ _ _ _ _ (@pv _ 0 _ _ (by rfl) (by first | exact Or.inl rfl | exact Or.inr (Or.inl rfl) | exact Or.inr (Or.inr rfl)) (by decide) (by decide)) (@pa_cons _ _ _ _ _ (@pe_int _ _ _ _) (@pa_nil _) (by rfl)) (by rfl)) (by rfl) (by decide) (by rfl) (by rfl))) (@pe_int _ _ _ _)) (@pa_nil _) (by rfl)) (by rfl)) (by decide) (by decide) (by rfl) (by rfl)) (@pa_nil _) (by rfl)) (by rfl)) (by decide) (by decide) (by rfl) (by rfl))))) (@pss_nil _)) (@pss_cons _ _ _ _ _ (@ps_if _ _ _ _ _ _ _ _ (@pt_cmpR _ _ _ _ _ _ _ _ (@op_eq _) (@pv _ 3 _ _ (by rfl) (by first | exact Or.inl rfl | exact Or.inr (Or.inl rfl) | exact Or.inr (Or.inr rfl)) (by decide) (by decide)) (@pe_int _ _ _ _) (@nomark _ _ (by decide) (by decide))) (@pss_one _ _ _ (@ps_ret _ _ _ _ (@pe_callB _ _ _ _ _ _ _ _ _ (@c_max _ rfl) rfl BT.max L3.bt_max (@pa_cons _ _ _ _ _ (@pe_int _ _ _ _) (@pa_cons _ _ _ _ _ (@pe_callB _ _ _ _ _ _ _ _ _ (@c_min _ rfl) rfl BT.min L3.bt_min (@pa_cons _ _ _ _ _ (@pe_op _ _ _ _ _ _ _ _ (@op_pow _) (@pe_int _ _ _ _) (@pe_int _ _ _ _)) (@pa_cons _ _ _ _ _ (@pe_op _ _ _ _ _ _ _ _ (@op_sub _) (@pe_op _ _ _ _ _ _ _ _ (@op_add _) (@pe_op _ _ _ _ _ _ _ _ (@op_sub _) (@pe_op _ _ _ _ _ _ _ _ (@op_pow _) (@pe_int _ _ _ _) (@pe_int _ _ _ _)) (@pv _ 2 _ _ (by rfl) (by first | exact Or.inl rfl | exact Or.inr (Or.inl rfl) | exact Or.inr (Or.inr rfl)) (by decide) (by decide))) (@pe_fn _ _ _ _ _ _ _ _ _ _ _ _ c__law_pick (hr.mono (by first | decide | omega)) NE.pass (@pa_cons _ _ _ _ _ (@pv _ 0 _ _ (by rfl) (by first | exact Or.inl rfl | exact Or.inr (Or.inl rfl) | exact Or.inr (Or.inr rfl)) (by decide) (by decide)) (@pa_cons _ _ _ _ _ (@pe_int _ _ _ _) (@pa_nil _) (by rfl)) (by rfl)) (by rfl) (by decide) (by rfl) (by rfl))) (@pe_int _ _ _ _)) (@pa_nil _) (by rfl)) (by rfl)) (by decide) (by decide) (by rfl) (by rfl)) (@pa_nil _) (by rfl)) (by rfl)) (by decide) (by decide) (by rfl) (by rfl)))) (@pss_nil _)) (@pss_cons _ _ _ _ _ (@ps_if _ _ _ _ _ _ _ _ (@pt_cmpR _ _ _ _ _ _ _ _ (@op_eq _) (@pv _ 3 _ _ (by rfl) (by first | exact Or.inl rfl | exact Or.inr (Or.inl rfl) | exact Or.inr (Or.inr rfl)) (by decide) (by decide)) (@pe_int _ _ _ _) (@nomark _ _ (by decide) (by decide))) (@pss_one _ _ _ (@ps_ret _ _ _ _ (@pe_fn _ _ _ _ _ _ _ _ _ _ _ _ c__law_pick (hr.mono (by first | decide | omega)) NE.pass (@pa_cons _ _ _ _ _ (@pv _ 0 _ _ (by rfl) (by first | exact Or.inl rfl | exact Or.inr (Or.inl rfl) | exact Or.inr (Or.inr rfl)) (by decide) (by decide)) (@pa_cons _ _ _ _ _ (@pe_op _ _ _ _ _ _ _ _ (@op_add _) (@pe_op _ _ _ _ _ _ _ _ (@op_pow _) (@pe_int _ _ _ _) (@pe_int _ _ _ _)) (@pe_int _ _ _ _)) (@pa_nil _) (by rfl)) (by rfl)) (by rfl) (by decide) (by rfl) (by rfl)))) (@pss_nil _)) (@pss_one _ _ _ (@ps_ret _ _ _ _ (@pe_fn _ _ _ _ _ _ _ _ _ _ _ _ c__law_pick (hr.mono (by first | decide | omega)) NE.pass (@pa_cons _ _ _ _ _ (@pv _ 0 _ _ (by rfl) (by first | exact Or.inl rfl | exact Or.inr (Or.inl rfl) | exact Or.inr (Or.inr rfl)) (by decide) (by decide)) (@pa_cons _ _ _ _ _ (@pe_ix _ _ _ _ _ _ _ (@ix_list _) (@pe_lst _ _ _ _ (@pa_cons _ _ _ _ _ (@pe_int _ _ _ _) (@pa_cons _ _ _ _ _ (@pe_int _ _ _ _) (@pa_cons _ _ _ _ _ (@pe_int _ _ _ _) (@pa_cons _ _ _ _ _ (@pe_op _ _ _ _ _ _ _ _ (@op_pow _) (@pe_int _ _ _ _) (@pe_int _ _ _ _)) (@pa_nil _) (by rfl)) (by rfl)) (by rfl)) (by rfl))) (@pe_op _ _ _ _ _ _ _ _ (@op_mod _) (@pv _ 3 _ _ (by rfl) (by first | exact Or.inl rfl | exact Or.inr (Or.inl rfl) | exact Or.inr (Or.inr rfl)) (by decide) (by decide)) (@pe_int _ _ _ _)) (fun _ _ => rfl)) (@pa_nil _) (by rfl)) (by rfl)) (by rfl) (by decide) (by rfl) (by rfl)))))))), ?_⟩
 try dsimp only [cxOf]
 have tp : ((10 : Int) ^ Int.toNat 30) = 1000000000000000000000000000000 := by decide +kernel
 have l30 : last30 = 1000000000000000000000000000000 := rfl
 rw [l30] at q
 have tp6 : ((10 : Int) ^ Int.toNat 6) = 1000000 := rfl
 have L := led_hand hh
 walk_at "go"
 refine use_pick L .head (by decide) (by decide) (by omega) fun r1 H1 a0 a1 L _ => ?_
 walk_at "one"
 try dsimp only [gName]
 refine seq_mid (fun σ H' => σ = [some (.ref p), some (.ref b), some (.int te), some (.int r1), none, none, none] ∧ HandAt H' p (bb + 1024) ∧ Oth p H H') (fun nx kk => ?_) ?_
 ·walk_at "go"
  refine g_ifD (fun c1 => ?_) (fun c1 => ?_)
  ·walk_at "go"
   have hbX := L'.fr _ _ hb hne
   have hHX : GrsAt H' hs := fun x hx => ⟨L'.fr _ _ (hH x hx).1 (fun z => by have e := (hH x hx).1; obtain ⟨_, _, _, e2, _⟩ := hh; rw [z, e2] at e; cases e), L'.fr _ _ (hH x hx).2 (fun z => by have e : H x.ar = _ := (hH x hx).2; obtain ⟨_, _, _, e2, _⟩ := hh; rw [z, e2] at e; cases e)⟩
   refine g_neD (d := .lst (hs.map grD)) (e := .lst []) (grs_at (SqL.of hbX) hHX) (.lst (SqL.of (L'.eo .head)) .nil) (grs_dep' hs) ?_
   rw [grs_eqnil]
   walk_at "go"
   refine g_ifN (fun z => ?_) (fun z => ?_)
   ·walk_at "go"
    exact kk _ _ ⟨rfl, HandO.at (L'.at_ (p, HandO _) (by walk_at "mem")), L'.fr⟩
   ·walk_at "go"
    refine g_lenSq (SqL.of hbX) ?_
    rw [grV_len]
    walk_at "go"
    refine use_pick L' (by walk_at "put") (by omega) (by omega) (by omega) fun r2 H2 b0 b1 L ch => ?_
    obtain ⟨j, rfl⟩ := Int.eq_ofNat_of_zero_le b0
    obtain ⟨x, hx⟩ : ∃ x, hs[j]? = some x := ⟨_, List.getElem?_eq_getElem (by omega)⟩
    have hxm := List.mem_of_getElem? hx
    have hx2 := (hHX x hxm).ts ch.ts
    have L := (L.more (tupAt x.g [_, _, _]) hx2.1).more (tupAt x.ar [_, _, _]) hx2.2
    walk_at "go"
    refine g_ixSq (SqL.of (L.fr _ _ hb hne)) (atI_nat (by unfold grV; rw [List.getElem?_map, hx]; rfl)) ?_
    walk_at "go"
    obtain ⟨z4, hz4, _⟩ := at4 (a := x.f) (b := x.e) (c := x.e) (d := x.e + te) a0 c1
    refine g_ixL L' .head hz4 ?_
    walk_at "go"
    refine use_pick L' (by walk_at "put") (by decide) (by decide) (by omega) fun r3 H3 d0 d1 L _ => ?_
    walk_at "go"
    rw [tp]
    exact q _ _ (by omega) (by omega) ((HandO.at (L.at_ (p, HandO _) (by walk_at "mem"))).mono (by omega)) L.fr
  ·walk_at "go"
   exact kk _ _ ⟨rfl, HandO.at (L.at_ (p, HandO _) (by walk_at "mem")), L.fr⟩
 rintro σ H2 ⟨rfl, h2, o2⟩
 have L := led_hand h2
 walk_at "go"
 refine g_ifD (fun c1 => ?_) (fun c1 => ?_)
 ·walk_at "go"
  refine use_pick L .head (by decide) (by decide) (by omega) fun r3 H3 d0 d1 L _ => ?_
  walk_at "go"
  rw [tp]
  exact q _ _ (by omega) (by omega) ((HandO.at (L.at_ (p, HandO _) (by walk_at "mem"))).mono (by omega)) (o2.trans L.fr)
 walk_at "go"
 refine g_ifD (fun c2 => ?_) (fun c2 => ?_)
 ·walk_at "go"
  rw [tp]
  refine use_pick L .head (by decide) (by decide) (by omega) fun r3 H3 d0 d1 L _ => ?_
  walk_at "go"
  exact q _ _ (by omega) (by omega) ((HandO.at (L.at_ (p, HandO _) (by walk_at "mem"))).mono (by omega)) (o2.trans L.fr)
 walk_at "go"
 rw [tp6] at *
 obtain ⟨z4, hz4, hz5⟩ := at4 (a := 1) (b := 3) (c := 40) (d := 1000000) (r := r1 % 4) (by omega) (by omega)
 refine g_ixL L' .head hz4 ?_
 walk_at "go"
 refine use_pick L' (by walk_at "put") (by omega) (by omega) (by omega) fun r3 H3 d0 d1 L _ => ?_
 walk_at "go"
 exact q _ _ (by omega) (by omega) ((HandO.at (L.at_ (p, HandO _) (by walk_at "mem"))).mono (by omega)) (o2.trans L.fr)
theorem hs_old {H H' : Hp} {p : Addr} {bb : Int} {hs : List Gr} (hh : HandAt H p bb) (h : GrsAt H hs) (o : Oth p H H') : GrsAt H' hs := fun x hx => by
 obtain ⟨_, _, _, e2, _⟩ := hh
 exact ⟨o _ _ (h x hx).1 (fun z => by have e := (h x hx).1; rw [z, e2] at e; cases e), o _ _ (h x hx).2 (fun z => by have e : H x.ar = _ := (h x hx).2; rw [z, e2] at e; cases e)⟩
theorem sc_lending : FnScope ["_law_hand_here", "_law_lent", "_law_way", "_law_grant", "_law_slot", "_law_first", "_law_last"] ["_law_hand_here", "_law_lent"] (defScope (top 44)) := by walk_at "s"
def spLEnding : Sp := fun vs H Q _ => ∃ (p b : Addr) (bb : Int) (hs : List Gr), vs = [.ref p, .ref b] ∧ HandAt H p bb ∧ bb ≤ 1000000 ∧ H b = some (.lst (grV hs)) ∧ GrsAt H hs ∧ 0 < hs.length ∧ hs.length ≤ 63 ∧ (∀ x ∈ hs, 0 ≤ x.f ∧ 0 ≤ x.e ∧ x.e ≤ last30) ∧ b ≠ p ∧ ∀ t n en H', H' t = some (.tup [.int n, .int en]) → HandAt H' p (bb + 8192) → Oth p H H' → Q (.ref t) H'
theorem ok_lending (D : Dat K mg "_law_ending" "_law_ending" (top 44) ["_law_hand_here", "_law_lent"]) (BT : Bt mg) (NE : NoErr CX) (c__law_pick : Cal P w K mg base CX "_law_pick" 11 ["_law_hand_here", "_law_many_here"] spPick) : Cal P w K mg base CX "_law_ending" 12 ["_law_hand_here", "_law_lent"] spLEnding := by
 have S := sc_lending
 walk_at "d"
 ·obtain ⟨p, b, bb, hs, rfl, _⟩ := h
  rfl
 obtain ⟨p, b, bb, hs, rfl, hh, hb6, hb, hH, h0, h63, hpos, hne, q⟩ := h
 refine ⟨_, (@pss_cons _ _ _ _ _ (@ps_set _ _ 2 _ _ _ _ S.nd rfl (by first | exact Or.inl rfl | exact Or.inr rfl) (@pe_fn _ _ _ _ _ _ _ _ _ _ _ _ c__law_pick (hr.mono (by first | decide | omega)) NE.pass (@pa_cons _ _ _ _ _ (@pv _ 0 _ _ (by rfl) (by first | exact Or.inl rfl | exact Or.inr (Or.inl rfl) | exact Or.inr (Or.inr rfl)) (by decide) (by decide)) (@pa_cons _ _ _ _ _ (@pe_int _ _ _ _) (@pa_nil _) (by rfl)) (by rfl)) (by rfl) (by decide) (by rfl) (by rfl)) (by rfl) (by first | exact .inl rfl | exact .inr rfl | assumption)) (@pss_cons _ _ _ _ _ (@ps_if _ _ _ _ _ _ _ _ (@pt_cmpR _ _ _ _ _ _ _ _ (@op_eq _) (@pv _ 2 _ _ (by rfl) (by first | exact Or.inl rfl | exact Or.inr (Or.inl rfl) | exact Or.inr (Or.inr rfl)) (by decide) (by decide)) (@pe_int _ _ _ _) (@nomark _ _ (by decide) (by decide))) (@pss_one _ _ _ (@ps_ret _ _ _ _ (@pe_tup _ _ _ _ _ (@pa_cons _ _ _ _ _ (@pe_ix _ _ _ _ _ _ _ (@ix_list _) (@pe_lst _ _ _ _ (@pa_cons _ _ _ _ _ (@pe_int _ _ _ _) (@pa_cons _ _ _ _ _ (@pe_un _ _ _ _ _ _ (@un_neg _) (@pe_int _ _ _ _)) (@pa_cons _ _ _ _ _ (@pe_op _ _ _ _ _ _ _ _ (@op_add _) (@pe_callB _ _ _ _ _ _ _ _ _ (@c_len _) rfl BT.len L3.bt_len (@pa_cons _ _ _ _ _ (@pv _ 1 _ _ (by rfl) (by first | exact Or.inl rfl | exact Or.inr (Or.inl rfl) | exact Or.inr (Or.inr rfl)) (by decide) (by decide)) (@pa_nil _) (by rfl)) (by decide) (by decide) (by rfl) (by rfl)) (@pe_int _ _ _ _)) (@pa_cons _ _ _ _ _ (@pe_op _ _ _ _ _ _ _ _ (@op_pow _) (@pe_int _ _ _ _) (@pe_int _ _ _ _)) (@pa_nil _) (by rfl)) (by rfl)) (by rfl)) (by rfl))) (@pe_fn _ _ _ _ _ _ _ _ _ _ _ _ c__law_pick (hr.mono (by first | decide | omega)) NE.pass (@pa_cons _ _ _ _ _ (@pv _ 0 _ _ (by rfl) (by first | exact Or.inl rfl | exact Or.inr (Or.inl rfl) | exact Or.inr (Or.inr rfl)) (by decide) (by decide)) (@pa_cons _ _ _ _ _ (@pe_int _ _ _ _) (@pa_nil _) (by rfl)) (by rfl)) (by rfl) (by decide) (by rfl) (by rfl)) (fun _ _ => rfl)) (@pa_cons _ _ _ _ _ (@pe_fn _ _ _ _ _ _ _ _ _ _ _ _ c__law_pick (hr.mono (by first | decide | omega)) NE.pass (@pa_cons _ _ _ _ _ (@pv _ 0 _ _ (by rfl) (by first | exact Or.inl rfl | exact Or.inr (Or.inl rfl) | exact Or.inr (Or.inr rfl)) (by decide) (by decide)) (@pa_cons _ _ _ _ _ (@pe_int _ _ _ _) (@pa_nil _) (by rfl)) (by rfl)) (by rfl) (by decide) (by rfl) (by rfl)) (@pa_nil _) (by rfl)) (by rfl))))) (@pss_nil _)) (@pss_cons _ _ _ _ _ (@ps_set _ _ 3 _ _ _ _ S.nd rfl (by first | exact Or.inl rfl | exact Or.inr rfl) (@pe_callB _ _ _ _ _ _ _ _ _ (@c_len _) rfl BT.len L3.bt_len (@pa_cons _ _ _ _ _ (@pv _ 1 _ _ (by rfl) (by first | exact Or.inl rfl | exact Or.inr (Or.inl rfl) | exact Or.inr (Or.inr rfl)) (by decide) (by decide)) (@pa_nil _) (by rfl)) (by decide) (by decide) (by rfl) (by rfl)) (by rfl) (by first | exact .inl rfl | exact .inr rfl | assumption)) (@pss_cons _ _ _ _ _ (@ps_if _ _ _ _ _ _ _ _ (@pt_cmpR _ _ _ _ _ _ _ _ (@op_gt _) (@pv _ 2 _ _ (by rfl) (by first | exact Or.inl rfl | exact Or.inr (Or.inl rfl) | exact Or.inr (Or.inr rfl)) (by decide) (by decide)) (@pe_int _ _ _ _) (@nomark _ _ (by decide) (by decide))) (@pss_one _ _ _ (@ps_set _ _ 3 _ _ _ _ S.nd rfl (by first | exact Or.inl rfl | exact Or.inr rfl) (@pe_op _ _ _ _ _ _ _ _ (@op_add _) (@pe_int _ _ _ _) (@pe_fn _ _ _ _ _ _ _ _ _ _ _ _ c__law_pick (hr.mono (by first | decide | omega)) NE.pass (@pa_cons _ _ _ _ _ (@pv _ 0 _ _ (by rfl) (by first | exact Or.inl rfl | exact Or.inr (Or.inl rfl) | exact Or.inr (Or.inr rfl)) (by decide) (by decide)) (@pa_cons _ _ _ _ _ (@pe_callB _ _ _ _ _ _ _ _ _ (@c_len _) rfl BT.len L3.bt_len (@pa_cons _ _ _ _ _ (@pv _ 1 _ _ (by rfl) (by first | exact Or.inl rfl | exact Or.inr (Or.inl rfl) | exact Or.inr (Or.inr rfl)) (by decide) (by decide)) (@pa_nil _) (by rfl)) (by decide) (by decide) (by rfl) (by rfl)) (@pa_nil _) (by rfl)) (by rfl)) (by rfl) (by decide) (by rfl) (by rfl))) (by rfl) (by first | exact .inl rfl | exact .inr rfl | assumption))) (@pss_nil _)) (@pss_cons _ _ _ _ _ (@ps_asg _ _ _ _ _ _ (@pe_ix _ _ _ _ _ _ _ (@ix_tup _) (@pe_ix _ _ _ _ _ _ _ (@ix_list _) (@pv _ 1 _ _ (by rfl) (by first | exact Or.inl rfl | exact Or.inr (Or.inl rfl) | exact Or.inr (Or.inr rfl)) (by decide) (by decide)) (@pe_op _ _ _ _ _ _ _ _ (@op_sub _) (@pv _ 3 _ _ (by rfl) (by first | exact Or.inl rfl | exact Or.inr (Or.inl rfl) | exact Or.inr (Or.inr rfl)) (by decide) (by decide)) (@pe_int _ _ _ _)) (fun _ _ => rfl)) (@pe_int _ _ _ _) (fun _ _ => rfl)) (@pg_tup _ _ _ _ _ _ rfl (@pgs_cons _ _ _ _ _ (@pg_name _ _ 4 _ S.nd rfl (by first | exact Or.inl rfl | exact Or.inr rfl) (by first | exact .inl rfl | exact .inr rfl | assumption)) (@pgs_cons _ _ _ _ _ (@pg_name _ _ 5 _ S.nd rfl (by first | exact Or.inl rfl | exact Or.inr rfl) (by first | exact .inl rfl | exact .inr rfl | assumption)) (@pgs_cons _ _ _ _ _ (@pg_name _ _ 6 _ S.nd rfl (by first | exact Or.inl rfl | exact Or.inr rfl) (by first | exact .inl rfl | exact .inr rfl | assumption)) (@pgs_nil _) (by rfl)) (by rfl)) (by rfl)) (by rfl) (by rfl)) (by rfl) (by rfl) (by rfl)) (@pss_cons _ _ _ _ _ (@ps_if _ _ _ _ _ _ _ _ (@pt_cmpR _ _ _ _ _ _ _ _ (@op_eq _) (@pe_fn _ _ _ _ _ _ _ _ _ _ _ _ c__law_pick (hr.mono (by first | decide | omega)) NE.pass (@pa_cons _ _ _ _ _ (@pv _ 0 _ _ (by rfl) (by first | exact Or.inl rfl | exact Or.inr (Or.inl rfl) | exact Or.inr (Or.inr rfl)) (by decide) (by decide)) (@pa_cons _ _ _ _ _ (@pe_int _ _ _ _) (@pa_nil _) (by rfl)) (by rfl)) (by rfl) (by decide) (by rfl) (by rfl)) (@pe_int _ _ _ _) (@nomark _ _ (by decide) (by decide))) (@pss_one _ _ _ (@ps_ret _ _ _ _ (@pe_tup _ _ _ _ _ (@pa_cons _ _ _ _ _ (@pv _ 3 _ _ (by rfl) (by first | exact Or.inl rfl | exact Or.inr (Or.inl rfl) | exact Or.inr (Or.inr rfl)) (by decide) (by decide)) (@pa_cons _ _ _ _ _ (@pe_op _ _ _ _ _ _ _ _ (@op_add _) (@pv _ 5 _ _ (by rfl) (by first | exact Or.inl rfl | exact Or.inr (Or.inl rfl) | exact Or.inr (Or.inr rfl)) (by decide) (by decide)) (@pe_fn _ _ _ _ _ _ _ _ _ _ _ _ c__law_pick (hr.mono (by first | decide | omega)) NE.pass (@pa_cons _ _ _ _ _ (@pv _ 0 _ _ (by rfl) (by first | exact Or.inl rfl | exact Or.inr (Or.inl rfl) | exact Or.inr (Or.inr rfl)) (by decide) (by decide)) (@pa_cons _ _ _ _ _ (@pe_callB _ _ _ _ _ _ _ _ _ (@c_max _ rfl) rfl BT.max L3.bt_max (@pa_cons _ _ _ _ _ (@pe_int _ _ _ _) (@pa_cons _ _ _ _ _ (@pe_op _ _ _ _ _ _ _ _ (@op_sub _) (@pv _ 6 _ _ (by rfl) (by first | exact Or.inl rfl | exact Or.inr (Or.inl rfl) | exact Or.inr (Or.inr rfl)) (by decide) (by decide)) (@pv _ 5 _ _ (by rfl) (by first | exact Or.inl rfl | exact Or.inr (Or.inl rfl) | exact Or.inr (Or.inr rfl)) (by decide) (by decide))) (@pa_nil _) (by rfl)) (by rfl)) (by decide) (by decide) (by rfl) (by rfl)) (@pa_nil _) (by rfl)) (by rfl)) (by rfl) (by decide) (by rfl) (by rfl))) (@pa_nil _) (by rfl)) (by rfl))))) (@pss_nil _)) (@pss_one _ _ _ (@ps_ret _ _ _ _ (@pe_tup _ _ _ _ _ (@pa_cons _ _ _ _ _ (@pv _ 3 _ _ (by rfl) (by first | exact Or.inl rfl | exact Or.inr (Or.inl rfl) | exact Or.inr (Or.inr rfl)) (by decide) (by decide)) (@pa_cons _ _ _ _ _ (@pe_ix _ _ _ _ _ _ _ (@ix_list _) (@pe_lst _ _ _ _ (@pa_cons _ _ _ _ _ (@pv _ 5 _ _ (by rfl) (by first | exact Or.inl rfl | exact Or.inr (Or.inl rfl) | exact Or.inr (Or.inr rfl)) (by decide) (by decide)) (@pa_cons _ _ _ _ _ (@pe_op _ _ _ _ _ _ _ _ (@op_sub _) (@pv _ 5 _ _ (by rfl) (by first | exact Or.inl rfl | exact Or.inr (Or.inl rfl) | exact Or.inr (Or.inr rfl)) (by decide) (by decide)) (@pe_int _ _ _ _)) (@pa_cons _ _ _ _ _ (@pe_op _ _ _ _ _ _ _ _ (@op_sub _) (@pv _ 6 _ _ (by rfl) (by first | exact Or.inl rfl | exact Or.inr (Or.inl rfl) | exact Or.inr (Or.inr rfl)) (by decide) (by decide)) (@pe_int _ _ _ _)) (@pa_cons _ _ _ _ _ (@pv _ 6 _ _ (by rfl) (by first | exact Or.inl rfl | exact Or.inr (Or.inl rfl) | exact Or.inr (Or.inr rfl)) (by decide) (by decide)) (@pa_cons _ _ _ _ _ (@pe_op _ _ _ _ _ _ _ _ (@op_add _) (@pv _ 6 _ _ (by rfl) (by first | exact Or.inl rfl | exact Or.inr (Or.inl rfl) | exact Or.inr (Or.inr rfl)) (by decide) (by decide)) (@pe_int _ _ _ _)) (@pa_nil _) (by rfl)) (by rfl)) (by rfl)) (by rfl)) (by rfl))) (@pe_fn _ _ _ _ _ _ _ _ _ _ _ _ c__law_pick (hr.mono (by first | decide | omega)) NE.pass (@pa_cons _ _ _ _ _ (@pv _ 0 _ _ (by rfl) (by first | exact Or.inl rfl | exact Or.inr (Or.inl rfl) | exact Or.inr (Or.inr rfl)) (by decide) (by decide)) (@pa_cons _ _ _ _ _ (@pe_int _ _ _ _) (@pa_nil _) (by rfl)) (by rfl)) (by rfl) (by decide) (by rfl) (by rfl)) (fun _ _ => rfl)) (@pa_nil _) (by rfl)) (by rfl))))))))))), ?_⟩
 try dsimp only [cxOf]
 have l30 : last30 = 1000000000000000000000000000000 := rfl
 have L := led_hand hh
 walk_at "go"
 refine use_pick L .head (by decide) (by decide) (by omega) fun r1 H1 a0 a1 L _ => ?_
 walk_at "go"
 refine g_ifD (fun c0 => ?_) (fun c0 => ?_)
 ·walk_at "go"
  refine g_lenSq (SqL.of (L.fr _ _ hb hne)) ?_
  walk_at "go"
  refine use_pick L' (by walk_at "put") (by decide) (by decide) (by omega) fun r2 H2 b0 b1 L _ => ?_
  walk_at "go"
  obtain ⟨z4, hz4, _⟩ := at4 (a := 0) (b := -1) (c := ((grV hs).length : Int) + 1) (d := 10 ^ Int.toNat 30) b0 b1
  refine g_ixL L .head hz4 ?_
  walk_at "go"
  refine use_pick L (by walk_at "put") (by decide) (by decide) (by omega) fun r3 H3 d0 d1 L _ => ?_
  walk_at "go"
  exact q _ _ _ _ (L'.tup (by walk_at "mem")) ((HandO.at (L'.at_ (p, HandO _) (by walk_at "mem"))).mono (by omega)) L'.fr
 walk_at "go"
 refine g_lenSq (SqL.of (L.fr _ _ hb hne)) ?_
 rw [grV_len]
 have h1 := HandO.at (L.at_ (p, HandO _) (by walk_at "mem"))
 have o1 : Oth p H H1 := L.fr
 clear L
 walk_at "one"
 try dsimp only [gName]
 refine seq_mid (fun σ H' => ∃ j : Nat, σ = [some (.ref p), some (.ref b), some (.int r1), some (.int ((j : Int) + 1)), none, none, none] ∧ j < hs.length ∧ HandAt H' p (bb + 2048) ∧ Oth p H H') (fun nx kk => ?_) ?_
 ·have L := led_hand h1
  walk_at "go"
  refine g_ifD (fun c1 => ?_) (fun c1 => ?_)
  ·walk_at "go"
   refine g_lenSq (SqL.of (o1 _ _ hb hne)) ?_
   rw [grV_len]
   walk_at "go"
   refine use_pick L .head (by omega) (by omega) (by omega) fun r2 H2 b0 b1 L _ => ?_
   obtain ⟨j, rfl⟩ := Int.eq_ofNat_of_zero_le b0
   walk_at "go"
   exact kk _ _ ⟨j, by rw [Int.add_comm]; rfl, by omega, (HandO.at (L.at_ (p, HandO _) (by walk_at "mem"))).mono (by omega), o1.trans L.fr⟩
  ·walk_at "go"
   exact kk _ _ ⟨hs.length - 1, by rw [show (((hs.length - 1 : Nat) : Int) + 1) = (hs.length : Int) by omega]; rfl, by omega, h1.mono (by omega), o1⟩
 rintro σ H2 ⟨j, rfl, hj, h2, o2⟩
 obtain ⟨x, hx⟩ : ∃ x, hs[j]? = some x := ⟨_, List.getElem?_eq_getElem hj⟩
 have hxm := List.mem_of_getElem? hx
 have hgx := hs_old hh hH o2 x hxm
 have hp1 := hpos x hxm
 rw [l30] at hp1
 have e1 : ((j : Int) + 1 - 1) = (j : Int) := by omega
 have L := ((led_hand h2).more (tupAt x.g [_, _, _]) hgx.1).more (tupAt x.ar [_, _, _]) hgx.2
 walk_at "go"
 rw [e1]
 refine g_ixSq (SqL.of (o2 _ _ hb hne)) (atI_nat (by unfold grV; rw [List.getElem?_map, hx]; rfl)) ?_
 walk_at "go"
 refine use_pick L (by walk_at "put") (by decide) (by decide) (by omega) fun r2 H3 b0 b1 L _ => ?_
 walk_at "go"
 refine g_ifD (fun c1 => ?_) (fun c1 => ?_)
 ·walk_at "go"
  refine use_pick L (by walk_at "put") (by omega) (by omega) (by omega) fun r3 H4 d0 d1 L _ => ?_
  walk_at "go"
  exact q _ _ _ _ (L'.tup (by walk_at "mem")) ((HandO.at (L'.at_ (p, HandO _) (by walk_at "mem"))).mono (by omega)) (o2.trans L'.fr)
 ·walk_at "go"
  refine use_pick L' (by walk_at "put") (by decide) (by decide) (by omega) fun r3 H4 d0 d1 L _ => ?_
  walk_at "go"
  obtain ⟨z5, hz5⟩ := at5 (a := x.f) (b := x.f - 1) (c := x.e - 1) (d := x.e) (e := x.e + 1) d0 d1
  refine g_ixL L .head hz5 ?_
  walk_at "go"
  exact q _ _ _ _ (L'.tup (by walk_at "mem")) ((HandO.at (L'.at_ (p, HandO _) (by walk_at "mem"))).mono (by omega)) (o2.trans L'.fr)
end
end Law

namespace Law
open PySem PySem.Spec PyProof.Rows L2 L3 L4
section
variable {P : Program} {w : World} {K : PySem.W.Frag} {mg : Str → Option Value} {base : Heap} {CX : CXT} {C : Addr}
def apB (s1 f1 e1 s2 f2 e2 : Int) : Bool := !decide (s1 = s2) || decide (min e1 e2 ≤ max f1 f2)
theorem sc_are_apart : FnScope ["one", "other"] ["one", "other"] (defScope (top 21)) := by walk_at "s"
def spApart : Sp := fun vs H Q _ => ∃ (a b : Addr) (s1 f1 e1 s2 f2 e2 : Int), vs = [.ref a, .ref b] ∧ tup3 H a s1 f1 e1 ∧ tup3 H b s2 f2 e2 ∧ Q (.bl (apB s1 f1 e1 s2 f2 e2)) H
theorem ok_are_apart (D : Dat K mg "are_apart" "are_apart" (top 21) ["one", "other"]) (BT : Bt mg) (NE : NoErr CX) (c_slot_of : Cal P w K mg base CX "slot_of" 1 ["area"] spAt0)
  (c_first_of : Cal P w K mg base CX "first_of" 1 ["area"] spAt1) (c_end_of : Cal P w K mg base CX "end_of" 1 ["area"] spAt2) : Cal P w K mg base CX "are_apart" 2 ["one", "other"] spApart := by
 have S := sc_are_apart
 walk_at "d"
 ·obtain ⟨a, b, s1, f1, e1, s2, f2, e2, rfl, _⟩ := h
  rfl
 obtain ⟨a, b, s1, f1, e1, s2, f2, e2, rfl, ha, hb, q⟩ := h
 refine ⟨_, (@pss_cons _ _ _ _ _ (@ps_if _ _ _ _ _ _ _ _ (@pt_cmpR _ _ _ _ _ _ _ _ (@op_ne _) (@pe_fn _ _ _ _ _ _ _ _ _ _ _ _ c_slot_of (hr.mono (by first | decide | omega)) NE.pass (@pa_cons _ _ _ _ _ (@pv _ 0 _ _ (by rfl) (by first | exact Or.inl rfl | exact Or.inr (Or.inl rfl) | exact Or.inr (Or.inr rfl)) (by decide) (by decide)) (@pa_nil _) (by rfl)) (by rfl) (by decide) (by rfl) (by rfl)) (@pe_fn _ _ _ _ _ _ _ _ _ _ _ _ c_slot_of (hr.mono (by first | decide | omega)) NE.pass (@pa_cons _ _ _ _ _ (@pv _ 1 _ _ (by rfl) (by first | exact Or.inl rfl | exact Or.inr (Or.inl rfl) | exact Or.inr (Or.inr rfl)) (by decide) (by decide)) (@pa_nil _) (by rfl)) (by rfl) (by decide) (by rfl) (by rfl)) (@nomark _ _ (by decide) (by decide))) (@pss_one _ _ _ (@ps_ret _ _ _ _ (@pe_bl _ _ _ _))) (@pss_nil _)) (@pss_one _ _ _ (@ps_ret _ _ _ _ (@pe_cmpR _ _ _ _ _ _ _ _ (@op_ge _) (@pe_callB _ _ _ _ _ _ _ _ _ (@c_max _ rfl) rfl BT.max L3.bt_max (@pa_cons _ _ _ _ _ (@pe_fn _ _ _ _ _ _ _ _ _ _ _ _ c_first_of (hr.mono (by first | decide | omega)) NE.pass (@pa_cons _ _ _ _ _ (@pv _ 0 _ _ (by rfl) (by first | exact Or.inl rfl | exact Or.inr (Or.inl rfl) | exact Or.inr (Or.inr rfl)) (by decide) (by decide)) (@pa_nil _) (by rfl)) (by rfl) (by decide) (by rfl) (by rfl)) (@pa_cons _ _ _ _ _ (@pe_fn _ _ _ _ _ _ _ _ _ _ _ _ c_first_of (hr.mono (by first | decide | omega)) NE.pass (@pa_cons _ _ _ _ _ (@pv _ 1 _ _ (by rfl) (by first | exact Or.inl rfl | exact Or.inr (Or.inl rfl) | exact Or.inr (Or.inr rfl)) (by decide) (by decide)) (@pa_nil _) (by rfl)) (by rfl) (by decide) (by rfl) (by rfl)) (@pa_nil _) (by rfl)) (by rfl)) (by decide) (by decide) (by rfl) (by rfl)) (@pe_callB _ _ _ _ _ _ _ _ _ (@c_min _ rfl) rfl BT.min L3.bt_min (@pa_cons _ _ _ _ _ (@pe_fn _ _ _ _ _ _ _ _ _ _ _ _ c_end_of (hr.mono (by first | decide | omega)) NE.pass (@pa_cons _ _ _ _ _ (@pv _ 0 _ _ (by rfl) (by first | exact Or.inl rfl | exact Or.inr (Or.inl rfl) | exact Or.inr (Or.inr rfl)) (by decide) (by decide)) (@pa_nil _) (by rfl)) (by rfl) (by decide) (by rfl) (by rfl)) (@pa_cons _ _ _ _ _ (@pe_fn _ _ _ _ _ _ _ _ _ _ _ _ c_end_of (hr.mono (by first | decide | omega)) NE.pass (@pa_cons _ _ _ _ _ (@pv _ 1 _ _ (by rfl) (by first | exact Or.inl rfl | exact Or.inr (Or.inl rfl) | exact Or.inr (Or.inr rfl)) (by decide) (by decide)) (@pa_nil _) (by rfl)) (by rfl) (by decide) (by rfl) (by rfl)) (@pa_nil _) (by rfl)) (by rfl)) (by decide) (by decide) (by rfl) (by rfl)) (@nomark _ _ (by decide) (by decide)))))), ?_⟩
 try dsimp only [cxOf]
 walk_at "go"
 refine ⟨a, _, _, _, rfl, ha, ?_⟩
 walk_at "go"
 refine ⟨b, _, _, _, rfl, hb, ?_⟩
 walk_at "go"
 refine g_ifN (fun c1 => ?_) (fun c1 => ?_)
 ·walk_at "go"
  refine ⟨a, _, _, _, rfl, ha, ?_⟩
  walk_at "go"
  refine ⟨b, _, _, _, rfl, hb, ?_⟩
  walk_at "go"
  refine ⟨a, _, _, _, rfl, ha, ?_⟩
  walk_at "go"
  refine ⟨b, _, _, _, rfl, hb, ?_⟩
  walk_at "go"
  unfold apB at q
  rw [decide_eq_true c1] at q
  exact q
 ·walk_at "go"
  unfold apB at q
  rw [decide_eq_false c1] at q
  exact q
end
end Law

namespace Law
open PySem PySem.Spec PyProof.Rows L2 L3 L4
def metB (x y : Gr) : Bool := !apB x.sl x.f x.e y.sl y.f y.e
def NoM (gs : List Gr) (i : Nat) : Prop := ∀ (j k : Nat) (x y : Gr), k < i → j < k → gs[j]? = some x → gs[k]? = some y → metB x y = false
structure Hit (gs : List Gr) (i j : Nat) (x y : Gr) : Prop where
 ji : j < i
 hx : gs[j]? = some x
 hy : gs[i]? = some y
 m : metB x y = true
 no : NoM gs i
 fst : ∀ (j' : Nat) (x' : Gr), j' < j → gs[j']? = some x' → metB x' y = false
theorem Hit.not {gs : List Gr} {i j : Nat} {x y : Gr} (h : Hit gs i j x y) (n : NoM gs gs.length) : False := by
 have := n j i x y (List.getElem?_eq_some_iff.mp h.hy).1 h.ji h.hx h.hy
 rw [h.m] at this; cases this
theorem NoM.zero {gs : List Gr} : NoM gs 0 := fun _ k _ _ h => absurd h (Nat.not_lt_zero k)
theorem NoM.succ {gs : List Gr} {i : Nat} {y : Gr} (h : NoM gs i) (hy : gs[i]? = some y) (g : ∀ (j : Nat) (x : Gr), j < i → gs[j]? = some x → metB x y = false) : NoM gs (i + 1) := fun j k x y' hk hj hx hy' => by
 by_cases e : k = i
 ·subst e
  have : y = y' := Option.some.inj (hy.symm.trans hy')
  subst this
  exact g j x hj hx
 ·exact h j k x y' (by omega) hj hx hy'
section
variable {P : Program} {w : World} {K : PySem.W.Frag} {mg : Str → Option Value} {base : Heap} {CX : CXT}
theorem sc_meeting : FnScope ["grants", "place", "other", "one"] ["grants"] (defScope (top 34)) := by walk_at "s"
def spMeeting (K : PySem.W.Frag) : Sp := fun vs H Q _ => ∃ (a : Addr) (gs : List Gr), vs = [.ref a] ∧ SqL K H a (grV gs) ∧ GrsAt H gs ∧ gs.length ≤ 63 ∧ (NoM gs gs.length → ∀ H', Same H H' → Q .non H') ∧ (∀ i j x y, Hit gs i j x y → ∀ t H', Same H H' → H' t = some (.tup [.int x.n, .int y.n]) → Q (.ref t) H')
theorem ok_meeting (D : Dat K mg "meeting" "meeting" (top 34) ["grants"]) (BT : Bt mg) (mn_enumerate : mg "enumerate" = none) (NE : NoErr CX) (c_are_apart : Cal P w K mg base CX "are_apart" 2 ["one", "other"] spApart) : Cal P w K mg base CX "meeting" 3 ["grants"] (spMeeting K) := by
 have S := sc_meeting
 walk_at "d"
 ·obtain ⟨a, gs, rfl, _⟩ := h
  rfl
 obtain ⟨a, gs, rfl, hS, hG, hl, q0, q1⟩ := h
 refine ⟨_, (@pss_cons _ _ _ _ _ (@ps_for _ _ _ _ _ _ _ _ PassesOwn.never rfl (@pi_enum _ _ _ _ _ _ _ _ rfl mn_enumerate (@pa_cons _ _ _ _ _ (@pv _ 0 _ _ (by rfl) (by first | exact Or.inl rfl | exact Or.inr (Or.inl rfl) | exact Or.inr (Or.inr rfl)) (by decide) (by decide)) (@pa_nil _) (by rfl)) (by rfl)) (@pg_tup _ _ _ _ _ _ rfl (@pgs_cons _ _ _ _ _ (@pg_name _ _ 1 _ S.nd rfl (by first | exact Or.inl rfl | exact Or.inr rfl) (by first | exact .inl rfl | exact .inr rfl | assumption)) (@pgs_cons _ _ _ _ _ (@pg_name _ _ 2 _ S.nd rfl (by first | exact Or.inl rfl | exact Or.inr rfl) (by first | exact .inl rfl | exact .inr rfl | assumption)) (@pgs_nil _) (by rfl)) (by rfl)) (by rfl) (by rfl)) (@pss_one _ _ _ (@ps_for _ _ _ _ _ _ _ _ PassesOwn.never rfl (@pi_list _ _ _ _ (@pe_slice _ _ _ _ _ _ _ _ _ _ (@sl_list _) (@pv _ 0 _ _ (by rfl) (by first | exact Or.inl rfl | exact Or.inr (Or.inl rfl) | exact Or.inr (Or.inr rfl)) (by decide) (by decide)) (@po_none _) (@po_some _ _ _ (@pv _ 1 _ _ (by rfl) (by first | exact Or.inl rfl | exact Or.inr (Or.inl rfl) | exact Or.inr (Or.inr rfl)) (by decide) (by decide))))) (@pg_name _ _ 3 _ S.nd rfl (by first | exact Or.inl rfl | exact Or.inr rfl) (by first | exact .inl rfl | exact .inr rfl | assumption)) (@pss_one _ _ _ (@ps_if _ _ _ _ _ _ _ _ (@pt_not _ _ _ _ (@pt_val _ _ _ (@pe_fn _ _ _ _ _ _ _ _ _ _ _ _ c_are_apart (hr.mono (by first | decide | omega)) NE.pass (@pa_cons _ _ _ _ _ (@pe_ix _ _ _ _ _ _ _ (@ix_tup _) (@pv _ 3 _ _ (by rfl) (by first | exact Or.inl rfl | exact Or.inr (Or.inl rfl) | exact Or.inr (Or.inr rfl)) (by decide) (by decide)) (@pe_int _ _ _ _) (fun _ _ => rfl)) (@pa_cons _ _ _ _ _ (@pe_ix _ _ _ _ _ _ _ (@ix_tup _) (@pv _ 2 _ _ (by rfl) (by first | exact Or.inl rfl | exact Or.inr (Or.inl rfl) | exact Or.inr (Or.inr rfl)) (by decide) (by decide)) (@pe_int _ _ _ _) (fun _ _ => rfl)) (@pa_nil _) (by rfl)) (by rfl)) (by rfl) (by decide) (by rfl) (by rfl)) (by intro _; rfl))) (@pss_one _ _ _ (@ps_ret _ _ _ _ (@pe_tup _ _ _ _ _ (@pa_cons _ _ _ _ _ (@pe_ix _ _ _ _ _ _ _ (@ix_tup _) (@pv _ 3 _ _ (by rfl) (by first | exact Or.inl rfl | exact Or.inr (Or.inl rfl) | exact Or.inr (Or.inr rfl)) (by decide) (by decide)) (@pe_int _ _ _ _) (fun _ _ => rfl)) (@pa_cons _ _ _ _ _ (@pe_ix _ _ _ _ _ _ _ (@ix_tup _) (@pv _ 2 _ _ (by rfl) (by first | exact Or.inl rfl | exact Or.inr (Or.inl rfl) | exact Or.inr (Or.inr rfl)) (by decide) (by decide)) (@pe_int _ _ _ _) (fun _ _ => rfl)) (@pa_nil _) (by rfl)) (by rfl))))) (@pss_nil _))) (by intro _; rfl))) (by intro _; rfl)) (@pss_one _ _ _ (@ps_ret _ _ _ _ (@pe_non _ _ _)))), ?_⟩
 try dsimp only [cxOf]
 walk_at "go"
 refine g_enumv hS ?_
 refine g_forE (grV gs) (fun i σ H' => ∃ u1 u2 u3 : Option V, σ = [some (.ref a), u1, u2, u3] ∧ Same H H' ∧ NoM gs i) ⟨_, _, _, rfl, Same.refl _, NoM.zero⟩ (fun i σ H' _ ⟨_, _, _, _, sm, _⟩ => sm.seq hS) ?_ ?_
 ·rintro i v T σ HG hv ⟨u1, u2, u3, rfl, sm, hno⟩ nT
  obtain ⟨y, hy, rfl⟩ := grV_get hv
  have sT : Same HG (upd HG T (.tup [.int i, .ref y.g])) := same_new nT _
  have hi : i < gs.length := (List.getElem?_eq_some_iff.mp hy).1
  have L := (Led.start (upd HG T (.tup [.int i, .ref y.g])) (fun _ => False)).more (tupAt T [.int i, .ref y.g]) upd_same
  try dsimp only [gName]
  walk_at "go"
  refine g_slSq L ((sm.trans sT).seq hS) fun lb HB nb L sB => ?_
  rw [cut_take (show i ≤ (grV gs).length by rw [grV_len]; omega)] at L
  have hlb := L.eo (p := lb) .head
  have smB := (sm.trans sT).trans sB
  have hyB := (hG y (List.mem_of_getElem? hy)).same smB
  walk_at "go"
  clear L
  have tl : ((grV gs).take i).length = i := by rw [List.length_take, grV_len]; omega
  refine g_forL ((grV gs).take i) (fun j σ H' => ∃ u3 : Option V, σ = [some (.ref a), some (.int i), some (.ref y.g), u3] ∧ Same HB H' ∧ ∀ (j' : Nat) (x' : Gr), j' < j → gs[j']? = some x' → metB x' y = false) ⟨_, rfl, Same.refl _, fun j' _ h => absurd h (Nat.not_lt_zero j')⟩ (fun j σ H' _ ⟨_, _, s5, _⟩ => SqL.of (s5 _ _ hlb)) ?_ ?_
  ·rintro j v σ H5 hv' ⟨u3', rfl, s5, hj⟩
   have ji : j < i := by
    have := (List.getElem?_eq_some_iff.mp hv').1
    rw [tl] at this; exact this
   rw [List.getElem?_take_of_lt ji] at hv'
   obtain ⟨x, hx, rfl⟩ := grV_get hv'
   have hx5 := (hG x (List.mem_of_getElem? hx)).same (smB.trans s5)
   have hy5 := hyB.same s5
   have L := ((Led.start H5 (fun _ => False)).more (tupAt x.g [_, _, _]) hx5.1).more (tupAt y.g [_, _, _]) hy5.1
   try dsimp only [gName]
   walk_at "go"
   refine ⟨x.ar, y.ar, x.sl, x.f, x.e, y.sl, y.f, y.e, rfl, hx5.2, hy5.2, ?_⟩
   walk_at "go"
   refine g_ifNB (fun b1 => ?_) (fun b1 => ?_)
   ·walk_at "go"
    refine ⟨_, rfl, s5, fun j' x' h' hx' => ?_⟩
    by_cases e : j' = j
    ·subst e
     have : x = x' := Option.some.inj (hx.symm.trans hx')
     subst this
     unfold metB; rw [b1]; rfl
    ·exact hj j' x' (by omega) hx'
   ·walk_at "go"
    exact q1 i j x y ⟨ji, hx, hy, by unfold metB; rw [b1]; rfl, hno, fun j' x' h' hx' => hj j' x' h' hx'⟩ _ _ ((smB.trans s5).trans L'.same) (L'.tup (by walk_at "mem"))
  ·rintro σ H5 ⟨u3', rfl, s5, hj⟩
   rw [tl] at hj
   exact ⟨_, _, _, rfl, smB.trans s5, hno.succ hy hj⟩
 ·rintro σ HG ⟨u1, u2, u3, rfl, sm, hno⟩
  walk_at "go"
  rw [grV_len] at hno
  exact q0 hno _ sm
end
end Law

namespace Law
open PySem PySem.Spec PyProof.Rows L2 L3 L4
section
variable {P : Program} {w : World} {K : PySem.W.Frag} {mg : Str → Option Value} {base : Heap} {CX : CXT} {C : Addr}
def hasB (c s sl f e m : Int) : Bool := decide (m / c % s = sl) && (decide (f ≤ m / c / s) && decide (m / c / s < e))
theorem sc_has : FnScope ["shape", "area", "mark", "parts"] ["shape", "area", "mark"] (defScope (top 20)) := by walk_at "s"
def spHas (C : Addr) : Sp := fun vs H Q _ => ∃ (p t : Addr) (c s sl f e m : Int), vs = [.ref p, .ref t, .int m] ∧ ShN c s ∧ ShAt C H p c s ∧ tup3 H t sl f e ∧ 0 ≤ m ∧ ∀ H', Same H H' → Q (.bl (hasB c s sl f e m)) H'
theorem ok_has (D : Dat K mg "has" "has" (top 20) ["shape", "area", "mark"]) (NE : NoErr CX) (c_parts_of : Cal P w K mg base CX "parts_of" 1 ["shape", "mark"] (spParts C)) (c_slot_of : Cal P w K mg base CX "slot_of" 1 ["area"] spAt0)
  (c_first_of : Cal P w K mg base CX "first_of" 1 ["area"] spAt1) (c_end_of : Cal P w K mg base CX "end_of" 1 ["area"] spAt2) : Cal P w K mg base CX "has" 2 ["shape", "area", "mark"] (spHas C) := by
 have S := sc_has
 walk_at "d"
 ·obtain ⟨p, t, c, s, sl, f, e, m, rfl, _⟩ := h
  rfl
 obtain ⟨p, t, c, s', sl, f', e, m, rfl, n, hp, ht, m0, q⟩ := h
 refine ⟨_, (@pss_cons _ _ _ _ _ (@ps_set _ _ 3 _ _ _ _ S.nd rfl (by first | exact Or.inl rfl | exact Or.inr rfl) (@pe_fn _ _ _ _ _ _ _ _ _ _ _ _ c_parts_of (hr.mono (by first | decide | omega)) NE.pass (@pa_cons _ _ _ _ _ (@pv _ 0 _ _ (by rfl) (by first | exact Or.inl rfl | exact Or.inr (Or.inl rfl) | exact Or.inr (Or.inr rfl)) (by decide) (by decide)) (@pa_cons _ _ _ _ _ (@pv _ 2 _ _ (by rfl) (by first | exact Or.inl rfl | exact Or.inr (Or.inl rfl) | exact Or.inr (Or.inr rfl)) (by decide) (by decide)) (@pa_nil _) (by rfl)) (by rfl)) (by rfl) (by decide) (by rfl) (by rfl)) (by rfl) (by first | exact .inl rfl | exact .inr rfl | assumption)) (@pss_cons _ _ _ _ _ (@ps_if _ _ _ _ _ _ _ _ (@pt_cmpR _ _ _ _ _ _ _ _ (@op_ne _) (@pe_ix _ _ _ _ _ _ _ (@ix_tup _) (@pv _ 3 _ _ (by rfl) (by first | exact Or.inl rfl | exact Or.inr (Or.inl rfl) | exact Or.inr (Or.inr rfl)) (by decide) (by decide)) (@pe_int _ _ _ _) (fun _ _ => rfl)) (@pe_fn _ _ _ _ _ _ _ _ _ _ _ _ c_slot_of (hr.mono (by first | decide | omega)) NE.pass (@pa_cons _ _ _ _ _ (@pv _ 1 _ _ (by rfl) (by first | exact Or.inl rfl | exact Or.inr (Or.inl rfl) | exact Or.inr (Or.inr rfl)) (by decide) (by decide)) (@pa_nil _) (by rfl)) (by rfl) (by decide) (by rfl) (by rfl)) (@nomark _ _ (by decide) (by decide))) (@pss_one _ _ _ (@ps_ret _ _ _ _ (@pe_bl _ _ _ _))) (@pss_nil _)) (@pss_one _ _ _ (@ps_ret _ _ _ _ (@pe_and _ _ _ _ _ _ _ (@pe_cmpR _ _ _ _ _ _ _ _ (@op_le _) (@pe_fn _ _ _ _ _ _ _ _ _ _ _ _ c_first_of (hr.mono (by first | decide | omega)) NE.pass (@pa_cons _ _ _ _ _ (@pv _ 1 _ _ (by rfl) (by first | exact Or.inl rfl | exact Or.inr (Or.inl rfl) | exact Or.inr (Or.inr rfl)) (by decide) (by decide)) (@pa_nil _) (by rfl)) (by rfl) (by decide) (by rfl) (by rfl)) (@pe_ix _ _ _ _ _ _ _ (@ix_tup _) (@pv _ 3 _ _ (by rfl) (by first | exact Or.inl rfl | exact Or.inr (Or.inl rfl) | exact Or.inr (Or.inr rfl)) (by decide) (by decide)) (@pe_int _ _ _ _) (fun _ _ => rfl)) (@nomark _ _ (by decide) (by decide))) (@pe_one _ _ _ _ _ (@pe_cmpR _ _ _ _ _ _ _ _ (@op_lt _) (@pe_ix _ _ _ _ _ _ _ (@ix_tup _) (@pv _ 3 _ _ (by rfl) (by first | exact Or.inl rfl | exact Or.inr (Or.inl rfl) | exact Or.inr (Or.inr rfl)) (by decide) (by decide)) (@pe_int _ _ _ _) (fun _ _ => rfl)) (@pe_fn _ _ _ _ _ _ _ _ _ _ _ _ c_end_of (hr.mono (by first | decide | omega)) NE.pass (@pa_cons _ _ _ _ _ (@pv _ 1 _ _ (by rfl) (by first | exact Or.inl rfl | exact Or.inr (Or.inl rfl) | exact Or.inr (Or.inr rfl)) (by decide) (by decide)) (@pa_nil _) (by rfl)) (by rfl) (by decide) (by rfl) (by rfl)) (@nomark _ _ (by decide) (by decide))))))))), ?_⟩
 try dsimp only [cxOf]
 have L := (Led.start H (fun _ => False)).more (tupAt t [.int sl, .int f', .int e]) ht
 walk_at "go"
 refine ⟨p, c, s', m, rfl, n, hp, m0, fun t1 H1 n1 h1 s1 => ?_⟩
 have M1 := (L.keep s1).more (tupAt t1 _) h1
 clear L
 walk_at "go"
 refine ⟨t, _, _, _, rfl, M1.tup (by walk_at "mem"), ?_⟩
 walk_at "go"
 refine g_ifN (fun c1 => ?_) (fun c1 => ?_)
 ·walk_at "go"
  refine ⟨t, _, _, _, rfl, M1.tup (by walk_at "mem"), ?_⟩
  walk_at "go"
  refine g_ifD (fun c2 => ?_) (fun c2 => ?_)
  ·walk_at "go"
   refine ⟨t, _, _, _, rfl, M1.tup (by walk_at "mem"), ?_⟩
   walk_at "go"
   have := q _ s1
   unfold hasB at this
   rw [decide_eq_true c1, decide_eq_true c2] at this
   exact this
  ·have := q _ s1
   unfold hasB at this
   rw [decide_eq_false c2, Bool.false_and, Bool.and_false] at this
   exact this
 ·walk_at "go"
  have := q _ s1
  unfold hasB at this
  rw [decide_eq_false c1, Bool.false_and] at this
  exact this
end
end Law

namespace Law
open PySem PySem.Spec PyProof.Rows L2 L3 L4
def spInit2 (C : Addr) (f g : Str) : Sp := fun vs H Q _ => ∃ x v u, vs = [.ref x, v, u] ∧ H x = some (ExNO x (.ref C) none) ∧ ∀ d, H d = none → Q .non (upd (upd H x (ExNO x (.ref C) (some d))) d (XdO d [(f, v), (g, u)]))
theorem g_raiseI2 {C : Addr} {H : Hp} {E : XK} {v u : V} {f g : Str} (h : ∀ d H', Same H H' → H' d = some (.xd [(f, v), (g, u)]) → E (.ref C) (some d) H') : RaisesI C (spInit2 C f g) E [v, u] H := by
 refine ⟨(by show 2 ≤ 1000; decide), fun x nx => ⟨x, v, u, rfl, upd_same, fun d nd => ⟨rfl, some d, ?_, (fun z => by cases z), fun d' z => ?_⟩⟩⟩
 ·have ne : x ≠ d := fun z => by rw [z, upd_same] at nd; cases nd
  rw [upd_ne ne, upd_same]
 ·cases z
  have ne : d ≠ x := fun z => by rw [z, upd_same] at nd; cases nd
  have nd' : H d = none := by rw [upd_ne ne] at nd; exact nd
  refine ⟨_, upd_same, ne, h d _ (fun b o e => ?_) upd_same⟩
  rw [upd_ne (ne_of_none e nd'), ers_ne (ne_of_none e nx), upd_ne (ne_of_none e nd'), upd_ne (ne_of_none e nx), upd_ne (ne_of_none e nx)]
  exact e
def hasG (c s m : Int) (x : Gr) : Bool := hasB c s x.sl x.f x.e m
def hol (c s m : Int) (gs : List Gr) : List Gr := gs.filter (hasG c s m)
theorem hol_len (c s m : Int) (gs : List Gr) : (hol c s m gs).length ≤ gs.length := List.length_filter_le ..
theorem hol_sub {c s m : Int} {gs : List Gr} {x : Gr} (h : x ∈ hol c s m gs) : x ∈ gs := (List.mem_filter.mp h).1
theorem hol_yes {c s m : Int} {gs : List Gr} {i : Nat} {x : Gr} (h : gs[i]? = some x) (b : hasG c s m x = true) : hol c s m (gs.take (i + 1)) = hol c s m (gs.take i) ++ [x] := by
 unfold hol
 rw [take_snoc h, List.filter_append, List.filter_cons_of_pos (by exact b), List.filter_nil]
theorem hol_no {c s m : Int} {gs : List Gr} {i : Nat} {x : Gr} (h : gs[i]? = some x) (b : hasG c s m x = false) : hol c s m (gs.take (i + 1)) = hol c s m (gs.take i) := by
 unfold hol
 rw [take_snoc h, List.filter_append, List.filter_cons_of_neg (by rw [b]; exact Bool.false_ne_true), List.filter_nil, List.append_nil]
theorem oo_ne : ¬ (("one" : Str) = "other") := by decide +kernel
section
variable {P : Program} {w : World} {K : PySem.W.Frag} {mg : Str → Option Value} {base : Heap} {C CG CO CR d1 d2 d3 : Addr}
theorem sc_NoGrant : FnScope ["self", "mark"] ["self", "mark"] (defScope (inClass (top 5) 0)) := by walk_at "s"
theorem ok_NoGrant (D : EDat K mg "NoGrant" "NoGrant.__init__" CG (inClass (top 5) 0) ["self", "mark"]) (B_RiseError : EBase K mg "RiseError" CR) (EP : EPut K CG "mark") : EOwn P w K mg base "NoGrant" CG 1 ["self", "mark"] (spInit1 CG "mark") := by
 have S := sc_NoGrant
 refine D.ok' S (fun vs H Q E h => ?_) (fun f cdv A outer s H vs Q E hr h => ?_)
 ·obtain ⟨x, v, rfl, _⟩ := h
  rfl
 obtain ⟨x, v, rfl, hx, q⟩ := h
 refine ⟨_, (@pss_cons _ _ _ _ _ (@ps_expr _ _ _ _ (@pe_baseI _ _ _ _ _ _ _ _ _ _ B_RiseError (@pa_cons _ _ _ _ _ (@pv _ 0 _ _ (by rfl) (by first | exact Or.inl rfl | exact Or.inr (Or.inl rfl) | exact Or.inr (Or.inr rfl)) (by decide) (by decide)) (@pa_cons _ _ _ _ _ (@pe_str _ _ _ _) (@pa_nil _) (by rfl)) (by rfl)) (by rfl) (by decide) (by rfl) (by rfl) (by rfl)) (by rfl)) (@pss_one _ _ _ (@ps_fldN _ _ _ _ _ _ _ _ (@pv _ 0 _ _ (by rfl) (by first | exact Or.inl rfl | exact Or.inr (Or.inl rfl) | exact Or.inr (Or.inr rfl)) (by decide) (by decide)) (@pv _ 1 _ _ (by rfl) (by first | exact Or.inl rfl | exact Or.inr (Or.inl rfl) | exact Or.inr (Or.inr rfl)) (by decide) (by decide)) rfl))), ?_⟩
 try dsimp only [cxOf]
 walk_at "go"
 refine g_baseIv hx D.ok ?_
 walk_at "go"
 exact g_set0 hx EP fun d nd => q d nd
theorem sc_Overlap : FnScope ["self", "one", "other"] ["self", "one", "other"] (defScope (inClass (top 6) 0)) := by walk_at "s"
theorem ok_Overlap (D : EDat K mg "Overlap" "Overlap.__init__" CO (inClass (top 6) 0) ["self", "one", "other"]) (B_RiseError : EBase K mg "RiseError" CR) (EP1 : EPut K CO "one") (EP2 : EPut K CO "other") : EOwn P w K mg base "Overlap" CO 1 ["self", "one", "other"] (spInit2 CO "one" "other") := by
 have S := sc_Overlap
 refine D.ok' S (fun vs H Q E h => ?_) (fun f cdv A outer s H vs Q E hr h => ?_)
 ·obtain ⟨x, v, u, rfl, _⟩ := h
  rfl
 obtain ⟨x, v, u, rfl, hx, q⟩ := h
 refine ⟨_, (@pss_cons _ _ _ _ _ (@ps_expr _ _ _ _ (@pe_baseI _ _ _ _ _ _ _ _ _ _ B_RiseError (@pa_cons _ _ _ _ _ (@pv _ 0 _ _ (by rfl) (by first | exact Or.inl rfl | exact Or.inr (Or.inl rfl) | exact Or.inr (Or.inr rfl)) (by decide) (by decide)) (@pa_cons _ _ _ _ _ (@pe_str _ _ _ _) (@pa_nil _) (by rfl)) (by rfl)) (by rfl) (by decide) (by rfl) (by rfl) (by rfl)) (by rfl)) (@pss_cons _ _ _ _ _ (@ps_fldN _ _ _ _ _ _ _ _ (@pv _ 0 _ _ (by rfl) (by first | exact Or.inl rfl | exact Or.inr (Or.inl rfl) | exact Or.inr (Or.inr rfl)) (by decide) (by decide)) (@pv _ 1 _ _ (by rfl) (by first | exact Or.inl rfl | exact Or.inr (Or.inl rfl) | exact Or.inr (Or.inr rfl)) (by decide) (by decide)) rfl) (@pss_one _ _ _ (@ps_fldN _ _ _ _ _ _ _ _ (@pv _ 0 _ _ (by rfl) (by first | exact Or.inl rfl | exact Or.inr (Or.inl rfl) | exact Or.inr (Or.inr rfl)) (by decide) (by decide)) (@pv _ 2 _ _ (by rfl) (by first | exact Or.inl rfl | exact Or.inr (Or.inl rfl) | exact Or.inr (Or.inr rfl)) (by decide) (by decide)) rfl)))), ?_⟩
 try dsimp only [cxOf]
 walk_at "go"
 refine g_baseIv hx D.ok ?_
 walk_at "go"
 refine g_set0 hx EP1 fun d nd => ?_
 have ne : x ≠ d := fun z => by rw [← z, hx] at nd; cases nd
 walk_at "go"
 refine g_set1 (C := CO) (d := d) (fs := [("one", v)]) (by rw [upd_ne ne, upd_same]) EP2 upd_same (by show 1 < 1000; decide) ?_
 have e2 : putF ("other" : Str) u [(("one" : Str), v)] = [(("one" : Str), v), (("other" : Str), u)] := by
  show (if ("one" : Str) = "other" then _ else (("one" : Str), v) :: [(("other" : Str), u)]) = _
  rw [if_neg oo_ne]
 rw [upd_upd, e2]
 exact q d nd
theorem sc_holder : FnScope ["shape", "grants", "mark", "holders"] ["shape", "grants", "mark"] (defScope (top 35)) := by walk_at "s"
def spHolder (K : PySem.W.Frag) (C CG CO : Addr) : Sp := fun vs H Q E => ∃ (p a : Addr) (c s m : Int) (gs : List Gr), vs = [.ref p, .ref a, .int m] ∧ ShN c s ∧ ShAt C H p c s ∧ SqL K H a (grV gs) ∧ GrsAt H gs ∧ gs.length ≤ 63 ∧ 0 ≤ m ∧
 (hol c s m gs = [] → ∀ d H', Same H H' → H' d = some (.xd [("mark", .int m)]) → E (.ref CG) (some d) H') ∧
 (∀ x y r, hol c s m gs = x :: y :: r → ∀ d H', Same H H' → H' d = some (.xd [("one", .int x.n), ("other", .int y.n)]) → E (.ref CO) (some d) H') ∧
 (∀ x, hol c s m gs = [x] → ∀ t H', Same H H' → H' t = some (.tup [.int x.n, .str x.nm]) → Q (.ref t) H')
theorem ok_holder (D : Dat K mg "holder_of" "holder_of" (top 35) ["shape", "grants", "mark"]) (BT : Bt mg) (NE : NoErr (CX1 P w)) (O_NoGrant : EOwn P w K mg base "NoGrant" CG 1 ["self", "mark"] (spInit1 CG "mark")) (O_Overlap : EOwn P w K mg base "Overlap" CO 1 ["self", "one", "other"] (spInit2 CO "one" "other"))
  (c_has : Cal P w K mg base (CX1 P w) "has" 2 ["shape", "area", "mark"] (spHas C)) : Cal P w K mg base (CX1 P w) "holder_of" 4 ["shape", "grants", "mark"] (spHolder K C CG CO) := by
 have S := sc_holder
 refine D.okR S (fun vs H Q E h => ?_) (fun f cdv A outer s H vs Q E hr h => ?_)
 ·obtain ⟨p, a, c, s, m, gs, rfl, _⟩ := h
  rfl
 obtain ⟨p, a, c, s', m, gs, rfl, n, ⟨dx, hp⟩, hS, hG, h63, m0, q0, q2, q1⟩ := h
 refine ⟨_, (@pss_cons _ _ _ _ _ (@ps_compS _ _ _ _ _ _ _ _ _ _ (gName 0) _ _ 3 _ _ _ rfl S.nd rfl (by first | exact Or.inl rfl | exact Or.inr rfl) (@pi_list _ _ _ _ (@pv _ 1 _ _ (by rfl) (by first | exact Or.inl rfl | exact Or.inr (Or.inl rfl) | exact Or.inr (Or.inr rfl)) (by decide) (by decide))) (@blk_of _ _ ["grant"] [0, 2] (defScope (top 35)).names ["shape", "grants", "mark", "holders"] rfl rfl rfl (by decide +kernel)) (fun _ _ _ _ => (@pg_name _ _ 0 _ (show (blkN ["shape", "grants", "mark", "holders"] ["grant"] [0, 2]).Nodup by decide +kernel) rfl (by first | exact Or.inl rfl | exact Or.inr rfl) (by first | exact .inl rfl | exact .inr rfl | assumption))) (fun _ _ _ _ => (@pifs_one _ _ _ (@pt_val _ _ _ (@pe_fn _ _ _ _ _ _ _ _ _ _ _ _ c_has (hr.mono (by first | decide | omega)) NE.pass (@pa_cons _ _ _ _ _ (@pv _ 1 _ _ (by rfl) (by first | exact Or.inl rfl | exact Or.inr (Or.inl rfl) | exact Or.inr (Or.inr rfl)) (by decide) (by decide)) (@pa_cons _ _ _ _ _ (@pe_ix _ _ _ _ _ _ _ (@ix_tupK _ K rfl) (@pv _ 0 _ _ (by rfl) (by first | exact Or.inl rfl | exact Or.inr (Or.inl rfl) | exact Or.inr (Or.inr rfl)) (by decide) (by decide)) (@pe_int _ _ _ _) (fun _ _ => rfl)) (@pa_cons _ _ _ _ _ (@pv _ 2 _ _ (by rfl) (by first | exact Or.inl rfl | exact Or.inr (Or.inl rfl) | exact Or.inr (Or.inr rfl)) (by decide) (by decide)) (@pa_nil _) (by rfl)) (by rfl)) (by rfl)) (by rfl) (by decide) (by rfl) (by rfl)) (by intro _; rfl)))) (fun _ _ _ _ => (@pv _ 0 _ _ (by rfl) (by first | exact Or.inl rfl | exact Or.inr (Or.inl rfl) | exact Or.inr (Or.inr rfl)) (by decide) (by decide))) (by with_unfolding_all rfl) (by first | exact .inl rfl | exact .inr rfl | assumption) (by intro _; rfl)) (@pss_cons _ _ _ _ _ (@ps_if _ _ _ _ _ _ _ _ (@pt_cmpR _ _ _ _ _ _ _ _ (@op_eq _) (@pe_callB _ _ _ _ _ _ _ _ _ (@c_len _) rfl BT.len L3.bt_len (@pa_cons _ _ _ _ _ (@pv _ 3 _ _ (by rfl) (by first | exact Or.inl rfl | exact Or.inr (Or.inl rfl) | exact Or.inr (Or.inr rfl)) (by decide) (by decide)) (@pa_nil _) (by rfl)) (by decide) (by decide) (by rfl) (by rfl)) (@pe_int _ _ _ _) (@nomark _ _ (by decide) (by decide))) (@pss_one _ _ _ (@ps_raiseI _ _ _ _ _ _ _ _ _ _ _ _ _ O_NoGrant (hr.mono (by first | decide | omega)) rfl (@paX_self _ _) (@pa_cons _ _ _ _ _ (@pv _ 2 _ _ (by rfl) (by first | exact Or.inl rfl | exact Or.inr (Or.inl rfl) | exact Or.inr (Or.inr rfl)) (by decide) (by decide)) (@pa_nil _) (by rfl)) (by rfl) (by decide) (by rfl) (by rfl))) (@pss_nil _)) (@pss_cons _ _ _ _ _ (@ps_if _ _ _ _ _ _ _ _ (@pt_cmpR _ _ _ _ _ _ _ _ (@op_gt _) (@pe_callB _ _ _ _ _ _ _ _ _ (@c_len _) rfl BT.len L3.bt_len (@pa_cons _ _ _ _ _ (@pv _ 3 _ _ (by rfl) (by first | exact Or.inl rfl | exact Or.inr (Or.inl rfl) | exact Or.inr (Or.inr rfl)) (by decide) (by decide)) (@pa_nil _) (by rfl)) (by decide) (by decide) (by rfl) (by rfl)) (@pe_int _ _ _ _) (@nomark _ _ (by decide) (by decide))) (@pss_one _ _ _ (@ps_raiseI _ _ _ _ _ _ _ _ _ _ _ _ _ O_Overlap (hr.mono (by first | decide | omega)) rfl (@paX_self _ _) (@pa_cons _ _ _ _ _ (@pe_ix _ _ _ _ _ _ _ (@ix_tup _) (@pe_ix _ _ _ _ _ _ _ (@ix_list _) (@pv _ 3 _ _ (by rfl) (by first | exact Or.inl rfl | exact Or.inr (Or.inl rfl) | exact Or.inr (Or.inr rfl)) (by decide) (by decide)) (@pe_int _ _ _ _) (fun _ _ => rfl)) (@pe_int _ _ _ _) (fun _ _ => rfl)) (@pa_cons _ _ _ _ _ (@pe_ix _ _ _ _ _ _ _ (@ix_tup _) (@pe_ix _ _ _ _ _ _ _ (@ix_list _) (@pv _ 3 _ _ (by rfl) (by first | exact Or.inl rfl | exact Or.inr (Or.inl rfl) | exact Or.inr (Or.inr rfl)) (by decide) (by decide)) (@pe_int _ _ _ _) (fun _ _ => rfl)) (@pe_int _ _ _ _) (fun _ _ => rfl)) (@pa_nil _) (by rfl)) (by rfl)) (by rfl) (by decide) (by rfl) (by rfl))) (@pss_nil _)) (@pss_one _ _ _ (@ps_ret _ _ _ _ (@pe_tup _ _ _ _ _ (@pa_cons _ _ _ _ _ (@pe_ix _ _ _ _ _ _ _ (@ix_tup _) (@pe_ix _ _ _ _ _ _ _ (@ix_list _) (@pv _ 3 _ _ (by rfl) (by first | exact Or.inl rfl | exact Or.inr (Or.inl rfl) | exact Or.inr (Or.inr rfl)) (by decide) (by decide)) (@pe_int _ _ _ _) (fun _ _ => rfl)) (@pe_int _ _ _ _) (fun _ _ => rfl)) (@pa_cons _ _ _ _ _ (@pe_ix _ _ _ _ _ _ _ (@ix_tup _) (@pe_ix _ _ _ _ _ _ _ (@ix_list _) (@pv _ 3 _ _ (by rfl) (by first | exact Or.inl rfl | exact Or.inr (Or.inl rfl) | exact Or.inr (Or.inr rfl)) (by decide) (by decide)) (@pe_int _ _ _ _) (fun _ _ => rfl)) (@pe_int _ _ _ _) (fun _ _ => rfl)) (@pa_nil _) (by rfl)) (by rfl)))))))), ?_⟩
 try dsimp only [cxOf]
 walk_at "go"
 refine g_wkLv hS ?_
 refine g_compL (grV gs) (fun i ys H' => ys = grV (hol c s' m (gs.take i)) ∧ Same H H') ⟨rfl, Same.refl _⟩ (fun i ys H' hi ⟨e, sm⟩ => ⟨sm.seq hS, by
  rw [e, grV_len]
  have h1 := hol_len c s' m (gs.take i)
  have h2 : (gs.take i).length ≤ gs.length := by rw [List.length_take]; omega
  exact Nat.le_of_lt (small1000 (by omega))⟩) ?_ ?_
 ·rintro i v ys H1 hv ⟨rfl, s1⟩
  obtain ⟨x, hx, rfl⟩ := grV_get hv
  have hxG := (hG x (List.mem_of_getElem? hx)).same s1
  have L := (Led.start H1 (fun _ => False)).more (tupAt x.g [_, _, _]) hxG.1
  try dsimp only [gName]
  walk_at "go"
  refine ⟨p, x.ar, c, s', x.sl, x.f, x.e, m, rfl, n, ⟨dx, s1 _ _ hp⟩, hxG.2, m0, fun H2 s2 => ?_⟩
  walk_at "go"
  refine g_ifB (fun b => ?_) (fun b => ?_)
  ·walk_at "go"
   exact ⟨by rw [hol_yes hx b, grV_snoc], s1.trans s2⟩
  ·exact ⟨by rw [hol_no hx b], s1.trans s2⟩
 ·rintro ys H1 ⟨rfl, s1⟩ lc nlc
  rw [grV_len, List.take_length]
  have s2 : Same H (upd H1 lc (.lst (grV (hol c s' m gs)))) := s1.trans (same_new nlc _)
  have hlc : (upd H1 lc (.lst (grV (hol c s' m gs)))) lc = some (.lst (grV (hol c s' m gs))) := upd_same
  generalize upd H1 lc (.lst (grV (hol c s' m gs))) = H2 at *
  have hsub : ∀ x ∈ hol c s' m gs, GrAt H2 x := fun x hx => (hG x (hol_sub hx)).same s2
  generalize hol c s' m gs = hs at *
  rcases hs with _ | ⟨x, _ | ⟨y, r⟩⟩
  ·have hlc : H2 lc = some (.lst []) := hlc
   have L := led_one hlc
   walk_at "go"
   exact g_raiseI1 fun d H' sm hd => q0 rfl d H' (s2.trans sm) hd
  ·have hlc : H2 lc = some (.lst [.ref x.g]) := hlc
   have hx := hsub x List.mem_cons_self
   have L := (led_one hlc).more (tupAt x.g [_, _, _]) hx.1
   walk_at "go"
   exact q1 x rfl _ _ (fun q o e => L'.fr _ _ (s2 _ _ e) (fun z => by rw [z] at e; exact absurd (s1 _ _ e) (by rw [nlc]; exact fun z => by cases z))) (L'.tup (by walk_at "mem"))
  ·have hlc : H2 lc = some (.lst (.ref x.g :: .ref y.g :: grV r)) := hlc
   have hx := hsub x List.mem_cons_self
   have hy := hsub y (List.mem_cons_of_mem _ List.mem_cons_self)
   have L := ((led_one hlc).more (tupAt x.g [_, _, _]) hx.1).more (tupAt y.g [_, _, _]) hy.1
   walk_at "go"
   refine g_ixSq (SqL.of hlc) (show atI _ (((0 : Nat)) : Int) = _ from atI_nat rfl) ?_
   walk_at "go"
   refine g_ixSq (SqL.of hlc) (show atI _ (((1 : Nat)) : Int) = _ from atI_nat rfl) ?_
   walk_at "go"
   exact g_raiseI2 fun d H' sm hd => q2 x y r rfl d H' (s2.trans sm) hd
end
end Law

namespace L4
open PySem PySem.Spec PyProof.Rows L2 L3
def Itk (d : Addr) (o : Obj) (kvs : List (Key × V)) : It :=
 ⟨fun i H => H d = some (.frz o (.dK kvs)) ∧ i < kvs.length, fun i H v H' => H' = H ∧ ∃ k x, kvs[i]? = some (k, x) ∧ v = kV k, fun i H => H d = some (.frz o (.dK kvs)) ∧ kvs.length ≤ i⟩
theorem kv_get {kvs : List (Key × V)} : ∀ {vs : List (Key × Value)} {i : Nat} {k : Key} {x : V}, KV kvs vs → kvs[i]? = some (k, x) → ∃ u, vs[i]? = some (k, u) := by
 intro vs i k x h
 induction h generalizing i with
 | nil => intro e; simp at e
 | @cons p q ps qs h r ih =>
  intro e
  cases i with
  | zero =>
   simp only [List.getElem?_cons_zero, Option.some.injEq] at e
   subst e
   exact ⟨q.2, by rw [List.getElem?_cons_zero]; exact congrArg some (Prod.ext h.1.symm rfl)⟩
  | succ i =>
   rw [List.getElem?_cons_succ] at e ⊢
   exact ih e
theorem kV_rel {P : Program} {w : World} {k : Key} {u : Value} (h : (mixKind P w).is k u = true) : RelV (kV k) u := by
 rw [mixKind_is] at h
 cases k with
 | inl i => obtain ⟨t, rfl⟩ := Value.isInt_shape (show Value.isInt i u = true from h); exact ⟨t, rfl⟩
 | inr x => obtain ⟨t, rfl⟩ := Value.isStrOf_shape (show Value.isStrOf x u = true from h); exact ⟨t, rfl⟩
theorem kv_len {kvs : List (Key × V)} {vs : List (Key × Value)} (h : KV kvs vs) : kvs.length = vs.length := Paired.length h
theorem turn_keys {P : Program} {w : World} {K : PySem.W.Frag} {tg : Expr} {it d : Addr} {o : Obj} {es : Array DictEntry} {ep n : Nat} (hne : d ≠ it) (ho : o.data = .dict es ep) (kvs : List (Key × V)) (hn : kvs.length = n) : Turn P w K tg (Itk d o kvs) [it] it (fun i h => h.IsKeyIter it d i n ep) where
 mem := by simp
 obj := fun i h st b hb => by
  have e : b = it := by simpa using hb
  subst e
  obtain ⟨q, hq, hc, hd⟩ := st
  exact ⟨q, hq, fun v z => by rw [hd] at z; cases z⟩
 keep := fun i h h' st k => st.at fun q hq => k it (by simp) q hq
 item := by
  intro X hP hw hK hc i pins s σ H E I hf st hg
  subst hP hw hK
  obtain ⟨hd, hi⟩ := hg
  obtain ⟨f0, f1, f2, f3, f4, f5⟩ := hf it (by simp)
  obtain ⟨hget, hz, hS, vs, rel, dd⟩ := (show ObjOk X.prog X.w H s.heap d (.frz o (.dK kvs)) from I.hok d _ hd)
  have hl := kv_len rel
  obtain ⟨o2, es2, ep2, g1, g2, g3, g4⟩ := dd
  rw [hget] at g1
  cases g1
  rw [ho] at g3
  cases g3
  have dat : s.heap.DictAt (mixKind X.prog X.w) d vs ep := ⟨o, es, hget, g2, ho, g4⟩
  obtain ⟨⟨k, x⟩, hx⟩ : ∃ p, kvs[i]? = some p := ⟨kvs[i], by simp [hi]⟩
  obtain ⟨u, hu⟩ := kv_get rel hx
  rw [← hn, hl] at st
  refine wpAny_pyNext_dict_item st dat hu fun key h' hkey hit' hs' => ?_
  have I1 : Inv X pins σ H { s with heap := h' } := I.turned (t' := s.toks) (fun b q hb e => hs'.extBut b q hb e) f0 f1 f3 f4 f5
  obtain ⟨q, hq, hcq, hdq⟩ := id hit'
  refine ⟨key, rfl, go_of (s := { s with heap := h' }) hq hcq hdq (by decide) ⟨kV k, H, I1, kV_rel hkey, ⟨rfl, k, x, hx, rfl⟩, ?_, fun b hb => (hf b hb).1⟩⟩
  rw [← hn, hl]
  exact hit'
 done := by
  intro X hP hw hK hc i pins s σ H E I hf st hg
  subst hP hw hK
  obtain ⟨hd, hi⟩ := hg
  obtain ⟨f0, f1, f2, f3, f4, f5⟩ := hf it (by simp)
  obtain ⟨hget, hz, hS, vs, rel, dd⟩ := (show ObjOk X.prog X.w H s.heap d (.frz o (.dK kvs)) from I.hok d _ hd)
  have hl := kv_len rel
  obtain ⟨o2, es2, ep2, g1, g2, g3, g4⟩ := dd
  rw [hget] at g1
  cases g1
  rw [ho] at g3
  cases g3
  have dat : s.heap.DictAt (mixKind X.prog X.w) d vs ep := ⟨o, es, hget, g2, ho, g4⟩
  rw [← hn, hl] at st
  exact wpAny_pyNext_dict_end (I.ok.hd hc) st dat (by rw [List.getElem?_eq_none_iff]; omega) fun h' eb => ⟨rfl, I.turned (t' := s.toks) (fun b q hb e => eb b q hb e) f0 f1 f3 f4 f5⟩
 self := fun _ _ _ _ _ st h => wpAny_pyIter_keyiter st h
def iDict (tl : TE) : TI := fun σ H R => tl σ H fun x H1 => ∃ d kvs, x = .ref d ∧ H1 d = some (.dK kvs) ∧ ∀ o, R (Itk d o kvs) (upd H1 d (.frz o (.dK kvs)))
theorem pi_dict {X : Cx} {tg l : Expr} {tl : TE} (hl : PE X l tl) : PI X tg l (iDict tl) := by
 intro pins s σ H R I h
 refine thn (hl pins s σ H _ I h) fun v s1 ⟨x, H1, I1, r1, q1⟩ => ?_
 obtain ⟨d, kvs, e, hd, q⟩ := q1
 subst e
 cases r1
 obtain ⟨hz, hS, vs, rel, dd⟩ := dk_of I1.hok hd
 obtain ⟨o, es, ep, g1, g2, g3, g4⟩ := id dd
 have dat : s1.heap.DictAt (mixKind X.prog X.w) d vs ep := ⟨o, es, g1, g2, g3, g4⟩
 have I2 : Inv X pins σ (upd H1 d (.frz o (.dK kvs))) { s1 with heap := s1.heap, toks := s1.toks } := d_write I1 (by rw [hd]; exact True.intro) (Heap.SameBut.refl ..) ⟨o, g1⟩ ⟨g1, hz, hS, vs, rel, dd⟩
 refine wpAny_pyIter_dict hS dat ?_
 have hlen := kv_len rel
 refine ⟨s1.heap.objs.size, [s1.heap.objs.size], _, _, _, rfl, I2.kept (t' := s1.toks) fun b o e => Heap.get?_push_of_some _ e, turn_keys (Nat.ne_of_lt (Heap.lt_size g1)) g3 kvs hlen, ⟨_, Heap.get?_push_size _ rfl, rfl, rfl⟩, fun b hb => ?_, q o⟩
 have e : b = s1.heap.objs.size := by simpa using hb
 subst e
 exact I2.fpOk (Nat.le_refl _) (I2.hok.fresh (Nat.le_refl _))
theorem g_wkD {tl : TE} {σ : St} {H : Hp} {R : It → Hp → Prop} (h : tl σ H fun x H1 => ∃ d kvs, x = .ref d ∧ H1 d = some (.dK kvs) ∧ ∀ o, R (Itk d o kvs) (upd H1 d (.frz o (.dK kvs)))) : iDict tl σ H R := h
theorem g_forK {d : Addr} {o : Obj} {kvs : List (Key × V)} {g : TG} {tb : TS} {D : Ends} {σ : St} {H : Hp} (Pv : Nat → St → Hp → Prop) (h0 : Pv 0 σ H) (hl : ∀ i σ H, i ≤ kvs.length → Pv i σ H → H d = some (.frz o (.dK kvs)))
  (hs : ∀ i k x σ H, kvs[i]? = some (k, x) → Pv i σ H → g (kV k) σ H fun σ2 H2 => tb { D with nx := Pv (i + 1), ct := Pv (i + 1), bk := D.nx } σ2 H2) (hd : ∀ σ H, Pv kvs.length σ H → D.nx σ H) : ForW (Itk d o kvs) g tb D σ H := by
 refine ⟨fun i m σ H => m = kvs.length - i ∧ i ≤ kvs.length ∧ Pv i σ H, ⟨kvs.length, by simp, Nat.zero_le _, h0⟩, ?_⟩
 rintro i m σ H ⟨rfl, hi, p⟩
 have q := hl i σ H hi p
 by_cases hlt : i < kvs.length
 ·refine .inr ⟨⟨q, hlt⟩, Pv (i + 1), fun σ' H' p' => ⟨kvs.length - (i + 1), by omega, rfl, hlt, p'⟩, fun x H' y => ?_⟩
  obtain ⟨e, k, u, hk, rfl⟩ := y
  subst e
  exact hs i k u σ _ hk p
 ·have e : i = kvs.length := by omega
  subst e
  exact .inl ⟨⟨q, Nat.le_refl _⟩, hd σ H p⟩
def tDSetD (td ty tx : TE) : TE := fun σ H Q => td σ H fun x H1 => ∃ a, x = .ref a ∧ IsD H1 a ∧ ty σ H1 fun y H2 => tx σ H2 fun z H3 => ∃ kvs k, H3 a = some (.dK kvs) ∧ y = kV k ∧ kvs.length < sizeLine ∧
 (∀ v, valV kvs k = some v → Q v H3) ∧ (valV kvs k = none → Q z (upd H3 a (.dK (putK kvs k z))))
section
variable {X : Cx} {o e f : Expr} {apos cpos : Pos} {td ty tx : TE} {pins : List (Addr × Obj)} {σ : St} {H : Hp} {s : Shared} {a : Addr} {kvs : List (Key × V)} {k : Key} {u r : Value} {A : Around} {E : Value → Shared → Prop} {z : V}
theorem d_setd {Q : Value → Shared → Prop} (I : Inv X pins σ H s) (e : H a = some (.dK kvs)) (ry : RelV (kV k) u) (rz : RelV z r) (l : kvs.length < sizeLine)
  (h1 : ∀ v, valV kvs k = some v → ∀ w' s', Inv X pins σ H s' → RelV v w' → Q w' s') (h2 : valV kvs k = none → ∀ s', Inv X pins σ (upd H a (.dK (putK kvs k z))) s' → Q r s') :
  wpAny (model X.prog X.w) A (call (.builtin "dict.setdefault") [.ref a, u, r]) Q E s := by
 obtain ⟨hz, hd, vs, rel, dd⟩ := dk_of I.hok e
 have hl := kv_len rel
 have hv := rel.val k
 refine call_meetsIn PySem.F.slot_dict_setdefault dd.typeIs PySem.F.entry_dict_setdefault (PySem.F.args_dict_setdefault_3 _ _ _) (kt_meets_setdefault (mixKind X.prog X.w) a (kV_is ry) hd r) ⟨vs, dd, by omega, fun v ev => ?_, fun ev h' dd' hs => ?_⟩
 ·rw [ev] at hv
  cases hk : valV kvs k with
  | none => rw [hk] at hv; exact hv.elim
  | some v' => rw [hk] at hv; exact h1 v' hk _ _ (I.tok _) hv
 ·rw [ev] at hv
  cases hk : valV kvs k with
  | some v' => rw [hk] at hv; exact hv.elim
  | none =>
   have he : ∃ q, h'.get? a = some q := let ⟨q, _, _, hq, _⟩ := dd'; ⟨q, hq⟩
   have hp : (putK kvs k z).length ≤ sizeLine := by have := length_putK kvs k z; omega
   exact h2 hk _ (d_write I (by rw [e]; exact True.intro) hs he (dk_new hp hd (rel.put k rz) dd'))
theorem pe_dsetd (ho : PE X o td) (he : PE X e ty) (hf : PE X f tx) (m : M2 X o "setdefault" apos e f cpos) : PE X (.Call (.Attribute o "setdefault" apos) [e, f] [] cpos) (tDSetD td ty tx) := by
 intro pins s σ H Q I h
 refine wpAny_Call_method m.base m.few m.line PySem.F.plainAttrs_dict PySem.F.slot_dict_setdefault PySem.F.type_dict_setdefault (thn (ho pins s σ H _ I h) fun u s1 ⟨x, H1, I1, rx, a, ex, d, q1⟩ => ?_)
 subst ex
 obtain rfl : u = Value.ref a := rx
 obtain ⟨t1, t2, _⟩ := isD_at I1 d
 refine ⟨t1, t2, ?_⟩
 rw [m.trees]
 refine Calls.callWith_builtin rfl (Calls.evalArgs_plain (Calls.spliced_cons (thn (he pins s1 σ H1 _ I1 q1) fun iv s2 ⟨y, H2, I2, ry, q2⟩ =>
  Calls.spliced_cons (thn (hf pins s2 σ H2 _ I2 q2) fun fv s3 ⟨z, H3, I3, rz, kvs, k, ea, ey, l, q3, q4⟩ => Calls.spliced_nil ?_))))
 subst ey
 exact d_setd I3 ea ry rz l (fun v hv w' s' I' rw' => ⟨v, H3, I', rw', q3 v hv⟩) fun hn s' I' => ⟨z, _, I', rz, q4 hn⟩
theorem call_lenDR : CallR X (.builtin "len") (fun xs H Q => ∃ a kvs, xs = [V.ref a] ∧ Rd H a (.dK kvs) ∧ Q (.int kvs.length) H) := by
 intro pins s σ H xs us Q I r h
 obtain ⟨a, kvs, rfl, e, q⟩ := h
 obtain ⟨u, rfl, rx⟩ := vals1 r
 cases rx
 exact d_len I e fun t s' I' => ⟨.int kvs.length, H, I', ⟨t, rfl⟩, q⟩
end
theorem g_dsetd {td ty tx : TE} {σ : St} {H : Hp} {Q : VK} (h : td σ H fun x H1 => ∃ a, x = .ref a ∧ IsD H1 a ∧ ty σ H1 fun y H2 => tx σ H2 fun z H3 => ∃ kvs k, H3 a = some (.dK kvs) ∧ y = kV k ∧ kvs.length < sizeLine ∧
 (∀ v, valV kvs k = some v → Q v H3) ∧ (valV kvs k = none → Q z (upd H3 a (.dK (putK kvs k z))))) : tDSetD td ty tx σ H Q := h
end L4

namespace Law
theorem parts_mk {c s m l k : Int} (n : ShN c s) (l0 : 0 ≤ l) (l1 : l < s) (k0 : 0 ≤ k) (k1 : k < c) : mk c s m l k / c / s = m ∧ mk c s m l k / c % s = l ∧ mk c s m l k % c = k := by
 have c0 : c ≠ 0 := by have := n.c1; omega
 have s0 : s ≠ 0 := by have := n.s1; omega
 have e1 : mk c s m l k / c = m * s + l := by
  unfold mk
  rw [Int.add_comm, Int.add_mul_ediv_right _ _ c0, Int.ediv_eq_zero_of_lt k0 k1, Int.zero_add]
 have e2 : mk c s m l k % c = k := by
  unfold mk
  rw [Int.add_comm, Int.add_mul_emod_self_right, Int.emod_eq_of_lt k0 k1]
 have e3 : (m * s + l) / s = m := by rw [Int.add_comm, Int.add_mul_ediv_right _ _ s0, Int.ediv_eq_zero_of_lt l0 l1, Int.zero_add]
 have e4 : (m * s + l) % s = l := by rw [Int.add_comm, Int.add_mul_emod_self_right, Int.emod_eq_of_lt l0 l1]
 rw [e1]
 exact ⟨e3, e4, e2⟩
theorem mk_nonneg {c s m l k : Int} (n : ShN c s) (m0 : 0 ≤ m) (l0 : 0 ≤ l) (k0 : 0 ≤ k) : 0 ≤ mk c s m l k := by
 unfold mk
 have a1 := Int.mul_nonneg m0 (show 0 ≤ s by have := n.s1; omega)
 have a2 := Int.mul_nonneg (show 0 ≤ m * s + l by omega) (show 0 ≤ c by have := n.c1; omega)
 omega
end Law

namespace Law
open PySem PySem.Spec PyProof.Rows L2 L3 L4
structure GO (gs : List Gr) : Prop where
 pw : gs.Pairwise fun x y => x.sl = y.sl → x.e ≤ y.f
 bd : ∀ x ∈ gs, 0 ≤ x.f ∧ x.f ≤ x.e ∧ x.e ≤ last30
theorem GO.nil : GO [] := ⟨.nil, fun _ h => by simp at h⟩
theorem GO.at {gs : List Gr} (h : GO gs) {i j : Nat} {x y : Gr} (hij : i < j) (hx : gs[i]? = some x) (hy : gs[j]? = some y) (e : x.sl = y.sl) : x.e ≤ y.f := by
 obtain ⟨h1, e1⟩ := List.getElem?_eq_some_iff.mp hx
 obtain ⟨h2, e2⟩ := List.getElem?_eq_some_iff.mp hy
 have := List.pairwise_iff_getElem.mp h.pw i j h1 h2 hij
 rw [e1, e2] at this
 exact this e
theorem GO.lend {gs : List Gr} (h : GO gs) {slots : Nat} {b x y te : Int} {g ar : Addr} {n : Int} {nm : Str} (b0 : 0 ≤ b) (nx : Nx true gs slots b x y) (t1 : 1 ≤ te) (l : ¬ last30 < y + te) : GO (gs ++ [⟨g, ar, n, nm, x, y, y + te⟩]) := by
 have hb := nx.ge
 unfold Nx at nx
 rw [if_pos rfl] at nx
 obtain ⟨j, nj, rfl, rfl⟩ := nx
 refine ⟨?_, fun z hz => ?_⟩
 ·rw [List.pairwise_append]
  refine ⟨h.pw, by simp, fun z hz u hu => ?_⟩
  rw [List.mem_singleton.mp hu]
  exact fun e => le_endM hz e
 ·rcases List.mem_append.mp hz with hz | hz
  ·exact h.bd z hz
  ·rw [List.mem_singleton.mp hz]
   exact ⟨by show 0 ≤ endM gs j b; omega, by show endM gs j b ≤ endM gs j b + te; omega, by show endM gs j b + te ≤ last30; omega⟩
theorem GO.free {gs : List Gr} (h : GO gs) {n en : Int} {i : Nat} {x : Gr} {g ar : Addr} (fr : Fre gs n en i x) : GO (gs.set i ⟨g, ar, n, x.nm, x.sl, x.f, en⟩) := by
 have hi := (List.getElem?_eq_some_iff.mp fr.at_).1
 have hx := List.mem_of_getElem? fr.at_
 have bx := h.bd x hx
 have lo := fr.lo
 have hi2 := fr.hi
 refine ⟨List.pairwise_iff_getElem.mpr fun a b ha hb hab => ?_, fun z hz => ?_⟩
 ·rw [List.length_set] at ha hb
  rw [List.getElem_set, List.getElem_set]
  by_cases c1 : i = a
  ·rw [if_pos c1, if_neg (by omega)]
   intro e
   exact absurd e.symm (fr.last b gs[b] (by omega) (List.getElem?_eq_getElem hb))
  ·rw [if_neg c1]
   by_cases c2 : i = b
   ·rw [if_pos c2]
    intro e
    have e' : (gs[a]).sl = x.sl := e
    have := h.at (y := x) (show a < i by omega) (List.getElem?_eq_getElem ha) fr.at_ e'
    exact this
   ·rw [if_neg c2]
    exact List.pairwise_iff_getElem.mp h.pw a b ha hb hab
 ·rcases List.mem_or_eq_of_mem_set hz with hz | hz
  ·exact h.bd z hz
  ·rw [hz]
   exact ⟨bx.1, lo, by show en ≤ last30; omega⟩
theorem GO.noM {gs : List Gr} (h : GO gs) : NoM gs gs.length := fun j k x y _ hjk hx hy => by
 unfold metB
 rw [Bool.not_eq_false']
 unfold apB
 by_cases e : x.sl = y.sl
 ·have h1 := h.at hjk hx hy e
  have b1 := h.bd x (List.mem_of_getElem? hx)
  have b2 := h.bd y (List.mem_of_getElem? hy)
  rw [decide_eq_true (show min x.e y.e ≤ max x.f y.f by omega), Bool.or_true]
 ·rw [decide_eq_false e]; rfl
theorem filter_one {α : Type} {p : α → Bool} : ∀ {xs : List α} {x : α}, xs.Pairwise (fun a b => ¬ (p a = true ∧ p b = true)) → x ∈ xs → p x = true → xs.filter p = [x]
 | [], _, _, h, _ => by simp at h
 | y :: ys, x, h, hm, hp => by
  rw [List.pairwise_cons] at h
  by_cases c : p y = true
  ·have hnil : ys.filter p = [] := List.filter_eq_nil_iff.mpr fun z hz q => h.1 z hz ⟨c, q⟩
   rw [List.filter_cons_of_pos c, hnil]
   rcases List.mem_cons.mp hm with rfl | hm
   ·rfl
   ·exact absurd ⟨c, hp⟩ (h.1 x hm)
  ·rw [List.filter_cons_of_neg c]
   rcases List.mem_cons.mp hm with rfl | hm
   ·exact absurd hp c
   ·exact filter_one h.2 hm hp
theorem GO.hol {gs : List Gr} (h : GO gs) {c s t k : Int} {x : Gr} (n : ShN c s) (hx : x ∈ gs) (s0 : 0 ≤ x.sl) (s1 : x.sl < s) (k0 : 0 ≤ k) (k1 : k < c) (t0 : x.f ≤ t) (t1 : t < x.e) : hol c s (Law.mk c s t x.sl k) gs = [x] := by
 obtain ⟨h1, h2, _⟩ := parts_mk (m := t) n s0 s1 k0 k1
 have hp : ∀ y : Gr, hasG c s (Law.mk c s t x.sl k) y = true ↔ (x.sl = y.sl ∧ y.f ≤ t ∧ t < y.e) := fun y => by
  unfold hasG hasB
  rw [h1, h2, Bool.and_eq_true, Bool.and_eq_true, decide_eq_true_eq, decide_eq_true_eq, decide_eq_true_eq]
 refine filter_one (h.pw.imp fun {a b} hab z => ?_) hx ((hp x).mpr ⟨rfl, t0, t1⟩)
 have z1 := (hp a).mp z.1
 have z2 := (hp b).mp z.2
 have := hab (z1.1.symm.trans z2.1)
 omega
end Law

namespace Law
open PySem PySem.Spec PyProof.Rows L2 L3 L4
theorem val_mem {kvs : List (Key × V)} {k : Key} : (valV kvs k).isSome = true ↔ k ∈ kvs.map (·.1) := by
 rw [← valV_any, List.any_eq_true]
 constructor
 ·rintro ⟨p, hp, e⟩
  exact List.mem_map.mpr ⟨p, hp, of_decide_eq_true e⟩
 ·intro h
  obtain ⟨p, hp, e⟩ := List.mem_map.mp h
  exact ⟨p, hp, decide_eq_true e⟩
theorem put_keys1 {kvs : List (Key × V)} {k : Key} (v : V) (h : k ∈ kvs.map (·.1)) : (putK kvs k v).map (·.1) = kvs.map (·.1) := by
 unfold putK
 rw [valV_any, if_pos (val_mem.mpr h), List.map_map]
 refine List.map_congr_left fun p _ => ?_
 show (if p.1 = k then (p.1, v) else p).1 = p.1
 split <;> rfl
theorem put_keys2 {kvs : List (Key × V)} {k : Key} (v : V) (h : k ∉ kvs.map (·.1)) : (putK kvs k v).map (·.1) = kvs.map (·.1) ++ [k] := by
 unfold putK
 rw [valV_any, if_neg (fun z => h (val_mem.mp z)), List.map_append]; rfl
theorem g_dgetV {td ty : TE} {σ : St} {H : Hp} {Q : VK} (h : td σ H fun x H1 => ty σ H1 fun y H2 => ∃ a v, x = .ref a ∧ DGet H2 a y (some v) ∧ Q v H2) : tDGet td ty σ H Q := h
structure Ks (gs : List Gr) (i : Nat) (kvs : List (Key × V)) (ks : List Int) : Prop where
 e : kvs.map (·.1) = ks.map Sum.inl
 nd : ks.Nodup
 m : ∀ k, k ∈ ks ↔ ∃ x ∈ gs.take i, x.sl = k
theorem Ks.put {gs : List Gr} {i : Nat} {kvs : List (Key × V)} {ks : List Int} {x : Gr} {v : V} (h : Ks gs i kvs ks) (hx : gs[i]? = some x) : ∃ ks', Ks gs (i + 1) (putK kvs (Sum.inl x.sl) v) ks' := by
 have mem : ∀ k, (∃ y ∈ gs.take (i + 1), y.sl = k) ↔ (k ∈ ks ∨ k = x.sl) := fun k => by
  rw [h.m, take_snoc hx]
  constructor
  ·rintro ⟨y, hy, e⟩
   rcases List.mem_append.mp hy with hy | hy
   ·exact .inl ⟨y, hy, e⟩
   ·rw [List.mem_singleton.mp hy] at e; exact .inr e.symm
  ·rintro (⟨y, hy, e⟩ | e)
   ·exact ⟨y, List.mem_append_left _ hy, e⟩
   ·exact ⟨x, List.mem_append_right _ (List.mem_singleton.mpr rfl), e.symm⟩
 have key : (Sum.inl x.sl : Key) ∈ kvs.map (·.1) ↔ x.sl ∈ ks := by
  rw [h.e]
  constructor
  ·intro z
   obtain ⟨y, hy, e⟩ := List.mem_map.mp z
   rw [← Sum.inl.inj e]; exact hy
  ·exact fun z => List.mem_map.mpr ⟨_, z, rfl⟩
 by_cases c : x.sl ∈ ks
 ·refine ⟨ks, by rw [put_keys1 _ (key.mpr c)]; exact h.e, h.nd, fun k => ?_⟩
  rw [mem]
  exact ⟨.inl, fun z => z.elim id fun e => e ▸ c⟩
 ·refine ⟨ks ++ [x.sl], by rw [put_keys2 _ (fun z => c (key.mp z)), h.e, List.map_append]; rfl, List.nodup_append.mpr ⟨h.nd, by simp, fun a ha b hb => by rw [List.mem_singleton.mp hb]; exact fun e => c (e ▸ ha)⟩, fun k => ?_⟩
  rw [mem, List.mem_append, List.mem_singleton]
theorem nodup_le {α : Type} [DecidableEq α] : ∀ {xs ys : List α}, xs.Nodup → (∀ x ∈ xs, x ∈ ys) → xs.length ≤ ys.length
 | [], _, _, _ => Nat.zero_le _
 | x :: xs, ys, h, hs => by
  rw [List.nodup_cons] at h
  have hx := hs x List.mem_cons_self
  have := nodup_le (ys := ys.erase x) h.2 fun z hz => (List.mem_erase_of_ne (fun e => h.1 (by rw [← e]; exact hz))).mpr (hs z (List.mem_cons_of_mem _ hz))
  rw [List.length_erase_of_mem hx] at this
  have := List.length_pos_of_mem hx
  rw [List.length_cons]
  omega
theorem Ks.len {gs : List Gr} {kvs : List (Key × V)} {ks : List Int} {slots : Nat} (h : Ks gs gs.length kvs ks) (ok : ∀ x ∈ gs, 0 ≤ x.sl ∧ x.sl < slots) : kvs.length = slots ∨ ∃ k : Nat, k < slots ∧ ∀ x ∈ gs, x.sl ≠ (k : Int) := by
 by_cases c : ∃ k : Nat, k < slots ∧ (k : Int) ∉ ks
 ·obtain ⟨k, hk, hn⟩ := c
  exact .inr ⟨k, hk, fun x hx e => hn ((h.m _).mpr ⟨x, by rw [List.take_length]; exact hx, e⟩)⟩
 ·refine .inl ?_
  have hl : kvs.length = ks.length := by have := congrArg List.length h.e; rwa [List.length_map, List.length_map] at this
  have a1 : slots ≤ ks.length := by
   have := nodup_le (xs := (List.range slots).map fun k : Nat => (k : Int)) (ys := ks) (by
    refine List.Pairwise.map _ (fun a b hab => ?_) List.nodup_range
    intro e; exact hab (by omega)) (fun x hx => by
    obtain ⟨k, hk, rfl⟩ := List.mem_map.mp hx
    rcases Classical.em ((k : Int) ∈ ks) with z | z
    ·exact z
    ·exact absurd ⟨k, List.mem_range.mp hk, z⟩ c)
   rwa [List.length_map, List.length_range] at this
  have a2 : ks.length ≤ slots := by
   have := nodup_le (xs := ks) (ys := (List.range slots).map fun k : Nat => (k : Int)) h.nd (fun x hx => by
    obtain ⟨y, hy, e⟩ := (h.m x).mp hx
    rw [List.take_length] at hy
    have := ok y hy
    exact List.mem_map.mpr ⟨x.toNat, List.mem_range.mpr (by omega), by omega⟩)
   rwa [List.length_map, List.length_range] at this
  omega
section
variable {P : Program} {w : World} {K : PySem.W.Frag} {mg : Str → Option Value} {base : Heap} {CX : CXT}
theorem sc_early : FnScope ["_law_ahead", "_law_slots", "_law_least_here", "_law_area", "_law_ends", "_law_grant", "_law_hand_here", "_law_one", "_law_slot"] ["_law_ahead", "_law_slots", "_law_least_here", "_law_area"] (defScope (top 46)) := by walk_at "s"
def spEarly : Sp := fun vs H Q _ => ∃ (a ta : Addr) (slots : Nat) (b x y z : Int) (gs : List Gr), vs = [.ref a, .int slots, .int b, .ref ta] ∧ H a = some (.lst (grV gs)) ∧ GrsAt H gs ∧ GrsOk gs slots ∧ 0 ≤ b ∧ tup3 H ta x y z ∧ Nx true gs slots b x y ∧ ∀ H', Same H H' → Q (.bl true) H'
theorem ok_early (D : Dat K mg "_law_early" "_law_early" (top 46) ["_law_ahead", "_law_slots", "_law_least_here", "_law_area"]) (BT : Bt mg) (NE : NoErr CX) : Cal P w K mg base CX "_law_early" 3 ["_law_ahead", "_law_slots", "_law_least_here", "_law_area"] spEarly := by
 have S := sc_early
 walk_at "d"
 ·obtain ⟨a, ta, slots, b, x, y, z, gs, rfl, _⟩ := h
  rfl
 obtain ⟨a, ta, n, b, x, y, z, gs, rfl, ha, hG, hok, b0, hta, hnx, q⟩ := h
 have h63 := hok.len
 refine ⟨_, (@pss_cons _ _ _ _ _ (@ps_set _ _ 4 _ _ _ _ S.nd rfl (by first | exact Or.inl rfl | exact Or.inr rfl) (@pe_dnewK _ _) (by rfl) (by first | exact .inl rfl | exact .inr rfl | assumption)) (@pss_cons _ _ _ _ _ (@ps_for _ _ _ _ _ _ _ _ PassesOwn.never rfl (@pi_list _ _ _ _ (@pv _ 0 _ _ (by rfl) (by first | exact Or.inl rfl | exact Or.inr (Or.inl rfl) | exact Or.inr (Or.inr rfl)) (by decide) (by decide))) (@pg_tup _ _ _ _ _ _ rfl (@pgs_cons _ _ _ _ _ (@pg_name _ _ 5 _ S.nd rfl (by first | exact Or.inl rfl | exact Or.inr rfl) (by first | exact .inl rfl | exact .inr rfl | assumption)) (@pgs_cons _ _ _ _ _ (@pg_name _ _ 6 _ S.nd rfl (by first | exact Or.inl rfl | exact Or.inr rfl) (by first | exact .inl rfl | exact .inr rfl | assumption)) (@pgs_cons _ _ _ _ _ (@pg_name _ _ 7 _ S.nd rfl (by first | exact Or.inl rfl | exact Or.inr rfl) (by first | exact .inl rfl | exact .inr rfl | assumption)) (@pgs_nil _) (by rfl)) (by rfl)) (by rfl)) (by rfl) (by rfl)) (@pss_one _ _ _ (@ps_dput _ _ _ _ _ _ _ _ _ (@hu_of _ _ hr) (@pv _ 4 _ _ (by rfl) (by first | exact Or.inl rfl | exact Or.inr (Or.inl rfl) | exact Or.inr (Or.inr rfl)) (by decide) (by decide)) (@pe_ix _ _ _ _ _ _ _ (@ix_tup _) (@pv _ 7 _ _ (by rfl) (by first | exact Or.inl rfl | exact Or.inr (Or.inl rfl) | exact Or.inr (Or.inr rfl)) (by decide) (by decide)) (@pe_int _ _ _ _) (fun _ _ => rfl)) (@pe_callB _ _ _ _ _ _ _ _ _ (@c_max _ rfl) rfl BT.max L3.bt_max (@pa_cons _ _ _ _ _ (@pe_dget2 _ _ _ _ _ _ _ _ _ (@hu_of _ _ hr) (@pv _ 4 _ _ (by rfl) (by first | exact Or.inl rfl | exact Or.inr (Or.inl rfl) | exact Or.inr (Or.inr rfl)) (by decide) (by decide)) (@pe_ix _ _ _ _ _ _ _ (@ix_tup _) (@pv _ 7 _ _ (by rfl) (by first | exact Or.inl rfl | exact Or.inr (Or.inl rfl) | exact Or.inr (Or.inr rfl)) (by decide) (by decide)) (@pe_int _ _ _ _) (fun _ _ => rfl)) (@pe_int _ _ _ _) ⟨rfl, rfl, rfl, rfl⟩) (@pa_cons _ _ _ _ _ (@pe_ix _ _ _ _ _ _ _ (@ix_tup _) (@pv _ 7 _ _ (by rfl) (by first | exact Or.inl rfl | exact Or.inr (Or.inl rfl) | exact Or.inr (Or.inr rfl)) (by decide) (by decide)) (@pe_int _ _ _ _) (fun _ _ => rfl)) (@pa_nil _) (by rfl)) (by rfl)) (by decide) (by decide) (by rfl) (by rfl)) rfl)) (by intro _; rfl)) (@pss_cons _ _ _ _ _ (@ps_if _ _ _ _ _ _ _ _ (@PW.pt _ _ _ (@pw_or _ _ _ _ _ _ _ (@pt_cmpR _ _ _ _ _ _ _ _ (@op_lt _) (@pe_ix _ _ _ _ _ _ _ (@ix_tup _) (@pv _ 3 _ _ (by rfl) (by first | exact Or.inl rfl | exact Or.inr (Or.inl rfl) | exact Or.inr (Or.inr rfl)) (by decide) (by decide)) (@pe_int _ _ _ _) (fun _ _ => rfl)) (@pe_int _ _ _ _) (@nomark _ _ (by decide) (by decide))) (@pw_or _ _ _ _ _ _ _ (@pt_cmpR _ _ _ _ _ _ _ _ (@op_ge _) (@pe_ix _ _ _ _ _ _ _ (@ix_tup _) (@pv _ 3 _ _ (by rfl) (by first | exact Or.inl rfl | exact Or.inr (Or.inl rfl) | exact Or.inr (Or.inr rfl)) (by decide) (by decide)) (@pe_int _ _ _ _) (fun _ _ => rfl)) (@pv _ 1 _ _ (by rfl) (by first | exact Or.inl rfl | exact Or.inr (Or.inl rfl) | exact Or.inr (Or.inr rfl)) (by decide) (by decide)) (@nomark _ _ (by decide) (by decide))) (@pw_or1 _ _ _ _ (@pt_cmpR _ _ _ _ _ _ _ _ (@op_ne _) (@pe_ix _ _ _ _ _ _ _ (@ix_tup _) (@pv _ 3 _ _ (by rfl) (by first | exact Or.inl rfl | exact Or.inr (Or.inl rfl) | exact Or.inr (Or.inr rfl)) (by decide) (by decide)) (@pe_int _ _ _ _) (fun _ _ => rfl)) (@pe_callB _ _ _ _ _ _ _ _ _ (@c_max _ rfl) rfl BT.max L3.bt_max (@pa_cons _ _ _ _ _ (@pv _ 2 _ _ (by rfl) (by first | exact Or.inl rfl | exact Or.inr (Or.inl rfl) | exact Or.inr (Or.inr rfl)) (by decide) (by decide)) (@pa_cons _ _ _ _ _ (@pe_dget2 _ _ _ _ _ _ _ _ _ (@hu_of _ _ hr) (@pv _ 4 _ _ (by rfl) (by first | exact Or.inl rfl | exact Or.inr (Or.inl rfl) | exact Or.inr (Or.inr rfl)) (by decide) (by decide)) (@pe_ix _ _ _ _ _ _ _ (@ix_tup _) (@pv _ 3 _ _ (by rfl) (by first | exact Or.inl rfl | exact Or.inr (Or.inl rfl) | exact Or.inr (Or.inr rfl)) (by decide) (by decide)) (@pe_int _ _ _ _) (fun _ _ => rfl)) (@pe_int _ _ _ _) ⟨rfl, rfl, rfl, rfl⟩) (@pa_nil _) (by rfl)) (by rfl)) (by decide) (by decide) (by rfl) (by rfl)) (@nomark _ _ (by decide) (by decide))))))) (@pss_one _ _ _ (@ps_ret _ _ _ _ (@pe_bl _ _ _ _))) (@pss_nil _)) (@pss_cons _ _ _ _ _ (@ps_for _ _ _ _ _ _ _ _ PassesOwn.never rfl (pi_dict (@pv _ 4 _ _ (by rfl) (by first | exact Or.inl rfl | exact Or.inr (Or.inl rfl) | exact Or.inr (Or.inr rfl)) (by decide) (by decide))) (@pg_name _ _ 8 _ S.nd rfl (by first | exact Or.inl rfl | exact Or.inr rfl) (by first | exact .inl rfl | exact .inr rfl | assumption)) (@pss_one _ _ _ (@ps_if _ _ _ _ _ _ _ _ (@pt_cmpR _ _ _ _ _ _ _ _ (@op_lt _) (@pe_callB _ _ _ _ _ _ _ _ _ (@c_max _ rfl) rfl BT.max L3.bt_max (@pa_cons _ _ _ _ _ (@pv _ 2 _ _ (by rfl) (by first | exact Or.inl rfl | exact Or.inr (Or.inl rfl) | exact Or.inr (Or.inr rfl)) (by decide) (by decide)) (@pa_cons _ _ _ _ _ (@pe_dget _ _ _ _ _ _ (@hu_of _ _ hr) (@pv _ 4 _ _ (by rfl) (by first | exact Or.inl rfl | exact Or.inr (Or.inl rfl) | exact Or.inr (Or.inr rfl)) (by decide) (by decide)) (@pv _ 8 _ _ (by rfl) (by first | exact Or.inl rfl | exact Or.inr (Or.inl rfl) | exact Or.inr (Or.inr rfl)) (by decide) (by decide)) (fun _ _ => rfl)) (@pa_nil _) (by rfl)) (by rfl)) (by decide) (by decide) (by rfl) (by rfl)) (@pe_ix _ _ _ _ _ _ _ (@ix_tup _) (@pv _ 3 _ _ (by rfl) (by first | exact Or.inl rfl | exact Or.inr (Or.inl rfl) | exact Or.inr (Or.inr rfl)) (by decide) (by decide)) (@pe_int _ _ _ _) (fun _ _ => rfl)) (@nomark _ _ (by decide) (by decide))) (@pss_one _ _ _ (@ps_ret _ _ _ _ (@pe_bl _ _ _ _))) (@pss_nil _))) (by intro _; rfl)) (@pss_one _ _ _ (@ps_ret _ _ _ _ (@pe_or _ _ _ _ _ _ _ (@pe_cmpR _ _ _ _ _ _ _ _ (@op_eq _) (@pe_callB _ _ _ _ _ _ _ _ _ call_lenDR rfl BT.len L3.bt_len (@pa_cons _ _ _ _ _ (@pv _ 4 _ _ (by rfl) (by first | exact Or.inl rfl | exact Or.inr (Or.inl rfl) | exact Or.inr (Or.inr rfl)) (by decide) (by decide)) (@pa_nil _) (by rfl)) (by decide) (by decide) (by rfl) (by rfl)) (@pv _ 1 _ _ (by rfl) (by first | exact Or.inl rfl | exact Or.inr (Or.inl rfl) | exact Or.inr (Or.inr rfl)) (by decide) (by decide)) (@nomark _ _ (by decide) (by decide))) (@pe_one _ _ _ _ _ (@pe_cmpR _ _ _ _ _ _ _ _ (@op_eq _) (@pe_ix _ _ _ _ _ _ _ (@ix_tup _) (@pv _ 3 _ _ (by rfl) (by first | exact Or.inl rfl | exact Or.inr (Or.inl rfl) | exact Or.inr (Or.inr rfl)) (by decide) (by decide)) (@pe_int _ _ _ _) (fun _ _ => rfl)) (@pv _ 2 _ _ (by rfl) (by first | exact Or.inl rfl | exact Or.inr (Or.inl rfl) | exact Or.inr (Or.inr rfl)) (by decide) (by decide)) (@nomark _ _ (by decide) (by decide))))))))))), ?_⟩
 try dsimp only [cxOf]
 unfold Nx at hnx
 rw [if_pos rfl] at hnx
 obtain ⟨j, nj, rfl, rfl⟩ := hnx
 walk_at "go"
 refine g_dnewK fun d nd => ?_
 have s1 := same_new nd (HO.dK [])
 have hd : (upd H d (.dK [])) d = some (.dK []) := upd_same
 generalize upd H d (.dK []) = H1 at *
 walk_at "go"
 refine g_wkLv (SqL.of (s1 _ _ ha)) ?_
 refine g_forL (grV gs) (fun i σ Hx => ∃ (u5 u6 u7 u8 : Option V) (kvs : List (Key × V)) (ks : List Int), σ = [some (.ref a), some (.int n), some (.int b), some (.ref ta), some (.ref d), u5, u6, u7, u8] ∧ Same H Hx ∧ Hx d = some (.dK kvs) ∧ kvs.length ≤ i ∧ Ks gs i kvs ks ∧ ∀ k : Int, (valV kvs (Sum.inl k)).getD (.int 0) = .int (endM (gs.take i) k 0))
  ⟨_, _, _, _, [], [], rfl, s1, hd, Nat.le_refl 0, ⟨rfl, .nil, fun k => by simp⟩, fun k => rfl⟩ (fun i σ Hx _ ⟨_, _, _, _, _, _, _, sx, _⟩ => SqL.of (sx _ _ ha)) ?_ ?_
 ·rintro i v σ HG hv ⟨u5, u6, u7, u8, kvs, ks, rfl, sx, hdx, hkl, hks, hkv⟩
  obtain ⟨x, hxi, rfl⟩ := grV_get hv
  have hxm := List.mem_of_getElem? hxi
  have hi : i < gs.length := (List.getElem?_eq_some_iff.mp hxi).1
  have hgx := (hG x hxm).same sx
  have L := ((Led.start HG (fun _ => False)).more (tupAt x.g [_, _, _]) hgx.1).more (tupAt x.ar [_, _, _]) hgx.2
  try dsimp only [gName]
  walk_at "go"
  refine g_dput ?_
  walk_at "go"
  refine g_dget2 ?_
  walk_at "go"
  refine ⟨d, rfl, .inl ⟨_, .inl hdx⟩, ?_⟩
  walk_at "go"
  refine ⟨_, DGet.k (k := Sum.inl x.sl) hdx, ?_⟩
  rw [hkv]
  walk_at "go"
  refine ⟨d, _, rfl, DPut.k (k := Sum.inl x.sl) hdx (Nat.lt_of_le_of_lt hkl (small1000 (by omega))), ?_⟩
  walk_at "go"
  have nH : ∀ q o, H q = some o → q ≠ d := fun q o e z => by rw [z, nd] at e; cases e
  obtain ⟨ks', hks'⟩ := hks.put (v := .int (max (endM (List.take i gs) x.sl 0) x.e)) hxi
  refine ⟨_, _, _, _, _, ks', rfl, fun q o e => by rw [upd_ne (nH q o e)]; exact sx _ _ e, upd_same, Nat.le_trans (putK_len _ _ _) (by omega), hks', fun k => ?_⟩
  rw [valV_put, take_snoc hxi, endM_snoc]
  by_cases c : x.sl = k
  ·subst c
   rw [if_pos rfl, if_pos rfl]; rfl
  ·rw [if_neg (fun z => c (Sum.inl.inj z).symm), if_neg c]
   exact hkv k
 ·rintro σ HG ⟨u5, u6, u7, u8, kvs, ks, rfl, sx, hdx, hkl, hks, hkv⟩
  rw [grV_len, List.take_length] at hkv
  rw [grV_len] at hks
  have htaG := sx _ _ hta
  have L := (Led.start HG (fun _ => False)).more (tupAt ta [_, _, _]) htaG
  have eb := endM_max gs (j : Int) b0
  have lj := nj.lt
  walk_at "go"
  refine g_dget2 ?_
  walk_at "go"
  refine ⟨d, rfl, .inl ⟨_, .inl hdx⟩, ?_⟩
  walk_at "go"
  refine ⟨_, DGet.k (k := Sum.inl (j : Int)) hdx, ?_⟩
  rw [hkv]
  walk_at "go"
  refine g_wkD ?_
  walk_at "go"
  refine ⟨d, kvs, rfl, hdx, fun o => ?_⟩
  have nH : ∀ q u, HG q = some u → q ≠ d → (upd HG d (.frz o (.dK kvs))) q = some u := fun q u e z => by rw [upd_ne z]; exact e
  have hdf : (upd HG d (.frz o (.dK kvs))) d = some (.frz o (.dK kvs)) := upd_same
  have sF : Same H (upd HG d (.frz o (.dK kvs))) := fun q u e => nH q u (sx _ _ e) (fun z => by rw [z, nd] at e; cases e)
  generalize upd HG d (.frz o (.dK kvs)) = HF at *
  clear L
  refine g_forK (fun i σ Hx => ∃ (u5 u6 u7 u8 : Option V), σ = [some (.ref a), some (.int n), some (.int b), some (.ref ta), some (.ref d), u5, u6, u7, u8] ∧ Hx = HF) ⟨_, _, _, _, rfl, rfl⟩ (fun i σ Hx _ ⟨_, _, _, _, _, e⟩ => by rw [e]; exact hdf) ?_ ?_
  ·rintro i k v σ Hx hk ⟨u5, u6, u7, u8, rfl, rfl⟩
   have hkm : k ∈ kvs.map (·.1) := List.mem_map.mpr ⟨_, List.mem_of_getElem? hk, rfl⟩
   obtain ⟨s0, hs0, rfl⟩ : ∃ s0, s0 ∈ ks ∧ k = Sum.inl s0 := by
    rw [hks.e] at hkm
    obtain ⟨s0, h0, e⟩ := List.mem_map.mp hkm
    exact ⟨s0, h0, e.symm⟩
   obtain ⟨xx, hxx, exx⟩ := (hks.m s0).mp hs0
   rw [List.take_length] at hxx
   have hsl := hok.sl xx hxx
   have hle := nj.le s0.toNat (by omega)
   rw [show ((s0.toNat : Nat) : Int) = s0 by omega] at hle
   obtain ⟨u, hu⟩ := Option.isSome_iff_exists.mp (val_mem.mpr hkm)
   have hue : u = .int (endM gs s0 0) := by have := hkv s0; rw [hu] at this; exact this
   subst hue
   have eb2 := endM_max gs s0 b0
   have L := (Led.start Hx (fun _ => False)).more (tupAt ta [_, _, _]) (sF _ _ hta)
   try dsimp only [gName]
   walk_at "go"
   refine g_dgetV ?_
   walk_at "go"
   refine ⟨d, _, rfl, .inl ⟨kvs, Sum.inl s0, .inr ⟨o, hdf⟩, rfl, hu.symm⟩, ?_⟩
   walk_at "go"
   exact ⟨_, _, _, _, rfl, rfl⟩
  ·rintro σ Hx ⟨u5, u6, u7, u8, rfl, rfl⟩
   have L := (Led.start Hx (fun _ => False)).more (tupAt ta [_, _, _]) (sF _ _ hta)
   walk_at "go"
   refine ⟨d, kvs, rfl, .inr ⟨o, hdf⟩, ?_⟩
   rcases hks.len hok.sl with hl | ⟨k, hk, hn⟩
   ·walk_at "go"
    exact q _ sF
   ·have e0 : endM gs (k : Int) b = b := endM_none b hn
    have h1 := nj.le k hk
    have h2 := endM_ge gs (j : Int) b
    walk_at "go"
    refine g_ifD (fun _ => q _ sF) (fun _ => ?_)
    walk_at "go"
    rw [decide_eq_true (show endM gs (j : Int) b = b by omega)]
    exact q _ sF
end
end Law

namespace Law
open PySem PySem.Spec PyProof.Rows L2 L3 L4
abbrev Rws := List (Addr × Int × Int)
def rwV (rs : Rws) : List V := rs.map fun r => .ref r.1
def RwAt (H : Hp) (rs : Rws) : Prop := ∀ r ∈ rs, H r.1 = some (.tup [.int r.2.1, .int r.2.2])
structure RwOk (gs : List Gr) (i : Nat) (s : Int) (rs : Rws) : Prop where
 len : rs.length ≤ i
 pw : rs.Pairwise fun x y => x.2.2 ≤ y.2.1
 m : ∀ r ∈ rs, r.2.1 < r.2.2 ∧ ∃ x ∈ gs.take i, x.sl = s ∧ x.e = r.2.2
theorem RwOk.next {gs : List Gr} {i : Nat} {s : Int} {rs : Rws} {x : Gr} (h : RwOk gs i s rs) (hx : gs[i]? = some x) : RwOk gs (i + 1) s rs :=
 ⟨Nat.le_succ_of_le h.len, h.pw, fun r hr => ⟨(h.m r hr).1, let ⟨y, hy, e⟩ := (h.m r hr).2; ⟨y, by rw [take_snoc hx]; exact List.mem_append_left _ hy, e⟩⟩⟩
theorem take_lt {gs : List Gr} {i : Nat} {x y : Gr} (hx : gs[i]? = some x) (hy : y ∈ gs.take i) : ∃ j, j < i ∧ gs[j]? = some y := by
 obtain ⟨j, hj, e⟩ := List.getElem_of_mem hy
 rw [List.length_take] at hj
 exact ⟨j, by omega, by rw [← e, List.getElem_take, List.getElem?_eq_getElem (by omega)]⟩
theorem RwOk.snoc {gs : List Gr} {i : Nat} {rs : Rws} {x : Gr} {t : Addr} (g : GO gs) (h : RwOk gs i x.sl rs) (hx : gs[i]? = some x) (lt : x.f < x.e) : RwOk gs (i + 1) x.sl (rs ++ [(t, x.f, x.e)]) := by
 have hn := h.next hx
 refine ⟨by rw [List.length_append, List.length_singleton]; have := h.len; omega, ?_, fun r hr => ?_⟩
 ·rw [List.pairwise_append]
  refine ⟨h.pw, by simp, fun r hr u hu => ?_⟩
  rw [List.mem_singleton.mp hu]
  obtain ⟨_, y, hy, e1, e2⟩ := h.m r hr
  obtain ⟨j, hj, e3⟩ := take_lt hx hy
  have := g.at hj e3 hx e1
  show r.2.2 ≤ x.f
  omega
 ·rcases List.mem_append.mp hr with hr | hr
  ·exact hn.m r hr
  ·rw [List.mem_singleton.mp hr]
   exact ⟨lt, x, by rw [take_snoc hx]; exact List.mem_append_right _ (List.mem_singleton.mpr rfl), rfl, rfl⟩
theorem tri {rs : Rws} : rs.Pairwise (fun x y => x.2.2 ≤ y.2.1) → ∀ a ∈ rs, ∀ b ∈ rs, a = b ∨ a.2.2 ≤ b.2.1 ∨ b.2.2 ≤ a.2.1 := by
 induction rs with
 | nil => intro _ a ha; simp at ha
 | cons x xs ih =>
  intro h a ha b hb
  rw [List.pairwise_cons] at h
  rcases List.mem_cons.mp ha with rfl | ha <;> rcases List.mem_cons.mp hb with rfl | hb
  ·exact .inl rfl
  ·exact .inr (.inl (h.1 _ (by assumption)))
  ·exact .inr (.inr (h.1 _ (by assumption)))
  ·exact ih h.2 _ (by assumption) _ (by assumption)
theorem RwOk.nodup {gs : List Gr} {i : Nat} {s : Int} {rs : Rws} (h : RwOk gs i s rs) : rs.Nodup :=
 List.Pairwise.imp_of_mem (fun {a b} ha _ hab e => by have := (h.m a ha).1; rw [e] at this hab; omega) h.pw
theorem RwOk.lex {gs : List Gr} {i : Nat} {s : Int} {rs : Rws} (h : RwOk gs i s rs) : ∀ a ∈ rs, ∀ b ∈ rs, LS.lexZ [a.2.1, a.2.2] [b.2.1, b.2.2] = decide (a.2.1 < b.2.1) := fun a ha b hb => by
 have ma := (h.m a ha).1
 have mb := (h.m b hb).1
 unfold LS.lexZ LS.lexZ LS.lexZ
 rcases tri h.pw a ha b hb with rfl | z | z
 ·simp
 ·rw [if_neg (by simp; omega)]
 ·rw [if_neg (by simp; omega)]
theorem RwOk.sorted {gs : List Gr} {i : Nat} {s : Int} {rs qs : Rws} (h : RwOk gs i s rs) (pm : qs.Perm rs) (pw : qs.Pairwise fun x y => x.2.1 ≤ y.2.1) {k : Nat} {a b : Addr × Int × Int} (ha : qs[k]? = some a) (hb : qs[k + 1]? = some b) : a.2.2 ≤ b.2.1 := by
 obtain ⟨h1, e1⟩ := List.getElem?_eq_some_iff.mp ha
 obtain ⟨h2, e2⟩ := List.getElem?_eq_some_iff.mp hb
 have l := List.pairwise_iff_getElem.mp pw k (k + 1) h1 h2 (by omega)
 have n := List.pairwise_iff_getElem.mp (pm.nodup_iff.mpr h.nodup) k (k + 1) h1 h2 (by omega)
 rw [e1, e2] at l n
 have ma := pm.mem_iff.mp (List.mem_of_getElem? ha)
 have mb := pm.mem_iff.mp (List.mem_of_getElem? hb)
 have q := (h.m b mb).1
 rcases tri h.pw a ma b mb with z | z | z
 ·exact absurd z n
 ·exact z
 ·omega
structure SlAt (H0 Hx : Hp) (d : Addr) (gs : List Gr) (i n : Nat) (kvs : List (Key × V)) : Prop where
 v : ∀ k u, valV kvs k = some u → ∃ s la rs, k = Sum.inl s ∧ u = .ref la ∧ Hx la = some (.lst (rwV rs)) ∧ RwAt Hx rs ∧ H0 la = none ∧ la ≠ d ∧ RwOk gs i s rs
 inj : ∀ k k' la, valV kvs k = some (.ref la) → valV kvs k' = some (.ref la) → k = k'
 len : kvs.length ≤ n
theorem SlAt.same {H0 Hx Hy : Hp} {d : Addr} {gs : List Gr} {i n : Nat} {kvs : List (Key × V)} (h : SlAt H0 Hx d gs i n kvs) (s : Same Hx Hy) : SlAt H0 Hy d gs i n kvs :=
 ⟨fun k u e => let ⟨s', la, rs, e1, e2, e3, e4, e5, e6, e7⟩ := h.v k u e; ⟨s', la, rs, e1, e2, s _ _ e3, fun r hr => s _ _ (e4 r hr), e5, e6, e7⟩, h.inj, h.len⟩
theorem rwV_snoc {rs : Rws} {r : Addr × Int × Int} : rwV (rs ++ [r]) = rwV rs ++ [.ref r.1] := by unfold rwV; rw [List.map_append]; rfl
theorem SlAt.app {H0 H2 : Hp} {d la t : Addr} {gs : List Gr} {i n : Nat} {kvs : List (Key × V)} {x : Gr} (h : SlAt H0 H2 d gs i n kvs) (g : GO gs) (hx : gs[i]? = some x) (lt : x.f < x.e) (hv : valV kvs (Sum.inl x.sl) = some (.ref la)) {xs : List V} (hl : H2 la = some (.lst xs)) (ht : H2 t = some (.tup [.int x.f, .int x.e])) : SlAt H0 (upd H2 la (.lst (xs ++ [.ref t]))) d gs (i + 1) n kvs ∧ H0 la = none ∧ la ≠ d ∧ xs.length ≤ i := by
 obtain ⟨s, la', rs, e1, e2, e3, e4, e5, e6, e7⟩ := h.v _ _ hv
 cases e2
 rw [← Sum.inl.inj e1] at e7
 rw [e3] at hl
 cases hl
 have tne : ∀ {p : Addr} {ys : List V}, H2 p = some (.tup ys) → p ≠ la := fun {p ys} e z => by rw [z, e3] at e; cases e
 refine ⟨⟨fun k u hk => ?_, h.inj, h.len⟩, e5, e6, by unfold rwV; rw [List.length_map]; exact e7.len⟩
 by_cases c : k = Sum.inl x.sl
 ·rw [c, hv] at hk
  cases hk
  refine ⟨x.sl, la, rs ++ [(t, x.f, x.e)], c, rfl, by rw [upd_same, rwV_snoc], fun r hr => ?_, e5, e6, e7.snoc g hx lt⟩
  rcases List.mem_append.mp hr with hr | hr
  ·rw [upd_ne (tne (e4 r hr))]; exact e4 r hr
  ·rw [List.mem_singleton.mp hr, upd_ne (tne ht)]; exact ht
 ·obtain ⟨s2, la2, rs2, f1, f2, f3, f4, f5, f6, f7⟩ := h.v k u hk
  have ne : la2 ≠ la := fun z => c (h.inj k _ la (by rw [hk, f2, z]) hv)
  exact ⟨s2, la2, rs2, f1, f2, by rw [upd_ne ne]; exact f3, fun r hr => by rw [upd_ne (tne (f4 r hr))]; exact f4 r hr, f5, f6, f7.next hx⟩
theorem SlAt.new {H0 H2 : Hp} {d ln : Addr} {gs : List Gr} {i n : Nat} {kvs : List (Key × V)} {s : Int} (h : SlAt H0 H2 d gs i n kvs) (hn : valV kvs (Sum.inl s) = none) (hd : H2 d = some (.dK kvs)) (hl : H2 ln = some (.lst [])) (nl : H0 ln = none) (fr : ∀ k, valV kvs k ≠ some (.ref ln)) : SlAt H0 (upd H2 d (.dK (putK kvs (Sum.inl s) (.ref ln)))) d gs i (n + 1) (putK kvs (Sum.inl s) (.ref ln)) := by
 have ned : ∀ {p : Addr} {o : HO}, H2 p = some o → (∀ z, o ≠ .dK z) → p ≠ d := fun {p o} e q z => by rw [z, hd] at e; cases e; exact q _ rfl
 refine ⟨fun k u hk => ?_, fun k k' la h1 h2 => ?_, Nat.le_trans (length_putK _ _ _) (Nat.succ_le_succ h.len)⟩
 ·rw [valV_put] at hk
  by_cases c : k = Sum.inl s
  ·rw [if_pos c] at hk
   cases hk
   exact ⟨s, ln, [], c, rfl, by rw [upd_ne (ned hl (fun _ z => nomatch z))]; exact hl, (fun _ h => by simp at h), nl, ned hl (fun _ z => nomatch z), ⟨Nat.zero_le _, .nil, fun _ h => by simp at h⟩⟩
  ·rw [if_neg c] at hk
   obtain ⟨s2, la2, rs2, f1, f2, f3, f4, f5, f6, f7⟩ := h.v k u hk
   exact ⟨s2, la2, rs2, f1, f2, by rw [upd_ne f6]; exact f3, fun r hr => by rw [upd_ne (ned (f4 r hr) (fun _ z => nomatch z))]; exact f4 r hr, f5, f6, f7⟩
 ·rw [valV_put] at h1 h2
  by_cases c1 : k = Sum.inl s
  ·by_cases c2 : k' = Sum.inl s
   ·rw [c1, c2]
   ·rw [if_pos c1] at h1
    rw [if_neg c2] at h2
    cases h1
    exact absurd h2 (fr k')
  ·rw [if_neg c1] at h1
   by_cases c2 : k' = Sum.inl s
   ·rw [if_pos c2] at h2
    cases h2
    exact absurd h1 (fr k)
   ·rw [if_neg c2] at h2
    exact h.inj k k' la h1 h2
section
variable {P : Program} {w : World} {K : PySem.W.Frag} {mg : Str → Option Value} {base : Heap} {CX : CXT}
theorem sc_lapart : FnScope ["_law_grants", "_law_slots", "_law_grant", "_law_hand_here", "_law_area", "_law_slot", "_law_rows", "_law_k"] ["_law_grants"] (defScope (top 45)) := by walk_at "s"
def spLApart : Sp := fun vs H Q _ => ∃ (a : Addr) (gs : List Gr), vs = [.ref a] ∧ H a = some (.lst (grV gs)) ∧ GrsAt H gs ∧ GO gs ∧ gs.length ≤ 62 ∧ ∀ H', Same H H' → Q (.bl true) H'
theorem ok_lapart (D : Dat K mg "_law_apart" "_law_apart" (top 45) ["_law_grants"]) (BT : Bt mg) (NE : NoErr CX) : Cal P w K mg base CX "_law_apart" 3 ["_law_grants"] spLApart := by
 have S := sc_lapart
 walk_at "d"
 ·obtain ⟨a, gs, rfl, _⟩ := h
  rfl
 obtain ⟨a, gs, rfl, ha, hG, go, h62, q⟩ := h
 refine ⟨_, (@pss_cons _ _ _ _ _ (@ps_set _ _ 1 _ _ _ _ S.nd rfl (by first | exact Or.inl rfl | exact Or.inr rfl) (@pe_dnewK _ _) (by rfl) (by first | exact .inl rfl | exact .inr rfl | assumption)) (@pss_cons _ _ _ _ _ (@ps_for _ _ _ _ _ _ _ _ PassesOwn.never rfl (@pi_list _ _ _ _ (@pv _ 0 _ _ (by rfl) (by first | exact Or.inl rfl | exact Or.inr (Or.inl rfl) | exact Or.inr (Or.inr rfl)) (by decide) (by decide))) (@pg_tup _ _ _ _ _ _ rfl (@pgs_cons _ _ _ _ _ (@pg_name _ _ 2 _ S.nd rfl (by first | exact Or.inl rfl | exact Or.inr rfl) (by first | exact .inl rfl | exact .inr rfl | assumption)) (@pgs_cons _ _ _ _ _ (@pg_name _ _ 3 _ S.nd rfl (by first | exact Or.inl rfl | exact Or.inr rfl) (by first | exact .inl rfl | exact .inr rfl | assumption)) (@pgs_cons _ _ _ _ _ (@pg_name _ _ 4 _ S.nd rfl (by first | exact Or.inl rfl | exact Or.inr rfl) (by first | exact .inl rfl | exact .inr rfl | assumption)) (@pgs_nil _) (by rfl)) (by rfl)) (by rfl)) (by rfl) (by rfl)) (@pss_one _ _ _ (@ps_if _ _ _ _ _ _ _ _ (@pt_cmpR _ _ _ _ _ _ _ _ (@op_lt _) (@pe_ix _ _ _ _ _ _ _ (@ix_tup _) (@pv _ 4 _ _ (by rfl) (by first | exact Or.inl rfl | exact Or.inr (Or.inl rfl) | exact Or.inr (Or.inr rfl)) (by decide) (by decide)) (@pe_int _ _ _ _) (fun _ _ => rfl)) (@pe_ix _ _ _ _ _ _ _ (@ix_tup _) (@pv _ 4 _ _ (by rfl) (by first | exact Or.inl rfl | exact Or.inr (Or.inl rfl) | exact Or.inr (Or.inr rfl)) (by decide) (by decide)) (@pe_int _ _ _ _) (fun _ _ => rfl)) (@nomark _ _ (by decide) (by decide))) (@pss_one _ _ _ (@ps_expr _ _ _ _ (@pe_bm _ _ _ _ _ _ _ _ _ _ _ _ PySem.F.plainAttrs_list PySem.F.slot_list_append PySem.F.type_list_append (@mt_append _) (pe_dsetd (@pv _ 1 _ _ (by rfl) (by first | exact Or.inl rfl | exact Or.inr (Or.inl rfl) | exact Or.inr (Or.inr rfl)) (by decide) (by decide)) (@pe_ix _ _ _ _ _ _ _ (@ix_tup _) (@pv _ 4 _ _ (by rfl) (by first | exact Or.inl rfl | exact Or.inr (Or.inl rfl) | exact Or.inr (Or.inr rfl)) (by decide) (by decide)) (@pe_int _ _ _ _) (fun _ _ => rfl)) (@pe_lst _ _ _ _ (@pa_nil _)) ⟨rfl, rfl, rfl, rfl⟩) (@pa_cons _ _ _ _ _ (@pe_tup _ _ _ _ _ (@pa_cons _ _ _ _ _ (@pe_ix _ _ _ _ _ _ _ (@ix_tup _) (@pv _ 4 _ _ (by rfl) (by first | exact Or.inl rfl | exact Or.inr (Or.inl rfl) | exact Or.inr (Or.inr rfl)) (by decide) (by decide)) (@pe_int _ _ _ _) (fun _ _ => rfl)) (@pa_cons _ _ _ _ _ (@pe_ix _ _ _ _ _ _ _ (@ix_tup _) (@pv _ 4 _ _ (by rfl) (by first | exact Or.inl rfl | exact Or.inr (Or.inl rfl) | exact Or.inr (Or.inr rfl)) (by decide) (by decide)) (@pe_int _ _ _ _) (fun _ _ => rfl)) (@pa_nil _) (by rfl)) (by rfl))) (@pa_nil _) (by rfl)) (by rfl) (by rfl) (by rfl) (by rfl) (by rfl)) (by rfl))) (@pss_nil _))) (by intro _; rfl)) (@pss_cons _ _ _ _ _ (@ps_for _ _ _ _ _ _ _ _ PassesOwn.never rfl (pi_dict (@pv _ 1 _ _ (by rfl) (by first | exact Or.inl rfl | exact Or.inr (Or.inl rfl) | exact Or.inr (Or.inr rfl)) (by decide) (by decide))) (@pg_name _ _ 5 _ S.nd rfl (by first | exact Or.inl rfl | exact Or.inr rfl) (by first | exact .inl rfl | exact .inr rfl | assumption)) (@pss_cons _ _ _ _ _ (@ps_set _ _ 6 _ _ _ _ S.nd rfl (by first | exact Or.inl rfl | exact Or.inr rfl) (@pe_callB _ _ _ _ _ _ _ _ _ (@c_sortT _) rfl BT.sorted L3.bt_sorted (@pa_cons _ _ _ _ _ (@pe_dget _ _ _ _ _ _ (@hu_of _ _ hr) (@pv _ 1 _ _ (by rfl) (by first | exact Or.inl rfl | exact Or.inr (Or.inl rfl) | exact Or.inr (Or.inr rfl)) (by decide) (by decide)) (@pv _ 5 _ _ (by rfl) (by first | exact Or.inl rfl | exact Or.inr (Or.inl rfl) | exact Or.inr (Or.inr rfl)) (by decide) (by decide)) (fun _ _ => rfl)) (@pa_nil _) (by rfl)) (by decide) (by decide) (by rfl) (by rfl)) (by rfl) (by first | exact .inl rfl | exact .inr rfl | assumption)) (@pss_one _ _ _ (@ps_for _ _ _ _ _ _ _ _ PassesOwn.never rfl (@pi_range2 _ _ _ _ _ _ _ rfl BT.range (@pa_cons _ _ _ _ _ (@pe_int _ _ _ _) (@pa_cons _ _ _ _ _ (@pe_callB _ _ _ _ _ _ _ _ _ (@c_len _) rfl BT.len L3.bt_len (@pa_cons _ _ _ _ _ (@pv _ 6 _ _ (by rfl) (by first | exact Or.inl rfl | exact Or.inr (Or.inl rfl) | exact Or.inr (Or.inr rfl)) (by decide) (by decide)) (@pa_nil _) (by rfl)) (by decide) (by decide) (by rfl) (by rfl)) (@pa_nil _) (by rfl)) (by rfl)) (by rfl) (by rfl)) (@pg_name _ _ 7 _ S.nd rfl (by first | exact Or.inl rfl | exact Or.inr rfl) (by first | exact .inl rfl | exact .inr rfl | assumption)) (@pss_one _ _ _ (@ps_if _ _ _ _ _ _ _ _ (@pt_cmpR _ _ _ _ _ _ _ _ (@op_lt _) (@pe_ix _ _ _ _ _ _ _ (@ix_tup _) (@pe_ix _ _ _ _ _ _ _ (@ix_list _) (@pv _ 6 _ _ (by rfl) (by first | exact Or.inl rfl | exact Or.inr (Or.inl rfl) | exact Or.inr (Or.inr rfl)) (by decide) (by decide)) (@pv _ 7 _ _ (by rfl) (by first | exact Or.inl rfl | exact Or.inr (Or.inl rfl) | exact Or.inr (Or.inr rfl)) (by decide) (by decide)) (fun _ _ => rfl)) (@pe_int _ _ _ _) (fun _ _ => rfl)) (@pe_ix _ _ _ _ _ _ _ (@ix_tup _) (@pe_ix _ _ _ _ _ _ _ (@ix_list _) (@pv _ 6 _ _ (by rfl) (by first | exact Or.inl rfl | exact Or.inr (Or.inl rfl) | exact Or.inr (Or.inr rfl)) (by decide) (by decide)) (@pe_op _ _ _ _ _ _ _ _ (@op_sub _) (@pv _ 7 _ _ (by rfl) (by first | exact Or.inl rfl | exact Or.inr (Or.inl rfl) | exact Or.inr (Or.inr rfl)) (by decide) (by decide)) (@pe_int _ _ _ _)) (fun _ _ => rfl)) (@pe_int _ _ _ _) (fun _ _ => rfl)) (@nomark _ _ (by decide) (by decide))) (@pss_one _ _ _ (@ps_ret _ _ _ _ (@pe_bl _ _ _ _))) (@pss_nil _))) (by intro _; rfl)))) (by intro _; rfl)) (@pss_one _ _ _ (@ps_ret _ _ _ _ (@pe_bl _ _ _ _)))))), ?_⟩
 try dsimp only [cxOf]
 walk_at "go"
 refine g_dnewK fun d nd => ?_
 have s1 := same_new nd (HO.dK [])
 have hd : (upd H d (.dK [])) d = some (.dK []) := upd_same
 generalize upd H d (.dK []) = H1 at *
 walk_at "go"
 refine g_wkLv (SqL.of (s1 _ _ ha)) ?_
 have nH : ∀ {q o}, H q = some o → q ≠ d := fun {q o} e z => by rw [z, nd] at e; cases e
 refine g_forL (grV gs) (fun i σ Hx => ∃ (u2 u3 u4 u5 u6 u7 : Option V) (kvs : List (Key × V)), σ = [some (.ref a), some (.ref d), u2, u3, u4, u5, u6, u7] ∧ Same H Hx ∧ Hx d = some (.dK kvs) ∧ SlAt H Hx d gs i i kvs)
  ⟨_, _, _, _, _, _, [], rfl, s1, hd, ⟨(fun _ _ h => by simp [valV_nil] at h), (fun _ _ _ h => by simp [valV_nil] at h), Nat.le_refl 0⟩⟩ (fun i σ Hx _ ⟨_, _, _, _, _, _, _, _, sx, _⟩ => SqL.of (sx _ _ ha)) ?_ ?_
 ·rintro i v σ HG hv ⟨u2, u3, u4, u5, u6, u7, kvs, rfl, sx, hdx, sl⟩
  obtain ⟨x, hxi, rfl⟩ := grV_get hv
  have hxm := List.mem_of_getElem? hxi
  have hi : i < gs.length := (List.getElem?_eq_some_iff.mp hxi).1
  have hgx := (hG x hxm).same sx
  have L := ((Led.start HG (fun _ => False)).more (tupAt x.g [_, _, _]) hgx.1).more (tupAt x.ar [_, _, _]) hgx.2
  have kl := sl.len
  try dsimp only [gName]
  walk_at "go"
  refine g_ifD (fun c => ?_) (fun c => ?_)
  ·walk_at "go"
   refine g_dsetd ?_
   walk_at "go"
   refine ⟨d, rfl, .inl ⟨_, .inl hdx⟩, ?_⟩
   walk_at "go"
   have nln : HG l' = none := n'
   have s2 : Same HG H' := L'.same
   have hln := L'.eo (p := l') .head
   obtain ⟨ln, eln⟩ : ∃ z, z = l' := ⟨_, rfl⟩
   obtain ⟨H2, eH2⟩ : ∃ z, z = H' := ⟨_, rfl⟩
   rw [← eln] at nln hln
   rw [← eH2] at s2 hln
   clear L L'
   subst eln eH2
   have hd2 := s2 _ _ hdx
   have nlnH : H ln = none := by
    cases e : H ln with
    | none => rfl
    | some o => rw [sx _ _ e] at nln; cases nln
   refine ⟨kvs, Sum.inl x.sl, hd2, rfl, Nat.lt_of_le_of_lt kl (small1000 (by omega)), fun v hv => ?_, fun hn => ?_⟩
   ·obtain ⟨s0, la, rs, _, rfl, hla, _⟩ := (sl.same s2).v _ _ hv
    refine ⟨.inl ⟨rfl, _, SqL.of hla⟩, ?_⟩
    have L := ((Led.start H2 (fun _ => False)).more (tupAt x.g [_, _, _]) (s2 _ _ hgx.1)).more (tupAt x.ar [_, _, _]) (s2 _ _ hgx.2)
    walk_at "go"
    obtain ⟨sl', n1, n2, n3⟩ := ((sl.same s2).same L'.same).app go hxi c hv (L'.same _ _ hla) (L'.tup (r := t') (by walk_at "mem"))
    refine ⟨la, _, _, rfl, rfl, L'.same _ _ hla, Nat.lt_of_le_of_lt n3 (small1000 (by omega)), ?_⟩
    walk_at "go"
    exact ⟨_, _, _, _, _, _, kvs, rfl, fun q o e => by rw [upd_ne (fun z => by rw [z, n1] at e; cases e)]; exact L'.same _ _ (s2 _ _ (sx _ _ e)), by rw [upd_ne (Ne.symm n2)]; exact L'.same _ _ hd2, ⟨sl'.v, sl'.inj, by omega⟩⟩
   ·have fr : ∀ k, valV kvs k ≠ some (.ref ln) := fun k hk => by
     obtain ⟨s0, la, rs, _, e2, hla, _⟩ := sl.v _ _ hk
     cases e2
     rw [hla] at nln; cases nln
    have sn := (sl.same s2).new hn hd2 hln nlnH fr
    have nld : ln ≠ d := fun z => by rw [z, hdx] at nln; cases nln
    have h3l : (upd H2 d (.dK (putK kvs (Sum.inl x.sl) (.ref ln)))) ln = some (.lst []) := by rw [upd_ne nld]; exact hln
    have h3d : (upd H2 d (.dK (putK kvs (Sum.inl x.sl) (.ref ln)))) d = some (.dK (putK kvs (Sum.inl x.sl) (.ref ln))) := upd_same
    have s3 : ∀ {q o}, HG q = some o → q ≠ d → (upd H2 d (.dK (putK kvs (Sum.inl x.sl) (.ref ln)))) q = some o := fun {q o} e z => by rw [upd_ne z]; exact s2 _ _ e
    have hv3 : valV (putK kvs (Sum.inl x.sl) (V.ref ln)) (Sum.inl x.sl) = some (.ref ln) := by rw [valV_put, if_pos rfl]
    generalize upd H2 d (.dK (putK kvs (Sum.inl x.sl) (.ref ln))) = H3 at *
    generalize putK kvs (Sum.inl x.sl) (V.ref ln) = kvs3 at *
    refine ⟨.inl ⟨rfl, _, SqL.of h3l⟩, ?_⟩
    have ned : ∀ {p : Addr} {ys : List V}, HG p = some (.tup ys) → p ≠ d := fun {p ys} e z => by rw [z, hdx] at e; cases e
    have L := ((Led.start H3 (fun _ => False)).more (tupAt x.g [_, _, _]) (s3 hgx.1 (ned hgx.1))).more (tupAt x.ar [_, _, _]) (s3 hgx.2 (ned hgx.2))
    walk_at "go"
    obtain ⟨sl', n1, n2, n3⟩ := (sn.same L'.same).app go hxi c hv3 (L'.same _ _ h3l) (L'.tup (r := t') (by walk_at "mem"))
    refine ⟨ln, _, _, rfl, rfl, L'.same _ _ h3l, Nat.lt_of_le_of_lt n3 (small1000 (by omega)), ?_⟩
    walk_at "go"
    exact ⟨_, _, _, _, _, _, kvs3, rfl, fun q o e => by rw [upd_ne (fun z => by rw [z, n1] at e; cases e)]; exact L'.same _ _ (s3 (sx _ _ e) (nH e)), by rw [upd_ne (Ne.symm n2)]; exact L'.same _ _ h3d, ⟨sl'.v, sl'.inj, sl'.len⟩⟩
  ·walk_at "go"
   refine ⟨_, _, _, _, _, _, kvs, rfl, sx, hdx, ⟨fun k u h => ?_, sl.inj, by omega⟩⟩
   obtain ⟨s, la, rs, e1, e2, e3, e4, e5, e6, e7⟩ := sl.v k u h
   exact ⟨s, la, rs, e1, e2, e3, e4, e5, e6, e7.next hxi⟩
 ·rintro σ HG ⟨u2, u3, u4, u5, u6, u7, kvs, rfl, sx, hdx, sl⟩
  rw [grV_len] at sl
  walk_at "go"
  refine g_wkD ?_
  walk_at "go"
  refine ⟨d, kvs, rfl, hdx, fun o => ?_⟩
  have hdf : (upd HG d (.frz o (.dK kvs))) d = some (.frz o (.dK kvs)) := upd_same
  have sF : Same H (upd HG d (.frz o (.dK kvs))) := fun q u e => by rw [upd_ne (nH e)]; exact sx _ _ e
  have slF : ∀ k u, valV kvs k = some u → ∃ s la rs, k = Sum.inl s ∧ u = .ref la ∧ (upd HG d (.frz o (.dK kvs))) la = some (.lst (rwV rs)) ∧ RwAt (upd HG d (.frz o (.dK kvs))) rs ∧ RwOk gs gs.length s rs := fun k u hk => by
   obtain ⟨s2, la2, rs2, f1, f2, f3, f4, f5, f6, f7⟩ := sl.v k u hk
   exact ⟨s2, la2, rs2, f1, f2, by rw [upd_ne f6]; exact f3, fun r hr => by rw [upd_ne (fun z => by have := f4 r hr; rw [z, hdx] at this; cases this)]; exact f4 r hr, f7⟩
  generalize upd HG d (.frz o (.dK kvs)) = HF at *
  refine g_forK (fun i σ Hx => ∃ (u2 u3 u4 u5 u6 u7 : Option V), σ = [some (.ref a), some (.ref d), u2, u3, u4, u5, u6, u7] ∧ Same HF Hx) ⟨_, _, _, _, _, _, rfl, Same.refl _⟩ (fun i σ Hx _ ⟨_, _, _, _, _, _, _, e⟩ => e _ _ hdf) ?_ ?_
  ·rintro i k v σ Hx hk ⟨u2, u3, u4, u5, u6, u7, rfl, sX⟩
   have hkm : k ∈ kvs.map (·.1) := List.mem_map.mpr ⟨_, List.mem_of_getElem? hk, rfl⟩
   obtain ⟨u, hu⟩ := Option.isSome_iff_exists.mp (val_mem.mpr hkm)
   obtain ⟨s0, la, rs, rfl, rfl, hla, hrs, rok⟩ := slF k u hu
   have rl := rok.len
   have L := Led.start Hx (fun _ => False)
   try dsimp only [gName]
   walk_at "go"
   refine g_dgetV ?_
   walk_at "go"
   refine ⟨d, _, rfl, .inl ⟨kvs, Sum.inl s0, .inr ⟨o, sX _ _ hdf⟩, rfl, hu.symm⟩, ?_⟩
   walk_at "go"
   refine g_sortT (ps := rs) (ad := fun r => r.1) (fun r => [r.2.1, r.2.2]) (fun r => r.2.1) 2 L (SqL.of (sX _ _ hla)) (by omega) (by decide) (fun r hr => ⟨sX _ _ (hrs r hr), rfl⟩) rok.lex fun lb qs H4 nb pm pw L s4 => ?_
   have hlb := L.eo (p := lb) .head
   have ql : (qs.map fun x : Addr × Int × Int => V.ref x.1).length = qs.length := List.length_map ..
   have pl := pm.length_eq
   have hq4 : ∀ r ∈ qs, H4 r.1 = some (.tup [.int r.2.1, .int r.2.2]) := fun r hr => s4 _ _ (sX _ _ (hrs r (pm.mem_iff.mp hr)))
   clear L
   walk_at "go"
   refine g_lenSq (SqL.of hlb) ?_
   walk_at "go"
   refine g_forR (fun j σ Hy => ∃ (u2 u3 u4 u7 : Option V), σ = [some (.ref a), some (.ref d), u2, u3, u4, some (.int s0), some (.ref lb), u7] ∧ Hy = H4) ⟨_, _, _, _, rfl, rfl⟩ ?_ ?_
   ·rintro j σ Hy hj ⟨u2, u3, u4, u7, rfl, rfl⟩
    have hj2 : j + 1 < qs.length := by omega
    obtain ⟨ra, ha'⟩ : ∃ r, qs[j]? = some r := ⟨_, List.getElem?_eq_getElem (show j < qs.length by omega)⟩
    obtain ⟨rb, hb'⟩ : ∃ r, qs[j + 1]? = some r := ⟨_, List.getElem?_eq_getElem hj2⟩
    have key := rok.sorted pm pw ha' hb'
    have g1 : atI (qs.map fun x : Addr × Int × Int => V.ref x.1) (1 + (j : Int)) = some (.ref rb.1) := by
     rw [show (1 + (j : Int)) = ((j + 1 : Nat) : Int) by omega]
     exact atI_nat (by rw [List.getElem?_map, hb']; rfl)
    have g2 : atI (qs.map fun x : Addr × Int × Int => V.ref x.1) (1 + (j : Int) - 1) = some (.ref ra.1) := by
     rw [show (1 + (j : Int) - 1) = (j : Int) by omega]
     exact atI_nat (by rw [List.getElem?_map, ha']; rfl)
    have L := ((Led.start Hy (fun _ => False)).more (tupAt ra.1 [.int ra.2.1, .int ra.2.2]) (hq4 ra (List.mem_of_getElem? ha'))).more (tupAt rb.1 [.int rb.2.1, .int rb.2.2]) (hq4 rb (List.mem_of_getElem? hb'))
    try dsimp only [gName]
    walk_at "go"
    refine g_ixSq (SqL.of hlb) g1 ?_
    walk_at "go"
    refine g_ixSq (SqL.of hlb) g2 ?_
    walk_at "go"
    exact ⟨_, _, _, _, rfl, rfl⟩
   ·rintro σ Hy ⟨u2, u3, u4, u7, rfl, rfl⟩
    walk_at "go"
    exact ⟨_, _, _, _, _, _, rfl, sX.trans s4⟩
  ·rintro σ Hx ⟨u2, u3, u4, u5, u6, u7, rfl, sX⟩
   walk_at "go"
   exact q _ (sF.trans sX)
end
end Law

namespace Law
open PySem PySem.Spec PyProof.Rows L2 L3 L4
section
variable {P : Program} {w : World} {K : PySem.W.Frag} {mg : Str → Option Value} {base : Heap} {CX : CXT} {C CS CL CN : Addr}
theorem hand_oth {H H' : Hp} {p q : Addr} {b : Int} (h : HandAt H p b) (c : Chg q H H') (n : p ≠ q) : HandAt H' p b := by
 obtain ⟨x, y, z, e, r⟩ := h
 exact ⟨x, y, z, c.oth _ _ e n, r⟩
theorem hand_lst {H : Hp} {p : Addr} {b : Int} (h : HandAt H p b) : ∃ zs, H p = some (.lst zs) := by
 obtain ⟨x, y, z, e, r⟩ := h
 exact ⟨_, e⟩
theorem old_ne {H : Hp} {p q : Addr} {o : HO} (h : H q = some o) (n : H p = none) : q ≠ p := fun z => by rw [z, n] at h; cases h
theorem EqG.slots {gs hs : List Gr} (h : EqG gs hs) {p : Gr → Prop} (hp : ∀ x y, gT x = gT y → p x → p y) (k : ∀ y ∈ gs, p y) : ∀ x ∈ hs, p x := fun x hx => by
 obtain ⟨i, hi, rfl⟩ := List.getElem_of_mem hx
 obtain ⟨y, hy, e⟩ := EqG.at_ (Eq.symm h) (List.getElem?_eq_getElem hi)
 exact hp y _ e.symm (k y (List.mem_of_getElem? hy))
theorem last_snoc {α : Type} {xs : List α} (h : xs.length ≠ 0) : ∃ ys x, xs = ys ++ [x] := by
 rcases List.eq_nil_or_concat xs with z | ⟨ys, x, z⟩
 ·rw [z] at h; exact absurd rfl h
 ·exact ⟨ys, x, by rw [z, List.concat_eq_append]⟩
end
end Law

namespace L4
open PySem PySem.Spec PySem.W PyProof.Rows L2 L3
section
variable {X : Cx} {K : Frag} {Ex : St → XK} {body suite suite2 : List Stmt} {b₀ c₀ : Stmt} {cx n cx2 n2 : Str} {np hpos pos np2 hpos2 : Pos} {CH CH2 : Addr} {i i2 : Nat} {tb : (St → XK) → TS} {th th2 : TS}
theorem op_eqDK (h : X.K = K) (hr : RoomU 0 X.A) : OpR X (compareOp .Eq) (rEqD K) := by
 subst h
 intro pins s σ H x y v u Q I rx ry h
 obtain ⟨d, e, hx, hy, hd, q⟩ := h
 exact rc_at I hd hx hy rx ry X.A (by have := hr.un; omega) _ _ _ _ ⟨.bl _, H, I, rfl, q⟩
end
end L4

namespace L4
open PySem PySem.Spec PyProof.Rows L2 L3 PySem.W
structure MCalU (P : Program) (w : World) (K : Frag) (mg : Str → Option Value) (base : Heap) (CX : CXT) (C : Addr) (m : Str) (k : Nat) (ps : List Str) (sp : Sp) : Prop where
 cl : Cls K C
 ex : ∃ f fd, Meth K C m f ∧ FnOkU P w K mg base CX k f fd ps sp ∧ Binds K fd ps []
section
variable {P : Program} {w : World} {K : Frag} {mg : Str → Option Value} {base : Heap} {CX : CXT} {x qual : Str} {C : Addr} {st : Stmt} {N ps : List Str} {k j : Nat} {sp : Sp}
theorem MCalU.cal (c : MCalU P w K mg base CX C x k ps sp) : MCal P w K mg base CX C x k ps sp := let ⟨f, fd, m, F, r⟩ := c.ex; ⟨c.cl, f, fd, m, F.fn, r⟩
theorem mdat_okU (D : MDat K C x qual st ps) (S : FnScope N ps (defScope st)) (len : ∀ vs H Q E, sp vs H Q E → vs.length = ps.length)
  (hbody : ∀ (f : Addr) (cdv : Value) (A : Around) (outer : List Env) (s : Shared) (H : Hp) (vs : List V) (Q : VK) (E : XK), RoomU k (A.deeper (envOfC qual (defScope st) s.heap.objs.size f cdv)) → sp vs H Q E →
   ∃ t, PSs (cxU CX P w K mg base N qual (defScope st) f cdv A outer s H E).nox (defBody st) t ∧ t { nx := fun _ H' => Q .non H', rt := Q } (start N vs) H) : MCalU P w K mg base CX C x (k + 1) ps sp := by
 obtain ⟨f, fd, F, b, m, c⟩ := D.ex
 obtain ⟨oc, od, kV, doc, pm, an, cdv, ct, osl, rfl, lk, hcd⟩ := F.ex
 refine ⟨c, f, _, m, fn_ofU lk hcd S len fun A outer s H vs Q E hr hsp => ?_, b⟩
 obtain ⟨t, h, q⟩ := hbody f cdv A outer s H vs Q E hr hsp
 exact ⟨t, h.nox, q⟩
end
section
variable {X : Cx} {CX : CXT} {k : Nat} {C : Addr} {ps : List Str} {sp : Sp} {E : XK} {m : Str} {pos apos : Pos} {o : Expr} {ta : TE}
theorem pe_mtU0 {pl : Sem Bool} (M : MCalU X.prog X.w X.K X.mg X.base CX C m k ps sp) (hr : RoomU k X.A) (hx : Passes CX X E) (he : PE X o ta)
  (ht : eval (.Call (.Attribute o m apos) [] [] pos) X.env = (do
   let ov ← eval o X.env
   standAt apos.atName
   let (f, first) ← holding [ov] (getMethod ov m pl)
   callWith pos f first (backTo pos (starEach [] X.env)) (backToKw pos (keywordEach [] X.env))) := by rfl) :
  PE X (.Call (.Attribute o m apos) [] [] pos) (tMeth C m sp [] E ta tNil) := by
 obtain ⟨f, fd, hm, F, b⟩ := M.ex
 intro pins s σ H Q I h
 refine methodCall_KW (pl := pl) (thn (he pins s σ H _ I h) fun u s1 ⟨x, H1, I1, rx, a, dx, fs, ex, ea, l, q⟩ => ?_) ht
 subst ex
 obtain rfl : u = Value.ref a := rx
 refine getmeth_ok I1 ea M.cl hm l ?_
 have q : sp [.ref a] H1 Q E := q
 have hl : [Value.ref a].length = ps.length := F.len _ _ _ _ q
 have hb' := b s1 [.ref a] I1.kIn (by rw [List.append_nil]; exact hl)
 rw [List.append_nil] at hb'
 refine callWith_K0 (first := [.ref a]) I1.kIn hm.kp ?_
 refine wpAny_call (codeAny_mono (F.run X.A X.stack s1 H1 ⟨[.ref a], []⟩ [.ref a] [.ref a] Q E hr I1.env0 hb' (.cons rfl .nil) q) fun r s' hq => ?_)
 cases r with
 | error e => exact hx pins σ H1 s1 e s' I1 hq
 | ok fl =>
  cases fl with
  | ret u => exact I1.after hq
  | _ => exact False.elim hq
end
end L4
namespace Law
open PySem PySem.Spec PyProof.Rows L2 L3 L4
section
variable {P : Program} {w : World} {K : PySem.W.Frag} {mg : Str → Option Value} {base : Heap} {CX : CXT} {C CS CL : Addr}
theorem ok_lgrantsU (D : MDat K CL "grants" "Lender.grants" (inClass (top 32) 1) ["self"]) (SC : LdC K CL) (BT : Bt mg) : MCalU P w K mg base CX CL "grants" 1 ["self"] (spLGrants K C CS CL) := by
 have S := sc_lgrants
 refine mdat_okU D S (fun vs H Q E h => ?_) (fun f cdv A outer s H vs Q E hr h => ?_)
 ·obtain ⟨d, gs, rfl, _⟩ := h
  rfl
 obtain ⟨d, gs, rfl, ⟨⟨dx, hp⟩, hl, hG, hss⟩, q⟩ := h
 refine ⟨_, (@pss_one _ _ _ (@ps_ret _ _ _ _ (@pe_callTy _ _ _ _ _ _ _ _ _ (@c_listOf _) rfl BT.list_ L3.bt_list (@pa_cons _ _ _ _ _ (@pe_fld _ _ _ _ _ (@pv _ 0 _ _ (by rfl) (by first | exact Or.inl rfl | exact Or.inr (Or.inl rfl) | exact Or.inr (Or.inr rfl)) (by decide) (by decide)) rfl) (@pa_nil _) (by rfl)) (by decide) (by decide) (by rfl) (by rfl)))), ?_⟩
 try dsimp only [cxU, cxOf]
 walk_at "go"
 refine ⟨d.p, CL, dx, _, _, rfl, hp, SC.cl, SC.n2, ldF_l _ _, ?_⟩
 walk_at "go"
 refine g_listOf (Led.start H (fun _ => False)) (.inl (SqL.of hl)) fun b HB nb L sB => ?_
 walk_at "go"
 exact q b HB nb (L.eo .head) sB
end
end Law

namespace Law
open PySem PySem.Spec PyProof.Rows L2 L3 L4
theorem sIx_negG {n : Nat} (h : 1 ≤ n) : HT.sIx n n (some (-1)) = n - 1 := by
 show (if (-1 : Int) < 0 then ((-1 : Int) + (n : Int)).toNat else min (-1 : Int).toNat n) = n - 1
 rw [if_pos (by decide)]
 omega
theorem cut_negG (gs : List Gr) (x : Gr) : cutV (grV (gs ++ [x])) none (some (-1)) = grV gs := by
 have hl : (grV (gs ++ [x])).length = gs.length + 1 := by rw [grV_len, List.length_append]; rfl
 unfold cutV
 rw [HT.sIx_none, sIx_negG (by omega), hl, List.drop_zero, Nat.sub_zero, grV_snoc, Nat.add_sub_cancel, List.take_append_of_le_length (by rw [grV_len]; exact Nat.le_refl _), List.take_of_length_le (by rw [grV_len]; exact Nat.le_refl _)]
theorem atI_last {xs : List V} {v : V} : atI (xs ++ [v]) (-1) = some v := by
 unfold atI ixN
 rw [if_neg (by decide), if_pos (by rw [List.length_append, List.length_singleton]; omega)]
 simp only [List.length_append, List.length_singleton]
 show (xs ++ [v])[((-1 : Int) + ((xs.length + 1 : Nat) : Int)).toNat]? = some v
 rw [show ((-1 : Int) + ((xs.length + 1 : Nat) : Int)).toNat = xs.length by omega]
 simp
section
variable {P : Program} {w : World} {K : PySem.W.Frag} {mg : Str → Option Value} {base : Heap} {C CS CL CN CG CO CR : Addr}
theorem sc_lheld : FnScope ["_law_shape", "_law_grants", "_law_one", "_law_grant", "_law_name", "_law_slot", "_law_first", "_law_end", "_law_marks", "_law_mark"] ["_law_shape", "_law_grants", "_law_one"] (defScope (top 47)) := by walk_at "s"
def spHeld46 (C : Addr) : Sp := fun vs H Q _ => ∃ (sp a : Addr) (c : Int) (s : Nat) (gs : List Gr) (x : Gr), vs = [.ref sp, .ref a, .ref x.g] ∧ ShN c s ∧ ShAt C H sp c s ∧ H a = some (.lst (grV gs)) ∧ GrsAt H gs ∧ GO gs ∧ GrsOk gs s ∧ x ∈ gs ∧ ∀ H', Same H H' → Q (.bl true) H'
theorem ok_lheld (D : Dat K mg "_law_held" "_law_held" (top 47) ["_law_shape", "_law_grants", "_law_one"]) (SC : ShC K C) (BT : Bt mg) (NE : NoErr (CX1 P w)) (c_holder_of : Cal P w K mg base (CX1 P w) "holder_of" 4 ["shape", "grants", "mark"] (spHolder K C CG CO)) : Cal P w K mg base (CX1 P w) "_law_held" 5 ["_law_shape", "_law_grants", "_law_one"] (spHeld46 C) := by
 have S := sc_lheld
 walk_at "d"
 ·obtain ⟨sp, a, c, s, gs, x, rfl, _⟩ := h
  rfl
 obtain ⟨sp, a, c, n, gs, x, rfl, shn, ⟨dx, hsp⟩, ha, hG, go, gok, hx, q⟩ := h
 refine ⟨_, (@pss_cons _ _ _ _ _ (@ps_for _ _ _ _ _ _ _ _ PassesOwn.never rfl (@pi_list _ _ _ _ (@pe_lst _ _ _ _ (@pa_cons _ _ _ _ _ (@pv _ 2 _ _ (by rfl) (by first | exact Or.inl rfl | exact Or.inr (Or.inl rfl) | exact Or.inr (Or.inr rfl)) (by decide) (by decide)) (@pa_cons _ _ _ _ _ (@pe_ix _ _ _ _ _ _ _ (@ix_list _) (@pv _ 1 _ _ (by rfl) (by first | exact Or.inl rfl | exact Or.inr (Or.inl rfl) | exact Or.inr (Or.inr rfl)) (by decide) (by decide)) (@pe_un _ _ _ _ _ _ (@un_neg _) (@pe_int _ _ _ _)) (fun _ _ => rfl)) (@pa_nil _) (by rfl)) (by rfl)))) (@pg_tup _ _ _ _ _ _ rfl (@pgs_cons _ _ _ _ _ (@pg_name _ _ 3 _ S.nd rfl (by first | exact Or.inl rfl | exact Or.inr rfl) (by first | exact .inl rfl | exact .inr rfl | assumption)) (@pgs_cons _ _ _ _ _ (@pg_name _ _ 4 _ S.nd rfl (by first | exact Or.inl rfl | exact Or.inr rfl) (by first | exact .inl rfl | exact .inr rfl | assumption)) (@pgs_cons _ _ _ _ _ (@pg_tup _ _ _ _ _ _ rfl (@pgs_cons _ _ _ _ _ (@pg_name _ _ 5 _ S.nd rfl (by first | exact Or.inl rfl | exact Or.inr rfl) (by first | exact .inl rfl | exact .inr rfl | assumption)) (@pgs_cons _ _ _ _ _ (@pg_name _ _ 6 _ S.nd rfl (by first | exact Or.inl rfl | exact Or.inr rfl) (by first | exact .inl rfl | exact .inr rfl | assumption)) (@pgs_cons _ _ _ _ _ (@pg_name _ _ 7 _ S.nd rfl (by first | exact Or.inl rfl | exact Or.inr rfl) (by first | exact .inl rfl | exact .inr rfl | assumption)) (@pgs_nil _) (by rfl)) (by rfl)) (by rfl)) (by rfl) (by rfl)) (@pgs_nil _) (by rfl)) (by rfl)) (by rfl)) (by rfl) (by rfl)) (@pss_cons _ _ _ _ _ (@ps_set _ _ 8 _ _ _ _ S.nd rfl (by first | exact Or.inl rfl | exact Or.inr rfl) (@pe_lst _ _ _ _ (@pa_cons _ _ _ _ _ (@pe_op _ _ _ _ _ _ _ _ (@op_mulB _) (@pe_op _ _ _ _ _ _ _ _ (@op_add _) (@pe_op _ _ _ _ _ _ _ _ (@op_mulB _) (@pv _ 6 _ _ (by rfl) (by first | exact Or.inl rfl | exact Or.inr (Or.inl rfl) | exact Or.inr (Or.inr rfl)) (by decide) (by decide)) (@pe_fld _ _ _ _ _ (@pv _ 0 _ _ (by rfl) (by first | exact Or.inl rfl | exact Or.inr (Or.inl rfl) | exact Or.inr (Or.inr rfl)) (by decide) (by decide)) rfl)) (@pv _ 5 _ _ (by rfl) (by first | exact Or.inl rfl | exact Or.inr (Or.inl rfl) | exact Or.inr (Or.inr rfl)) (by decide) (by decide))) (@pe_fld _ _ _ _ _ (@pv _ 0 _ _ (by rfl) (by first | exact Or.inl rfl | exact Or.inr (Or.inl rfl) | exact Or.inr (Or.inr rfl)) (by decide) (by decide)) rfl)) (@pa_nil _) (by rfl))) (by rfl) (by first | exact .inl rfl | exact .inr rfl | assumption)) (@pss_cons _ _ _ _ _ (@ps_expr _ _ _ _ (@pe_bm _ _ _ _ _ _ _ _ _ _ _ _ PySem.F.plainAttrs_list PySem.F.slot_list_append PySem.F.type_list_append (@mt_append _) (@pv _ 8 _ _ (by rfl) (by first | exact Or.inl rfl | exact Or.inr (Or.inl rfl) | exact Or.inr (Or.inr rfl)) (by decide) (by decide)) (@pa_cons _ _ _ _ _ (@pe_op _ _ _ _ _ _ _ _ (@op_sub _) (@pe_op _ _ _ _ _ _ _ _ (@op_add _) (@pe_op _ _ _ _ _ _ _ _ (@op_mulB _) (@pe_op _ _ _ _ _ _ _ _ (@op_add _) (@pe_op _ _ _ _ _ _ _ _ (@op_mulB _) (@pe_op _ _ _ _ _ _ _ _ (@op_sub _) (@pv _ 7 _ _ (by rfl) (by first | exact Or.inl rfl | exact Or.inr (Or.inl rfl) | exact Or.inr (Or.inr rfl)) (by decide) (by decide)) (@pe_int _ _ _ _)) (@pe_fld _ _ _ _ _ (@pv _ 0 _ _ (by rfl) (by first | exact Or.inl rfl | exact Or.inr (Or.inl rfl) | exact Or.inr (Or.inr rfl)) (by decide) (by decide)) rfl)) (@pv _ 5 _ _ (by rfl) (by first | exact Or.inl rfl | exact Or.inr (Or.inl rfl) | exact Or.inr (Or.inr rfl)) (by decide) (by decide))) (@pe_fld _ _ _ _ _ (@pv _ 0 _ _ (by rfl) (by first | exact Or.inl rfl | exact Or.inr (Or.inl rfl) | exact Or.inr (Or.inr rfl)) (by decide) (by decide)) rfl)) (@pe_fld _ _ _ _ _ (@pv _ 0 _ _ (by rfl) (by first | exact Or.inl rfl | exact Or.inr (Or.inl rfl) | exact Or.inr (Or.inr rfl)) (by decide) (by decide)) rfl)) (@pe_int _ _ _ _)) (@pa_nil _) (by rfl)) (by rfl) (by rfl) (by rfl) (by rfl) (by rfl)) (by rfl)) (@pss_one _ _ _ (@ps_for _ _ _ _ _ _ _ _ PassesOwn.never rfl (@pi_list _ _ _ _ (@pv _ 8 _ _ (by rfl) (by first | exact Or.inl rfl | exact Or.inr (Or.inl rfl) | exact Or.inr (Or.inr rfl)) (by decide) (by decide))) (@pg_name _ _ 9 _ S.nd rfl (by first | exact Or.inl rfl | exact Or.inr rfl) (by first | exact .inl rfl | exact .inr rfl | assumption)) (@pss_one _ _ _ (@ps_if _ _ _ _ _ _ _ _ (@PW.pt _ _ _ (@pw_and _ _ _ _ _ _ _ (@pt_cmpR _ _ _ _ _ _ _ _ (@op_lt _) (@pv _ 6 _ _ (by rfl) (by first | exact Or.inl rfl | exact Or.inr (Or.inl rfl) | exact Or.inr (Or.inr rfl)) (by decide) (by decide)) (@pv _ 7 _ _ (by rfl) (by first | exact Or.inl rfl | exact Or.inr (Or.inl rfl) | exact Or.inr (Or.inr rfl)) (by decide) (by decide)) (@nomark _ _ (by decide) (by decide))) (@pw_and1 _ _ _ _ (@pt_cmpR _ _ _ _ _ _ _ _ (@op_neD _ (hr.mono (Nat.zero_le _))) (@pe_fn _ _ _ _ _ _ _ _ _ _ _ _ c_holder_of (hr.mono (by first | decide | omega)) NE.pass (@pa_cons _ _ _ _ _ (@pv _ 0 _ _ (by rfl) (by first | exact Or.inl rfl | exact Or.inr (Or.inl rfl) | exact Or.inr (Or.inr rfl)) (by decide) (by decide)) (@pa_cons _ _ _ _ _ (@pv _ 1 _ _ (by rfl) (by first | exact Or.inl rfl | exact Or.inr (Or.inl rfl) | exact Or.inr (Or.inr rfl)) (by decide) (by decide)) (@pa_cons _ _ _ _ _ (@pv _ 9 _ _ (by rfl) (by first | exact Or.inl rfl | exact Or.inr (Or.inl rfl) | exact Or.inr (Or.inr rfl)) (by decide) (by decide)) (@pa_nil _) (by rfl)) (by rfl)) (by rfl)) (by rfl) (by decide) (by rfl) (by rfl)) (@pe_tup _ _ _ _ _ (@pa_cons _ _ _ _ _ (@pv _ 3 _ _ (by rfl) (by first | exact Or.inl rfl | exact Or.inr (Or.inl rfl) | exact Or.inr (Or.inr rfl)) (by decide) (by decide)) (@pa_cons _ _ _ _ _ (@pv _ 4 _ _ (by rfl) (by first | exact Or.inl rfl | exact Or.inr (Or.inl rfl) | exact Or.inr (Or.inr rfl)) (by decide) (by decide)) (@pa_nil _) (by rfl)) (by rfl))) (@nomark _ _ (by decide) (by decide)))))) (@pss_one _ _ _ (@ps_ret _ _ _ _ (@pe_bl _ _ _ _))) (@pss_nil _))) (by intro _; rfl))))) (by intro _; rfl)) (@pss_one _ _ _ (@ps_ret _ _ _ _ (@pe_bl _ _ _ _)))), ?_⟩
 try dsimp only [cxOf]
 have h63 := gok.len
 obtain ⟨ys, y, eys⟩ := last_snoc (xs := gs) (fun z => by rw [List.length_eq_zero_iff.mp z] at hx; cases hx)
 have hy : y ∈ gs := by rw [eys]; exact List.mem_append_right _ (List.mem_singleton.mpr rfl)
 have hlast : atI (grV gs) (-1) = some (.ref y.g) := by rw [eys, grV_snoc]; exact atI_last
 have L := Led.start H (fun _ => False)
 walk_at "go"
 refine g_ixSq (SqL.of ha) hlast ?_
 walk_at "go"
 have hl2 := L'.eo (p := l') .head
 have s2 : Same H H' := L'.same
 clear L L'
 rename Hp => H2; rename Addr => l2
 refine g_forL [V.ref x.g, V.ref y.g] (fun i σ Hx => ∃ (u3 u4 u5 u6 u7 u8 u9 : Option V), σ = [some (.ref sp), some (.ref a), some (.ref x.g), u3, u4, u5, u6, u7, u8, u9] ∧ Same H2 Hx) ⟨_, _, _, _, _, _, _, rfl, Same.refl _⟩ (fun i σ Hx _ ⟨_, _, _, _, _, _, _, _, sx⟩ => SqL.of (sx _ _ hl2)) ?_ ?_
 ·rintro i v σ HG hv ⟨u3, u4, u5, u6, u7, u8, u9, rfl, sx⟩
  obtain ⟨z, hz, rfl⟩ : ∃ z ∈ gs, v = .ref z.g := by
   have := List.mem_of_getElem? hv
   simp only [List.mem_cons, List.not_mem_nil, or_false] at this
   rcases this with rfl | rfl
   ·exact ⟨x, hx, rfl⟩
   ·exact ⟨y, hy, rfl⟩
  have sG := s2.trans sx
  have hgz := (hG z hz).same sG
  obtain ⟨b1, b2, b3⟩ := go.bd z hz
  obtain ⟨z1, z2⟩ := gok.sl z hz
  have l30 : last30 = 1000000000000000000000000000000 := rfl
  have c1 := shn.c1
  have c2 := shn.c2
  have s1' := shn.s1
  have s2' := shn.s2
  have L := ((Led.start HG (fun _ => False)).more (tupAt z.g [_, _, _]) hgz.1).more (tupAt z.ar [_, _, _]) hgz.2
  have hspG := sG _ _ hsp
  have m1a := Int.mul_nonneg b1 (show (0 : Int) ≤ n by omega)
  have m1b := Int.mul_le_mul_of_nonneg_left (show (n : Int) ≤ 1000 by omega) b1
  have m2b := Int.mul_le_mul_of_nonneg_right (show z.e - 1 ≤ 1000000000000000000000000000000 by omega) (show (0 : Int) ≤ n by omega)
  have m2c := Int.mul_le_mul_of_nonneg_right (show -1 ≤ z.e - 1 by omega) (show (0 : Int) ≤ n by omega)
  have slo : ∀ {Hx : Hp} {Q : VK}, Same HG Hx → Q (.int n) Hx → Fld K "slots" (.ref sp) Hx Q := fun sm q => ⟨sp, C, dx, _, _, rfl, sm _ _ hspG, SC.cl, SC.ns, shF_s _ _, q⟩
  have cou : ∀ {Hx : Hp} {Q : VK}, Same HG Hx → Q (.int c) Hx → Fld K "counts" (.ref sp) Hx Q := fun sm q => ⟨sp, C, dx, _, _, rfl, sm _ _ hspG, SC.cl, SC.nc, shF_c _ _, q⟩
  try dsimp only [gName]
  walk_at "go"
  refine slo (Same.refl _) ?_
  walk_at "go"
  refine cou (Same.refl _) ?_
  walk_at "go"
  refine slo L'.same ?_
  walk_at "go"
  refine cou L'.same ?_
  walk_at "go"
  refine cou L'.same ?_
  walk_at "go"
  have hlm := L'.eo (p := l') (by walk_at "put")
  have s3 : Same HG H' := L'.same
  clear L L'
  obtain ⟨lm, elm⟩ : ∃ z, z = l' := ⟨_, rfl⟩
  obtain ⟨H3, eH3⟩ : ∃ z, z = H' := ⟨_, rfl⟩
  rw [← elm] at hlm
  rw [← eH3] at s3 hlm
  subst elm eH3
  obtain ⟨ms, hlm, hms⟩ : ∃ ms : List V, H3 lm = some (.lst ms) ∧ ∀ v ∈ ms, ∃ t k : Int, v = .int (Law.mk c n t z.sl k) ∧ 0 ≤ k ∧ k < c ∧ (z.f < z.e → z.f ≤ t ∧ t < z.e) := ⟨_, hlm, fun v hv => by
   simp only [List.cons_append, List.nil_append, List.mem_cons, List.not_mem_nil, or_false] at hv
   rcases hv with rfl | rfl
   ·exact ⟨z.f, 0, by unfold Law.mk; rw [Int.add_zero], by omega, by omega, fun h => ⟨by omega, h⟩⟩
   ·exact ⟨z.e - 1, c - 1, by unfold Law.mk; rw [show ((z.e - 1) * (n : Int) + z.sl) * c + c - 1 = ((z.e - 1) * (n : Int) + z.sl) * c + (c - 1) by omega], by omega, by omega, fun h => ⟨by omega, by omega⟩⟩⟩
  have haG := sG _ _ ha
  have hGG := hG.same sG
  refine g_forL ms (fun j σ Hx => ∃ (u9 : Option V), σ = [some (.ref sp), some (.ref a), some (.ref x.g), some (.int z.n), some (.str z.nm), some (.int z.sl), some (.int z.f), some (.int z.e), some (.ref lm), u9] ∧ Same H3 Hx) ⟨_, rfl, Same.refl _⟩ (fun j σ Hx _ ⟨_, _, sy⟩ => SqL.of (sy _ _ hlm)) ?_ ?_
  ·rintro j v σ Hx hv ⟨u9, rfl, sy⟩
   obtain ⟨t, k, rfl, k0, k1, ht⟩ := hms v (List.mem_of_getElem? hv)
   have s4 := s3.trans sy
   try dsimp only [gName]
   walk_at "go"
   refine g_ifD (fun c0 => ?_) (fun c0 => ?_)
   ·obtain ⟨t0, t1⟩ := ht c0
    have eh := go.hol shn hz z1 z2 k0 k1 t0 t1
    walk_at "go"
    refine ⟨sp, a, c, n, _, gs, rfl, shn, ⟨dx, s4 _ _ hspG⟩, SqL.of (s4 _ _ haG), hGG.same s4, h63, mk_nonneg shn (by omega) z1 k0, (fun e => by rw [eh] at e; cases e), (fun _ _ _ e => by rw [eh] at e; cases e), fun x0 e t9 H9 s9 ht9 => ?_⟩
    rw [eh] at e
    cases e
    have L := Led.start H9 (fun _ => False)
    walk_at "go"
    refine g_neDF (d := .tup [.int z.n, .str z.nm]) (.tup (SqT.of (L'.same _ _ ht9)) (.cons (.int _) (.cons (.str _) .nil))) (.tup (SqT.of (L'.tup (by walk_at "mem"))) (.cons (.int _) (.cons (.str _) .nil))) (by simp [dep, deps]) ?_
    walk_at "go"
    exact ⟨_, rfl, sy.trans (s9.trans L'.same)⟩
   ·walk_at "go"
    exact ⟨_, rfl, sy⟩
  ·rintro σ Hx ⟨u9, rfl, sy⟩
   walk_at "go"
   exact ⟨_, _, _, _, _, _, _, rfl, sx.trans (s3.trans sy)⟩
 ·rintro σ HG ⟨u3, u4, u5, u6, u7, u8, u9, rfl, sx⟩
  walk_at "go"
  exact q _ (s2.trans sx)
def FrL (p l : Addr) (H H' : Hp) : Prop := ∀ q o, H q = some o → q ≠ p → q ≠ l → H' q = some o
theorem sc_lends : FnScope ["_law_lender", "_law_slots", "_law_term_here", "_law_hand_here", "_law_ahead", "_law_name", "_law_least_here", "_law_found"] ["_law_lender", "_law_slots", "_law_term_here", "_law_hand_here"] (defScope (top 48)) := by walk_at "s"
structure Lo (K : PySem.W.Frag) (C CS CL : Addr) (H : Hp) (d : Ld) (gs : List Gr) (n : Nat) : Prop where
 ld : LdAt K C CS CL H d gs
 go : GO gs
 ok : GrsOk gs d.s
 len : gs.length ≤ n
theorem Lo.same {H H' : Hp} {d : Ld} {gs : List Gr} {n : Nat} (h : Lo K C CS CL H d gs n) (s : Same H H') : Lo K C CS CL H' d gs n := ⟨h.ld.same s, h.go, h.ok, h.len⟩
def spLends (K : PySem.W.Frag) (C CS CL : Addr) : Sp := fun vs H Q _ => ∃ (d : Ld) (gs : List Gr) (p : Addr) (b : Int) (n : Nat), vs = [.ref d.p, .int d.s, .int d.term, .ref p] ∧ Lo K C CS CL H d gs n ∧ n ≤ 61 ∧ ("apart" : Str) ∈ d.ws ∧ HandAt H p b ∧ b ≤ 100000 ∧ d.l ≠ p ∧
 ∀ gs' H', Lo K C CS CL H' d gs' (n + 1) → HandAt H' p (b + 16384) → FrL p d.l H H' → Q (.bl true) H'
theorem ok_lends (D : Dat K mg "_law_lends" "_law_lends" (top 48) ["_law_lender", "_law_slots", "_law_term_here", "_law_hand_here"]) (SC : LdC K CL) (BT : Bt mg) (NE : NoErr (CX1 P w)) (hm_NoRoom : mg "NoRoom" = some (.ref CN)) (mN : PySem.W.exmOne K (.ref CN) (.ref CN) = some true) (M_Lender_grants : MCal P w K mg base (CX1 P w) CL "grants" 1 ["self"] (spLGrants K C CS CL)) (MU_Lender_grants : MCalU P w K mg base (CX1 P w) CL "grants" 1 ["self"] (spLGrants K C CS CL)) (M_Lender_lend : MCal P w K mg base (CX1 P w) CL "lend" 5 ["self", "hand", "least"] (spLend K C CS CL CN)) (c__law_word : Cal P w K mg base (CX1 P w) "_law_word" 12 ["_law_hand_here"] spWord) (c__law_least : Cal P w K mg base (CX1 P w) "_law_least" 12 ["_law_hand_here", "_law_lent", "_law_term_here"] spLLeast) (c__law_early : Cal P w K mg base (CX1 P w) "_law_early" 3 ["_law_ahead", "_law_slots", "_law_least_here", "_law_area"] spEarly) : Cal P w K mg base (CX1 P w) "_law_lends" 13 ["_law_lender", "_law_slots", "_law_term_here", "_law_hand_here"] (spLends K C CS CL) := by
 have S := sc_lends
 walk_at "d"
 ·obtain ⟨d, gs, p, b, n, rfl, _⟩ := h
  rfl
 obtain ⟨d, gs, p, b, n, rfl, lo, n61, hap, hh, hb, ndp, q⟩ := h
 refine ⟨_, (@pss_cons _ _ _ _ _ (@ps_set _ _ 4 _ _ _ _ S.nd rfl (by first | exact Or.inl rfl | exact Or.inr rfl) (@pe_mt0 _ _ _ _ _ _ _ _ _ _ _ _ _ M_Lender_grants (hr.mono (by first | decide | omega)) NE.pass (@pv _ 0 _ _ (by rfl) (by first | exact Or.inl rfl | exact Or.inr (Or.inl rfl) | exact Or.inr (Or.inr rfl)) (by decide) (by decide)) (by rfl)) (by rfl) (by first | exact .inl rfl | exact .inr rfl | assumption)) (@pss_cons _ _ _ _ _ (@ps_set _ _ 5 _ _ _ _ S.nd rfl (by first | exact Or.inl rfl | exact Or.inr rfl) (@pe_fn _ _ _ _ _ _ _ _ _ _ _ _ c__law_word (hr.mono (by first | decide | omega)) NE.pass (@pa_cons _ _ _ _ _ (@pv _ 3 _ _ (by rfl) (by first | exact Or.inl rfl | exact Or.inr (Or.inl rfl) | exact Or.inr (Or.inr rfl)) (by decide) (by decide)) (@pa_nil _) (by rfl)) (by rfl) (by decide) (by rfl) (by rfl)) (by rfl) (by first | exact .inl rfl | exact .inr rfl | assumption)) (@pss_cons _ _ _ _ _ (@ps_set _ _ 6 _ _ _ _ S.nd rfl (by first | exact Or.inl rfl | exact Or.inr rfl) (@pe_fn _ _ _ _ _ _ _ _ _ _ _ _ c__law_least (hr.mono (by first | decide | omega)) NE.pass (@pa_cons _ _ _ _ _ (@pv _ 3 _ _ (by rfl) (by first | exact Or.inl rfl | exact Or.inr (Or.inl rfl) | exact Or.inr (Or.inr rfl)) (by decide) (by decide)) (@pa_cons _ _ _ _ _ (@pv _ 4 _ _ (by rfl) (by first | exact Or.inl rfl | exact Or.inr (Or.inl rfl) | exact Or.inr (Or.inr rfl)) (by decide) (by decide)) (@pa_cons _ _ _ _ _ (@pv _ 2 _ _ (by rfl) (by first | exact Or.inl rfl | exact Or.inr (Or.inl rfl) | exact Or.inr (Or.inr rfl)) (by decide) (by decide)) (@pa_nil _) (by rfl)) (by rfl)) (by rfl)) (by rfl) (by decide) (by rfl) (by rfl)) (by rfl) (by first | exact .inl rfl | exact .inr rfl | assumption)) (@pss_cons _ _ _ _ _ (@ps_set _ _ 7 _ _ _ _ S.nd rfl (by first | exact Or.inl rfl | exact Or.inr rfl) (@pe_non _ _ _) (by rfl) (by first | exact .inl rfl | exact .inr rfl | assumption)) (@pss_cons _ _ _ _ _ (@ps_tryK _ _ _ _ _ _ _ _ _ _ _ _ _ rfl rfl rfl hm_NoRoom (@paX_no _) (fun _ _ => (@pss_one _ _ _ (@ps_set _ _ 7 _ _ _ _ S.nd rfl (by first | exact Or.inl rfl | exact Or.inr rfl) (@pe_mtX _ _ _ _ _ _ _ _ _ _ _ _ _ _ _ M_Lender_lend (hr.mono (by first | decide | omega)) (@paX_self _ _) (@pv _ 0 _ _ (by rfl) (by first | exact Or.inl rfl | exact Or.inr (Or.inl rfl) | exact Or.inr (Or.inr rfl)) (by decide) (by decide)) (@pa_cons _ _ _ _ _ (@pv _ 5 _ _ (by rfl) (by first | exact Or.inl rfl | exact Or.inr (Or.inl rfl) | exact Or.inr (Or.inr rfl)) (by decide) (by decide)) (@pa_cons _ _ _ _ _ (@pv _ 6 _ _ (by rfl) (by first | exact Or.inl rfl | exact Or.inr (Or.inl rfl) | exact Or.inr (Or.inr rfl)) (by decide) (by decide)) (@pa_nil _) (by rfl)) (by rfl)) (by rfl) (by rfl) (by rfl)) (by rfl) (by first | exact .inl rfl | exact .inr rfl | assumption)))) (fun _ => (@pss_one _ _ _ (@ps_ret _ _ _ _ (@pe_cmpR _ _ _ _ _ _ _ _ (op_eqDK (K := K) rfl (((roomU hr).mark _).mono (Nat.zero_le _))) (pe_mtU0 MU_Lender_grants (((roomU hr).mark _).mono (by first | decide | omega)) NE.pass (@pv _ 0 _ _ (by rfl) (by first | exact Or.inl rfl | exact Or.inr (Or.inl rfl) | exact Or.inr (Or.inr rfl)) (by decide) (by decide))) (@pv _ 4 _ _ (by rfl) (by first | exact Or.inl rfl | exact Or.inr (Or.inl rfl) | exact Or.inr (Or.inr rfl)) (by decide) (by decide)) (@nomark _ _ (by decide) (by decide)))))) (by rfl) (by decide)) (@pss_one _ _ _ (@ps_ret _ _ _ _ (@pe_and _ _ _ _ _ _ _ (@pe_fn _ _ _ _ _ _ _ _ _ _ _ _ c__law_early (hr.mono (by first | decide | omega)) NE.pass (@pa_cons _ _ _ _ _ (@pv _ 4 _ _ (by rfl) (by first | exact Or.inl rfl | exact Or.inr (Or.inl rfl) | exact Or.inr (Or.inr rfl)) (by decide) (by decide)) (@pa_cons _ _ _ _ _ (@pv _ 1 _ _ (by rfl) (by first | exact Or.inl rfl | exact Or.inr (Or.inl rfl) | exact Or.inr (Or.inr rfl)) (by decide) (by decide)) (@pa_cons _ _ _ _ _ (@pv _ 6 _ _ (by rfl) (by first | exact Or.inl rfl | exact Or.inr (Or.inl rfl) | exact Or.inr (Or.inr rfl)) (by decide) (by decide)) (@pa_cons _ _ _ _ _ (@pe_ix _ _ _ _ _ _ _ (@ix_tup _) (@pv _ 7 _ _ (by rfl) (by first | exact Or.inl rfl | exact Or.inr (Or.inl rfl) | exact Or.inr (Or.inr rfl)) (by decide) (by decide)) (@pe_int _ _ _ _) (fun _ _ => rfl)) (@pa_nil _) (by rfl)) (by rfl)) (by rfl)) (by rfl)) (by rfl) (by decide) (by rfl) (by rfl)) (@pe_one _ _ _ _ _ (@pe_cmpR _ _ _ _ _ _ _ _ (@op_eqD _ (hr.mono (Nat.zero_le _))) (@pe_slice _ _ _ _ _ _ _ _ _ _ (@sl_list _) (@pe_mt0 _ _ _ _ _ _ _ _ _ _ _ _ _ M_Lender_grants (hr.mono (by first | decide | omega)) NE.pass (@pv _ 0 _ _ (by rfl) (by first | exact Or.inl rfl | exact Or.inr (Or.inl rfl) | exact Or.inr (Or.inr rfl)) (by decide) (by decide)) (by rfl)) (@po_none _) (@po_some _ _ _ (@pe_un _ _ _ _ _ _ (@un_neg _) (@pe_int _ _ _ _)))) (@pv _ 4 _ _ (by rfl) (by first | exact Or.inl rfl | exact Or.inr (Or.inl rfl) | exact Or.inr (Or.inr rfl)) (by decide) (by decide)) (@nomark _ _ (by decide) (by decide)))))))))))), ?_⟩
 try dsimp only [cxOf]
 have gl := lo.len
 obtain ⟨⟨dx, hdp⟩, _⟩ := id lo.ld
 walk_at "go"
 refine g_methv hdp m_grants ?_
 walk_at "go"
 refine ⟨d, gs, rfl, lo.ld, fun ah H1 nah hah s1 => ?_⟩
 have lo1 := lo.same s1
 have hh1 := hh.same s1
 have nap : ah ≠ p := fun z => by rw [z] at nah; exact hh.not_none nah
 walk_at "go"
 refine ⟨p, b, rfl, hh1, by omega, fun nm H2 hnm hh2 o2 => ?_⟩
 have lpx : ∀ {Ha Hb : Hp} {bb : Int}, HandAt Ha p bb → LdAt K C CS CL Ha d gs → Oth p Ha Hb → LdAt K C CS CL Hb d gs := fun {Ha Hb bb} hha ld o => by
  obtain ⟨zs, hz⟩ := hand_lst hha
  exact ld.chg hz ndp (hha.ts o)
 have ld2 := lpx hh1 lo1.ld o2
 have hah2 := o2 _ _ hah nap
 walk_at "go"
 refine ⟨p, ah, d.term, _, gs, rfl, hh2, by omega, hah2, ld2.2.2.1, by omega, nap, fun le H3 l0 l1 hh3 o3 => ?_⟩
 have ld3 := lpx hh2 ld2 o3
 have hah3 := o3 _ _ hah2 nap
 obtain ⟨⟨dx3, hdp3⟩, _⟩ := id ld3
 have naL : ah ≠ d.l := fun z => by obtain ⟨_, hl, _⟩ := lo.ld; rw [z, hl] at nah; cases nah
 have fr3 : FrL p d.l H H3 := fun x o e n1 n2 => o3 _ _ (o2 _ _ (s1 _ _ e) n1) n1
 walk_at "go"
 refine g_methv hdp3 m_lend ?_
 walk_at "go"
 refine ⟨d, gs, nm, le, rfl, ld3, lo.ok, l0, fun x y nx hl H4 s4 => g_hand mN ?_, fun x y nx hl g ar t H4 ld4 ht ch => ?_⟩
 ·have ld4 := ld3.same s4
  obtain ⟨⟨dx4, hdp4⟩, _⟩ := id ld4
  walk_at "go"
  refine g_methv hdp4 m_grants ?_
  walk_at "go"
  refine ⟨d, gs, rfl, ld4, fun a5 H5 n5 h5 s5 => ?_⟩
  walk_at "go"
  refine g_eqDT (d := .lst (gs.map grD)) (grs_at (SqL.of h5) ((ld4.same s5).2.2.1)) (grs_at (SqL.of (s5 _ _ (s4 _ _ hah3))) ((ld4.same s5).2.2.1)) (grs_dep' gs) ?_
  exact q gs _ ⟨ld4.same s5, lo.go, lo.ok, by omega⟩ (((hh3.same s4).same s5).mono (by omega)) fun x o e n1 n2 => s5 _ _ (s4 _ _ (fr3 x o e n1 n2))
 ·rw [decide_eq_true hap] at nx
  have hah4 := ch.oth _ _ hah3 naL
  obtain ⟨_, hl3, hG3, _⟩ := id ld3
  obtain ⟨⟨dx4, hdp4⟩, hl4, hG4, hsg4⟩ := id ld4
  have hgx := hG4 ⟨g, ar, gs.length + 1, nm, x, y, y + d.term⟩ (List.mem_append_right _ (List.mem_singleton.mpr rfl))
  have t1 := hsg4.n.t0
  have go4 := lo.go.lend (g := g) (ar := ar) (n := gs.length + 1) (nm := nm) l0 nx t1 hl
  have ok4 : GrsOk (gs ++ [⟨g, ar, gs.length + 1, nm, x, y, y + d.term⟩]) d.s := ⟨fun z hz => by
   rcases List.mem_append.mp hz with hz | hz
   ·exact lo.ok.sl z hz
   ·rw [List.mem_singleton.mp hz]
    unfold Nx at nx
    rw [if_pos rfl] at nx
    obtain ⟨j, nj, rfl, _⟩ := nx
    have := nj.lt
    exact ⟨by show (0 : Int) ≤ j; omega, by show (j : Int) < d.s; omega⟩, by rw [List.length_append, List.length_singleton]; omega⟩
  have L := (Led.start H4 (fun _ => False)).more (tupAt t [_, _]) ht
  walk_at "go"
  refine ⟨ah, ar, d.s, le, x, y, y + d.term, gs, rfl, hah4, hG3.ts ch.ts, lo.ok, l0, hgx.2, nx, fun H5 s5 => ?_⟩
  clear L
  have ld5 := ld4.same s5
  walk_at "go"
  refine g_methv (s5 _ _ hdp4) m_grants ?_
  walk_at "go"
  refine ⟨d, _, rfl, ld5, fun a6 H6 n6 h6 s6 => ?_⟩
  walk_at "go"
  refine g_slE (SqL.of h6) fun a7 H7 n7 h7 s7 => ?_
  rw [cut_negG] at h7
  have hG7 := (((hG3.ts ch.ts).same s5).same s6).same s7
  walk_at "go"
  refine g_eqDT (d := .lst (gs.map grD)) (grs_at (SqL.of h7) hG7) (grs_at (SqL.of (s7 _ _ (s6 _ _ (s5 _ _ hah4)))) hG7) (grs_dep' gs) ?_
  refine q _ _ ⟨(ld5.same s6).same s7, go4, ok4, by rw [List.length_append, List.length_singleton]; omega⟩ ?_ fun x o e n1 n2 => s7 _ _ (s6 _ _ (s5 _ _ (ch.oth _ _ (fr3 x o e n1 n2) n2)))
  exact ((((hand_oth hh3 ch (Ne.symm ndp)).same s5).same s6).same s7).mono (by omega)
theorem m_fre46 {ps l : Addr} : (ldF ps l).lookup ("free" : Str) = none := l_miss (by decide +kernel) (by decide +kernel)
theorem sc_lfrees : FnScope ["_law_lender", "_law_hand_here", "_law_grant", "_law_end"] ["_law_lender", "_law_hand_here"] (defScope (top 49)) := by walk_at "s"
def spFrees (K : PySem.W.Frag) (C CS CL : Addr) : Sp := fun vs H Q _ => ∃ (d : Ld) (gs : List Gr) (p : Addr) (b : Int) (n : Nat), vs = [.ref d.p, .ref p] ∧ Lo K C CS CL H d gs n ∧ n ≤ 61 ∧ 0 < gs.length ∧ HandAt H p b ∧ b ≤ 100000 ∧ d.l ≠ p ∧
 ∀ gs' H', Lo K C CS CL H' d gs' n → HandAt H' p (b + 16384) → FrL p d.l H H' → Q (.bl true) H'
theorem ok_lfrees (D : Dat K mg "_law_frees" "_law_frees" (top 49) ["_law_lender", "_law_hand_here"]) (SC : LdC K CL) (BT : Bt mg) (NE : NoErr (CX1 P w)) (M_Lender_grants : MCal P w K mg base (CX1 P w) CL "grants" 1 ["self"] (spLGrants K C CS CL)) (M_Lender_free : MCal P w K mg base (CX1 P w) CL "free" 6 ["self", "grant", "end"] (spFree K C CS CL)) (c__law_ending : Cal P w K mg base (CX1 P w) "_law_ending" 12 ["_law_hand_here", "_law_lent"] spLEnding) : Cal P w K mg base (CX1 P w) "_law_frees" 13 ["_law_lender", "_law_hand_here"] (spFrees K C CS CL) := by
 have S := sc_lfrees
 walk_at "d"
 ·obtain ⟨d, gs, p, b, n, rfl, _⟩ := h
  rfl
 obtain ⟨d, gs, p, b, n, rfl, lo, n61, g0, hh, hb, ndp, q⟩ := h
 refine ⟨_, (@pss_cons _ _ _ _ _ (@ps_asg _ _ _ _ _ _ (@pe_fn _ _ _ _ _ _ _ _ _ _ _ _ c__law_ending (hr.mono (by first | decide | omega)) NE.pass (@pa_cons _ _ _ _ _ (@pv _ 1 _ _ (by rfl) (by first | exact Or.inl rfl | exact Or.inr (Or.inl rfl) | exact Or.inr (Or.inr rfl)) (by decide) (by decide)) (@pa_cons _ _ _ _ _ (@pe_mt0 _ _ _ _ _ _ _ _ _ _ _ _ _ M_Lender_grants (hr.mono (by first | decide | omega)) NE.pass (@pv _ 0 _ _ (by rfl) (by first | exact Or.inl rfl | exact Or.inr (Or.inl rfl) | exact Or.inr (Or.inr rfl)) (by decide) (by decide)) (by rfl)) (@pa_nil _) (by rfl)) (by rfl)) (by rfl) (by decide) (by rfl) (by rfl)) (@pg_tup _ _ _ _ _ _ rfl (@pgs_cons _ _ _ _ _ (@pg_name _ _ 2 _ S.nd rfl (by first | exact Or.inl rfl | exact Or.inr rfl) (by first | exact .inl rfl | exact .inr rfl | assumption)) (@pgs_cons _ _ _ _ _ (@pg_name _ _ 3 _ S.nd rfl (by first | exact Or.inl rfl | exact Or.inr rfl) (by first | exact .inl rfl | exact .inr rfl | assumption)) (@pgs_nil _) (by rfl)) (by rfl)) (by rfl) (by rfl)) (by rfl) (by rfl) (by rfl)) (@pss_one _ _ _ (@ps_ret _ _ _ _ (@pe_isi _ _ _ _ _ _ _ _ BT.isinstance BT.bool_ L3.bt_bool (@pe_mt _ _ _ _ _ _ _ _ _ _ _ _ _ _ _ _ M_Lender_free (hr.mono (by first | decide | omega)) NE.pass (@pv _ 0 _ _ (by rfl) (by first | exact Or.inl rfl | exact Or.inr (Or.inl rfl) | exact Or.inr (Or.inr rfl)) (by decide) (by decide)) (@pa_cons _ _ _ _ _ (@pv _ 2 _ _ (by rfl) (by first | exact Or.inl rfl | exact Or.inr (Or.inl rfl) | exact Or.inr (Or.inr rfl)) (by decide) (by decide)) (@pa_cons _ _ _ _ _ (@pv _ 3 _ _ (by rfl) (by first | exact Or.inl rfl | exact Or.inr (Or.inl rfl) | exact Or.inr (Or.inr rfl)) (by decide) (by decide)) (@pa_nil _) (by rfl)) (by rfl)) (by rfl) (by rfl) (by rfl)) (by rfl) (by rfl) (by decide) (by decide) (by rfl) (by rfl) (by rfl))))), ?_⟩
 try dsimp only [cxOf]
 have gl := lo.len
 obtain ⟨⟨dx, hdp⟩, _⟩ := id lo.ld
 walk_at "go"
 refine g_methv hdp m_grants ?_
 walk_at "go"
 refine ⟨d, gs, rfl, lo.ld, fun ah H1 nah hah s1 => ?_⟩
 have lo1 := lo.same s1
 have hh1 := hh.same s1
 have nap : ah ≠ p := fun z => by rw [z] at nah; exact hh.not_none nah
 walk_at "go"
 refine ⟨p, ah, b, gs, rfl, hh1, by omega, hah, lo1.ld.2.2.1, g0, by omega, fun x hx => by have := lo.go.bd x hx; omega, nap, fun t nn en H2 ht hh2 o2 => ?_⟩
 have ld2 : LdAt K C CS CL H2 d gs := by
  obtain ⟨zs, hz⟩ := hand_lst hh1
  exact lo1.ld.chg hz ndp (hh1.ts o2)
 obtain ⟨⟨dx2, hdp2⟩, _⟩ := id ld2
 have L := (Led.start H2 (fun _ => False)).more (tupAt t [_, _]) ht
 walk_at "go"
 refine g_methv hdp2 m_fre46 ?_
 walk_at "go"
 refine ⟨d, gs, nn, en, rfl, ld2, lo.ok, fun _ H3 s3 => ?_, fun i x fre g ar H3 ld3 ch => ?_⟩
 ·walk_at "go"
  refine ⟨_, _, _, _, rfl, .bl _, .inl ⟨"bool", rfl, rfl⟩, ?_⟩
  walk_at "go"
  exact q gs _ ⟨ld2.same s3, lo.go, lo.ok, gl⟩ ((hh2.same s3).mono (by omega)) fun x o e n1 n2 => s3 _ _ (o2 _ _ (s1 _ _ e) n1)
 ·walk_at "go"
  refine ⟨_, _, _, _, rfl, .bl _, .inl ⟨"bool", rfl, rfl⟩, ?_⟩
  walk_at "go"
  refine q _ _ ⟨ld3, lo.go.free fre, ⟨fun z hz => ?_, by rw [List.length_set]; omega⟩, by rw [List.length_set]; exact gl⟩ ((hand_oth hh2 ch (Ne.symm ndp)).mono (by omega)) fun x o e n1 n2 => ch.oth _ _ (o2 _ _ (s1 _ _ e) n1) n2
  rcases List.mem_or_eq_of_mem_set hz with hz | hz
  ·exact lo.ok.sl z hz
  ·rw [hz]; exact lo.ok.sl x (List.mem_of_getElem? fre.at_)
end
end Law

namespace Law
open PySem PySem.Spec PyProof.Rows L2 L3 L4
section
variable {P : Program} {w : World} {K : PySem.W.Frag} {mg : Str → Option Value} {base : Heap} {CX : CXT} {C CS CL CN : Addr}
theorem sc_law : FnScope ["_law_script", "_law_settings_here", "_law_slots", "_law_term_here", "_law_lender", "_law_k", "_law_hand_here", "_law_grants", "_law_at"] ["_law_script"] (defScope (top 50)) := by walk_at "s"
def spLaw (K : PySem.W.Frag) : Sp := fun vs H Q _ => ∃ (a : Addr) (ns : List Int), vs = [.ref a] ∧ SqL K H a (ns.map V.int) ∧ ns.length ≤ 63 ∧ ∀ H', Q (.bl true) H'
theorem ok_law {f : Addr} {fd : FuncData} (F : Fun K "law" "law" (top 50) f fd) (BT : Bt mg) (NE : NoErr (CX1 P w)) (SC : LdC K CL) (SS : StC K CS) (c__law_held : Cal P w K mg base (CX1 P w) "_law_held" 5 ["_law_shape", "_law_grants", "_law_one"] (spHeld46 C)) (c__law_hand : Cal P w K mg base (CX1 P w) "_law_hand" 1 ["_law_script", "_law_k"] (spHand K)) (c__law_pick : Cal P w K mg base (CX1 P w) "_law_pick" 11 ["_law_hand_here", "_law_many_here"] spPick) (c__law_settings : Cal P w K mg base (CX1 P w) "_law_settings" 13 ["_law_hand_here", "_law_apart_here"] (spLSet K C CS))
  (m1_Lender : Mak1 P w K mg base (CX1 P w) "Lender" CL 2 ["self", "settings", "grants"] (spLenderI CL)) (c__law_lends : Cal P w K mg base (CX1 P w) "_law_lends" 13 ["_law_lender", "_law_slots", "_law_term_here", "_law_hand_here"] (spLends K C CS CL)) (c__law_frees : Cal P w K mg base (CX1 P w) "_law_frees" 13 ["_law_lender", "_law_hand_here"] (spFrees K C CS CL)) (c__law_apart : Cal P w K mg base (CX1 P w) "_law_apart" 3 ["_law_grants"] spLApart) (c_meeting : Cal P w K mg base (CX1 P w) "meeting" 3 ["grants"] (spMeeting K))
  (M_Lender_grants : MCal P w K mg base (CX1 P w) CL "grants" 1 ["self"] (spLGrants K C CS CL)) : FnOk P w K mg base (CX1 P w) 14 f fd ["_law_script"] (spLaw K) := by
 have S := sc_law
 refine fun_ok F S (fun vs H Q E h => ?_) (fun f cdv A outer s H vs Q E hr h => ?_)
 ·obtain ⟨a, ns, rfl, _⟩ := h
  rfl
 obtain ⟨a, ns, rfl, hS, h63, q⟩ := h
 refine ⟨_, (@pss_cons _ _ _ _ _ (@ps_asg _ _ _ _ _ _ (@pe_fn _ _ _ _ _ _ _ _ _ _ _ _ c__law_settings (hr.mono (by first | decide | omega)) NE.pass (@pa_cons _ _ _ _ _ (@pe_fn _ _ _ _ _ _ _ _ _ _ _ _ c__law_hand (hr.mono (by first | decide | omega)) NE.pass (@pa_cons _ _ _ _ _ (@pv _ 0 _ _ (by rfl) (by first | exact Or.inl rfl | exact Or.inr (Or.inl rfl) | exact Or.inr (Or.inr rfl)) (by decide) (by decide)) (@pa_cons _ _ _ _ _ (@pe_int _ _ _ _) (@pa_nil _) (by rfl)) (by rfl)) (by rfl) (by decide) (by rfl) (by rfl)) (@pa_cons _ _ _ _ _ (@pe_bl _ _ _ _) (@pa_nil _) (by rfl)) (by rfl)) (by rfl) (by decide) (by rfl) (by rfl)) (@pg_tup _ _ _ _ _ _ rfl (@pgs_cons _ _ _ _ _ (@pg_name _ _ 1 _ S.nd rfl (by first | exact Or.inl rfl | exact Or.inr rfl) (by first | exact .inl rfl | exact .inr rfl | assumption)) (@pgs_cons _ _ _ _ _ (@pg_name _ _ 2 _ S.nd rfl (by first | exact Or.inl rfl | exact Or.inr rfl) (by first | exact .inl rfl | exact .inr rfl | assumption)) (@pgs_cons _ _ _ _ _ (@pg_name _ _ 3 _ S.nd rfl (by first | exact Or.inl rfl | exact Or.inr rfl) (by first | exact .inl rfl | exact .inr rfl | assumption)) (@pgs_nil _) (by rfl)) (by rfl)) (by rfl)) (by rfl) (by rfl)) (by rfl) (by rfl) (by rfl)) (@pss_cons _ _ _ _ _ (@ps_set _ _ 4 _ _ _ _ S.nd rfl (by first | exact Or.inl rfl | exact Or.inr rfl) (pe_mk1 m1_Lender (hr.mono (by first | decide | omega)) NE.pass (@pa_cons _ _ _ _ _ (@pv _ 1 _ _ (by rfl) (by first | exact Or.inl rfl | exact Or.inr (Or.inl rfl) | exact Or.inr (Or.inr rfl)) (by decide) (by decide)) (@pa_nil _) (by rfl))) (by rfl) (by first | exact .inl rfl | exact .inr rfl | assumption)) (@pss_cons _ _ _ _ _ (@ps_for _ _ _ _ _ _ _ _ PassesOwn.never rfl (@pi_range2 _ _ _ _ _ _ _ rfl BT.range (@pa_cons _ _ _ _ _ (@pe_int _ _ _ _) (@pa_cons _ _ _ _ _ (@pe_callB _ _ _ _ _ _ _ _ _ (@c_min _ rfl) rfl BT.min L3.bt_min (@pa_cons _ _ _ _ _ (@pe_callB _ _ _ _ _ _ _ _ _ (@c_len _) rfl BT.len L3.bt_len (@pa_cons _ _ _ _ _ (@pv _ 0 _ _ (by rfl) (by first | exact Or.inl rfl | exact Or.inr (Or.inl rfl) | exact Or.inr (Or.inr rfl)) (by decide) (by decide)) (@pa_nil _) (by rfl)) (by decide) (by decide) (by rfl) (by rfl)) (@pa_cons _ _ _ _ _ (@pe_int _ _ _ _) (@pa_nil _) (by rfl)) (by rfl)) (by decide) (by decide) (by rfl) (by rfl)) (@pa_nil _) (by rfl)) (by rfl)) (by rfl) (by rfl)) (@pg_name _ _ 5 _ S.nd rfl (by first | exact Or.inl rfl | exact Or.inr rfl) (by first | exact .inl rfl | exact .inr rfl | assumption)) (@pss_cons _ _ _ _ _ (@ps_set _ _ 6 _ _ _ _ S.nd rfl (by first | exact Or.inl rfl | exact Or.inr rfl) (@pe_fn _ _ _ _ _ _ _ _ _ _ _ _ c__law_hand (hr.mono (by first | decide | omega)) NE.pass (@pa_cons _ _ _ _ _ (@pv _ 0 _ _ (by rfl) (by first | exact Or.inl rfl | exact Or.inr (Or.inl rfl) | exact Or.inr (Or.inr rfl)) (by decide) (by decide)) (@pa_cons _ _ _ _ _ (@pv _ 5 _ _ (by rfl) (by first | exact Or.inl rfl | exact Or.inr (Or.inl rfl) | exact Or.inr (Or.inr rfl)) (by decide) (by decide)) (@pa_nil _) (by rfl)) (by rfl)) (by rfl) (by decide) (by rfl) (by rfl)) (by rfl) (by first | exact .inl rfl | exact .inr rfl | assumption)) (@pss_cons _ _ _ _ _ (@ps_if _ _ _ _ _ _ _ _ (@PW.pt _ _ _ (@pw_and _ _ _ _ _ _ _ (@pt_cmpR _ _ _ _ _ _ _ _ (@op_neD _ (hr.mono (Nat.zero_le _))) (@pe_mt0 _ _ _ _ _ _ _ _ _ _ _ _ _ M_Lender_grants (hr.mono (by first | decide | omega)) NE.pass (@pv _ 4 _ _ (by rfl) (by first | exact Or.inl rfl | exact Or.inr (Or.inl rfl) | exact Or.inr (Or.inr rfl)) (by decide) (by decide)) (by rfl)) (@pe_lst _ _ _ _ (@pa_nil _)) (@nomark _ _ (by decide) (by decide))) (@pw_and1 _ _ _ _ (@pt_cmpR _ _ _ _ _ _ _ _ (@op_eq _) (@pe_fn _ _ _ _ _ _ _ _ _ _ _ _ c__law_pick (hr.mono (by first | decide | omega)) NE.pass (@pa_cons _ _ _ _ _ (@pv _ 6 _ _ (by rfl) (by first | exact Or.inl rfl | exact Or.inr (Or.inl rfl) | exact Or.inr (Or.inr rfl)) (by decide) (by decide)) (@pa_cons _ _ _ _ _ (@pe_int _ _ _ _) (@pa_nil _) (by rfl)) (by rfl)) (by rfl) (by decide) (by rfl) (by rfl)) (@pe_int _ _ _ _) (@nomark _ _ (by decide) (by decide)))))) (@pss_one _ _ _ (@ps_if _ _ _ _ _ _ _ _ (@pt_not _ _ _ _ (@pt_val _ _ _ (@pe_fn _ _ _ _ _ _ _ _ _ _ _ _ c__law_frees (hr.mono (by first | decide | omega)) NE.pass (@pa_cons _ _ _ _ _ (@pv _ 4 _ _ (by rfl) (by first | exact Or.inl rfl | exact Or.inr (Or.inl rfl) | exact Or.inr (Or.inr rfl)) (by decide) (by decide)) (@pa_cons _ _ _ _ _ (@pv _ 6 _ _ (by rfl) (by first | exact Or.inl rfl | exact Or.inr (Or.inl rfl) | exact Or.inr (Or.inr rfl)) (by decide) (by decide)) (@pa_nil _) (by rfl)) (by rfl)) (by rfl) (by decide) (by rfl) (by rfl)) (by intro _; rfl))) (@pss_one _ _ _ (@ps_ret _ _ _ _ (@pe_bl _ _ _ _))) (@pss_nil _))) (@pss_one _ _ _ (@ps_if _ _ _ _ _ _ _ _ (@pt_not _ _ _ _ (@pt_val _ _ _ (@pe_fn _ _ _ _ _ _ _ _ _ _ _ _ c__law_lends (hr.mono (by first | decide | omega)) NE.pass (@pa_cons _ _ _ _ _ (@pv _ 4 _ _ (by rfl) (by first | exact Or.inl rfl | exact Or.inr (Or.inl rfl) | exact Or.inr (Or.inr rfl)) (by decide) (by decide)) (@pa_cons _ _ _ _ _ (@pv _ 2 _ _ (by rfl) (by first | exact Or.inl rfl | exact Or.inr (Or.inl rfl) | exact Or.inr (Or.inr rfl)) (by decide) (by decide)) (@pa_cons _ _ _ _ _ (@pv _ 3 _ _ (by rfl) (by first | exact Or.inl rfl | exact Or.inr (Or.inl rfl) | exact Or.inr (Or.inr rfl)) (by decide) (by decide)) (@pa_cons _ _ _ _ _ (@pv _ 6 _ _ (by rfl) (by first | exact Or.inl rfl | exact Or.inr (Or.inl rfl) | exact Or.inr (Or.inr rfl)) (by decide) (by decide)) (@pa_nil _) (by rfl)) (by rfl)) (by rfl)) (by rfl)) (by rfl) (by decide) (by rfl) (by rfl)) (by intro _; rfl))) (@pss_one _ _ _ (@ps_ret _ _ _ _ (@pe_bl _ _ _ _))) (@pss_nil _)))) (@pss_cons _ _ _ _ _ (@ps_set _ _ 7 _ _ _ _ S.nd rfl (by first | exact Or.inl rfl | exact Or.inr rfl) (@pe_mt0 _ _ _ _ _ _ _ _ _ _ _ _ _ M_Lender_grants (hr.mono (by first | decide | omega)) NE.pass (@pv _ 4 _ _ (by rfl) (by first | exact Or.inl rfl | exact Or.inr (Or.inl rfl) | exact Or.inr (Or.inr rfl)) (by decide) (by decide)) (by rfl)) (by rfl) (by first | exact .inl rfl | exact .inr rfl | assumption)) (@pss_cons _ _ _ _ _ (@ps_if _ _ _ _ _ _ _ _ (@PW.pt _ _ _ (@pw_or _ _ _ _ _ _ _ (@pt_not _ _ _ _ (@pt_val _ _ _ (@pe_fn _ _ _ _ _ _ _ _ _ _ _ _ c__law_apart (hr.mono (by first | decide | omega)) NE.pass (@pa_cons _ _ _ _ _ (@pv _ 7 _ _ (by rfl) (by first | exact Or.inl rfl | exact Or.inr (Or.inl rfl) | exact Or.inr (Or.inr rfl)) (by decide) (by decide)) (@pa_nil _) (by rfl)) (by rfl) (by decide) (by rfl) (by rfl)) (by intro _; rfl))) (@pw_or1 _ _ _ _ (@PW.pt _ _ _ (@pw_and _ _ _ _ _ _ _ (@pt_cmpR _ _ _ _ _ _ _ _ (@op_eq _) (@pe_fn _ _ _ _ _ _ _ _ _ _ _ _ c__law_pick (hr.mono (by first | decide | omega)) NE.pass (@pa_cons _ _ _ _ _ (@pv _ 6 _ _ (by rfl) (by first | exact Or.inl rfl | exact Or.inr (Or.inl rfl) | exact Or.inr (Or.inr rfl)) (by decide) (by decide)) (@pa_cons _ _ _ _ _ (@pe_int _ _ _ _) (@pa_nil _) (by rfl)) (by rfl)) (by rfl) (by decide) (by rfl) (by rfl)) (@pe_int _ _ _ _) (@nomark _ _ (by decide) (by decide))) (@pw_and1 _ _ _ _ (@pt_cmp _ _ _ _ _ _ (@pc_notN _ _ _ _ _ (@pe_fn _ _ _ _ _ _ _ _ _ _ _ _ c_meeting (hr.mono (by first | decide | omega)) NE.pass (@pa_cons _ _ _ _ _ (@pv _ 7 _ _ (by rfl) (by first | exact Or.inl rfl | exact Or.inr (Or.inl rfl) | exact Or.inr (Or.inr rfl)) (by decide) (by decide)) (@pa_nil _) (by rfl)) (by rfl) (by decide) (by rfl) (by rfl))) (by first | exact nobehind _ (by decide) (by decide) | rfl)))))))) (@pss_one _ _ _ (@ps_ret _ _ _ _ (@pe_bl _ _ _ _))) (@pss_nil _)) (@pss_cons _ _ _ _ _ (@ps_set _ _ 8 _ _ _ _ S.nd rfl (by first | exact Or.inl rfl | exact Or.inr rfl) (@pe_fn _ _ _ _ _ _ _ _ _ _ _ _ c__law_pick (hr.mono (by first | decide | omega)) NE.pass (@pa_cons _ _ _ _ _ (@pv _ 6 _ _ (by rfl) (by first | exact Or.inl rfl | exact Or.inr (Or.inl rfl) | exact Or.inr (Or.inr rfl)) (by decide) (by decide)) (@pa_cons _ _ _ _ _ (@pe_callB _ _ _ _ _ _ _ _ _ (@c_max _ rfl) rfl BT.max L3.bt_max (@pa_cons _ _ _ _ _ (@pe_int _ _ _ _) (@pa_cons _ _ _ _ _ (@pe_callB _ _ _ _ _ _ _ _ _ (@c_len _) rfl BT.len L3.bt_len (@pa_cons _ _ _ _ _ (@pv _ 7 _ _ (by rfl) (by first | exact Or.inl rfl | exact Or.inr (Or.inl rfl) | exact Or.inr (Or.inr rfl)) (by decide) (by decide)) (@pa_nil _) (by rfl)) (by decide) (by decide) (by rfl) (by rfl)) (@pa_nil _) (by rfl)) (by rfl)) (by decide) (by decide) (by rfl) (by rfl)) (@pa_nil _) (by rfl)) (by rfl)) (by rfl) (by decide) (by rfl) (by rfl)) (by rfl) (by first | exact .inl rfl | exact .inr rfl | assumption)) (@pss_one _ _ _ (@ps_if _ _ _ _ _ _ _ _ (@PW.pt _ _ _ (@pw_and _ _ _ _ _ _ _ (@pt_cmpR _ _ _ _ _ _ _ _ (@op_neD _ (hr.mono (Nat.zero_le _))) (@pv _ 7 _ _ (by rfl) (by first | exact Or.inl rfl | exact Or.inr (Or.inl rfl) | exact Or.inr (Or.inr rfl)) (by decide) (by decide)) (@pe_lst _ _ _ _ (@pa_nil _)) (@nomark _ _ (by decide) (by decide))) (@pw_and1 _ _ _ _ (@pt_not _ _ _ _ (@pt_val _ _ _ (@pe_fn _ _ _ _ _ _ _ _ _ _ _ _ c__law_held (hr.mono (by first | decide | omega)) NE.pass (@pa_cons _ _ _ _ _ (@pe_fld _ _ _ _ _ (@pv _ 1 _ _ (by rfl) (by first | exact Or.inl rfl | exact Or.inr (Or.inl rfl) | exact Or.inr (Or.inr rfl)) (by decide) (by decide)) rfl) (@pa_cons _ _ _ _ _ (@pv _ 7 _ _ (by rfl) (by first | exact Or.inl rfl | exact Or.inr (Or.inl rfl) | exact Or.inr (Or.inr rfl)) (by decide) (by decide)) (@pa_cons _ _ _ _ _ (@pe_ix _ _ _ _ _ _ _ (@ix_list _) (@pv _ 7 _ _ (by rfl) (by first | exact Or.inl rfl | exact Or.inr (Or.inl rfl) | exact Or.inr (Or.inr rfl)) (by decide) (by decide)) (@pv _ 8 _ _ (by rfl) (by first | exact Or.inl rfl | exact Or.inr (Or.inl rfl) | exact Or.inr (Or.inr rfl)) (by decide) (by decide)) (fun _ _ => rfl)) (@pa_nil _) (by rfl)) (by rfl)) (by rfl)) (by rfl) (by decide) (by rfl) (by rfl)) (by intro _; rfl)))))) (@pss_one _ _ _ (@ps_ret _ _ _ _ (@pe_bl _ _ _ _))) (@pss_nil _)))))))) (by intro _; rfl)) (@pss_one _ _ _ (@ps_ret _ _ _ _ (@pe_cmp _ _ _ _ _ _ (@pc_isN _ _ _ _ _ (@pe_fn _ _ _ _ _ _ _ _ _ _ _ _ c_meeting (hr.mono (by first | decide | omega)) NE.pass (@pa_cons _ _ _ _ _ (@pe_mt0 _ _ _ _ _ _ _ _ _ _ _ _ _ M_Lender_grants (hr.mono (by first | decide | omega)) NE.pass (@pv _ 4 _ _ (by rfl) (by first | exact Or.inl rfl | exact Or.inr (Or.inl rfl) | exact Or.inr (Or.inr rfl)) (by decide) (by decide)) (by rfl)) (@pa_nil _) (by rfl)) (by rfl) (by decide) (by rfl) (by rfl))) (by first | exact nobehind _ (by decide) (by decide) | rfl))))))), ?_⟩
 try dsimp only [cxOf]
 have hnl : (ns.map V.int).length = ns.length := List.length_map ..
 have L := Led.start H (fun _ => False)
 walk_at "go"
 refine use_hand L hS h63 (by decide) fun p0 H1 n0 L s1 => ?_
 have hh0 := HandO.at (L.at_ (p0, HandO 0) List.mem_cons_self)
 clear L
 walk_at "go"
 refine ⟨p0, 0, true, rfl, hh0, by decide, fun t ps sp c n far room term ws H2 hsg hap ht o2 => ?_⟩
 have s2 : Same H H2 := o2.same s1 n0
 have L := (Led.start H2 (fun _ => False)).more (tupAt t [_, _, _]) ht
 walk_at "go"
 refine g_make1 ?_
 walk_at "go"
 refine use_mkLender (v := .non) (gs := []) (.inl ⟨rfl, rfl⟩) (fun _ h => (by simp at h)) hsg fun x1 l1 H3 nx1 nl1 hd3 s3 => ?_
 clear L
 walk_at "go"
 have sm3 : Same H H3 := s2.trans s3
 have ndl : H l1 = none := none_of' s2 nl1
 have hap' := of_decide_eq_true hap
 clear hap
 obtain ⟨d, rfl, rfl, rfl, rfl, rfl, rfl, hd3'⟩ : ∃ d : Ld, d.p = x1 ∧ d.l = l1 ∧ d.ps = ps ∧ d.s = n ∧ d.term = term ∧ d.ws = ws ∧ LdAt K C CS CL H3 d [] := ⟨_, rfl, rfl, rfl, rfl, rfl, rfl, hd3⟩
 clear hd3
 refine g_lenSq (sm3.seq hS) ?_
 rw [hnl]
 walk_at "go"
 refine g_forR (fun i σ Hx => ∃ (u5 u6 u7 u8 : Option V) (gs : List Gr), σ = [some (.ref a), some (.ref d.ps), some (.int d.s), some (.int d.term), some (.ref d.p), u5, u6, u7, u8] ∧ Same H Hx ∧ Lo K C CS CL Hx d gs i)
  ⟨_, _, _, _, [], rfl, sm3, ⟨hd3', GO.nil, ⟨fun _ h => (by simp at h), Nat.zero_le _⟩, Nat.le_refl 0⟩⟩ ?_ ?_
 ·rintro i σ HG hi ⟨u5, u6, u7, u8, gs, rfl, sm, lo⟩
  have hi60 : i < 60 := by omega
  have L := Led.start HG (fun _ => False)
  try dsimp only [gName]
  walk_at "go"
  refine use_hand L (sm.seq hS) h63 (by omega) fun p H6 np L s6 => ?_
  have hh := HandO.at (L.at_ (p, HandO 0) List.mem_cons_self)
  clear L
  have pdl : d.l ≠ p := old_ne lo.ld.2.1 np
  have lo6 := lo.same s6
  have fr6 : FrL p d.l HG H6 := fun x o e _ _ => s6 _ _ e
  walk_at "one"
  try dsimp only [gName]
  refine seq_mid (fun σ' Hx => ∃ gs', σ' = [some (.ref a), some (.ref d.ps), some (.int d.s), some (.int d.term), some (.ref d.p), some (.int (1 + i)), some (.ref p), u7, u8] ∧ Lo K C CS CL Hx d gs' (i + 1) ∧ (∃ bb, HandAt Hx p bb ∧ bb ≤ 100000) ∧ FrL p d.l HG Hx) (fun nx kk => ?_) ?_
  ·obtain ⟨⟨dx, hpG⟩, _⟩ := id lo6.ld
   walk_at "go"
   refine g_methv hpG m_grants ?_
   walk_at "go"
   refine ⟨d, gs, rfl, lo6.ld, fun ga H7 nga hga s7 => ?_⟩
   have L := Led.start H7 (fun _ => False)
   walk_at "go"
   have sL := L'.same
   refine g_neD (d := .lst (gs.map grD)) (e := .lst []) (grs_at (SqL.of (sL _ _ hga)) ((lo6.ld.2.2.1.same s7).same sL)) (.lst (SqL.of (L'.eo .head)) .nil) (grs_dep' gs) ?_
   rw [grs_eqnil]
   have lo8 := (lo6.same s7).same sL
   have hh8 := (hh.same s7).same sL
   have fr8 : FrL p d.l HG H' := fun x o e n1 n2 => sL _ _ (s7 _ _ (fr6 x o e n1 n2))
   clear L L'
   walk_at "go"
   refine g_ifN (fun z => ?_) (fun z => ?_)
   ·walk_at "go"
    refine ⟨d, gs, p, 0, i, rfl, lo8, by omega, hap', hh8, by decide, pdl, fun gs' H9 lo9 hh9 fr9 => ?_⟩
    walk_at "go"
    exact kk _ _ ⟨gs', rfl, lo9, ⟨_, hh9, by decide⟩, fun x o e n1 n2 => fr9 x o (fr8 x o e n1 n2) n1 n2⟩
   ·have L := led_hand hh8
    walk_at "go"
    refine use_pick L .head (by decide) (by decide) (by omega) fun r3 HE e0 e1 L ch2 => ?_
    obtain ⟨zs, eD⟩ := hand_lst hh8
    have loE : Lo K C CS CL HE d gs i := ⟨lo8.ld.chg eD pdl ch2, lo8.go, lo8.ok, lo8.len⟩
    have hE := HandO.at (L.at_ (p, HandO _) (by walk_at "mem"))
    have frE : FrL p d.l HG HE := fun x o e n1 n2 => ch2.oth x o (fr8 x o e n1 n2) n1
    clear L
    walk_at "go"
    refine g_ifD (fun z3 => ?_) (fun z3 => ?_)
    ·walk_at "go"
     refine ⟨d, gs, p, _, i, rfl, loE, by omega, Nat.pos_of_ne_zero z, hE, by omega, pdl, fun gs' H9 lo9 hh9 fr9 => ?_⟩
     walk_at "go"
     exact kk _ _ ⟨gs', rfl, ⟨lo9.ld, lo9.go, lo9.ok, Nat.le_succ_of_le lo9.len⟩, ⟨_, hh9, by omega⟩, fun x o e n1 n2 => fr9 x o (frE x o e n1 n2) n1 n2⟩
    ·walk_at "go"
     refine ⟨d, gs, p, _, i, rfl, loE, by omega, hap', hE, by omega, pdl, fun gs' H9 lo9 hh9 fr9 => ?_⟩
     walk_at "go"
     exact kk _ _ ⟨gs', rfl, lo9, ⟨_, hh9, by omega⟩, fun x o e n1 n2 => fr9 x o (frE x o e n1 n2) n1 n2⟩
  rintro σ' HA ⟨gs1, rfl, loA, ⟨bb, hA, hbb⟩, frA⟩
  have glA := loA.len
  obtain ⟨⟨dxA, hpA⟩, _⟩ := id loA.ld
  walk_at "go"
  refine g_methv hpA m_grants ?_
  walk_at "go"
  refine ⟨d, gs1, rfl, loA.ld, fun ga HB nga hga sB => ?_⟩
  have loB := loA.same sB
  have hB := hA.same sB
  have gap : ga ≠ p := fun z => by rw [z] at nga; exact hA.not_none nga
  have gal : ga ≠ d.l := fun z => by obtain ⟨_, hl, _⟩ := loA.ld; rw [z, hl] at nga; cases nga
  have frB : FrL p d.l HG HB := fun x o e n1 n2 => sB _ _ (frA x o e n1 n2)
  walk_at "one"
  try dsimp only [gName]
  refine seq_mid (fun σ' Hx => σ' = [some (.ref a), some (.ref d.ps), some (.int d.s), some (.int d.term), some (.ref d.p), some (.int (1 + i)), some (.ref p), some (.ref ga), u8] ∧ Hx ga = some (.lst (grV gs1)) ∧ Lo K C CS CL Hx d gs1 (i + 1) ∧ (∃ bb, HandAt Hx p bb ∧ bb ≤ 200000) ∧ FrL p d.l HG Hx) (fun nx kk => ?_) ?_
  ·walk_at "go"
   refine ⟨ga, gs1, rfl, hga, loB.ld.2.2.1, loB.go, by omega, fun HC sC => ?_⟩
   have L := led_hand (hB.same sC)
   have loC := loB.same sC
   walk_at "go"
   refine use_pick L .head (by decide) (by decide) (by omega) fun r3 HE e0 e1 L ch2 => ?_
   obtain ⟨zs, eD⟩ := hand_lst (hB.same sC)
   have loE : Lo K C CS CL HE d gs1 (i + 1) := ⟨loC.ld.chg eD pdl ch2, loC.go, loC.ok, loC.len⟩
   have hE := HandO.at (L.at_ (p, HandO _) (by walk_at "mem"))
   have frE : FrL p d.l HG HE := fun x o e n1 n2 => ch2.oth x o (sC _ _ (frB x o e n1 n2)) n1
   have gaE := ch2.oth _ _ (sC _ _ hga) gap
   clear L
   walk_at "go"
   refine g_ifD (fun z3 => ?_) (fun z3 => ?_)
   ·walk_at "go"
    refine ⟨ga, gs1, rfl, SqL.of gaE, loE.ld.2.2.1, by omega, fun _ HI sI => ?_, fun i' j' x y hit => ?_⟩
    ·walk_at "go"
     exact kk _ _ ⟨rfl, sI _ _ gaE, loE.same sI, ⟨_, hE.same sI, by omega⟩, fun x o e n1 n2 => sI _ _ (frE x o e n1 n2)⟩
    ·exact (hit.not loE.go.noM).elim
   ·walk_at "go"
    exact kk _ _ ⟨rfl, gaE, loE, ⟨_, hE, by omega⟩, frE⟩
  rintro σ' HF ⟨rfl, gaF, loF, ⟨bc, hF, hbc⟩, frF⟩
  have h63F := loF.ok.len
  have L := led_hand hF
  walk_at "go"
  refine g_lenSq (SqL.of gaF) ?_
  rw [grV_len]
  walk_at "go"
  refine use_pick L .head (by omega) (by omega) (by omega) fun r4 HH y0 y1 L ch3 => ?_
  obtain ⟨jj, rfl⟩ := Int.eq_ofNat_of_zero_le y0
  obtain ⟨zs, eF⟩ := hand_lst hF
  have loH : Lo K C CS CL HH d gs1 (i + 1) := ⟨loF.ld.chg eF pdl ch3, loF.go, loF.ok, loF.len⟩
  have gaH := ch3.oth _ _ gaF gap
  have frH : FrL p d.l HG HH := fun x o e n1 n2 => ch3.oth x o (frF x o e n1 n2) n1
  clear L
  have L := Led.start HH (fun _ => False)
  walk_at "go"
  have sL := L'.same
  refine g_neD (d := .lst (gs1.map grD)) (e := .lst []) (grs_at (SqL.of (sL _ _ gaH)) (loH.ld.2.2.1.same sL)) (.lst (SqL.of (L'.eo .head)) .nil) (grs_dep' gs1) ?_
  rw [grs_eqnil]
  have loI := loH.same sL
  have fin : ∀ {Hx : Hp}, Same H' Hx → Same H Hx := fun sx x o e => sx _ _ (sL _ _ (frH x o (sm _ _ e) (old_ne (sm _ _ e) np) (old_ne e ndl)))
  walk_at "go"
  refine g_ifN (fun z => ?_) (fun z => ?_)
  ·walk_at "go"
   exact ⟨_, _, _, _, gs1, rfl, fin (Same.refl _), loI⟩
  ·have hl0 := Nat.pos_of_ne_zero z
   obtain ⟨xx, hxx⟩ : ∃ xx, gs1[jj]? = some xx := ⟨_, List.getElem?_eq_getElem (by omega)⟩
   have hxm := List.mem_of_getElem? hxx
   obtain ⟨_, _, _, ⟨⟨dyw, trw, msw, hstW, _, _⟩, ⟨dzw, hshW⟩, hshn2, _⟩⟩ := id loI.ld
   walk_at "go"
   refine ⟨d.ps, CS, dyw, _, _, rfl, hstW, SS.cl, SS.n1, stF_shape _ _ _ _ _, ?_⟩
   walk_at "go"
   refine g_ixSq (SqL.of (sL _ _ gaH)) (atI_nat (by unfold grV; rw [List.getElem?_map, hxx]; rfl)) ?_
   walk_at "go"
   refine ⟨d.sp, ga, d.c, d.s, gs1, xx, rfl, hshn2, ⟨dzw, hshW⟩, sL _ _ gaH, loI.ld.2.2.1, loI.go, loI.ok, hxm, fun HJ sJ => ?_⟩
   walk_at "go"
   exact ⟨_, _, _, _, gs1, rfl, fin sJ, loI.same sJ⟩
 ·rintro σ HG ⟨u5, u6, u7, u8, gs, rfl, sm, lo⟩
  obtain ⟨⟨dx, hpG⟩, _⟩ := id lo.ld
  have := lo.len
  walk_at "go"
  refine g_methv hpG m_grants ?_
  walk_at "go"
  refine ⟨d, gs, rfl, lo.ld, fun ga H6 nga hga s6 => ?_⟩
  walk_at "go"
  refine ⟨ga, gs, rfl, SqL.of hga, lo.ld.2.2.1.same s6, by omega, fun _ HI sI => ?_, fun i' j' x y hit => ?_⟩
  ·walk_at "go"
   exact q _
  ·exact (hit.not lo.go.noM).elim
end
end Law

namespace Law
open PySem PySem.Spec PyProof.Rows L2 L3 L4
open PySem.W in
structure ExW (K : Frag) (mg : Str → Option Value) (x qual : Str) (C : Addr) (st : Stmt) (ps : List Str) : Prop where
 dat : EDat K mg x qual C st ps
 get : EGet K C
 hd : hasDictIn K C = true
 ov : ∃ cd, clsIn K C = some cd ∧ OverErr cd.mro ∧ cd.hasDict = true
 sa : findIn K (.ref C) "__setattr__" = some (some (.builtin "object.__setattr__"))
open PySem.W in
theorem ExW.put {K : Frag} {mg : Str → Option Value} {x qual f : Str} {C : Addr} {st : Stmt} {ps : List Str} (W : ExW K mg x qual C st ps) (t : takerIn K C f = some none) : EPut K C f := ⟨W.get, W.sa, W.ov, t⟩
open PySem.W in
theorem exw_mk {K : Frag} {h : Heap} {mg : Str → Option Value} {x qual : Str} {CW CR f : Addr} {st : Stmt} {ps : List Str} {cbW : ClassData} {dd od an : Option Addr} {k0 k1 k2 k3 k5 : Option Value} {oc kV doc pm cdv ct : Value} {osl : Array (Option Value)} (X : K.In h) (G : h.Ns mainGlobals mg)
  (a1 : nsIn K mainGlobals x = some (some (.ref CW))) (g6 : specialIn K (.builtin "object.__class__") "__get__" = some (some (.builtin "getset_descriptor.__get__"))) (g7 : takesIn K (.builtin "object.__class__") = some true)
  (v1 : findIn K (.ref CW) "__getattribute__" = some (some (.builtin "BaseException.__getattribute__"))) (v2 : findIn K (.ref CW) "__getattr__" = some none) (v3 : mroIn K CW (.type "BaseException") = some true) (v4 : mroIn K CW (.type "object") = some true)
  (v5 : findIn K (.ref CW) "__class__" = some (some (.builtin "object.__class__"))) (v8 : clsIn K CW = some cbW) (r0 : excIn K CR vErr "ValueError.__new__" = true)
  (u1 : findIn K (.ref CW) "__setattr__" = some (some (.builtin "object.__setattr__"))) (u3 : K.lookup CW = some ⟨.type "type", dd, .cls cbW, #[k0, k1, k2, k3, some (.builtin "ValueError.__new__"), k5]⟩) (u4 : cbW.mro = .ref CW :: .ref CR :: vErr) (u5 : cbW.hasDel = false) (u6 : cbW.hasDict = true)
  (i1 : findIn K (.ref CW) "__init__" = some (some (.ref f))) (i2 : typeIn K (.ref f) = some (.type "function")) (i3 : K.lookup f = some ⟨oc, od, .func (fnOf "__init__" qual (defArgs st) (defBody st) (defScope st) .none kV doc pm an cdv ct), osl⟩) (i4 : codeIn K cdv qual = true) (i5 : keepIn K (.ref f) = true) (i6 : keepIn K (.ref CW) = true)
  (b : ∀ (kV doc pm : Value) (an : Option Addr) (cdv ct : Value) (us : List Value), us.length = ps.length → bindArgs (fnOf "__init__" qual (defArgs st) (defBody st) (defScope st) .none kV doc pm an cdv ct) ⟨us, []⟩ = pure (ps.zip us)) (x1 : hasDictIn K CW = true) : ExW K mg x qual CW st ps :=
 ⟨edat_mk X G a1 (exc1_own u3 u4 u5 r0) i1 i2 i3 i4 i5 i6 b, ⟨v1, v2, v3, v4, v5, g6, g7, some_is v8⟩, x1, ⟨cbW, v8, u4 ▸ OverErr.two, u6⟩, u1⟩
end Law

namespace Law
open PySem PySem.Spec PyProof.Rows L2 L3 L4
theorem some_is {α : Type} {o : Option α} {x : α} (e : o = some x) : o.isSome = true := by rw [e]; rfl
open PySem.W in
theorem exc1_ofIn {K : Frag} {C : Addr} {bmB : List Value} {newId : String} (q : excIn K C bmB newId = true) : exc1In K C bmB newId = true := by
 unfold excIn at q
 unfold exc1In
 split at q
 ·rename_i dd cd sl ho
  split at q
  ·rename_i C' bm k0 k1 k2 k3 n k5 hm hs
   simp only [Bool.and_eq_true] at q
   simp only [ho, hm, hs, Bool.and_eq_true]
   exact q.1.1
  ·cases q
 ·cases q
structure NoRm (K : PySem.W.Frag) (mg : Str → Option Value) (CN CR dA dG dO dT dW : Addr) : Prop where
 hN : mg "NoRoom" = some (.ref CN)
 hR : mg "RiseError" = some (.ref CR)
 hA : mg "NoArea" = some (.ref dA)
 hG : mg "NoGrant" = some (.ref dG)
 hO : mg "Overlap" = some (.ref dO)
 hT : mg "TooMany" = some (.ref dT)
 hW : mg "Wait" = some (.ref dW)
 ec : ECls K mg "NoRoom" CN
 er : ErrL K CN CR dA dG dO dT dW
end Law

namespace Law
open PySem PySem.Spec PyProof.Rows L2 L3 L4
open PySem.W in
theorem err46_mk {K : Frag} {h : Heap} {mg : Str → Option Value} {CN CG CO CR : Addr} (X : K.In h) (G : h.Ns mainGlobals mg) (WG : ExW K mg "NoGrant" "NoGrant.__init__" CG (inClass (top 5) 0) ["self", "mark"]) (WO : ExW K mg "Overlap" "Overlap.__init__" CO (inClass (top 6) 0) ["self", "one", "other"]) (tk : takerIn K CG "mark" = some none) (tk1 : takerIn K CO "one" = some none) (tk2 : takerIn K CO "other" = some none)
  (a0 : nsIn K mainGlobals "NoRoom" = some (some (.ref CN))) (a2 : nsIn K mainGlobals "RiseError" = some (some (.ref CR)))
  (o1 : excIn K CN vErr "ValueError.__new__" = true) (o2 : findIn K (.ref CN) "__init__" = some (some (.builtin "ValueError.__init__"))) (o3 : keepIn K (.ref CN) = true) (e1 : exmOne K (.ref CN) (.ref CN) = some true)
  (r1 : specialIn K (.ref CR) "__getattribute__" = some (some (.builtin "type.__getattribute__"))) (r2 : readsIn K CR (.type "type") = true) (r3 : findCls K (.ref CR) (.type "type") "__init__" = some (.val (.builtin "ValueError.__init__"))) :
  ∃ CN CG CO CR : Addr, mg "NoRoom" = some (.ref CN) ∧ ECls K mg "NoRoom" CN ∧ exmOne K (.ref CN) (.ref CN) = some true ∧ EDat K mg "NoGrant" "NoGrant.__init__" CG (inClass (top 5) 0) ["self", "mark"] ∧ EDat K mg "Overlap" "Overlap.__init__" CO (inClass (top 6) 0) ["self", "one", "other"] ∧ EPut K CG "mark" ∧ EPut K CO "one" ∧ EPut K CO "other" ∧ EBase K mg "RiseError" CR :=
 ⟨CN, CG, CO, CR, mg_of X G a0, ⟨exc1_ofIn o1, o2, o3, mg_of X G a0⟩, e1, WG.dat, WO.dat, WG.put tk, WO.put tk1, WO.put tk2, ⟨mg_of X G a2, r1, r2, r3⟩⟩
end Law

namespace Law
open PySem PySem.Spec PyProof.Rows L2 L3 L4
open PySem.W in
theorem tup_mk {K : Frag} {h : Heap} {mg : Str → Option Value} {x : Str} {a : Addr} {dd : Option Addr} {its : Array Value} {n : Nat} {sl : Array (Option Value)} {xs : List V} (X : K.In h) (G : h.Ns mainGlobals mg)
  (n1 : nsIn K mainGlobals x = some (some (.ref a))) (n2 : K.lookup a = some ⟨.type "tuple", dd, .seq its n, sl⟩) (n3 : Vals xs its.toList) (hz : its.size ≤ sizeLine) : ∃ aN, GlV mg x (.ref aN) ∧ ∀ H, SqT K H aN xs :=
 ⟨a, ⟨_, mg_of X G n1, rfl⟩, fun _ => .inr ⟨_, its, n, n2, rfl, rfl, hz, n3⟩⟩
end Law

open PySem PySem.W PyProof.Rows
local macro_rules | `(tactic| walk_at "dat") => `(tactic| (dsimp only [L2.KOf]; refine' L3.dat_mk KX G ?a ?l ?c ?k ?b; (case a => k_is); (case l => k_is); (case c => k_is); (case k => k_is); (case b => first | exact (fun _ _ _ _ _ _ us hl => match us, hl with | [_], _ => rfl) | exact (fun _ _ _ _ _ _ us hl => match us, hl with | [_, _], _ => rfl) | exact (fun _ _ _ _ _ _ us hl => match us, hl with | [_, _, _], _ => rfl) | exact (fun _ _ _ _ _ _ us hl => match us, hl with | [_, _, _, _], _ => rfl) | exact (fun _ _ _ _ _ _ us hl => match us, hl with | [_, _, _, _, _], _ => rfl))))
namespace PySem.W.Fast
def tw17163958937606739539 : Unit := ()
def tw2991227177419883976 : Unit := ()
def tw11701659310767556825 : Unit := ()
def tw9851404926347004732 : Unit := ()
def tw15543869750784565517 : Unit := ()
def tw1843053734031135340 : Unit := ()
def tw17291480428874135308 : Unit := ()
def tw11554600961533117275 : Unit := ()
def tw16662176779290105731 : Unit := ()
def tw15283382894386575315 : Unit := ()
def tw6199680670153355377 : Unit := ()
def tw13018380124430107139 : Unit := ()
def tw9555322843003285214 : Unit := ()
def tw1942356609563586804 : Unit := ()
def tw10371419683169800148 : Unit := ()
def tw5146094020324689603 : Unit := ()
def tw1276794078134785960 : Unit := ()
def tw1450914102661962866 : Unit := ()
def tw10285130054923413626 : Unit := ()
def tw9717039144991936104 : Unit := ()
def tw7945359886577286913 : Unit := ()
def tw16982608708183592195 : Unit := ()
def tw18304796101549553693 : Unit := ()
def tw5069635424356208171 : Unit := ()
def tw14647289890233140052 : Unit := ()
def tw13375878366410110745 : Unit := ()
def tw1402028322004003325 : Unit := ()
def tw14113909808441534392 : Unit := ()
def tw17800421625432571854 : Unit := ()
def tw15122330591864112141 : Unit := ()
def tw9199020558932366058 : Unit := ()
def tw7855062009529556333 : Unit := ()
def tw13045669222309401822 : Unit := ()
def tw13218142939580791016 : Unit := ()
def tw235925620576698643 : Unit := ()
def tw14846181958558265269 : Unit := ()
def tw2959664641646800688 : Unit := ()
def tw9365821853246562715 : Unit := ()
def tw7947496374240371731 : Unit := ()
def tw18053657469788512014 : Unit := ()
def tw13229912830769221795 : Unit := ()
def tw4692668547524180249 : Unit := ()
def tw9195782148773962435 : Unit := ()
def tw11497570806757087483 : Unit := ()
def tw13217759764328044215 : Unit := ()
def tw6504216945440346221 : Unit := ()
def tw5582197374022929526 : Unit := ()
def tw14465538800254091372 : Unit := ()
def tw13009278004800553448 : Unit := ()
def tw12550415365032129832 : Unit := ()
def tw5857270763591121693 : Unit := ()
def tw8930578586429122827 : Unit := ()
def tw13916646529742040945 : Unit := ()
def tw2202500836464717690 : Unit := ()
def tw10494285669892469864 : Unit := ()
def tw17266845770455843426 : Unit := ()
def tw13916854646084984047 : Unit := ()
def tw6631479353810246450 : Unit := ()
def tw1476366557845812666 : Unit := ()
def tw4691632210256002460 : Unit := ()
def tw3934767824666667396 : Unit := ()
def tw9860081487278255901 : Unit := ()
def tw16633493963101131971 : Unit := ()
def tw9468448096958257743 : Unit := ()
def tw11836078807667807530 : Unit := ()
def tw8496872484351058048 : Unit := ()
def tw3329989233692440817 : Unit := ()
def tw5341808345942185019 : Unit := ()
def tw960580608243156228 : Unit := ()
def tw13026190384317009572 : Unit := ()
def tw16264301329367413045 : Unit := ()
def tw4348653257045502187 : Unit := ()
def tw7420482485790337619 : Unit := ()
def tw11246222858288150033 : Unit := ()
def tw9517198120512716125 : Unit := ()
def tw7656072614710105861 : Unit := ()
def tw10945482536673978952 : Unit := ()
def tw14290302196144121096 : Unit := ()
def tw10533939454379485547 : Unit := ()
def tw17860876175700710382 : Unit := ()
def tw10704839366798060072 : Unit := ()
def tw18130191321432809608 : Unit := ()
def tw15127551366876256747 : Unit := ()
def tw17057669313738235207 : Unit := ()
def tw6588218595282216368 : Unit := ()
def tw15045224956612861202 : Unit := ()
end PySem.W.Fast
set_option maxHeartbeats 0 in
theorem PySem.Challenge.cw_risemarks_k46_whole_none_meet_holds : PySem.Challenge.rw_risemarks_k46_whole_none_meet.Holds := by
 w_on; o_law; k_head; (case hw => w_witness2)
 k_fill
 refine L4.walk_ofX (l := PySem.Challenge.rw_risemarks_k46_whole_none_meet) (n := 63) (k := 14) (x := "_law_script") (CX := L4.CX1) (sp := Law.spLaw) rfl (by decide) rfl ⟨rfl, by decide, by decide⟩ (fun w h Y => PySem.W.kIn_of Y) ?F ?S ?C
 case S => exact fun K H a ns hl hO hS => ⟨a, ns, rfl, hS, hl, fun _ => rfl⟩
 case C => exact fun P w H s e s' z => L4.noErr1 _ _ _ _ _ z
 case F =>
  intro w mg fa h KX G hmg
  have BT : L3.Bt mg := by
   refine' ⟨?_, ?_, ?_, ?_, ?_, ?_, ?_, ?_, ?_, ?_, ?_, ?_, ?_, ?_, ?_, ?_, ?_, ?_⟩ <;> refine' PySem.W.mg_none_of KX G ?_ <;> k_is
  have mn_enumerate : mg "enumerate" = none := by
   refine' PySem.W.mg_none_of KX G ?_; k_is
  have D_is_whole : L3.Dat (L2.KOf KX) mg "is_whole" "is_whole" (Law.top 10) ["thing"] := by walk_at "dat"
  have D_is_whole_from : L3.Dat (L2.KOf KX) mg "is_whole_from" "is_whole_from" (Law.top 11) ["thing", "least"] := by walk_at "dat"
  have D_is_side : L3.Dat (L2.KOf KX) mg "is_side" "is_side" (Law.top 12) ["thing"] := by walk_at "dat"
  have D_slot_of : L3.Dat (L2.KOf KX) mg "slot_of" "slot_of" (Law.top 16) ["area"] := by walk_at "dat"
  have D_end_of : L3.Dat (L2.KOf KX) mg "end_of" "end_of" (Law.top 18) ["area"] := by walk_at "dat"
  have D_first_of : L3.Dat (L2.KOf KX) mg "first_of" "first_of" (Law.top 17) ["area"] := by walk_at "dat"
  have D_ended_at : L3.Dat (L2.KOf KX) mg "ended_at" "ended_at" (Law.top 19) ["area", "end"] := by walk_at "dat"
  have D_is_span : L3.Dat (L2.KOf KX) mg "is_span" "is_span" (Law.top 25) ["thing", "least"] := by walk_at "dat"
  have D_is_rule : L3.Dat (L2.KOf KX) mg "is_rule" "is_rule" (Law.top 26) ["thing"] := by walk_at "dat"
  have D_are_rules : L3.Dat (L2.KOf KX) mg "are_rules" "are_rules" (Law.top 27) ["thing"] := by walk_at "dat"
  have D_has_rule : L3.Dat (L2.KOf KX) mg "has_rule" "has_rule" (Law.top 29) ["settings", "word"] := by walk_at "dat"
  have D_free_moments : L3.Dat (L2.KOf KX) mg "free_moments" "free_moments" (Law.top 31) ["slots", "grants"] := by walk_at "dat"
  have D_parts_of : L3.Dat (L2.KOf KX) mg "parts_of" "parts_of" (Law.top 14) ["shape", "mark"] := by walk_at "dat"
  have D_has : L3.Dat (L2.KOf KX) mg "has" "has" (Law.top 20) ["shape", "area", "mark"] := by walk_at "dat"
  have D_holder_of : L3.Dat (L2.KOf KX) mg "holder_of" "holder_of" (Law.top 35) ["shape", "grants", "mark"] := by walk_at "dat"
  have D__law_hand : L3.Dat (L2.KOf KX) mg "_law_hand" "_law_hand" (Law.top 37) ["_law_script", "_law_k"] := by walk_at "dat"
  have D__law_pick : L3.Dat (L2.KOf KX) mg "_law_pick" "_law_pick" (Law.top 38) ["_law_hand_here", "_law_many_here"] := by walk_at "dat"
  have D__law_word : L3.Dat (L2.KOf KX) mg "_law_word" "_law_word" (Law.top 39) ["_law_hand_here"] := by walk_at "dat"
  have D__law_many : L3.Dat (L2.KOf KX) mg "_law_many" "_law_many" (Law.top 40) ["_law_hand_here"] := by walk_at "dat"
  have D__law_term : L3.Dat (L2.KOf KX) mg "_law_term" "_law_term" (Law.top 41) ["_law_hand_here"] := by walk_at "dat"
  have D__law_settings : L3.Dat (L2.KOf KX) mg "_law_settings" "_law_settings" (Law.top 42) ["_law_hand_here", "_law_apart_here"] := by walk_at "dat"
  have D__law_least : L3.Dat (L2.KOf KX) mg "_law_least" "_law_least" (Law.top 43) ["_law_hand_here", "_law_lent", "_law_term_here"] := by walk_at "dat"
  have D__law_ending : L3.Dat (L2.KOf KX) mg "_law_ending" "_law_ending" (Law.top 44) ["_law_hand_here", "_law_lent"] := by walk_at "dat"
  have D__law_held : L3.Dat (L2.KOf KX) mg "_law_held" "_law_held" (Law.top 47) ["_law_shape", "_law_grants", "_law_one"] := by walk_at "dat"
  have D_are_apart : L3.Dat (L2.KOf KX) mg "are_apart" "are_apart" (Law.top 21) ["one", "other"] := by walk_at "dat"
  have D_meeting : L3.Dat (L2.KOf KX) mg "meeting" "meeting" (Law.top 34) ["grants"] := by walk_at "dat"
  have D__law_apart : L3.Dat (L2.KOf KX) mg "_law_apart" "_law_apart" (Law.top 45) ["_law_grants"] := by walk_at "dat"
  have D__law_early : L3.Dat (L2.KOf KX) mg "_law_early" "_law_early" (Law.top 46) ["_law_ahead", "_law_slots", "_law_least_here", "_law_area"] := by walk_at "dat"
  have D__law_lends : L3.Dat (L2.KOf KX) mg "_law_lends" "_law_lends" (Law.top 48) ["_law_lender", "_law_slots", "_law_term_here", "_law_hand_here"] := by walk_at "dat"
  have D__law_frees : L3.Dat (L2.KOf KX) mg "_law_frees" "_law_frees" (Law.top 49) ["_law_lender", "_law_hand_here"] := by walk_at "dat"
  have D_law : L3.Dat (L2.KOf KX) mg "law" "law" (Law.top 50) ["_law_script"] := by walk_at "dat"
  obtain ⟨C, D_Shape, nc, ns⟩ : ∃ C, L3.CDat (L2.KOf KX) mg "Shape" "Shape.__init__" C (L2.inClass (Law.top 13) 0) ["self", "counts", "slots"] ∧ L2.NoAttr (L2.KOf KX) C "counts" ∧ L2.NoAttr (L2.KOf KX) C "slots" := by
   dsimp only [L2.KOf]
   refine' ⟨_, L3.cdat_mk KX G ?aC ?a ?i ?l ?c ?k ?pg ?hd ?po ?sa ?mk ?kc ?b, ?n1, ?n2⟩
   (case aC => k_is); (case a => k_is); (case i => k_is); (case l => k_is); (case c => k_is); (case k => k_is); (case pg => k_is); (case hd => k_is); (case po => k_is); (case sa => k_is); (case mk => k_is); (case kc => k_is)
   (case n1 => unfold L2.NoAttr; k_is); (case n2 => unfold L2.NoAttr; k_is)
   (case b => exact fun _ _ _ _ _ _ us hl => match us, hl with | [_, _, _], _ => rfl)
  have SH : Law.ShC (L2.KOf KX) C := ⟨D_Shape.cls, nc, ns⟩
  have g_SIDE : L3.GlV mg "GREATEST_SIDE" (.int 1000) := by
   refine' ⟨_, PySem.W.mg_of KX G ?_, ?_⟩
   rotate_left
   ·k_is
   ·exact ⟨_, rfl⟩
  have g_SPAN : L3.GlV mg "GREATEST_SPAN" (.int 1000000000000) := by
   refine' ⟨_, PySem.W.mg_of KX G ?_, ?_⟩
   rotate_left
   ·k_is
   ·exact ⟨_, rfl⟩
  have g_LAST : L3.GlV mg "LAST" (.int 1000000000000000000000000000000) := by
   refine' ⟨_, PySem.W.mg_of KX G ?_, ?_⟩
   rotate_left
   ·k_is
   ·exact ⟨_, rfl⟩
  obtain ⟨CS, D_Settings, n1, n2, n3, n4, n5⟩ : ∃ C, L4.CDat1 (L2.KOf KX) mg "Settings" "Settings.__init__" C (L2.inClass (Law.top 28) 0) ["self", "shape", "far", "room", "term", "rules"] ∧ L2.NoAttr (L2.KOf KX) C "shape" ∧ L2.NoAttr (L2.KOf KX) C "far" ∧ L2.NoAttr (L2.KOf KX) C "room" ∧ L2.NoAttr (L2.KOf KX) C "term" ∧ L2.NoAttr (L2.KOf KX) C "rules" := by
   dsimp only [L2.KOf]
   refine' ⟨_, L4.cdat1_mk KX G ?aC ?a ?i ?l ?tl ?c ?pg ?hd ?po ?sa ?mk ?kc ?b ?b1, ?n1, ?n2, ?n3, ?n4, ?n5⟩
   (case aC => k_is); (case a => k_is); (case i => k_is); (case l => k_is); (case tl => k_is); (case c => k_is); (case pg => k_is); (case hd => k_is); (case po => k_is); (case sa => k_is); (case mk => k_is); (case kc => k_is)
   (case n1 => unfold L2.NoAttr; k_is); (case n2 => unfold L2.NoAttr; k_is); (case n3 => unfold L2.NoAttr; k_is); (case n4 => unfold L2.NoAttr; k_is); (case n5 => unfold L2.NoAttr; k_is)
   (case b => exact fun _ _ _ _ _ _ _ us hl => match us, hl with | [_, _, _, _, _, _], _ => ⟨_, rfl, rfl⟩)
   (case b1 => exact fun _ _ _ _ _ _ _ us hl => match us, hl with | [_, _, _, _, _], _ => ⟨_, rfl, rfl⟩)
  have SS : Law.StC (L2.KOf KX) CS := ⟨D_Settings.cl, n1, n2, n3, n4, n5⟩
  obtain ⟨aR, g_RULES, hR⟩ : ∃ aR, L3.GlV mg "RULES" (.ref aR) ∧ ∀ H, L2.SqT (L2.KOf KX) H aR (Law.ruleW.map L2.V.str) := by
   dsimp only [L2.KOf]
   refine' Law.tup_mk KX G ?n1 ?n2 ?n3 ?n4
   (case n1 => k_is); (case n2 => k_is); (case n3 => exact .cons ⟨_, rfl⟩ (.cons ⟨_, rfl⟩ (.cons ⟨_, rfl⟩ (.cons ⟨_, rfl⟩ (.cons ⟨_, rfl⟩ .nil))))); (case n4 => exact Nat.le_of_lt (L2.small1000 (by decide)))
  obtain ⟨CL, D_Lender, n1, n2, MG, MM, MF, MS, ML, MC, MR⟩ : ∃ C, L4.CDat1 (L2.KOf KX) mg "Lender" "Lender.__init__" C (L2.inClass (Law.top 32) 0) ["self", "settings", "grants"] ∧ L2.NoAttr (L2.KOf KX) C "settings" ∧ L2.NoAttr (L2.KOf KX) C "lent" ∧ L3.MDat (L2.KOf KX) C "grants" "Lender.grants" (L2.inClass (Law.top 32) 1) ["self"] ∧ L3.MDat (L2.KOf KX) C "moments_free" "Lender.moments_free" (L2.inClass (Law.top 32) 2) ["self"] ∧ L3.MDat (L2.KOf KX) C "free_at" "Lender.free_at" (L2.inClass (Law.top 32) 3) ["self", "slot"] ∧ L3.MDat (L2.KOf KX) C "slot_and_first" "Lender.slot_and_first" (L2.inClass (Law.top 32) 4) ["self", "least"] ∧ L3.MDat (L2.KOf KX) C "lend" "Lender.lend" (L2.inClass (Law.top 32) 5) ["self", "hand", "least"] ∧ L3.MDat (L2.KOf KX) C "can_free" "Lender.can_free" (L2.inClass (Law.top 32) 6) ["self", "grant", "end"] ∧ L3.MDat (L2.KOf KX) C "free" "Lender.free" (L2.inClass (Law.top 32) 7) ["self", "grant", "end"] := by
   dsimp only [L2.KOf]
   refine' ⟨_, L4.cdat1_mk KX G ?aC ?a ?i ?l ?tl ?c ?pg ?hd ?po ?sa ?mk ?kc ?b ?b1, ?n1, ?n2, L4.mdat_mk ⟨?pg, ?hd, ?po, ?sa⟩ ?grants_a ?grants_i ?grants_l ?grants_c ?grants_k ?grants_b, L4.mdat_mk ⟨?pg, ?hd, ?po, ?sa⟩ ?mom_a ?mom_i ?mom_l ?mom_c ?mom_k ?mom_b, L4.mdat_mk ⟨?pg, ?hd, ?po, ?sa⟩ ?frat_a ?frat_i ?frat_l ?frat_c ?frat_k ?frat_b, L4.mdat_mk ⟨?pg, ?hd, ?po, ?sa⟩ ?slot_a ?slot_i ?slot_l ?slot_c ?slot_k ?slot_b, L4.mdat_mk ⟨?pg, ?hd, ?po, ?sa⟩ ?lend_a ?lend_i ?lend_l ?lend_c ?lend_k ?lend_b, L4.mdat_mk ⟨?pg, ?hd, ?po, ?sa⟩ ?canf_a ?canf_i ?canf_l ?canf_c ?canf_k ?canf_b, L4.mdat_mk ⟨?pg, ?hd, ?po, ?sa⟩ ?free_a ?free_i ?free_l ?free_c ?free_k ?free_b⟩
   (case aC => k_is); (case a => k_is); (case i => k_is); (case l => k_is); (case tl => k_is); (case c => k_is); (case pg => k_is); (case hd => k_is); (case po => k_is); (case sa => k_is); (case mk => k_is); (case kc => k_is)
   (case n1 => unfold L2.NoAttr; k_is); (case n2 => unfold L2.NoAttr; k_is)
   (case b => exact fun _ _ _ _ _ _ _ us hl => match us, hl with | [_, _, _], _ => ⟨_, rfl, rfl⟩)
   (case b1 => exact fun _ _ _ _ _ _ _ us hl => match us, hl with | [_, _], _ => ⟨_, rfl, rfl⟩)
   (case grants_a => k_is); (case grants_i => k_is); (case grants_l => k_is); (case grants_c => k_is); (case grants_k => k_is); (case grants_b => exact fun _ _ _ _ _ _ us hl => match us, hl with | [_], _ => rfl)
   (case mom_a => k_is); (case mom_i => k_is); (case mom_l => k_is); (case mom_c => k_is); (case mom_k => k_is); (case mom_b => exact fun _ _ _ _ _ _ us hl => match us, hl with | [_], _ => rfl)
   (case frat_a => k_is); (case frat_i => k_is); (case frat_l => k_is); (case frat_c => k_is); (case frat_k => k_is); (case frat_b => exact fun _ _ _ _ _ _ us hl => match us, hl with | [_, _], _ => rfl)
   (case slot_a => k_is); (case slot_i => k_is); (case slot_l => k_is); (case slot_c => k_is); (case slot_k => k_is); (case slot_b => exact fun _ _ _ _ _ _ us hl => match us, hl with | [_, _], _ => rfl)
   (case lend_a => k_is); (case lend_i => k_is); (case lend_l => k_is); (case lend_c => k_is); (case lend_k => k_is); (case lend_b => exact fun _ _ _ _ _ _ us hl => match us, hl with | [_, _, _], _ => rfl)
   (case canf_a => k_is); (case canf_i => k_is); (case canf_l => k_is); (case canf_c => k_is); (case canf_k => k_is); (case canf_b => exact fun _ _ _ _ _ _ us hl => match us, hl with | [_, _, _], _ => rfl)
   (case free_a => k_is); (case free_i => k_is); (case free_l => k_is); (case free_c => k_is); (case free_k => k_is); (case free_b => exact fun _ _ _ _ _ _ us hl => match us, hl with | [_, _, _], _ => rfl)
  have SL : Law.LdC (L2.KOf KX) CL := ⟨D_Lender.cl, n1, n2⟩
  obtain ⟨CN, CG, CO, CR, h_NoRoom, EC, mN, DG, DO, EP, EP1, EP2, BR⟩ : ∃ CN CG CO CR : PySem.Addr, mg "NoRoom" = some (.ref CN) ∧ L4.ECls (L2.KOf KX) mg "NoRoom" CN ∧ PySem.W.exmOne (L2.KOf KX) (.ref CN) (.ref CN) = some true ∧ L4.EDat (L2.KOf KX) mg "NoGrant" "NoGrant.__init__" CG (L2.inClass (Law.top 5) 0) ["self", "mark"] ∧ L4.EDat (L2.KOf KX) mg "Overlap" "Overlap.__init__" CO (L2.inClass (Law.top 6) 0) ["self", "one", "other"] ∧ L4.EPut (L2.KOf KX) CG "mark" ∧ L4.EPut (L2.KOf KX) CO "one" ∧ L4.EPut (L2.KOf KX) CO "other" ∧ L4.EBase (L2.KOf KX) mg "RiseError" CR := by
   dsimp only [L2.KOf]
   refine' Law.err46_mk KX G (Law.exw_mk KX G ?a1 ?g6 ?g7 ?v1 ?v2 ?v3 ?v4 ?v5 ?v8 ?r0 ?u1 ?u3 ?u4 ?u5 ?u6 ?i1 ?i2 ?i3 ?i4 ?i5 ?i6 ?b ?x1) (Law.exw_mk KX G ?a3 ?g6 ?g7 ?w1 ?w2 ?w3 ?w4 ?w5 ?w8 ?r0 ?t1 ?t3 ?t4 ?t5 ?t6 ?j1 ?j2 ?j3 ?j4 ?j5 ?j6 ?bb ?y1) ?u2 ?t2 ?t7 ?a0 ?a2 ?o1 ?o2 ?o3 ?e1 ?r1 ?r2 ?r3
   (case a0 => k_is); (case a1 => k_is); (case a2 => k_is); (case a3 => k_is)
   (case g6 => k_is); (case g7 => k_is)
   (case v1 => k_is); (case v2 => k_is); (case v3 => k_is); (case v4 => k_is); (case v5 => k_is); (case v8 => k_is)
   (case w1 => k_is); (case w2 => k_is); (case w3 => k_is); (case w4 => k_is); (case w5 => k_is); (case w8 => k_is)
   (case u1 => k_is); (case u2 => k_is); (case u3 => k_is); (case u4 => rfl); (case u5 => rfl); (case u6 => rfl)
   (case t1 => k_is); (case t2 => k_is); (case t7 => k_is); (case t3 => k_is); (case t4 => rfl); (case t5 => rfl); (case t6 => rfl)
   (case r0 => k_exc); (case r1 => k_is); (case r2 => k_is); (case r3 => k_is)
   (case i1 => k_is); (case i2 => k_is); (case i3 => k_is); (case i4 => k_is); (case i5 => k_is); (case i6 => k_is)
   (case j1 => k_is); (case j2 => k_is); (case j3 => k_is); (case j4 => k_is); (case j5 => k_is); (case j6 => k_is)
   (case b => exact fun _ _ _ _ _ _ us hl => match us, hl with | [_, _], _ => rfl)
   (case bb => exact fun _ _ _ _ _ _ us hl => match us, hl with | [_, _, _], _ => rfl)
   (case x1 => k_is); (case y1 => k_is); (case o1 => k_exc); (case o2 => k_is); (case o3 => k_is); (case e1 => kts_exm)
  obtain ⟨f, fd, F, b, m⟩ := D_law.ex
  have e := hmg.symm.trans m
  cases e
  obtain ⟨oc, od, kV, doc, pm, an, cdv, ct, osl, rfl, lk, hcd⟩ := id F.ex
  refine ⟨PySem.W.fnOf "law" "law" (L2.defArgs (Law.top 50)) (L2.defBody (Law.top 50)) (L2.defScope (Law.top 50)) .none kV doc pm an cdv ct, fun s u => .of_eq rfl, fun base kb nb => ?_⟩
  have NE := @L4.noErr1 PySem.Challenge.rw_risemarks_k46_whole_none_meet.prog w
  have c_pick := Law.ok_pick (P := PySem.Challenge.rw_risemarks_k46_whole_none_meet.prog) (w := w) (base := base) D__law_pick NE
  have c_whole := Law.ok_whole (P := PySem.Challenge.rw_risemarks_k46_whole_none_meet.prog) (w := w) (base := base) (CX := L4.CX1 PySem.Challenge.rw_risemarks_k46_whole_none_meet.prog w) D_is_whole BT
  have c_from := Law.ok_from D_is_whole_from NE c_whole
  have m_Shape := Law.ok_shape D_Shape SH NE (Law.ok_side D_is_side NE g_SIDE c_from)
  obtain ⟨m_Settings, m1_Settings⟩ := Law.ok_settingsB D_Settings SS BT NE g_RULES hR (Law.ok_span D_is_span NE g_SPAN c_from) (Law.ok_rulesB D_are_rules BT NE (Law.ok_rule D_is_rule BT g_RULES hR))
  have c_slot := Law.ok_slot_of (P := PySem.Challenge.rw_risemarks_k46_whole_none_meet.prog) (w := w) (base := base) (CX := L4.CX1 PySem.Challenge.rw_risemarks_k46_whole_none_meet.prog w) D_slot_of
  have c_end := Law.ok_end_of (P := PySem.Challenge.rw_risemarks_k46_whole_none_meet.prog) (w := w) (base := base) (CX := L4.CX1 PySem.Challenge.rw_risemarks_k46_whole_none_meet.prog w) D_end_of
  have c_freem := Law.ok_freem D_free_moments BT NE c_slot c_end
  obtain ⟨m_Lender, m1_Lender⟩ := Law.ok_linit (P := PySem.Challenge.rw_risemarks_k46_whole_none_meet.prog) (w := w) (base := base) D_Lender SL BT NE
  have MU_grants := Law.ok_lgrantsU (P := PySem.Challenge.rw_risemarks_k46_whole_none_meet.prog) (w := w) (mg := mg) (base := base) (CX := L4.CX1 PySem.Challenge.rw_risemarks_k46_whole_none_meet.prog w) (C := C) (CS := CS) MG SL BT
  have M_grants := MU_grants.cal
  have M_mom := Law.ok_lfreem (C := C) (CS := CS) MM SL SS SH NE c_freem
  have M_frat := Law.ok_lfreeat MF SL NE M_mom
  have M_slot := Law.ok_slotf MS SL SS SH BT NE (Law.ok_hasruleB D_has_rule SS) M_mom
  have M_lend := Law.ok_lend ML SL SS BT NE EC g_LAST M_slot
  have c_set := Law.ok_lset D__law_settings BT NE c_pick (Law.ok_lmany D__law_many NE c_pick) (Law.ok_lterm D__law_term NE c_pick) m_Shape m_Settings m1_Settings
  have c_first := Law.ok_first_of (P := PySem.Challenge.rw_risemarks_k46_whole_none_meet.prog) (w := w) (base := base) (CX := L4.CX1 PySem.Challenge.rw_risemarks_k46_whole_none_meet.prog w) D_first_of
  have M_canf := Law.ok_canf MC SL BT NE c_slot c_first c_end M_frat
  have M_free := Law.ok_free MR SL BT NE (Law.ok_ended D_ended_at NE c_slot c_first) M_canf
  have c_holder := Law.ok_holder D_holder_of BT NE (Law.ok_NoGrant DG BR EP) (Law.ok_Overlap DO BR EP1 EP2) (Law.ok_has D_has NE (Law.ok_parts D_parts_of SH) c_slot c_first c_end)
  have c_lends := Law.ok_lends D__law_lends SL BT NE h_NoRoom mN M_grants MU_grants M_lend (Law.ok_word D__law_word BT NE c_pick) (Law.ok_lleast D__law_least BT NE c_pick) (Law.ok_early D__law_early BT NE)
  have c_frees := Law.ok_lfrees D__law_frees SL BT NE M_grants M_free (Law.ok_lending D__law_ending BT NE c_pick)
  have c_meet := Law.ok_meeting D_meeting BT mn_enumerate NE (Law.ok_are_apart D_are_apart BT NE c_slot c_first c_end)
  exact Law.ok_law F BT NE SL SS (Law.ok_lheld D__law_held SH BT NE c_holder) (Law.ok_hand D__law_hand BT) c_pick c_set m1_Lender c_lends c_frees (Law.ok_lapart D__law_apart BT NE) c_meet M_grants
end

