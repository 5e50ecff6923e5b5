import PyProof.Rows.All
import Wide.All
import OpenK.AllK
import Wide.FinOn
import Lean
import PyProof.EqAt
import PyProof.EqKinds
import PyProof.TupleCall
import PyProof.Rows.SortRuns
import PyProof.Rows.SortShell
import PySem.Challenge.RW_keelbond_k10_fills_told
set_option Elab.async false
set_option linter.all false
set_option maxRecDepth 100000
namespace L2
open PySem PySem.Spec PyProof.Rows
abbrev Key := Sum Int Str
def keyIs : Key → Value → Bool
  | .inl k, v => Value.isInt k v
  | .inr x, v => Value.isStrOf x v
def keyH (w : World) : Key → Int
  | .inl k => hashInt k
  | .inr x => hashStr w x
theorem keyIs_shape : ∀ {k : Key} {v : Value}, keyIs k v = true → (∃ i t, k = Sum.inl i ∧ v = Value.int i t) ∨ (∃ x t, k = Sum.inr x ∧ v = Value.str x t)
  | .inl i, v, h => by
    obtain ⟨t, e⟩ := Value.isInt_shape (k := i) (v := v) h
    exact .inl ⟨i, t, rfl, e⟩
  | .inr x, v, h => by
    obtain ⟨t, e⟩ := Value.isStrOf_shape (x := x) (v := v) h
    exact .inr ⟨x, t, rfl, e⟩
theorem key_ll (a b : Int) : decide ((Sum.inl a : Key) = Sum.inl b) = (a == b) := by
  by_cases e : a = b
  · subst e; simp
  · have h : ¬ (Sum.inl a : Key) = Sum.inl b := fun q => e (Sum.inl.inj q)
    rw [decide_eq_false h]
    exact (beq_eq_false_iff_ne.mpr e).symm
theorem key_rr (a b : Str) : decide ((Sum.inr a : Key) = Sum.inr b) = decide (a = b) := by
  by_cases e : a = b
  · subst e; simp
  · have h : ¬ (Sum.inr a : Key) = Sum.inr b := fun q => e (Sum.inr.inj q)
    rw [decide_eq_false h, decide_eq_false e]
theorem key_lr (a : Int) (b : Str) : decide ((Sum.inl a : Key) = Sum.inr b) = false := decide_eq_false (fun q => nomatch q)
theorem key_rl (a : Str) (b : Int) : decide ((Sum.inr a : Key) = Sum.inl b) = false := decide_eq_false (fun q => nomatch q)
def mixKind (prog : Program) (w : World) : PySem.KeyKind prog w Key where
  is := keyIs
  hash := keyH w
  inj := fun v a b ha hb => by
    rcases keyIs_shape ha with ⟨i, t, rfl, rfl⟩ | ⟨x, t, rfl, rfl⟩
    · rcases keyIs_shape hb with ⟨j, u, rfl, e⟩ | ⟨y, u, rfl, e⟩
      · injection e with e1 _; rw [e1]
      · exact nomatch e
    · rcases keyIs_shape hb with ⟨j, u, rfl, e⟩ | ⟨y, u, rfl, e⟩
      · exact nomatch e
      · injection e with e1 _; rw [e1]
  byValue := fun k v h => by
    rcases keyIs_shape h with ⟨i, t, rfl, rfl⟩ | ⟨x, t, rfl, rfl⟩ <;> rfl
  pyHash := fun hv h => by
    rcases keyIs_shape hv with ⟨i, t, rfl, rfl⟩ | ⟨x, t, rfl, rfl⟩
    · exact wpAny_pyHash_int h
    · exact wpAny_pyHash_str h
  eqBool := fun hu hv h => by
    rcases keyIs_shape hu with ⟨i, t, rfl, rfl⟩ | ⟨x, t, rfl, rfl⟩
    · rcases keyIs_shape hv with ⟨j, u, rfl, rfl⟩ | ⟨y, u, rfl, rfl⟩
      · rw [key_ll] at h; exact wpAny_eqBool_int h
      · rw [key_lr] at h; exact SeqAt.EqAt.int_str i t y u _ _ _ _ h
    · rcases keyIs_shape hv with ⟨j, u, rfl, rfl⟩ | ⟨y, u, rfl, rfl⟩
      · rw [key_rl] at h; exact SeqAt.EqAt.str_int x t j u _ _ _ _ h
      · rw [key_rr] at h; exact wpAny_eqBool_str h
  «strs» := fun k x t v h => by
    rcases keyIs_shape h with ⟨i, u, rfl, e⟩ | ⟨y, u, rfl, e⟩
    · exact nomatch e
    · injection e with e1 _
      subst e1
      cases v <;> rfl
end L2
namespace L2
open PySem PySem.Spec PyProof.Rows
inductive V where
  | non | bl (b : Bool) | int (i : Int) | str (x : Str) | byt (b : Array UInt8) | flt (b : UInt64) | ref (a : Addr) | ty (n : String)
  deriving DecidableEq
def RelV : V → Value → Prop
  | .non, u => u = Value.none
  | .bl b, u => u = Value.bool b
  | .int i, u => ∃ t, u = Value.int i t
  | .str x, u => ∃ t, u = Value.str x t
  | .byt b, u => ∃ t, u = Value.bytes b t
  | .flt b, u => ∃ t, u = Value.float b t
  | .ref a, u => u = Value.ref a
  | .ty n, u => u = Value.type n
abbrev Vals : List V → List Value → Prop := Paired RelV
theorem Vals.length {xs : List V} {us : List Value} (r : Vals xs us) : xs.length = us.length := Paired.length r
theorem Vals.get : ∀ {xs : List V} {us : List Value} {i : Nat} {x : V}, Vals xs us → xs[i]? = some x → ∃ u, us[i]? = some u ∧ RelV x u
  | _, _, _, _, .nil, e => by simp at e
  | _, _, 0, _, .cons r _, e => by simp at e; subst e; exact ⟨_, rfl, r⟩
  | _, _, i + 1, x, .cons _ t, e => by
    obtain ⟨u, h1, h2⟩ := Vals.get (i := i) (x := x) t (by simpa using e)
    exact ⟨u, by simpa using h1, h2⟩
theorem Vals.set {x : V} {u : Value} (r : RelV x u) : ∀ {xs : List V} {us : List Value} (i : Nat), Vals xs us → Vals (xs.set i x) (us.set i u)
  | _, _, _, .nil => .nil
  | _, _, 0, .cons _ t => .cons r t
  | _, _, i + 1, .cons q t => .cons q (Vals.set r i t)
theorem Vals.append : ∀ {xs ys : List V} {us ws : List Value}, Vals xs us → Vals ys ws → Vals (xs ++ ys) (us ++ ws)
  | _, _, _, _, .nil, s => s
  | _, _, _, _, .cons r t, s => .cons r (Vals.append t s)
theorem Vals.take : ∀ {xs : List V} {us : List Value} (n : Nat), Vals xs us → Vals (xs.take n) (us.take n)
  | _, _, 0, _ => .nil
  | _, _, _ + 1, .nil => .nil
  | _, _, n + 1, .cons r t => .cons r (Vals.take n t)
theorem Vals.drop : ∀ {xs : List V} {us : List Value} (n : Nat), Vals xs us → Vals (xs.drop n) (us.drop n)
  | _, _, 0, r => r
  | _, _, _ + 1, .nil => .nil
  | _, _, n + 1, .cons _ t => Vals.drop n t
def RelO : Option V → Option Value → Prop
  | some v, some u => RelV v u
  | none, none => True
  | _, _ => False
def KV {κ : Type} : List (κ × V) → List (κ × Value) → Prop := Paired fun (p : κ × V) (q : κ × Value) => p.1 = q.1 ∧ RelV p.2 q.2
def kV : Key → V
  | .inl i => .int i
  | .inr x => .str x
inductive HO where
  /-- a list -/
  | lst (xs : List V)
  /-- a tuple (never changes) -/
  | tup (xs : List V)
  /-- a dict whose keys are ints and texts; one whose keys are tuples of ints and texts (the empty one is both) -/
  | dK (kvs : List (Key × V)) | dT (kvs : List (List Key × V))
  /-- a set of ints: its members, its size -/
  | set (S : Int → Bool) (n : Nat)
  /-- an instance of the class at C, its dict at dx, its attributes -/
  | ins (C dx : Addr) (fs : List (Str × V))
  /-- the dict of the instance at x -/
  | own (x : Addr)
  /-- the dict of an exception -/
  | xd (fs : List (Str × V))
  /-- a bound method, f of x -/
  | met (f x : Addr)
  /-- a range object lo, lo + 1, .. below hi -/
  | rng (lo hi : Int)
  /-- a thing that is known to the object (the script; a dict while a loop walks it): read, never written while it is so -/
  | frz (o : Obj) (u : HO)
  /-- a code object's table -/
  | tbl (ps : Array Value)
  /-- any other thing, by what is true of its one object (a def of one's own: SetO a S n := HO.ext fun h => ..) -/
  | ext (φ : Heap → Prop)
abbrev Hp := Addr → Option HO
def upd (H : Hp) (a : Addr) (o : HO) : Hp := fun b => if b = a then some o else H b
theorem upd_same {H : Hp} {a : Addr} {o : HO} : upd H a o a = some o := by unfold upd; rw [if_pos rfl]
theorem upd_ne {H : Hp} {a b : Addr} {o : HO} (h : b ≠ a) : upd H a o b = H b := by unfold upd; rw [if_neg h]
theorem ne_of {H : Hp} {a b : Addr} {o u : HO} (h : H a = some o) (h' : H b = some u) (d : o ≠ u) : a ≠ b := by
  intro e; subst e; rw [h] at h'; exact d (Option.some.inj h')
theorem ne_of_none {H : Hp} {a b : Addr} {o : HO} (h : H a = some o) (h' : H b = none) : a ≠ b := by
  intro e; subst e; rw [h] at h'; cases h'
section
variable (P : Program) (w : World)
def ObjOk (H : Hp) (h : Heap) (a : Addr) : HO → Prop
  | .lst xs => xs.length ≤ sizeLine ∧ ∃ (its : List Value) (n : Nat), Vals xs its ∧ h.get? a = some { cls := .type "list", data := .seq its.toArray n }
  | .tup xs => xs.length ≤ sizeLine ∧ ∃ its : List Value, Vals xs its ∧ IsTup h a its.toArray
  | .dK kvs => kvs.length ≤ sizeLine ∧ (a == sysModules) = false ∧ ∃ vs, KV kvs vs ∧ h.DictOf (mixKind P w) a vs
  | .dT kvs => kvs.length ≤ sizeLine ∧ (a == sysModules) = false ∧ ∃ xs : List (List Key × Addr × Value),
      Paired (fun (p : List Key × V) (q : List Key × Addr × Value) => p.1 = q.1 ∧ H q.2.1 = some (.tup (p.1.map kV)) ∧ RelV p.2 q.2.2) kvs xs ∧
      ∃ o es ep, h.get? a = some o ∧ o.ExactDict ∧ o.data = .dict es ep ∧ es.toList = xs.map (entryOfKey (tupleKind (mixKind P w))) ∧ (xs.map (·.1)).Nodup
  | .set S n => h.SetOf (intKind P w) a S n
  | .ins C dx fs => H dx = some (.own a) ∧ fs.length ≤ 1000 ∧ dx ≠ a ∧ h.get? a = some (PySem.W.instObj C dx) ∧
      ∃ mA, h.Ns1 dx mA ∧ (∀ f, RelO (fs.lookup f) (mA f)) ∧ PySem.Within mA (fs.map (·.1))
  | .own _ => ∃ o, h.get? a = some o
  | .xd fs => ∃ mA, h.Ns1 a mA ∧ ∀ f, RelO (fs.lookup f) (mA f)
  | .rng lo hi => ∃ t u v, h.get? a = some { cls := .type "range", data := .fields #[.int lo t, .int hi u, .int 1 v] }
  | .frz o u => h.get? a = some o ∧ ObjOk H h a u
  | .tbl ps => h.get? a = some { cls := .none, data := .fields ps }
  | .met f x => h.get? a = some (PySem.W.methodObj (.ref f) (.ref x))
  | .ext φ => φ h ∧ (∃ o, h.get? a = some o) ∧ ∀ h1 h2 : Heap, φ h1 → (∀ o, h1.get? a = some o → h2.get? a = some o) → φ h2
def HOk (H : Hp) (h : Heap) : Prop := ∀ a o, H a = some o → ObjOk P w H h a o
end
section
variable {P : Program} {w : World} {H H' : Hp} {h h' : Heap} {a : Addr} {o : HO}
theorem ObjOk.lt (x : ObjOk P w H h a o) : a < h.objs.size := by
  cases o with
  | lst xs => obtain ⟨_, _, _, _, e⟩ := x; exact Heap.lt_size e
  | tup xs => obtain ⟨_, _, _, p⟩ := x; exact p.lt
  | dK kvs => obtain ⟨_, _, _, _, o, _, _, e, _⟩ := x; exact Heap.lt_size e
  | dT kvs => obtain ⟨_, _, _, _, o, _, _, e, _⟩ := x; exact Heap.lt_size e
  | set S n => obtain ⟨o, _, _, _, e, _⟩ := x; exact Heap.lt_size e
  | ins C dx fs => obtain ⟨_, _, _, e, _⟩ := x; exact Heap.lt_size e
  | own y => obtain ⟨_, e⟩ := x; exact Heap.lt_size e
  | xd fs => obtain ⟨_, ⟨_, _, _, e, _⟩, _⟩ := x; exact Heap.lt_size e
  | rng lo hi => obtain ⟨_, _, _, e⟩ := x; exact Heap.lt_size e
  | frz ob u => obtain ⟨e, _⟩ := x; exact Heap.lt_size e
  | tbl ps => exact Heap.lt_size (show h.get? a = some _ from x)
  | met f y => exact Heap.lt_size (show h.get? a = some _ from x)
  | ext φ => obtain ⟨_, ⟨_, e⟩, _⟩ := x; exact Heap.lt_size e
theorem Paired.mapP {α β : Type} {F G : α → β → Prop} : ∀ {l₁ : List α} {l₂ : List β}, Paired F l₁ l₂ → (∀ a b, F a b → G a b) → Paired G l₁ l₂
  | _, _, .nil, _ => .nil
  | _, _, .cons r t, f => .cons (f _ _ r) (Paired.mapP t f)
theorem ObjOk.stay (x : ObjOk P w H h a o) (k : ∀ b u, (b = a ∨ H b = some (.own a)) → h.get? b = some u → h'.get? b = some u)
    (ho : ∀ b, H b = some (.own a) → H' b = some (.own a)) (ht : ∀ b xs, H b = some (.tup xs) → H' b = some (.tup xs)) : ObjOk P w H' h' a o := by
  induction o with
  | lst xs => obtain ⟨z, its, n, r, e⟩ := x; exact ⟨z, its, n, r, k _ _ (.inl rfl) e⟩
  | tup xs => obtain ⟨z, its, r, ob, e, c⟩ := x; exact ⟨z, its, r, ob, k _ _ (.inl rfl) e, c⟩
  | dK kvs => obtain ⟨z, y, vs, r, ob, es, ep, e, c⟩ := x; exact ⟨z, y, vs, r, ob, es, ep, k _ _ (.inl rfl) e, c⟩
  | dT kvs =>
    obtain ⟨z, y, xs, r, ob, es, ep, e, c⟩ := x
    exact ⟨z, y, xs, Paired.mapP r fun p q z => ⟨z.1, ht _ _ z.2.1, z.2.2⟩, ob, es, ep, k _ _ (.inl rfl) e, c⟩
  | set S n => obtain ⟨ob, es, ep, t, e, c⟩ := x; exact ⟨ob, es, ep, t, k _ _ (.inl rfl) e, c⟩
  | ins C dx fs =>
    obtain ⟨d, z, ne, e, mA, ⟨od, es, ep, e2, c⟩, r⟩ := x
    exact ⟨ho _ d, z, ne, k _ _ (.inl rfl) e, mA, ⟨od, es, ep, k _ _ (.inr d) e2, c⟩, r⟩
  | own y => obtain ⟨ob, e⟩ := x; exact ⟨ob, k _ _ (.inl rfl) e⟩
  | xd fs => obtain ⟨mA, ⟨od, es, ep, e, c⟩, r⟩ := x; exact ⟨mA, ⟨od, es, ep, k _ _ (.inl rfl) e, c⟩, r⟩
  | rng lo hi => obtain ⟨t, u, v, e⟩ := x; exact ⟨t, u, v, k _ _ (.inl rfl) e⟩
  | frz ob u ih => obtain ⟨e, q⟩ := x; exact ⟨k _ _ (.inl rfl) e, ih q⟩
  | tbl ps =>
    have e : h.get? a = some { cls := .none, data := .fields ps } := x
    show h'.get? a = some { cls := .none, data := .fields ps }
    exact k a _ (.inl rfl) e
  | met f y =>
    have e : h.get? a = some (PySem.W.methodObj (.ref f) (.ref y)) := x
    show h'.get? a = some (PySem.W.methodObj (.ref f) (.ref y))
    exact k a _ (.inl rfl) e
  | ext φ => obtain ⟨p, ⟨o, e⟩, st⟩ := x; exact ⟨st _ _ p fun o q => k _ _ (.inl rfl) q, ⟨o, k _ _ (.inl rfl) e⟩, st⟩
theorem HOk.lt (x : HOk P w H h) (e : H a = some o) : a < h.objs.size := (x a o e).lt
theorem HOk.fresh (x : HOk P w H h) (e : h.objs.size ≤ a) : H a = none := by
  cases q : H a with
  | none => rfl
  | some u => exact absurd (Nat.lt_of_lt_of_le (x.lt q) e) (Nat.lt_irrefl _)
theorem HOk.kept (x : HOk P w H h) (k : ∀ b u, h.get? b = some u → h'.get? b = some u) : HOk P w H h' := fun a o e =>
  (x a o e).stay (fun b u _ q => k b u q) (fun _ q => q) fun _ _ q => q
theorem HOk.laid (x : HOk P w H h) (k : ∀ b u, h.get? b = some u → h'.get? b = some u) (hp : h.objs.size ≤ a) (new : ObjOk P w (upd H a o) h' a o) : HOk P w (upd H a o) h' := fun b u e => by
  have hn := x.fresh hp
  by_cases hb : b = a
  · subst hb; rw [upd_same] at e; cases e; exact new
  · rw [upd_ne hb] at e
    exact (x b u e).stay (fun c v _ q => k c v q) (fun c q => by rw [upd_ne (ne_of_none q hn)]; exact q) fun c xs q => by rw [upd_ne (ne_of_none q hn)]; exact q
end
def Rd (H : Hp) (a : Addr) (u : HO) : Prop := H a = some u ∨ ∃ o, H a = some (.frz o u)
theorem Rd.of {H : Hp} {a : Addr} {u : HO} (h : H a = some u) : Rd H a u := .inl h
theorem Rd.ok {P : Program} {w : World} {H : Hp} {h : Heap} {a : Addr} {u : HO} (r : Rd H a u) (x : HOk P w H h) : ObjOk P w H h a u := by
  rcases r with r | ⟨o, r⟩
  · exact x a u r
  · obtain ⟨_, q⟩ := x a _ r
    exact q
def Mut : Option HO → Prop
  | some (.lst _) => True
  | some (.dK _) => True
  | some (.dT _) => True
  | some (.set _ _) => True
  | some (.ins _ _ _) => True
  | some (.ext _) => True
  | _ => False
section
variable {P : Program} {w : World} {H : Hp} {h h' : Heap} {x e : Addr} {o' : HO}
theorem HOk.write (ok : HOk P w H h) (mu : Mut (H x)) (he : e = x ∨ H e = some (.own x)) (k : ∀ b u, b ≠ e → h.get? b = some u → h'.get? b = some u) (heo : ∃ u, h'.get? e = some u)
    (new : ObjOk P w (upd H x o') h' x o') : HOk P w (upd H x o') h' := fun b u q => by
  have nown : ∀ c y, H c = some (.own y) → c ≠ x := fun c y r z => by subst z; rw [r] at mu; exact mu
  have ntup : ∀ c xs, H c = some (.tup xs) → c ≠ x := fun c xs r z => by subst z; rw [r] at mu; exact mu
  by_cases hb : b = x
  · subst hb; rw [upd_same] at q; cases q; exact new
  · rw [upd_ne hb] at q
    by_cases hbe : b = e
    · have q' : H b = some (.own x) := by
        rcases he with z | z
        · exact absurd (hbe.trans z) hb
        · rw [hbe]; exact z
      rw [q] at q'; cases q'
      obtain ⟨v, hv⟩ := heo
      exact ⟨v, by rw [hbe]; exact hv⟩
    · refine (ok b u q).stay (fun c v hc r => k c v ?_ r) (fun c r => by rw [upd_ne (nown c b r)]; exact r) fun c xs r => by rw [upd_ne (ntup c xs r)]; exact r
      rcases hc with rfl | hc
      · exact hbe
      · rintro rfl
        rcases he with z | z
        · exact nown c b hc z
        · rw [hc] at z; cases z; exact hb rfl
end
structure Un (fs ex : List Addr) (H H' : Hp) (h h' : Heap) : Prop where
  keep : ∀ b o, h.get? b = some o → H b = none → b ∉ fs → b ∉ ex → h'.get? b = some o
  slot : ∀ b o, h.get? b = some o → H b = none → b ∈ fs → b ∉ ex → ∃ sl, h'.get? b = some { o with slots := sl }
  free : ∀ b o, h.get? b = some o → H b = none → b ∉ ex → H' b = none
  there : ∀ b o, h.get? b = some o → b ∉ ex → ∃ o', h'.get? b = some o'
  tups : ∀ b xs, H b = some (.tup xs) → H' b = some (.tup xs)
  frzs : ∀ b o u, H b = some (.frz o u) → H' b = some (.frz o u)
  tbls : ∀ b ps, H b = some (.tbl ps) → ∃ more, H' b = some (.tbl (ps ++ more))
section
variable {fs fs' ex ex' : List Addr} {H H1 H2 : Hp} {h h1 h2 h' : Heap} {a x e : Addr} {o : HO}
theorem Un.any (u : Un fs ex H H1 h h1) {b : Addr} {ob : Obj} (q : h.get? b = some ob) (n : H b = none) (hx : b ∉ ex) : ∃ sl, h1.get? b = some { ob with slots := sl } := by
  by_cases hb : b ∈ fs
  · exact u.slot b ob q n hb hx
  · exact ⟨ob.slots, u.keep b ob q n hb hx⟩
theorem Un.trans (a : Un fs ex H H1 h h1) (b : Un fs ex H1 H2 h1 h2) : Un fs ex H H2 h h2 where
  keep := fun c ob q n hc hx => b.keep c ob (a.keep c ob q n hc hx) (a.free c ob q n hx) hc hx
  slot := fun c ob q n hc hx => by
    obtain ⟨sl, e1⟩ := a.slot c ob q n hc hx
    obtain ⟨sl', e2⟩ := b.slot c _ e1 (a.free c ob q n hx) hc hx
    exact ⟨sl', e2⟩
  free := fun c ob q n hx => by
    obtain ⟨o', e1⟩ := a.there c ob q hx
    exact b.free c o' e1 (a.free c ob q n hx) hx
  there := fun c ob q hx => by
    obtain ⟨o', e1⟩ := a.there c ob q hx
    exact b.there c o' e1 hx
  tups := fun c xs q => b.tups c xs (a.tups c xs q)
  frzs := fun c ob xs q => b.frzs c ob xs (a.frzs c ob xs q)
  tbls := fun c ps q => by
    obtain ⟨m1, e1⟩ := a.tbls c ps q
    obtain ⟨m2, e2⟩ := b.tbls c _ e1
    exact ⟨m1 ++ m2, by rw [e2, Array.append_assoc]⟩
theorem Un.kept (k : ∀ b u, h.get? b = some u → h'.get? b = some u) : Un fs ex H H h h' :=
  ⟨fun b ob q _ _ _ => k b ob q, fun b ob q _ _ _ => ⟨ob.slots, k b ob q⟩, fun _ _ _ n _ => n, fun b ob q _ => ⟨ob, k b ob q⟩, fun _ _ q => q, fun _ _ _ q => q, fun _ ps q => ⟨#[], by rw [q]; simp⟩⟩
theorem Un.refl : Un fs ex H H h h := Un.kept fun _ _ q => q
theorem Un.laid (k : ∀ b u, h.get? b = some u → h'.get? b = some u) (hp : h.objs.size ≤ a) (hn : H a = none) : Un fs ex H (upd H a o) h h' where
  keep := fun b u q _ _ _ => k b u q
  slot := fun b u q _ _ _ => ⟨u.slots, k b u q⟩
  free := fun b u q n _ => by rw [upd_ne (Nat.ne_of_lt (Nat.lt_of_lt_of_le (Heap.lt_size q) hp))]; exact n
  there := fun b u q _ => ⟨u, k b u q⟩
  tups := fun b xs q => by rw [upd_ne (ne_of_none q hn)]; exact q
  frzs := fun b u xs q => by rw [upd_ne (ne_of_none q hn)]; exact q
  tbls := fun b ps q => ⟨#[], by rw [upd_ne (ne_of_none q hn), q]; simp⟩
theorem Un.write (mu : Mut (H x)) (he : e = x ∨ H e = some (.own x)) (k : ∀ b u, b ≠ e → h.get? b = some u → h'.get? b = some u) (heo : ∃ u, h'.get? e = some u) : Un fs ex H (upd H x o) h h' := by
  have hx : ∀ b, H b = none → b ≠ x := fun b n z => by subst z; rw [n] at mu; exact mu
  have hb : ∀ b, H b = none → b ≠ e := fun b n z => by
    subst z
    rcases he with r | r
    · exact hx b n r
    · rw [n] at r; cases r
  have hm : ∀ b u, H b = some u → ¬ Mut (some u) → b ≠ x := fun b u q nm z => by subst z; rw [q] at mu; exact nm mu
  refine ⟨fun b u q n _ _ => k b u (hb b n) q, fun b u q n _ _ => ⟨u.slots, k b u (hb b n) q⟩, fun b u q n _ => by rw [upd_ne (hx b n)]; exact n, fun b u q _ => ?_,
    fun b xs q => by rw [upd_ne (hm b _ q fun z => z)]; exact q, fun b u xs q => by rw [upd_ne (hm b _ q fun z => z)]; exact q, fun b ps q => ⟨#[], by rw [upd_ne (hm b _ q fun z => z), q]; simp⟩⟩
  by_cases hbe : b = e
  · subst hbe; exact heo
  · exact ⟨u, k b u hbe q⟩
theorem Un.mono (u : Un fs ex H H1 h h1) (hs : ∀ b ∈ fs, b ∈ fs') (hx : ∀ b ∈ ex, b ∈ ex') : Un fs' ex' H H1 h h1 :=
  ⟨fun b ob q n hb he => u.keep b ob q n (fun z => hb (hs b z)) fun z => he (hx b z), fun _ _ q n _ he => u.any q n fun z => he (hx _ z), fun b ob q n he => u.free b ob q n fun z => he (hx b z), fun b ob q he => u.there b ob q fun z => he (hx b z), u.tups, u.frzs, u.tbls⟩
end
def trk (h : Heap) (H : Hp) : List Addr := (List.range h.objs.size).filter fun a => (H a).isSome
def hidT (h : Heap) (H : Hp) : Heap := PySem.W.hideAll h (trk h H)
theorem hidT_size (h : Heap) (H : Hp) : (hidT h H).objs.size = h.objs.size := PySem.W.hideAll_size _ _
theorem hidT_get {h : Heap} {H : Hp} {b : Addr} {o : Obj} (e : h.get? b = some o) (n : H b = none) : (hidT h H).get? b = some o :=
  PySem.W.hideAll_get _ e fun hm => by
    have q : (H b).isSome = true := (List.mem_filter.mp hm).2
    rw [n] at q; simp at q
theorem of_hidT {h : Heap} {H : Hp} {b : Addr} {o : Obj} (e : (hidT h H).get? b = some o) : h.get? b = some o ∧ H b = none := by
  have e' : h.get? b = some o := PySem.W.of_hideAll (trk h H) e
  refine ⟨e', ?_⟩
  cases q : H b with
  | none => rfl
  | some x =>
    have hm : b ∈ trk h H := List.mem_filter.mpr ⟨List.mem_range.mpr (Heap.lt_size e'), by simp [q]⟩
    have z : (hidT h H).get? b = none := PySem.W.hideAll_none (trk h H) hm
    rw [z] at e; cases e
def allNews (g h : Heap) (L : Addr) : List (Addr × Obj) := (List.range h.objs.size).filterMap fun a => if a = L ∨ (g.get? a).isSome = true then none else (h.get? a).map fun o => (a, o)
def rest (g h : Heap) (L d : Addr) : List (Addr × Obj) := (allNews g h L).filter fun p => decide (p.1 ≠ d)
end L2
namespace L2
open PySem PySem.Spec PyProof.Rows
structure Mod (K : PySem.W.Frag) (mg : Str → Option Value) (base : Heap) : Prop where
  kin : K.In base
  glob : base.Ns mainGlobals mg
  blt : ∃ mb, base.Ns builtinsNs mb ∧ ∀ x : Str, x ≠ "__name__" → mb x = bootBuiltins x
  nolimit : base.NoLimit
structure Cx where
  prog : Program
  w : World
  K : PySem.W.Frag
  mg : Str → Option Value
  base : Heap
  A : Around
  N : List Str
  s₀ : Shared
  H₀ : Hp
  env : Env
  outer : List Env
  stack : List Env
  ex : List Addr
  fn : Str → Bool
  calm : Bool
  pn : List (Addr × Obj)
  xe : Value → Shared → Prop
def frs (l : List Env) : List Addr := l.filterMap (·.frame)
abbrev Cx.fs (X : Cx) : List Addr := frs X.outer
def Vis (sc : Scope) (x : Str) : Prop := sc.names.lookup x = some .local ∨ sc.names.lookup x = some .cell ∨ sc.names.lookup x = some .free
def Loc (sc : Scope) (x : Str) : Prop := sc.names.lookup x = some .local ∨ sc.names.lookup x = some .cell
def Look (env : Env) (h : Heap) (m : Str → Option Value) (x : Str) (u : Value) : Prop :=
  (env.kindOf x = some .local ∧ m x = some u) ∨ ((env.kindOf x = some .cell ∨ env.kindOf x = some .free) ∧ ∃ c, env.cells.lookup x = some c ∧ h.IsCell c (some u))
structure Cx.Ok (X : Cx) : Prop where
  mod : Mod X.K X.mg X.base
  kind : X.env.scope.kind = .function
  glob : X.env.globals = mainGlobals
  blt : X.env.builtins = builtinsNs
  above : X.s₀.heap.objs.size ≤ X.env.locals
  inj : ∀ x y c, X.env.cells.lookup x = some c → X.env.cells.lookup y = some c → x = y
  has : ∀ x, (X.env.kindOf x = some .cell ∨ X.env.kindOf x = some .free) → ∃ c, X.env.cells.lookup x = some c
  cab : ∀ x c, X.fn x = true → X.env.cells.lookup x = some c → X.s₀.heap.objs.size ≤ c
  hd : X.calm = true → X.A.handled = none
  frames : X.A.frames = some X.stack
  stk : X.stack = X.outer ∨ (X.stack = X.env :: X.outer ∧ X.env.frame = some X.env.locals)
  exf : ∀ b ∈ X.ex, b ≠ X.env.locals ∧ ∀ x c, X.env.cells.lookup x = some c → c ≠ b
  bs : ∀ b o, X.base.get? b = some o → X.s₀.heap.get? b = some o ∧ X.H₀ b = none
  bsz : X.base.objs.size ≤ X.s₀.heap.objs.size
  noex : ∀ b o, X.base.get? b = some o → b ∉ X.ex
  exfs : ∀ b ∈ X.ex, b ∉ X.fs
  funs : X.s₀.heap.FunFrames X.base X.outer
  frf : ∀ b ∈ X.fs, X.H₀ b = none
structure Inv (X : Cx) (pins : List (Addr × Obj)) (σ : List (Option V)) (H : Hp) (s : Shared) : Prop where
  ok : X.Ok
  os : s.os = X.s₀.os
  bare : AllBare s.gens
  base : Un X.fs X.ex X.H₀ H X.s₀.heap s.heap
  loc : ∃ m, s.heap.Ns X.env.locals m ∧ ∀ (i : Nat) (x : Str) (v : V), X.N[i]? = some x → σ[i]? = some (some v) → Vis X.env.scope x → ∃ u, RelV v u ∧ Look X.env s.heap m x u
  cell : ∀ x c, X.env.cells.lookup x = some c → ∃ v, s.heap.IsCell c v
  free : H X.env.locals = none
  freeC : ∀ x c, X.env.cells.lookup x = some c → H c = none
  pin : ∀ p ∈ X.pn ++ pins, s.heap.get? p.1 = some p.2 ∧ H p.1 = none ∧ p.1 ≠ X.env.locals ∧ p.1 ∉ X.fs ∧ ∀ v, p.2.data ≠ .cell v
  hok : HOk X.prog X.w H s.heap
  len : σ.length = X.N.length
section
variable {X : Cx} {pins : List (Addr × Obj)} {σ : List (Option V)} {H H' : Hp} {s : Shared} {h' : Heap}
theorem Cx.Ok.nofr (ok : X.Ok) {b : Addr} {o : Obj} (e : X.base.get? b = some o) : b ∉ X.fs := fun hb => by
  have := (ok.funs.mem hb).1
  rw [e] at this; cases this
theorem Inv.bs (I : Inv X pins σ H s) : ∀ b o, X.base.get? b = some o → s.heap.get? b = some o ∧ H b = none := fun b o e =>
  ⟨I.base.keep b o (I.ok.bs b o e).1 (I.ok.bs b o e).2 (I.ok.nofr e) (I.ok.noex b o e), I.base.free b o (I.ok.bs b o e).1 (I.ok.bs b o e).2 (I.ok.noex b o e)⟩
theorem Inv.bk (I : Inv X pins σ H s) : ∀ b o, X.base.get? b = some o → s.heap.get? b = some o := fun b o e => (I.bs b o e).1
theorem Inv.mod (I : Inv X pins σ H s) : Mod X.K X.mg X.base := I.ok.mod
theorem Inv.kIn (I : Inv X pins σ H s) : X.K.In s.heap := I.ok.mod.kin.keeps I.bk
theorem Inv.nolimit (I : Inv X pins σ H s) : s.heap.NoLimit := I.ok.mod.nolimit.keeps I.bk
theorem Inv.lt (I : Inv X pins σ H s) : X.env.locals < s.heap.objs.size := let ⟨_, hn, _⟩ := I.loc; hn.lt
theorem Inv.sz (I : Inv X pins σ H s) : X.s₀.heap.objs.size ≤ s.heap.objs.size := Nat.le_trans I.ok.above (Nat.le_of_lt I.lt)
theorem Inv.nofs (I : Inv X pins σ H s) {a : Addr} (h : s.heap.objs.size ≤ a) : a ∉ X.fs := fun hb => by
  obtain ⟨_, o, ho, _⟩ := I.ok.funs.mem hb
  exact absurd (Nat.lt_of_lt_of_le (Heap.lt_size ho) (Nat.le_trans I.sz h)) (Nat.lt_irrefl _)
theorem Inv.cne (I : Inv X pins σ H s) : ∀ x c, X.env.cells.lookup x = some c → c ≠ X.env.locals := fun x c e z => by
  obtain ⟨v, o, ho, hd⟩ := I.cell x c e
  obtain ⟨m, ⟨o', es, ep, ho', hd', _⟩, _⟩ := I.loc
  rw [z, ho'] at ho; cases ho; rw [hd'] at hd; cases hd
theorem Inv.funs (I : Inv X pins σ H s) : s.heap.FunFrames X.base X.outer := by
  have all : ∀ (l : List Env), (∀ b ∈ frs l, b ∈ X.fs) → X.s₀.heap.FunFrames X.base l → s.heap.FunFrames X.base l := by
    intro l
    induction l with
    | nil => intro _ _; trivial
    | cons env r ih =>
      intro hs hl
      obtain ⟨hk, ⟨L, o, hf, hn, ho, hd⟩, hr⟩ := hl
      have hL : L ∈ X.fs := hs L (by unfold frs; rw [List.filterMap_cons, hf]; exact List.mem_cons_self)
      obtain ⟨sl, e⟩ := I.base.slot L o ho (I.ok.frf L hL) hL fun z => I.ok.exfs L z hL
      exact ⟨hk, ⟨L, _, hf, hn, e, hd⟩, ih (fun b hb => hs b (by unfold frs; rw [List.filterMap_cons, hf]; exact List.mem_cons_of_mem _ hb)) hr⟩
  exact all X.outer (fun _ hb => hb) I.ok.funs
theorem Inv.stack (I : Inv X pins σ H s) : s.heap.FunFrames X.base X.stack := by
  rcases I.ok.stk with e | ⟨e, hf⟩
  · rw [e]; exact I.funs
  · rw [e]
    obtain ⟨m, hn, _⟩ := I.loc
    refine .cons (by rw [I.ok.kind]; decide) hf hn ?_ I.funs
    exact Heap.get?_none_of_le (Nat.le_trans I.ok.bsz I.ok.above)
theorem Inv.stkSub (I : Inv X pins σ H s) : ∀ b ∈ frs X.stack, b ∈ X.env.locals :: X.fs := fun b hb => by
  rcases I.ok.stk with e | ⟨e, hf⟩
  · rw [e] at hb; exact List.mem_cons_of_mem _ hb
  · rw [e] at hb
    unfold frs at hb
    rw [List.filterMap_cons, hf] at hb
    exact hb
theorem Inv.stkFree (I : Inv X pins σ H s) : ∀ b ∈ frs X.stack, H b = none := fun b hb => by
  rcases List.mem_cons.mp (I.stkSub b hb) with e | hb
  · rw [e]; exact I.free
  · obtain ⟨_, o, ho, _⟩ := I.ok.funs.mem hb
    exact I.base.free b o ho (I.ok.frf b hb) fun z => I.ok.exfs b z hb
theorem Inv.step {g' : Array GenState} {t' : Nat} {d' : Drawn} {ch : List Addr} (I : Inv X pins σ H s)
    (hch : ∀ b ∈ ch, (b ∈ X.ex ∨ X.s₀.heap.objs.size ≤ b) ∧ b ≠ X.env.locals ∧ (∀ x c, X.env.cells.lookup x = some c → c ≠ b) ∧ ∀ p ∈ X.pn ++ pins, p.1 ≠ b)
    (keep : ∀ b o, b ≠ X.env.locals → b ∉ X.fs → b ∉ ch → s.heap.get? b = some o → H b = none → h'.get? b = some o)
    (slot : ∀ b o, b ≠ X.env.locals → b ∈ X.fs → b ∉ ch → s.heap.get? b = some o → H b = none → ∃ sl, h'.get? b = some { o with slots := sl }) (free : ∀ b o, b ∉ ch → s.heap.get? b = some o → H b = none → H' b = none)
    (there : ∀ b o, b ∉ ch → s.heap.get? b = some o → ∃ o', h'.get? b = some o')
    (tups : ∀ b xs, H b = some (.tup xs) → H' b = some (.tup xs)) (frzs : ∀ b o u, H b = some (.frz o u) → H' b = some (.frz o u)) (tbls : ∀ b ps, H b = some (.tbl ps) → ∃ more, H' b = some (.tbl (ps ++ more)))
    (ns : ∀ m, s.heap.Ns X.env.locals m → h'.Ns X.env.locals m) (hok : HOk X.prog X.w H' h') (hg : AllBare g') :
    Inv X pins σ H' { s with heap := h', gens := g', drawn := d', toks := t' } := by
  have neL : ∀ b o, X.s₀.heap.get? b = some o → b ≠ X.env.locals := fun b o e => Nat.ne_of_lt (Nat.lt_of_lt_of_le (Heap.lt_size e) I.ok.above)
  have neC : ∀ b o, X.s₀.heap.get? b = some o → b ∉ X.ex → b ∉ ch := fun b o e hx hb => by
    rcases (hch b hb).1 with z | z
    · exact hx z
    · exact absurd (Nat.lt_of_lt_of_le (Heap.lt_size e) z) (Nat.lt_irrefl _)
  have cellK : ∀ x c, X.env.cells.lookup x = some c → ∀ v, s.heap.IsCell c v → h'.IsCell c v := fun x c e v ⟨o, ho, hd⟩ => by
    have nch : c ∉ ch := fun z => (hch c z).2.2.1 x c e rfl
    by_cases hc : c ∈ X.fs
    · obtain ⟨sl, q⟩ := slot c o (I.cne x c e) hc nch ho (I.freeC x c e)
      exact ⟨_, q, hd⟩
    · exact ⟨o, keep c o (I.cne x c e) hc nch ho (I.freeC x c e), hd⟩
  refine ⟨I.ok, I.os, hg, ⟨fun b o e n hb hx => ?_, fun b o e n hb hx => ?_, fun b o e n hx => ?_, fun b o e hx => ?_, fun b xs e => tups b xs (I.base.tups b xs e), fun b o xs e => frzs b o xs (I.base.frzs b o xs e), fun b ps e => ?_⟩, ?_, fun x c e => ?_, ?_, fun x c e => ?_, fun p hp => ?_, hok, I.len⟩
  · exact keep b o (neL b o e) hb (neC b o e hx) (I.base.keep b o e n hb hx) (I.base.free b o e n hx)
  · obtain ⟨sl, e1⟩ := I.base.slot b o e n hb hx
    obtain ⟨sl', e2⟩ := slot b _ (neL b o e) hb (neC b o e hx) e1 (I.base.free b o e n hx)
    exact ⟨sl', e2⟩
  · obtain ⟨o', e1⟩ := I.base.there b o e hx
    exact free b o' (neC b o e hx) e1 (I.base.free b o e n hx)
  · obtain ⟨o', e1⟩ := I.base.there b o e hx
    exact there b o' (neC b o e hx) e1
  · obtain ⟨m1, e1⟩ := I.base.tbls b ps e
    obtain ⟨m2, e2⟩ := tbls b _ e1
    exact ⟨m1 ++ m2, by rw [e2, Array.append_assoc]⟩
  · obtain ⟨m, hn, hl⟩ := I.loc
    refine ⟨m, ns m hn, fun i x v e1 e2 e3 => ?_⟩
    obtain ⟨u, r, l⟩ := hl i x v e1 e2 e3
    refine ⟨u, r, ?_⟩
    rcases l with l | ⟨k, c, e, z⟩
    · exact .inl l
    · exact .inr ⟨k, c, e, cellK x c e _ z⟩
  · obtain ⟨v, z⟩ := I.cell x c e
    exact ⟨v, cellK x c e v z⟩
  · obtain ⟨m, ⟨o, _, _, ho, _⟩, _⟩ := I.loc
    exact free _ o (fun z => (hch _ z).2.1 rfl) ho I.free
  · obtain ⟨v, o, ho, hd⟩ := I.cell x c e
    exact free c o (fun z => (hch c z).2.2.1 x c e rfl) ho (I.freeC x c e)
  · obtain ⟨e, n, ne, nf, d⟩ := I.pin p hp
    have nch : p.1 ∉ ch := fun z => (hch p.1 z).2.2.2 p hp rfl
    exact ⟨keep p.1 p.2 ne nf nch e n, free p.1 p.2 nch e n, ne, nf, d⟩
theorem Inv.un {t' : Nat} (I : Inv X pins σ H s) (u : Un X.fs [] H H' s.heap h') (hok : HOk X.prog X.w H' h') : Inv X pins σ H' { s with heap := h', toks := t' } := by
  obtain ⟨m, ⟨o, es, ep, ho, r⟩, _⟩ := id I.loc
  obtain ⟨sl, hL⟩ := u.any ho I.free (by simp)
  exact I.step (g' := s.gens) (d' := s.drawn) (ch := []) (fun _ z => nomatch z) (fun b o _ hb _ e n => u.keep b o e n hb (by simp)) (fun b o _ hb _ e n => u.slot b o e n hb (by simp)) (fun b o _ e n => u.free b o e n (by simp)) (fun b o _ e => u.there b o e (by simp)) u.tups u.frzs u.tbls (fun m' hm => by
    obtain ⟨o', es', ep', ho', r'⟩ := hm
    rw [ho] at ho'; cases ho'
    exact ⟨_, es', ep', hL, r'⟩) hok I.bare
theorem Inv.call {g' : Array GenState} {t' : Nat} {d' : Drawn} {ch : List Addr} (I : Inv X pins σ H s) (u : Un (frs X.stack) ch H H' s.heap h') (hok : HOk X.prog X.w H' h') (hg : AllBare g')
    (hch : ∀ b ∈ ch, (b ∈ X.ex ∨ X.s₀.heap.objs.size ≤ b) ∧ b ≠ X.env.locals ∧ (∀ x c, X.env.cells.lookup x = some c → c ≠ b) ∧ ∀ p ∈ X.pn ++ pins, p.1 ≠ b) :
    Inv X pins σ H' { s with heap := h', gens := g', drawn := d', toks := t' } := by
  obtain ⟨m, ⟨o, es, ep, ho, r⟩, _⟩ := id I.loc
  obtain ⟨sl, hL⟩ := u.any ho I.free fun z => (hch _ z).2.1 rfl
  exact I.step (ch := ch) hch (fun b o hL hb hc e n => u.keep b o e n (fun z => (List.mem_cons.mp (I.stkSub b z)).elim hL hb) hc) (fun b o _ _ hc e n => u.any e n hc) (fun b o hc e n => u.free b o e n hc) (fun b o hc e => u.there b o e hc) u.tups u.frzs u.tbls (fun m' hm => by
    obtain ⟨o', es', ep', ho', r'⟩ := hm
    rw [ho] at ho'; cases ho'
    exact ⟨_, es', ep', hL, r'⟩) hok hg
theorem Inv.turned {t' : Nat} {it : Addr} (I : Inv X pins σ H s) (k : ∀ b o, b ≠ it → s.heap.get? b = some o → h'.get? b = some o) (hn : H it = none) (hL : it ≠ X.env.locals)
    (h1 : it ∈ X.ex ∨ X.s₀.heap.objs.size ≤ it) (h2 : ∀ x c, X.env.cells.lookup x = some c → c ≠ it) (h3 : ∀ p ∈ X.pn ++ pins, p.1 ≠ it) : Inv X pins σ H { s with heap := h', toks := t' } := by
  have nit : ∀ b u, H b = some u → b ≠ it := fun b u e z => by rw [z, hn] at e; cases e
  refine I.step (g' := s.gens) (d' := s.drawn) (ch := [it]) (fun b hb => ?_) (fun b o _ _ hc e _ => k b o (fun z => hc (by simp [z])) e) (fun b o _ _ hc e _ => ⟨o.slots, k b o (fun z => hc (by simp [z])) e⟩) (fun _ _ _ _ n => n)
    (fun b o hc e => ⟨o, k b o (fun z => hc (by simp [z])) e⟩) (fun _ _ e => e) (fun _ _ _ e => e) (fun b ps e => ⟨#[], by rw [e]; simp⟩) (fun m hm => ?_) (fun b u e => ?_) I.bare
  · have e : b = it := by simpa using hb
    subst e
    exact ⟨h1, hL, h2, h3⟩
  · obtain ⟨o, es, ep, ho, r⟩ := hm
    exact ⟨o, es, ep, k _ o (Ne.symm hL) ho, r⟩
  · refine (I.hok b u e).stay (fun c v hc q => k c v ?_ q) (fun _ q => q) fun _ _ q => q
    rcases hc with z | z
    · rw [z]; exact nit b u e
    · exact nit c _ z
theorem Inv.tok (I : Inv X pins σ H s) (t : Nat) : Inv X pins σ H { s with toks := t } := I.un (h' := s.heap) (t' := t) Un.refl I.hok
theorem Inv.kept {t' : Nat} (I : Inv X pins σ H s) (k : ∀ b u, s.heap.get? b = some u → h'.get? b = some u) : Inv X pins σ H { s with heap := h', toks := t' } := I.un (Un.kept k) (I.hok.kept k)
theorem Inv.laid {a : Addr} {o : HO} {t' : Nat} (I : Inv X pins σ H s) (k : ∀ b u, s.heap.get? b = some u → h'.get? b = some u) (hp : s.heap.objs.size ≤ a) (new : ObjOk X.prog X.w (upd H a o) h' a o) :
    Inv X pins σ (upd H a o) { s with heap := h', toks := t' } := I.un (Un.laid k hp (I.hok.fresh hp)) (I.hok.laid k hp new)
theorem Inv.write {x e : Addr} {o : HO} {t' : Nat} (I : Inv X pins σ H s) (mu : Mut (H x)) (he : e = x ∨ H e = some (.own x)) (k : ∀ b u, b ≠ e → s.heap.get? b = some u → h'.get? b = some u) (heo : ∃ u, h'.get? e = some u)
    (new : ObjOk X.prog X.w (upd H x o) h' x o) : Inv X pins σ (upd H x o) { s with heap := h', toks := t' } := I.un (Un.write mu he k heo) (I.hok.write mu he k heo new)
theorem Inv.pins_of {pins' : List (Addr × Obj)} (I : Inv X pins σ H s) (h : ∀ p ∈ pins', s.heap.get? p.1 = some p.2 ∧ H p.1 = none ∧ p.1 ≠ X.env.locals ∧ p.1 ∉ X.fs ∧ ∀ v, p.2.data ≠ .cell v) : Inv X pins' σ H s :=
  ⟨I.ok, I.os, I.bare, I.base, I.loc, I.cell, I.free, I.freeC, fun p hp => (List.mem_append.mp hp).elim (fun z => I.pin p (List.mem_append_left _ z)) (h p), I.hok, I.len⟩
theorem nodup_ix {N : List Str} (hN : N.Nodup) {i j : Nat} {x : Str} (a : N[i]? = some x) (b : N[j]? = some x) : i = j := by
  obtain ⟨h1, e1⟩ := List.getElem?_eq_some_iff.mp a
  obtain ⟨h2, e2⟩ := List.getElem?_eq_some_iff.mp b
  exact (List.getElem_inj hN).mp (e1.trans e2.symm)
theorem store_ok2 {M : Model} {A : Around} {E : Value → Shared → Prop} {i : Nat} {x : Str} {v : V} {u : Value} {Q : Unit → Shared → Prop} (I : Inv X pins σ H s) (hN : X.N.Nodup) (hi : X.N[i]? = some x) (hx : Loc X.env.scope x) (r : RelV v u)
    (h : ∀ s', Inv X pins (σ.set i (some v)) H s' → (∃ a, Heap.SameBut a s.heap s'.heap ∧ (a = X.env.locals ∨ X.env.cells.lookup x = some a)) → Q () s') (hf : X.fn x = true ∨ X.env.scope.names.lookup x = some .local := by first | exact .inl rfl | exact .inr rfl | assumption) : wpAny M A (storeName X.env x u) Q E s := by
  obtain ⟨m, hn, hl⟩ := id I.loc
  have hcls : (X.env.scope.kind == .class || (X.env.scope.kind == .module && X.env.locals != X.env.globals)) = false := by rw [I.ok.kind]; rfl
  have hiσ : i < σ.length := by rw [I.len]; exact (List.getElem?_eq_some_iff.mp hi).1
  have cne := I.cne
  have tracked : ∀ {a : Addr} {h' : Heap}, (∃ o, s.heap.get? a = some o ∧ H a = none) → Heap.SameBut a s.heap h' → HOk X.prog X.w H h' := fun {a h'} ha hs b ob e => by
    obtain ⟨_, _, hfree⟩ := ha
    refine (I.hok b ob e).stay (fun c w' hc q => (hs.2 c ?_).trans q) (fun _ q => q) fun _ _ q => q
    rintro rfl
    rcases hc with rfl | hc
    · rw [hfree] at e; cases e
    · rw [hfree] at hc; cases hc
  rcases hx with hk | hk
  · refine wpAny_storeName_local hk hn (fun h' hn' hs => ?_) hcls
    obtain ⟨oL, _, _, hoL, _⟩ := id hn
    refine h _ ⟨I.ok, I.os, I.bare, ⟨fun b o e n hb hx => ?_, fun b o e n hb hx => ?_, I.base.free, fun b o e hx => ?_, I.base.tups, I.base.frzs, I.base.tbls⟩, ⟨_, hn', fun j y v' e1 e2 e3 => ?_⟩, fun y c e => ?_, I.free, I.freeC, fun p hp => ?_, tracked ⟨oL, hoL, I.free⟩ hs, by simpa using I.len⟩ ⟨_, hs, .inl rfl⟩
    · exact (hs.2 b (Nat.ne_of_lt (Nat.lt_of_lt_of_le (Heap.lt_size e) I.ok.above))).trans (I.base.keep b o e n hb hx)
    · obtain ⟨sl, e1⟩ := I.base.slot b o e n hb hx
      exact ⟨sl, (hs.2 b (Nat.ne_of_lt (Nat.lt_of_lt_of_le (Heap.lt_size e) I.ok.above))).trans e1⟩
    · obtain ⟨o', e1⟩ := I.base.there b o e hx
      exact ⟨o', (hs.2 b (Nat.ne_of_lt (Nat.lt_of_lt_of_le (Heap.lt_size e) I.ok.above))).trans e1⟩
    · by_cases hj : j = i
      · subst hj
        rw [hi] at e1; cases e1
        rw [List.getElem?_set_self hiσ] at e2
        cases e2
        exact ⟨u, r, .inl ⟨hk, by simp⟩⟩
      · rw [List.getElem?_set_ne (Ne.symm hj)] at e2
        obtain ⟨u', r', q⟩ := hl j y v' e1 e2 e3
        refine ⟨u', r', ?_⟩
        rcases q with ⟨k, e⟩ | ⟨k, c, e, z⟩
        · refine .inl ⟨k, ?_⟩
          have : y ≠ x := fun e => hj (nodup_ix hN e1 (e ▸ hi))
          simp [this, e]
        · exact .inr ⟨k, c, e, z.sameBut hs (cne y c e)⟩
    · obtain ⟨w', z⟩ := I.cell y c e
      exact ⟨w', z.sameBut hs (cne y c e)⟩
    · obtain ⟨e, n, ne, nf, d⟩ := I.pin p hp
      exact ⟨(hs.2 p.1 ne).trans e, n, ne, nf, d⟩
  · have hfn : X.fn x = true := by
      rcases hf with z | z
      · exact z
      · rw [z] at hk; cases hk
    obtain ⟨c, hc⟩ := I.ok.has x (.inl hk)
    obtain ⟨w', z⟩ := I.cell x c hc
    refine wpAny_storeName_cell I.ok.kind hk hc z (fun h' hc' hs => ?_)
    obtain ⟨oc, hoc, hocd⟩ := id z
    refine h { s with heap := h' } ⟨I.ok, I.os, I.bare, ⟨fun b o e n hb hx => ?_, fun b o e n hb hx => ?_, I.base.free, fun b o e hx => ?_, I.base.tups, I.base.frzs, I.base.tbls⟩, ⟨m, hn.sameBut hs (Ne.symm (cne x c hc)), fun j y v' e1 e2 e3 => ?_⟩, fun y c' e => ?_, I.free, I.freeC, fun p hp => ?_, tracked ⟨oc, hoc, I.freeC x c hc⟩ hs, by simpa using I.len⟩ ⟨c, hs, .inr hc⟩
    · exact (hs.2 b (Nat.ne_of_lt (Nat.lt_of_lt_of_le (Heap.lt_size e) (I.ok.cab x c hfn hc)))).trans (I.base.keep b o e n hb hx)
    · obtain ⟨sl, e1⟩ := I.base.slot b o e n hb hx
      exact ⟨sl, (hs.2 b (Nat.ne_of_lt (Nat.lt_of_lt_of_le (Heap.lt_size e) (I.ok.cab x c hfn hc)))).trans e1⟩
    · obtain ⟨o', e1⟩ := I.base.there b o e hx
      exact ⟨o', (hs.2 b (Nat.ne_of_lt (Nat.lt_of_lt_of_le (Heap.lt_size e) (I.ok.cab x c hfn hc)))).trans e1⟩
    · by_cases hj : j = i
      · subst hj
        rw [hi] at e1; cases e1
        rw [List.getElem?_set_self hiσ] at e2
        cases e2
        exact ⟨u, r, .inr ⟨.inl hk, c, hc, hc'⟩⟩
      · rw [List.getElem?_set_ne (Ne.symm hj)] at e2
        obtain ⟨u', r', q⟩ := hl j y v' e1 e2 e3
        refine ⟨u', r', ?_⟩
        rcases q with q | ⟨k, c', e, z'⟩
        · exact .inl q
        · refine .inr ⟨k, c', e, z'.sameBut hs ?_⟩
          rintro rfl
          exact hj (nodup_ix hN e1 (I.ok.inj _ _ _ e hc ▸ hi))
    · by_cases hcc : c' = c
      · subst hcc; exact ⟨_, hc'⟩
      · obtain ⟨w2, z2⟩ := I.cell y c' e
        exact ⟨w2, z2.sameBut hs hcc⟩
    · obtain ⟨e, n, ne, nf, d⟩ := I.pin p hp
      refine ⟨(hs.2 p.1 ?_).trans e, n, ne, nf, d⟩
      intro q
      rw [q, hoc] at e
      have q' : oc = p.2 := Option.some.inj e
      exact d w' (by rw [← q']; exact hocd)
theorem store_ok {M : Model} {A : Around} {E : Value → Shared → Prop} {i : Nat} {x : Str} {v : V} {u : Value} {Q : Unit → Shared → Prop} (I : Inv X pins σ H s) (hN : X.N.Nodup) (hi : X.N[i]? = some x) (hx : Loc X.env.scope x) (r : RelV v u)
    (h : ∀ s', Inv X pins (σ.set i (some v)) H s' → Q () s') (hf : X.fn x = true ∨ X.env.scope.names.lookup x = some .local := by first | exact .inl rfl | exact .inr rfl | assumption) : wpAny M A (storeName X.env x u) Q E s :=
  store_ok2 I hN hi hx r (fun s' I' _ => h s' I') hf
end
abbrev XK := Value → Option Addr → Hp → Prop
abbrev St := List (Option V)
abbrev VK := V → Hp → Prop
abbrev TE := St → Hp → VK → Prop
abbrev TT := St → Hp → (Bool → Hp → Prop) → Prop
abbrev TA := St → Hp → (List V → Hp → Prop) → Prop
structure Ends where
  nx : St → Hp → Prop
  rt : VK
  bk : St → Hp → Prop := fun _ _ => False
  ct : St → Hp → Prop := fun _ _ => False
abbrev TS := Ends → St → Hp → Prop
def EP (X : Cx) (pins : List (Addr × Obj)) (σ : St) (Q : VK) (u : Value) (s' : Shared) : Prop := ∃ v H', Inv X pins σ H' s' ∧ RelV v u ∧ Q v H'
def TP (X : Cx) (pins : List (Addr × Obj)) (σ : St) (Q : Bool → Hp → Prop) (b : Bool) (s' : Shared) : Prop := ∃ H', Inv X pins σ H' s' ∧ Q b H'
def AP (X : Cx) (pins : List (Addr × Obj)) (σ : St) (Q : List V → Hp → Prop) (us : List Value) (s' : Shared) : Prop := ∃ vs H', Inv X pins σ H' s' ∧ Vals vs us ∧ Q vs H'
def SP (X : Cx) (pins : List (Addr × Obj)) (D : Ends) (f : Flow) (s' : Shared) : Prop :=
  match f with
  | .next => ∃ σ' H', Inv X pins σ' H' s' ∧ D.nx σ' H'
  | .brk => ∃ σ' H', Inv X pins σ' H' s' ∧ D.bk σ' H'
  | .cont => ∃ σ' H', Inv X pins σ' H' s' ∧ D.ct σ' H'
  | .ret u => ∃ v σ' H', Inv X pins σ' H' s' ∧ RelV v u ∧ D.rt v H'
def PE (X : Cx) (e : Expr) (t : TE) : Prop :=
  ∀ (pins : List (Addr × Obj)) (s : Shared) (σ : St) (H : Hp) (Q : VK), Inv X pins σ H s → t σ H Q → wpAny (model X.prog X.w) X.A (eval e X.env) (EP X pins σ Q) X.xe s
def PT (X : Cx) (e : Expr) (t : TT) : Prop :=
  ∀ (pins : List (Addr × Obj)) (s : Shared) (σ : St) (H : Hp) (Q : Bool → Hp → Prop), Inv X pins σ H s → t σ H Q → wpAny (model X.prog X.w) X.A (isTrue e X.env (eval e X.env)) (TP X pins σ Q) X.xe s
def PW (X : Cx) (e : Expr) (t : TT) : Prop :=
  ∀ (whole : Sem Value) (pins : List (Addr × Obj)) (s : Shared) (σ : St) (H : Hp) (Q : Bool → Hp → Prop), Inv X pins σ H s → t σ H Q → wpAny (model X.prog X.w) X.A (isTrue e X.env whole) (TP X pins σ Q) X.xe s
theorem PW.pt {X : Cx} {e : Expr} {t : TT} (h : PW X e t) : PT X e t := h _
def PA (X : Cx) (es : List Expr) (t : TA) : Prop :=
  ∀ (pos : Pos) (pins : List (Addr × Obj)) (s : Shared) (σ : St) (H : Hp) (Q : List V → Hp → Prop), Inv X pins σ H s → t σ H Q → wpAny (model X.prog X.w) X.A (spliced (backTo pos (starEach es X.env))) (AP X pins σ Q) X.xe s
def PS (X : Cx) (st : Stmt) (t : TS) : Prop :=
  ∀ (pins : List (Addr × Obj)) (s : Shared) (σ : St) (H : Hp) (D : Ends), Inv X pins σ H s → t D σ H → wpAny (model X.prog X.w) X.A (exec st X.env) (SP X pins D) X.xe s
def PSs (X : Cx) (st : List Stmt) (t : TS) : Prop :=
  ∀ (pins : List (Addr × Obj)) (s : Shared) (σ : St) (H : Hp) (D : Ends), Inv X pins σ H s → t D σ H → wpAny (model X.prog X.w) X.A (execs st X.env) (SP X pins D) X.xe s
theorem thn {α : Type} {t : Sem α} {Q Q' : α → Shared → Prop} {M : Model} {A : Around} {E : Value → Shared → Prop} {s : Shared} (h : wpAny M A t Q E s) (hQ : ∀ a s, Q a s → Q' a s) : wpAny M A t Q' E s := wpAny_mono h hQ fun _ _ x => x
end L2
namespace L2
open PySem PySem.Spec PyProof.Rows
section
variable {X : Cx}
def tVar (i : Nat) : TE := fun σ H Q => ∃ v, σ[i]? = some (some v) ∧ Q v H
def tC (v : V) : TE := fun _ H Q => Q v H
theorem pe_var {i : Nat} {x : Str} {pos : Pos} (hN : X.N[i]? = some x) (hv : Vis X.env.scope x) (hd : (x == ("__debug__" : Str)) = false := by decide) (hcd : (x == ("__classdict__" : Str)) = false := by decide) : PE X (.Name x pos) (tVar i) := by
  intro pins s σ H Q I h
  obtain ⟨v, e, h⟩ := h
  obtain ⟨m, hn, hl⟩ := I.loc
  obtain ⟨u, r, l⟩ := hl i x v hN e hv
  have fin : EP X pins σ Q u s := ⟨v, H, I, r, h⟩
  rcases l with ⟨hk, hm⟩ | ⟨hk, c, hc, hcell⟩
  · exact wpAny_Name (wpAny_loadName_local I.ok.kind hk hn hm fin) hd
  · rcases hk with hk | hk
    · exact wpAny_Name (wpAny_loadName_cell I.ok.kind hk hc hcell fin) hd
    · exact wpAny_Name (wpAny_loadName_free I.ok.kind hk hc hcell fin hcd) hd
theorem pe_int {i j pos} : PE X (.Constant (.int i) j pos) (tC (.int i)) := fun _ _ _ H _ I h => wpAny_Constant_int ⟨.int i, H, I.tok _, ⟨_, rfl⟩, h⟩
theorem pe_bl {b j pos} : PE X (.Constant (.bool b) j pos) (tC (.bl b)) := fun _ _ _ H _ I h => Constant_bool ⟨.bl b, H, I, rfl, h⟩
theorem pe_str {x j pos} : PE X (.Constant (.str x) j pos) (tC (.str x)) := fun _ _ _ H _ I h => Calls.Constant_str ⟨.str x, H, I.tok _, ⟨_, rfl⟩, h⟩
def Gl (X : Cx) (x : Str) : Prop := X.env.kindOf x = some .globalImplicit
theorem ld_glob {E : Value → Shared → Prop} {pins : List (Addr × Obj)} {s : Shared} {σ : St} {H : Hp} {x : Str} {u : Value} {pos : Pos} {Q : Value → Shared → Prop} (I : Inv X pins σ H s) (hg : Gl X x) (hm : X.mg x = some u) (h : Q u s)
    (hd : (x == ("__debug__" : Str)) = false := by decide) : wpAny (model X.prog X.w) X.A (eval (.Name x pos) X.env) Q E s :=
  Calls.Name_function_global I.ok.kind hg (Calls.loadGlobal_global (by rw [I.ok.glob]; exact I.mod.glob.keeps I.bk) hm h) hd
theorem ld_blt {E : Value → Shared → Prop} {pins : List (Addr × Obj)} {s : Shared} {σ : St} {H : Hp} {x : Str} {u : Value} {pos : Pos} {Q : Value → Shared → Prop} (I : Inv X pins σ H s) (hg : Gl X x) (hm : X.mg x = none) (hv : bootBuiltins x = some u) (h : Q u s)
    (hn : x ≠ "__name__" := by decide) (hd : (x == ("__debug__" : Str)) = false := by decide) : wpAny (model X.prog X.w) X.A (eval (.Name x pos) X.env) Q E s := by
  obtain ⟨mb, h1, h2⟩ := I.mod.blt
  exact Calls.Name_function_global I.ok.kind hg (Calls.loadGlobal_builtin (by rw [I.ok.glob]; exact I.mod.glob.keeps I.bk) hm (by rw [I.ok.blt]; exact h1.keeps I.bk) ((h2 x hn).trans hv) h) hd
theorem pe_bltn {x : Str} {v : V} {u : Value} {pos : Pos} (hg : Gl X x) (hm : X.mg x = none) (hv : bootBuiltins x = some u) (r : RelV v u) (hn : x ≠ "__name__" := by decide) (hd : (x == ("__debug__" : Str)) = false := by decide) : PE X (.Name x pos) (tC v) :=
  fun _ _ _ H _ I h => ld_blt I hg hm hv ⟨v, H, I, r, h⟩ hn hd
variable {a b : Expr} {ta tb : TE} {pos : Pos}
def tIsN (ta : TE) : TE := fun σ H Q => ta σ H fun x H1 => Q (.bl (decide (x = .non))) H1
def tNotN (ta : TE) : TE := fun σ H Q => ta σ H fun x H1 => Q (.bl (!decide (x = .non))) H1
def tB (t : TE) : TT := fun σ H Q => t σ H fun x H1 => ∃ c, x = .bl c ∧ Q c H1
theorem pt_val {e : Expr} {t : TE} (h : PE X e t) (he : ∀ whole, isTrue e X.env whole = (do let v ← whole; standAt e.pos; holding [v] (truthy v)) := by intro _; rfl) : PT X e (tB t) := by
  intro pins s σ H Q I hw
  refine isTrue_plain (thn (h pins s σ H _ I hw) fun v s1 ⟨x, H1, I1, r1, q1⟩ => ?_) (he _)
  obtain ⟨d, rfl, q⟩ := q1
  cases r1
  exact wpAny_truthy_bool ⟨H1, I1, q⟩
variable {tA tB' : TT} {rest : List Expr}
def tAnd (t u : TT) : TT := fun σ H Q => t σ H fun c H1 => if c = true then u σ H1 Q else Q false H1
def tOr (t u : TT) : TT := fun σ H Q => t σ H fun c H1 => if c = true then Q true H1 else u σ H1 Q
def tNot (t : TT) : TT := fun σ H Q => t σ H fun c H1 => Q (!c) H1
theorem pw_and1 (ha : PT X a tA) : PW X (.BoolOp .And [a] pos) tA := by
  intro wh pins s σ H Q I h
  refine isTrue_and (thn (ha pins s σ H Q I h) fun c s1 e => ?_)
  cases c with
  | true => exact isTrue_and_nil e
  | false => exact e
theorem pw_or1 (ha : PT X a tA) : PW X (.BoolOp .Or [a] pos) tA := by
  intro wh pins s σ H Q I h
  refine isTrue_or (thn (ha pins s σ H Q I h) fun c s1 e => ?_)
  cases c with
  | false => exact isTrue_or_nil e
  | true => exact e
theorem pw_and (ha : PT X a tA) (hb : PW X (.BoolOp .And (b :: rest) pos) tB') : PW X (.BoolOp .And (a :: b :: rest) pos) (tAnd tA tB') := by
  intro wh pins s σ H Q I h
  refine isTrue_and (thn (ha pins s σ H _ I h) fun c s1 ⟨H1, I1, q1⟩ => ?_)
  cases c with
  | true => exact hb wh pins s1 σ H1 Q I1 q1
  | false => exact ⟨H1, I1, q1⟩
theorem pw_or (ha : PT X a tA) (hb : PW X (.BoolOp .Or (b :: rest) pos) tB') : PW X (.BoolOp .Or (a :: b :: rest) pos) (tOr tA tB') := by
  intro wh pins s σ H Q I h
  refine isTrue_or (thn (ha pins s σ H _ I h) fun c s1 ⟨H1, I1, q1⟩ => ?_)
  cases c with
  | true => exact ⟨H1, I1, q1⟩
  | false => exact hb wh pins s1 σ H1 Q I1 q1
theorem pt_not (ha : PT X a tA) : PT X (.UnaryOp .Not a pos) (tNot tA) := by
  intro pins s σ H Q I h
  exact isTrue_not (ha pins s σ H (fun c H1 => Q (!c) H1) I h)
def tAndV (ta tb : TE) : TE := fun σ H Q => ta σ H fun x H1 => ∃ c, x = .bl c ∧ if c = true then tb σ H1 Q else Q (.bl false) H1
def tOrV (ta tb : TE) : TE := fun σ H Q => ta σ H fun x H1 => ∃ c, x = .bl c ∧ if c = true then Q (.bl true) H1 else tb σ H1 Q
def tNotV (ta : TE) : TE := fun σ H Q => ta σ H fun x H1 => ∃ c, x = .bl c ∧ Q (.bl (!c)) H1
theorem pe_one {op} {t : TE} (h : PE X a t) : PE X (.BoolOp op [a] pos) t := fun pins s σ H Q I hw => BoolOp_one (h pins s σ H Q I hw)
theorem pe_and (ha : PE X a ta) (hb : PE X (.BoolOp .And (b :: rest) pos) tb) : PE X (.BoolOp .And (a :: b :: rest) pos) (tAndV ta tb) := by
  intro pins s σ H Q I h
  refine BoolOp_and (thn (ha pins s σ H _ I h) fun v s1 ⟨x, H1, I1, r1, q1⟩ => ?_)
  obtain ⟨c, rfl, q1⟩ := q1
  cases r1
  refine wpAny_truthy_bool ?_
  cases c with
  | true => exact hb pins s1 σ H1 Q I1 q1
  | false => exact ⟨.bl false, H1, I1, rfl, q1⟩
theorem pe_not (ha : PE X a ta) : PE X (.UnaryOp .Not a pos) (tNotV ta) := by
  intro pins s σ H Q I h
  refine UnaryOp_ (thn (ha pins s σ H _ I h) fun v s1 ⟨x, H1, I1, r1, q1⟩ => ?_)
  obtain ⟨c, rfl, q1⟩ := q1
  cases r1
  exact not_of (wpAny_truthy_bool ⟨.bl (!c), H1, I1, rfl, q1⟩)
def tIf (t : TT) (ta tb : TE) : TE := fun σ H Q => t σ H fun c H1 => if c = true then ta σ H1 Q else tb σ H1 Q
end
end L2
namespace L2
open PySem PySem.Spec PyProof.Rows
def SqL (K : PySem.W.Frag) (H : Hp) (a : Addr) (xs : List V) : Prop :=
  Rd H a (.lst xs) ∨
    ∃ (o : Obj) (its : Array Value) (n : Nat), K.lookup a = some o ∧ o.cls = .type "list" ∧ o.dict = none ∧ o.data = .seq its n ∧ its.size ≤ sizeLine ∧ Vals xs its.toList
def SqT (K : PySem.W.Frag) (H : Hp) (a : Addr) (xs : List V) : Prop :=
  Rd H a (.tup xs) ∨
    ∃ (o : Obj) (its : Array Value) (n : Nat), K.lookup a = some o ∧ o.cls = .type "tuple" ∧ o.data = .seq its n ∧ its.size ≤ sizeLine ∧ Vals xs its.toList
def absV : Value → Option V
  | .none => some .non
  | .bool b => some (.bl b)
  | .int i _ => some (.int i)
  | .str x _ => some (.str x)
  | .bytes b _ => some (.byt b)
  | .float b _ => some (.flt b)
  | .ref a => some (.ref a)
  | .type n => some (.ty n)
  | _ => none
theorem RelV.abs {x : V} {u : Value} (r : RelV x u) : absV u = some x := by
  cases x with
  | non => cases r; rfl
  | bl _ => cases r; rfl
  | int _ => obtain ⟨t, rfl⟩ := r; rfl
  | str _ => obtain ⟨t, rfl⟩ := r; rfl
  | byt _ => obtain ⟨t, rfl⟩ := r; rfl
  | flt _ => obtain ⟨t, rfl⟩ := r; rfl
  | ref _ => cases r; rfl
  | ty _ => cases r; rfl
theorem RelV.inj {x y : V} {u : Value} (r : RelV x u) (q : RelV y u) : x = y := Option.some.inj (r.abs.symm.trans q.abs)
theorem Vals.inj : ∀ {xs ys : List V} {us : List Value}, Vals xs us → Vals ys us → xs = ys
  | _, _, _, .nil, .nil => rfl
  | _, _, _, .cons r t, .cons r' t' => by rw [r.inj r', Vals.inj t t']
section
variable {X : Cx} {pins : List (Addr × Obj)} {σ : St} {H : Hp} {s : Shared} {a : Addr} {xs ys : List V}
theorem SqL.of {K : PySem.W.Frag} (h : H a = some (.lst xs)) : SqL K H a xs := .inl (.inl h)
theorem SqT.of {K : PySem.W.Frag} (h : H a = some (.tup xs)) : SqT K H a xs := .inl (.inl h)
theorem Inv.list (I : Inv X pins σ H s) (h : SqL X.K H a xs) : ∃ its : List Value, Vals xs its ∧ PlainL s.heap a its.toArray ∧ xs.length ≤ sizeLine := by
  rcases h with h | ⟨o, its, n, hk, hc, hd, hs, hz, r⟩
  · obtain ⟨z, its, n, r, e⟩ := h.ok I.hok
    exact ⟨its, r, ⟨_, n, e, rfl, rfl, rfl⟩, z⟩
  · refine ⟨its.toList, r, ⟨o, n, I.kIn a o hk, hc, hd, by simpa using hs⟩, ?_⟩
    have e := r.length
    simp only [Array.length_toList] at e
    omega
theorem Inv.tuple (I : Inv X pins σ H s) (h : SqT X.K H a xs) : ∃ its : List Value, Vals xs its ∧ IsTup s.heap a its.toArray ∧ xs.length ≤ sizeLine := by
  rcases h with h | ⟨o, its, n, hk, hc, hs, hz, r⟩
  · obtain ⟨z, its, r, p⟩ := h.ok I.hok
    exact ⟨its, r, p, z⟩
  · refine ⟨its.toList, r, ⟨o, I.kIn a o hk, hc, n, by simpa using hs⟩, ?_⟩
    have e := r.length
    simp only [Array.length_toList] at e
    omega
theorem Inv.list_inj (I : Inv X pins σ H s) (h : SqL X.K H a xs) (h' : SqL X.K H a ys) : xs = ys := by
  obtain ⟨its, r, ⟨o, n, e, _, _, d⟩, _⟩ := I.list h
  obtain ⟨its', r', ⟨o', n', e', _, _, d'⟩, _⟩ := I.list h'
  rw [e] at e'; cases e'
  rw [d] at d'
  injection d' with d1 _
  have : its = its' := by simpa using congrArg Array.toList d1
  subst this
  exact r.inj r'
end
abbrev Cx.wish (X : Cx) (E : Value → Shared → Prop) : Cx := { X with xe := E }
abbrev Cx.nox (X : Cx) : Cx := X.wish fun _ _ => False
theorem Cx.Ok.wish {X : Cx} (ok : X.Ok) (E : Value → Shared → Prop) : (X.wish E).Ok :=
  ⟨ok.mod, ok.kind, ok.glob, ok.blt, ok.above, ok.inj, ok.has, ok.cab, ok.hd, ok.frames, ok.stk, ok.exf, ok.bs, ok.bsz, ok.noex, ok.exfs, ok.funs, ok.frf⟩
theorem Cx.Ok.unwish {X : Cx} {E : Value → Shared → Prop} (ok : (X.wish E).Ok) : X.Ok :=
  ⟨ok.mod, ok.kind, ok.glob, ok.blt, ok.above, ok.inj, ok.has, ok.cab, ok.hd, ok.frames, ok.stk, ok.exf, ok.bs, ok.bsz, ok.noex, ok.exfs, ok.funs, ok.frf⟩
section
variable {X : Cx} {pins : List (Addr × Obj)} {σ : St} {H : Hp} {s : Shared} {E : Value → Shared → Prop}
theorem Inv.wish (I : Inv X pins σ H s) (E : Value → Shared → Prop) : Inv (X.wish E) pins σ H s := ⟨I.ok.wish E, I.os, I.bare, I.base, I.loc, I.cell, I.free, I.freeC, I.pin, I.hok, I.len⟩
theorem Inv.unwish (I : Inv (X.wish E) pins σ H s) : Inv X pins σ H s := ⟨I.ok.unwish, I.os, I.bare, I.base, I.loc, I.cell, I.free, I.freeC, I.pin, I.hok, I.len⟩
theorem SP.unwish {D : Ends} {f : Flow} {s' : Shared} (h : SP (X.wish E) pins D f s') : SP X pins D f s' := by
  cases f with
  | next => obtain ⟨σ', H', I, q⟩ := h; exact ⟨σ', H', I.unwish, q⟩
  | brk => obtain ⟨σ', H', I, q⟩ := h; exact ⟨σ', H', I.unwish, q⟩
  | cont => obtain ⟨σ', H', I, q⟩ := h; exact ⟨σ', H', I.unwish, q⟩
  | ret u => obtain ⟨v, σ', H', I, r, q⟩ := h; exact ⟨v, σ', H', I.unwish, r, q⟩
theorem PE.nox {e : Expr} {t : TE} (h : PE X.nox e t) : PE X e t := fun pins s σ H Q I hw =>
  wpAny_mono (h pins s σ H Q (I.wish _) hw) (fun _ _ ⟨v, H', I', r, q⟩ => ⟨v, H', I'.unwish, r, q⟩) fun _ _ z => False.elim z
theorem PT.nox {e : Expr} {t : TT} (h : PT X.nox e t) : PT X e t := fun pins s σ H Q I hw =>
  wpAny_mono (h pins s σ H Q (I.wish _) hw) (fun _ _ ⟨H', I', q⟩ => ⟨H', I'.unwish, q⟩) fun _ _ z => False.elim z
theorem PSs.nox {st : List Stmt} {t : TS} (h : PSs X.nox st t) : PSs X st t := fun pins s σ H D I hw =>
  wpAny_mono (h pins s σ H D (I.wish _) hw) (fun _ _ q => q.unwish) fun _ _ z => False.elim z
end
section
variable {X : Cx} {st : Stmt} {rest : List Stmt} {t u : TS} {e : Expr} {te : TE} {pos : Pos}
def tNext : TS := fun D σ H => D.nx σ H
def tSeq (t u : TS) : TS := fun D σ H => t { D with nx := u D } σ H
theorem pss_nil : PSs X [] tNext := fun _ _ σ H _ I h => wpAny_execs_nil ⟨σ, H, I, h⟩
theorem pss_cons (h1 : PS X st t) (h2 : PSs X rest u) : PSs X (st :: rest) (tSeq t u) := by
  intro pins s σ H D I h
  refine wpAny_execs_cons (thn (h1 pins s σ H { D with nx := u D } I h) fun f s1 q => ?_)
  cases f with
  | next =>
    obtain ⟨σ', H', I', q⟩ := q
    exact h2 pins s1 σ' H' D I' q
  | ret v => exact q
  | brk => exact q
  | cont => exact q
theorem pss_one (h1 : PS X st t) : PSs X [st] t := by
  intro pins s σ H D I h
  refine wpAny_execs_cons (thn (h1 pins s σ H D I h) fun f s1 q => ?_)
  cases f with
  | next => exact wpAny_execs_nil q
  | ret v => exact q
  | brk => exact q
  | cont => exact q
def tDrop (te : TE) : TS := fun D σ H => te σ H fun _ H1 => D.nx σ H1
def tRet (te : TE) : TS := fun D σ H => te σ H D.rt
theorem ps_ret (he : PE X e te) : PS X (.Return (some e) pos) (tRet te) := by
  intro pins s σ H D I h
  exact wpAny_Return_some (thn (he pins s σ H _ I h) fun v s1 ⟨x, H1, I1, r1, q1⟩ => ⟨x, σ, H1, I1, r1, q1⟩)
def tRetN : TS := fun D _ H => D.rt .non H
def tIfS (c : TT) (t u : TS) : TS := fun D σ H => c σ H fun b H1 => if b = true then t D σ H1 else u D σ H1
theorem ps_if {c : Expr} {a b : List Stmt} {tc : TT} (hc : PT X c tc) (ha : PSs X a t) (hb : PSs X b u) : PS X (.If c a b pos) (tIfS tc t u) := by
  intro pins s σ H D I h
  refine wpAny_If (thn (hc pins s σ H _ I h) fun d s1 ⟨H1, I1, q1⟩ => ?_)
  cases d with
  | true => exact ha pins s1 σ H1 D I1 q1
  | false => exact hb pins s1 σ H1 D I1 q1
end
abbrev TG := V → St → Hp → (St → Hp → Prop) → Prop
abbrev TGs := List V → St → Hp → (St → Hp → Prop) → Prop
def PG (X : Cx) (target : Expr) (t : TG) : Prop :=
  ∀ (pins : List (Addr × Obj)) (s : Shared) (σ : St) (H : Hp) (v : V) (u : Value) (Q : St → Hp → Prop), Inv X pins σ H s → RelV v u → t v σ H Q →
    wpAny (model X.prog X.w) X.A (assign target X.env u) (fun _ s' => ∃ σ' H', Inv X pins σ' H' s' ∧ Q σ' H') X.xe s
def PGs (X : Cx) (ts : List Expr) (t : TGs) : Prop :=
  ∀ (pins : List (Addr × Obj)) (s : Shared) (σ : St) (H : Hp) (vs : List V) (us : List Value) (Q : St → Hp → Prop), Inv X pins σ H s → Vals vs us → t vs σ H Q →
    wpAny (model X.prog X.w) X.A (assignInOrder ((assignEach ts X.env).map (·.2)) us) (fun _ s' => ∃ σ' H', Inv X pins σ' H' s' ∧ Q σ' H') X.xe s
abbrev TSet := V → V → V → Hp → (Hp → Prop) → Prop
def PSet (X : Cx) (t : TSet) : Prop :=
  ∀ (pins : List (Addr × Obj)) (s : Shared) (σ : St) (H : Hp) (o i v : V) (ov iv u : Value) (Q : Hp → Prop), Inv X pins σ H s → RelV o ov → RelV i iv → RelV v u → t o i v H Q →
    wpAny (model X.prog X.w) X.A (setItem ov iv u) (fun _ s' => ∃ H', Inv X pins σ H' s' ∧ Q H') X.xe s
abbrev TIp := V → V → Hp → VK → Prop
def PIp (X : Cx) (op : Operator) (t : TIp) : Prop :=
  ∀ (pins : List (Addr × Obj)) (s : Shared) (σ : St) (H : Hp) (x y : V) (v u : Value) (Q : VK), Inv X pins σ H s → RelV x v → RelV y u → t x y H Q →
    wpAny (model X.prog X.w) X.A (inplaceOp op v u) (EP X pins σ Q) X.xe s
section
variable {X : Cx} {pos : Pos}
def gName (i : Nat) : TG := fun v σ H Q => Q (σ.set i (some v)) H
theorem pg_name {i : Nat} {x : Str} (hN : X.N.Nodup) (hi : X.N[i]? = some x) (hx : Loc X.env.scope x) (hf : X.fn x = true ∨ X.env.scope.names.lookup x = some .local := by first | exact .inl rfl | exact .inr rfl | assumption) : PG X (.Name x pos) (gName i) := by
  intro pins s σ H v u Q I r h
  exact wpAny_assign_Name (store_ok I hN hi hx r (fun s' I' => ⟨_, H, I', h⟩) hf)
def gSub (to ti : TE) (t : TSet) : TG := fun v σ H Q => to σ H fun o H1 => ti σ H1 fun i H2 => t o i v H2 fun H3 => Q σ H3
theorem pg_sub {o i : Expr} {to ti : TE} {t : TSet} (ho : PE X o to) (hi : PE X i ti) (hs : PSet X t)
    (ha : ∀ v, assign (.Subscript o i pos) X.env v = (do
      let ov ← holding [v] (eval o X.env)
      let iv ← holding [v, ov] (eval i X.env)
      standAt pos
      holding [v, ov, iv] (setItem ov iv v)
      release [v, ov, iv] []) := by intro _; rfl) : PG X (.Subscript o i pos) (gSub to ti t) := by
  intro pins s σ H v u Q I r h
  rw [ha]
  refine wpAny_bind (wpAny_holding (thn (ho pins s σ H _ I h) fun ov s1 ⟨x, H1, I1, r1, q1⟩ => ?_))
  refine wpAny_bind (wpAny_holding (thn (hi pins s1 σ H1 _ I1 q1) fun iv s2 ⟨y, H2, I2, r2, q2⟩ => ?_))
  refine wpAny_bind (wpAny_standAt (wpAny_bind (wpAny_holding (thn (hs pins s2 σ H2 x y v ov iv u _ I2 r1 r2 r q2) fun _ s3 ⟨H3, I3, q3⟩ => ?_))))
  exact wpAny_release ⟨σ, H3, I3, q3⟩
def tAsg (te : TE) (g : TG) : TS := fun D σ H => te σ H fun x H1 => g x σ H1 D.nx
theorem ps_asg {tg e : Expr} {te : TE} {g : TG} (he : PE X e te) (hg : PG X tg g) (hs : swapsWithSole [tg] e pos.line X.env = pure false := by rfl) (hw : swappedStores [tg] e X.env = pure none := by rfl)
    (h1 : (assignEach [tg] X.env).map (·.2) = [assign tg X.env] := by rfl) : PS X (.Assign [tg] e pos) (tAsg te g) := by
  intro pins s σ H D I h
  refine wpAny_Assign_stores (thn (he pins s σ H _ I h) fun v s1 ⟨x, H1, I1, r1, q1⟩ => ?_) hs hw
  rw [h1]
  exact thn (hg pins s1 σ H1 x v _ I1 r1 q1) fun _ s2 q => q
theorem ps_set {i : Nat} {x : Str} {e : Expr} {te : TE} {pos' : Pos} (hN : X.N.Nodup) (hi : X.N[i]? = some x) (hx : Loc X.env.scope x) (he : PE X e te) (hs : swapsWith e (some (.Name x pos')) pos.line X.env = pure false := by rfl) (hf : X.fn x = true ∨ X.env.scope.names.lookup x = some .local := by first | exact .inl rfl | exact .inr rfl | assumption) :
    PS X (.Assign [.Name x pos'] e pos) (tAsg te (gName i)) := by
  intro pins s σ H D I h
  refine wpAny_Assign_Name (thn (he pins s σ H _ I h) fun v s1 ⟨y, H1, I1, r1, q1⟩ => ?_) hs
  exact store_ok I1 hN hi hx r1 (fun s2 I2 => ⟨_, H1, I2, q1⟩) hf
def tPar (i j : Nat) (ta : TA) : TS := fun D σ H => ta σ H fun vs H1 => ∃ v w, vs = [v, w] ∧ D.nx ((σ.set i (some v)).set j (some w)) H1
theorem ps_par {i j : Nat} {x y : Str} {a b : Expr} {ta : TA} {px py pt : Pos} {kt k2 pt2} (hc : X.calm = true) (hN : X.N.Nodup) (hi : X.N[i]? = some x) (hj : X.N[j]? = some y) (hij : i ≠ j)
    (hx : X.env.scope.names.lookup x = some .local) (hy : X.env.scope.names.lookup y = some .local) (ha : PA X [a, b] ta)
    (hw : swappedStores [.Tuple [.Name x px, .Name y py] kt pt] (.Tuple [a, b] k2 pt2) X.env = pure (some [x, y]))
    (hs : swapsWithSole [.Tuple [.Name x px, .Name y py] kt pt] (.Tuple [a, b] k2 pt2) pos.line X.env = pure false := by rfl) :
    PS X (.Assign [.Tuple [.Name x px, .Name y py] kt pt] (.Tuple [a, b] k2 pt2) pos) (tPar i j ta) := by
  intro pins s σ H D I h
  rw [exec_Assign_arm]
  refine wpAny_bind (wpAny_standAt ?_)
  rw [hs]
  refine wpAny_bind (wpAny_pure ?_)
  rw [if_neg (by decide)]
  refine wpAny_bind (Tuple_ (thn (ha _ pins s σ H _ I h) fun us s1 ⟨vs, H1, I1, r1, q1⟩ => ?_))
  obtain ⟨v, w, e1, q1⟩ := q1
  subst e1
  obtain ⟨u1, u2, rfl, rv, rw'⟩ : ∃ u1 u2, us = [u1, u2] ∧ RelV v u1 ∧ RelV w u2 := by
    cases r1 with
    | cons p q =>
      cases q with
      | cons p' q' =>
        cases q'
        exact ⟨_, _, rfl, p, p'⟩
  refine wpAny_newObj_type ?_ (by show 2 ≤ sizeLine; decide)
  have I2 : Inv X pins σ H1 { s1 with heap := s1.heap.push { cls := .type "tuple", data := .seq [u1, u2].toArray } } := I1.kept (t' := s1.toks) fun b o e => Heap.get?_push_of_some _ e
  rw [hw]
  refine wpAny_bind (wpAny_pure ?_)
  show wpAny (model X.prog X.w) X.A (do rule "assign.swapped-stores"; let items ← unpackItems (.ref s1.heap.objs.size) 2 none; assignInOrder [fun v => bindName X.env y v, fun v => bindName X.env x v] items.reverse; pure Flow.next) _ _ _
  refine wpAny_bind (wpAny_rule (wpAny_bind (unpackItems_tuple (items := #[u1, u2]) (I.ok.hd hc) (IsTup.new s1.heap _) fun h' hx' => ?_)))
  have I3 := I2.kept (h' := h') (t' := s1.toks) fun b o e => hx' b o (Nat.ne_of_lt (Heap.lt_size e)) e
  show wpAny _ _ (assignInOrder [fun v => bindName X.env y v, fun v => bindName X.env x v] [u2, u1] >>= fun _ => pure Flow.next) _ _ _
  refine wpAny_bind (assignInOrder_cons (wpAny_bindName (store_ok I3 hN hj (.inl hy) rw' (fun s2 I4 => ?_) (.inr hy))))
  refine assignInOrder_cons (wpAny_bindName (store_ok I4 hN hi (.inl hx) rv (fun s3 I5 => assignInOrder_nil (wpAny_pure ?_)) (.inr hx)))
  rw [List.set_comm _ _ (Ne.symm hij)] at I5
  exact ⟨_, H1, I5, q1⟩
def tAugS (to ti te : TE) (tget : V → V → Hp → VK → Prop) (tip : TIp) (tset : TSet) : TS := fun D σ H => to σ H fun o H1 => ti σ H1 fun i H2 => tget o i H2 fun x H3 => te σ H3 fun y H4 => tip x y H4 fun z H5 => tset o i z H5 fun H6 => D.nx σ H6
def PGet (X : Cx) (t : V → V → Hp → VK → Prop) : Prop :=
  ∀ (pins : List (Addr × Obj)) (s : Shared) (σ : St) (H : Hp) (o i : V) (ov iv : Value) (Q : VK), Inv X pins σ H s → RelV o ov → RelV i iv → t o i H Q →
    wpAny (model X.prog X.w) X.A (getItem ov iv) (EP X pins σ Q) X.xe s
theorem ps_augS {o i e : Expr} {to ti te : TE} {tget : V → V → Hp → VK → Prop} {tip : TIp} {tset : TSet} {op : Operator} {tpos : Pos} (ho : PE X o to) (hi : PE X i ti) (hg : PGet X tget) (he : PE X e te) (hp : PIp X op tip) (hs : PSet X tset)
    (ha : ∀ ov iv new, augStore i ov iv new = (do holding [new, ov, iv] (setItem ov iv new); release [new, ov, iv] []; pure .next) := by intros; rfl) : PS X (.AugAssign (.Subscript o i tpos) op e pos) (tAugS to ti te tget tip tset) := by
  intro pins s σ H D I h
  refine wpAny_AugAssign_SubscriptAny (thn (ho pins s σ H _ I h) fun ov s1 ⟨x1, H1, I1, r1, q1⟩ => ?_) ha
  refine thn (hi pins s1 σ H1 _ I1 q1) fun iv s2 ⟨x2, H2, I2, r2, q2⟩ => ?_
  refine thn (hg pins s2 σ H2 x1 x2 ov iv _ I2 r1 r2 q2) fun old s3 ⟨x3, H3, I3, r3, q3⟩ => ?_
  refine thn (he pins s3 σ H3 _ I3 q3) fun v s4 ⟨x4, H4, I4, r4, q4⟩ => ?_
  refine thn (hp pins s4 σ H4 x3 x4 old v _ I4 r3 r4 q4) fun new s5 ⟨x5, H5, I5, r5, q5⟩ => ?_
  exact thn (hs pins s5 σ H5 x1 x2 x5 ov iv new _ I5 r1 r2 r5 q5) fun _ s6 ⟨H6, I6, q6⟩ => ⟨σ, H6, I6, q6⟩
def ipI (f : Int → Int → Int) : TIp := fun x y H Q => ∃ i j, x = .int i ∧ y = .int j ∧ Q (.int (f i j)) H
theorem ip_add : PIp X .Add (ipI fun i j => i + j) := by
  intro pins s σ H x y v u Q I r1 r2 h
  obtain ⟨i, j, e1, e2, q⟩ := h
  subst e1; subst e2
  obtain ⟨t, rfl⟩ := r1
  obtain ⟨t', rfl⟩ := r2
  exact iadd_int ⟨.int _, H, I.tok _, ⟨_, rfl⟩, q⟩
end
section
variable {X : Cx} {pos : Pos}
def tWhile (c : TT) (tb : TS) : TS := fun D σ H => ∃ W : Nat → St → Hp → Prop, (∃ m, W m σ H) ∧ ∀ m σ H, W m σ H →
  c σ H fun b H1 => if b = true then ∃ N : St → Hp → Prop, (∀ σ' H', N σ' H' → ∃ m', m' < m ∧ W m' σ' H') ∧ tb { D with nx := N, ct := N, bk := D.nx } σ H1 else D.nx σ H1
theorem ps_while {c : Expr} {body : List Stmt} {tc : TT} {tb : TS} (hp : PassesOwn (model X.prog X.w) X.A X.env X.xe) (hc : PT X c tc) (hb : PSs X body tb) : PS X (.While c body [] pos) (tWhile tc tb) := by
  intro pins s σ H D I h
  obtain ⟨W, ⟨m0, w0⟩, turn⟩ := h
  refine wpAny_While (codeAny_whileLoop (fun n s' => ∃ σ' H', Inv X pins σ' H' s' ∧ W n σ' H') ?_ m0 ⟨σ, H, I, w0⟩)
  rintro n s1 ⟨σ1, H1, I1, w1⟩
  refine wpAny_passesOwn hp (thn (hc pins s1 σ1 H1 _ I1 (turn n σ1 H1 w1)) fun b s2 ⟨H2, I2, q2⟩ => ?_)
  cases b with
  | true =>
    obtain ⟨N, hN, q2⟩ := q2
    rw [if_pos rfl]
    refine wpAny_passesOwn hp (thn (hb pins s2 σ1 H2 _ I2 q2) fun f s3 q3 => ?_)
    cases f with
    | next =>
      obtain ⟨σ3, H3, I3, n3⟩ := q3
      obtain ⟨m', hm, w3⟩ := hN σ3 H3 n3
      exact ⟨m', hm, σ3, H3, I3, w3⟩
    | cont =>
      obtain ⟨σ3, H3, I3, n3⟩ := q3
      obtain ⟨m', hm, w3⟩ := hN σ3 H3 n3
      exact ⟨m', hm, σ3, H3, I3, w3⟩
    | brk => exact q3
    | ret v => exact q3
  | false =>
    rw [if_neg Bool.false_ne_true]
    exact wpAny_execs_nil ⟨σ1, H2, I2, q2⟩
end
structure It where
  go : Nat → Hp → Prop
  yld : Nat → Hp → V → Hp → Prop
  stop : Nat → Hp → Prop
def FpOk (X : Cx) (pins : List (Addr × Obj)) (H : Hp) (b : Addr) : Prop :=
  H b = none ∧ b ≠ X.env.locals ∧ b ∉ X.fs ∧ (b ∈ X.ex ∨ X.s₀.heap.objs.size ≤ b) ∧ (∀ x c, X.env.cells.lookup x = some c → c ≠ b) ∧ ∀ p ∈ X.pn ++ pins, p.1 ≠ b
theorem Inv.fpOk {X : Cx} {pins : List (Addr × Obj)} {σ : St} {H H' : Hp} {s : Shared} {b : Addr} (I : Inv X pins σ H s) (hb : s.heap.objs.size ≤ b) (hn : H' b = none) : FpOk X pins H' b := by
  refine ⟨hn, Nat.ne_of_gt (Nat.lt_of_lt_of_le I.lt hb), I.nofs hb, .inr (Nat.le_trans I.sz hb), fun x c e z => ?_, fun p hp z => ?_⟩
  · obtain ⟨v, q⟩ := I.cell x c e
    exact absurd (Nat.lt_of_lt_of_le q.lt (by rw [z]; exact hb)) (Nat.lt_irrefl _)
  · exact absurd (Nat.lt_of_lt_of_le (Heap.lt_size (I.pin p hp).1) (by rw [z]; exact hb)) (Nat.lt_irrefl _)
structure Turn (P : Program) (w : World) (K : PySem.W.Frag) (tg : Expr) (J : It) (fp : List Addr) (it : Addr) (tn : Nat → Heap → Prop) : Prop where
  mem : it ∈ fp
  obj : ∀ i h, tn i h → ∀ b ∈ fp, ∃ o, h.get? b = some o ∧ ∀ v, o.data ≠ .cell v
  keep : ∀ i h h', tn i h → (∀ b ∈ fp, ∀ o, h.get? b = some o → h'.get? b = some o) → tn i h'
  item : ∀ (X : Cx), X.prog = P → X.w = w → X.K = K → X.calm = true → ∀ (i : Nat) (pins : List (Addr × Obj)) (s : Shared) (σ : St) (H : Hp) (E : Value → Shared → Prop), Inv X pins σ H s → (∀ b ∈ fp, FpOk X pins H b) → tn i s.heap → J.go i H →
    wpAny (model P w) X.A (pyNext (.ref it)) (fun r s1 => ∃ u, r = some u ∧
      wpAny (model P w) X.A (letOwnedTupleGo tg (.ref it) u) (fun _ s2 => ∃ x H', Inv X pins σ H' s2 ∧ RelV x u ∧ J.yld i H x H' ∧ tn (i + 1) s2.heap ∧ ∀ b ∈ fp, H' b = none) E s1) E s
  done : ∀ (X : Cx), X.prog = P → X.w = w → X.K = K → X.calm = true → ∀ (i : Nat) (pins : List (Addr × Obj)) (s : Shared) (σ : St) (H : Hp) (E : Value → Shared → Prop), Inv X pins σ H s → (∀ b ∈ fp, FpOk X pins H b) → tn i s.heap → J.stop i H →
    wpAny (model P w) X.A (pyNext (.ref it)) (fun r s1 => r = none ∧ Inv X pins σ H s1) E s
  self : ∀ (A : Around) (i : Nat) (s : Shared) (Q : Value → Shared → Prop) (E : Value → Shared → Prop), tn i s.heap → Q (.ref it) s → wpAny (model P w) A (pyIter (.ref it)) Q E s
abbrev TI := St → Hp → (It → Hp → Prop) → Prop
def PIE (X : Cx) (pins : List (Addr × Obj)) (σ : St) (tg : Expr) (R : It → Hp → Prop) (itv : Value) (s2 : Shared) : Prop :=
  ∃ (it : Addr) (fp : List Addr) (tn : Nat → Heap → Prop) (J : It) (H' : Hp), itv = .ref it ∧ Inv X pins σ H' s2 ∧ Turn X.prog X.w X.K tg J fp it tn ∧ tn 0 s2.heap ∧ (∀ b ∈ fp, FpOk X pins H' b) ∧ R J H'
def PI (X : Cx) (tg iter : Expr) (wi : TI) : Prop :=
  ∀ (pins : List (Addr × Obj)) (s : Shared) (σ : St) (H : Hp) (R : It → Hp → Prop), Inv X pins σ H s → wi σ H R →
    wpAny (model X.prog X.w) X.A (eval iter X.env) (fun v s1 => wpAny (model X.prog X.w) X.A (pyIter v) (PIE X pins σ tg R) X.xe s1) X.xe s
theorem go_of {M : Model} {A : Around} {E : Value → Shared → Prop} {s : Shared} {tg : Expr} {it : Addr} {u : Value} {o : Obj} {n : String} {vs : Array Value} {Q : Unit → Shared → Prop} (ho : s.heap.get? it = some o) (hc : o.cls = .type n) (hd : o.data = .fields vs)
    (hn : ["enumerate", "zip", "dict_itemiterator", "dict_reverseitemiterator", "odict_iterator", "itertools.zip_longest", "itertools.pairwise"].contains n = false) (hQ : Q () s) : wpAny M A (letOwnedTupleGo tg (.ref it) u) Q E s := by
  unfold letOwnedTupleGo
  cases tg <;> first
    | exact wpAny_pure hQ
    | (cases u <;> first
        | exact wpAny_pure hQ
        | (refine wpAny_bind (wpAny_load ho ?_)
           rw [hc, hd]
           show wpAny M A (if (["enumerate", "zip", "dict_itemiterator", "dict_reverseitemiterator", "odict_iterator", "itertools.zip_longest", "itertools.pairwise"].contains n && vs[0]? == some (rawInt _)) = true then _ else _) Q E s
           rw [if_neg (by intro h; rw [hn, Bool.false_and] at h; cases h)]
           exact wpAny_pure hQ))
def Itl (K : PySem.W.Frag) (a : Addr) : It :=
  ⟨fun i H => ∃ xs x, SqL K H a xs ∧ xs[i]? = some x, fun i H x H' => H' = H ∧ ∀ xs, SqL K H a xs → xs[i]? = some x, fun i H => ∃ xs, SqL K H a xs ∧ xs.length ≤ i⟩
def Itr (lo : Int) (n : Nat) : It := ⟨fun i _ => i < n, fun i H x H' => H' = H ∧ x = .int (lo + i), fun i _ => n ≤ i⟩
theorem turn_list {P : Program} {w : World} {K : PySem.W.Frag} {tg : Expr} (a it : Addr) : Turn P w K tg (Itl K a) [it] it (fun i h => h.IsListIter it a i) where
  mem := by simp
  obj := fun i h st b hb => by
    have e : b = it := by simpa using hb
    subst e
    obtain ⟨o, e, c, d⟩ := st
    exact ⟨o, e, fun v z => by rw [d] at z; cases z⟩
  keep := fun i h h' st k => st.at fun o e => k it (by simp) o e
  item := by
    intro X hP hw hK hc i pins s σ H E I hf st hg
    subst hP hw hK
    obtain ⟨xs, x, hq, hx⟩ := hg
    obtain ⟨its, rv, p, hz⟩ := I.list hq
    obtain ⟨u, hu, ru⟩ := rv.get hx
    obtain ⟨f0, f1, f2, f3, f4, f5⟩ := hf it (by simp)
    refine wpAny_pyNext_list_item st p.isList (x := u) (by simpa using hu) fun h' st' sb => ?_
    have I1 : Inv X pins σ H { s with heap := h' } := I.turned (t' := s.toks) (fun b o hb e => (sb.2 b hb).trans e) f0 f1 f3 f4 f5
    obtain ⟨o, e, c, d⟩ := id st'
    exact ⟨u, rfl, go_of (s := { s with heap := h' }) e c d (by decide) ⟨x, H, I1, ru, ⟨rfl, fun ys hy => by rw [I.list_inj hy hq]; exact hx⟩, st', fun b hb => (hf b hb).1⟩⟩
  done := by
    intro X hP hw hK hc i pins s σ H E I hf st hg
    subst hP hw hK
    obtain ⟨xs, hq, hx⟩ := hg
    obtain ⟨its, rv, p, hz⟩ := I.list hq
    obtain ⟨f0, f1, f2, f3, f4, f5⟩ := hf it (by simp)
    have hl := rv.length
    exact wpAny_pyNext_list_end (I.ok.hd hc) st p.isList (by simp; omega) fun h' eb => ⟨rfl, I.turned (t' := s.toks) (fun b o hb e => eb b o hb e) f0 f1 f3 f4 f5⟩
  self := fun _ _ _ _ _ st h => wpAny_pyIter_listiter st h
theorem turn_range {P : Program} {w : World} {K : PySem.W.Frag} {tg : Expr} (it : Addr) (lo : Int) (n : Nat) : Turn P w K tg (Itr lo n) [it] it (fun i h => IsRangeIter h it (lo + (i : Nat) * 1) ((n : Int) - (i : Nat)) 1) where
  mem := by simp
  obj := fun i h st b hb => by
    have e : b = it := by simpa using hb
    subst e
    exact ⟨_, st, fun v z => by
      have z' : Data.fields _ = Data.cell v := z
      cases z'⟩
  keep := fun i h h' st k => k it (by simp) _ st
  item := by
    intro X hP hw hK hc i pins s σ H E I hf st hg
    subst hP hw hK
    obtain ⟨f0, f1, f2, f3, f4, f5⟩ := hf it (by simp)
    have W := Walks.range (prog := X.prog) (w := X.w) (I.ok.hd hc) it lo 1 n
    refine W.item i s _ _ hg st fun v h' tk hv st' kk => ?_
    obtain ⟨t, rfl⟩ := hv
    have I1 : Inv X pins σ H { s with heap := h', toks := tk } := I.turned (fun b o hb e => kk b o (by simpa using hb) e) f0 f1 f3 f4 f5
    refine ⟨_, rfl, go_of (s := { s with heap := h', toks := tk }) (n := "range_iterator") st' rfl rfl (by decide) ⟨.int (lo + i), H, I1, ⟨t, ?_⟩, ⟨rfl, rfl⟩, st', fun b hb => (hf b hb).1⟩⟩
    rw [Int.mul_one]
  done := by
    intro X hP hw hK hc i pins s σ H E I hf st hg
    subst hP hw hK
    obtain ⟨f0, f1, f2, f3, f4, f5⟩ := hf it (by simp)
    exact wpAny_pyNext_range_end (I.ok.hd hc) st (by have : n ≤ i := hg; omega) fun h' eb => ⟨rfl, I.turned (t' := s.toks) (fun b o hb e => eb b o hb e) f0 f1 f3 f4 f5⟩
  self := fun _ _ _ _ _ st h => wpAny_pyIter_rangeiter st h
end L2
namespace L2
open PySem PySem.Spec PyProof.Rows
section
variable {X : Cx} {tg : Expr}
def iList (K : PySem.W.Frag) (tl : TE) : TI := fun σ H R => tl σ H fun x H1 => ∃ a, x = .ref a ∧ (∃ xs, SqL K H1 a xs) ∧ R (Itl K a) H1
theorem pi_list {l : Expr} {tl : TE} (hl : PE X l tl) : PI X tg l (iList X.K tl) := by
  intro pins s σ H R I h
  refine thn (hl pins s σ H _ I h) fun v s1 ⟨x, H1, I1, r1, q1⟩ => ?_
  obtain ⟨a, e, ⟨xs, hq⟩, q⟩ := q1
  subst e
  cases r1
  obtain ⟨its, rv, p, hz⟩ := I1.list hq
  refine wpAny_pyIter_list p.isList ?_
  refine ⟨s1.heap.objs.size, [s1.heap.objs.size], _, _, H1, rfl, I1.kept (t' := s1.toks) fun b o e => Heap.get?_push_of_some _ e, turn_list a _, ⟨_, Heap.get?_push_size _ rfl, rfl, rfl⟩, fun b hb => ?_, q⟩
  have e : b = s1.heap.objs.size := by simpa using hb
  subst e
  exact I1.fpOk (Nat.le_refl _) (I1.hok.fresh (Nat.le_refl _))
theorem range_it {pins : List (Addr × Obj)} {σ : St} {H : Hp} {s : Shared} {R : It → Hp → Prop} {E : Value → Shared → Prop} {lo hi : Int} {t u v : Tok} {tk : Nat} (I : Inv X pins σ H s) (h1 : -(2 ^ 62) ≤ lo) (h2 : lo < 2 ^ 62) (h3 : -(2 ^ 62) ≤ hi) (h4 : hi < 2 ^ 62)
    (q : R (Itr lo (hi - lo).toNat) H) : wpAny (model X.prog X.w) X.A (pyIter (.ref s.heap.objs.size)) (PIE X pins σ tg R) E { s with heap := s.heap.push { cls := .type "range", data := .fields #[.int lo t, .int hi u, .int 1 v] }, toks := tk } := by
  refine wpAny_pyIter_range (IsRange.new ..) (small_one h1 h2 h3 h4) ?_
  have I1 : Inv X pins σ H { s with heap := s.heap.push { cls := .type "range", data := .fields #[.int lo t, .int hi u, .int 1 v] }, toks := tk } := I.kept fun b o e => Heap.get?_push_of_some _ e
  refine ⟨(s.heap.push { cls := .type "range", data := .fields #[.int lo t, .int hi u, .int 1 v] }).objs.size, [(s.heap.push { cls := .type "range", data := .fields #[.int lo t, .int hi u, .int 1 v] }).objs.size], _, _, H, rfl,
    I1.kept (t' := tk) fun b o e => Heap.get?_push_of_some _ e, turn_range _ lo (hi - lo).toNat, ?_, fun b hb => ?_, q⟩
  · have e1 : lo + ((0 : Nat) : Int) * 1 = lo := by simp
    have e2 : (((hi - lo).toNat : Nat) : Int) - ((0 : Nat) : Int) = Builtin.Range.rangeSize lo hi 1 := by rw [rangeSize_one]; split <;> omega
    show IsRangeIter _ _ (lo + ((0 : Nat) : Int) * 1) ((((hi - lo).toNat : Nat) : Int) - ((0 : Nat) : Int)) 1
    rw [e1, e2]
    exact Heap.get?_push_size _ rfl
  · have e : b = (s.heap.push { cls := .type "range", data := .fields #[.int lo t, .int hi u, .int 1 v] }).objs.size := by simpa using hb
    subst e
    exact I1.fpOk (Nat.le_refl _) (I1.hok.fresh (Nat.le_refl _))
def iRng1 (ta : TA) : TI := fun σ H R => ta σ H fun vs H1 => ∃ j : Int, vs = [.int j] ∧ -(2 ^ 62) ≤ j ∧ j < 2 ^ 62 ∧ R (Itr 0 j.toNat) H1
theorem pi_range1 {a : Expr} {ta : TA} {p pos : Pos} (hg : Gl X "range") (hm : X.mg "range" = none) (ha : PA X [a] ta) (hs : starEach [a] X.env = [(false, eval a X.env)] := by rfl) : PI X tg (.Call (.Name "range" p) [a] [] pos) (iRng1 ta) := by
  intro pins s σ H R I h
  refine Call_ (ld_blt I hg hm boot_range (PyProof.Rows.callWith_type1 (thn (ha pos pins s σ H _ I h) fun us s1 ⟨vs, H1, I1, r1, q1⟩ => ?_) hs rfl))
  obtain ⟨j, e, q1, q2, q⟩ := q1
  subst e
  cases r1 with
  | cons r rr =>
    cases rr
    obtain ⟨t, rfl⟩ := r
    exact call_range_1 (range_it I1 (by omega) (by omega) q1 q2 (by simpa using q))
def tFor (wi : TI) (g : TG) (tb : TS) : TS := fun D σ H => wi σ H fun J H1 => ∃ W : Nat → Nat → St → Hp → Prop, (∃ m, W 0 m σ H1) ∧ ∀ i m σ H, W i m σ H →
  (J.stop i H ∧ D.nx σ H) ∨ (J.go i H ∧ ∃ N : St → Hp → Prop, (∀ σ' H', N σ' H' → ∃ m', m' < m ∧ W (i + 1) m' σ' H') ∧ ∀ x H', J.yld i H x H' → g x σ H' fun σ2 H2 => tb { D with nx := N, ct := N, bk := D.nx } σ2 H2)
def pinsAt (fp : List Addr) (h : Heap) : List (Addr × Obj) := fp.filterMap fun b => (h.get? b).map fun o => (b, o)
theorem mem_pinsAt {fp : List Addr} {h : Heap} {b : Addr} {o : Obj} (hb : b ∈ fp) (e : h.get? b = some o) : (b, o) ∈ pinsAt fp h := List.mem_filterMap.mpr ⟨b, hb, by rw [e]; rfl⟩
theorem of_pinsAt {fp : List Addr} {h : Heap} {p : Addr × Obj} (hp : p ∈ pinsAt fp h) : p.1 ∈ fp ∧ h.get? p.1 = some p.2 := by
  obtain ⟨b, hb, e⟩ := List.mem_filterMap.mp hp
  cases q : h.get? b with
  | none => rw [q] at e; cases e
  | some o =>
    rw [q] at e
    have e' : (b, o) = p := Option.some.inj e
    subst e'
    exact ⟨hb, q⟩
theorem Inv.pinned {pins : List (Addr × Obj)} {σ : St} {H : Hp} {s : Shared} {fp : List Addr} (I : Inv X pins σ H s) (hf : ∀ b ∈ fp, FpOk X pins H b) (ho : ∀ b ∈ fp, ∃ o, s.heap.get? b = some o ∧ ∀ v, o.data ≠ .cell v) : Inv X (pins ++ pinsAt fp s.heap) σ H s :=
  I.pins_of fun p hp => (List.mem_append.mp hp).elim (fun z => I.pin p (List.mem_append_right _ z)) fun z => by
    obtain ⟨hb, e⟩ := of_pinsAt z
    obtain ⟨f0, f1, f2, _⟩ := hf p.1 hb
    obtain ⟨o, e', d⟩ := ho p.1 hb
    rw [e] at e'; cases e'
    exact ⟨e, f0, f1, f2, d⟩
theorem Inv.unpinned {pins pl : List (Addr × Obj)} {σ : St} {H : Hp} {s : Shared} (I : Inv X (pins ++ pl) σ H s) : Inv X pins σ H s := I.pins_of fun p hp => I.pin p (List.mem_append_right _ (List.mem_append_left _ hp))
theorem ps_for {iter : Expr} {body : List Stmt} {wi : TI} {g : TG} {tb : TS} {pos : Pos} (hp : PassesOwn (model X.prog X.w) X.A X.env X.xe) (hc : X.calm = true) (hi : PI X tg iter wi) (hg : PG X tg g) (hb : PSs X body tb)
    (hs : ∀ x, foldedSetIterable iter X.env x = pure x := by intro _; rfl) : PS X (.For tg iter body [] pos) (tFor wi g tb) := by
  intro pins s σ H D I h
  refine wpAny_For (thn (hi pins s σ H _ I h) fun v s1 h1 => thn h1 fun itv s2 h2 => ?_) hs
  obtain ⟨it, fp, tn, J, H2, e, I2, T, st2, f2, W, ⟨m0, w0⟩, turn⟩ := h2
  subst e
  have stat : ∀ {H' : Hp}, (∀ b ∈ fp, H' b = none) → ∀ b ∈ fp, FpOk X pins H' b := fun hn b hb => ⟨hn b hb, (f2 b hb).2⟩
  refine codeAny_forLoop_any (fun n s' => ∃ i σ' H', Inv X pins σ' H' s' ∧ tn i s'.heap ∧ (∀ b ∈ fp, H' b = none) ∧ W i n σ' H') ?_ m0 ⟨0, σ, H2, I2, st2, fun b hb => (f2 b hb).1, w0⟩
  rintro n s3 ⟨i, σ3, H3, I3, st3, fr3, w3⟩
  rcases turn i n σ3 H3 w3 with ⟨stop, qn⟩ | ⟨go, N, hN, step⟩
  · refine wpAny_passesOwn hp (thn (T.done X rfl rfl rfl hc i pins s3 σ3 H3 X.xe I3 (stat fr3) st3 stop) fun r s4 ⟨hr, I4⟩ => ?_)
    subst hr
    exact wpAny_execs_nil ⟨σ3, H3, I4, qn⟩
  · refine wpAny_passesOwn hp (thn (T.item X rfl rfl rfl hc i pins s3 σ3 H3 X.xe I3 (stat fr3) st3 go) fun r s4 ⟨u, hr, h4⟩ => ?_)
    subst hr
    refine wpAny_passesOwn hp (thn h4 fun _ s5 ⟨x, H5, I5, r5, y5, st5, fr5⟩ => ?_)
    have I5' := I5.pinned (stat fr5) (T.obj _ _ st5)
    refine wpAny_passesOwn hp (thn (hg _ s5 σ3 H5 x u _ I5' r5 (step x H5 y5)) fun _ s6 ⟨σ6, H6, I6, q6⟩ => ?_)
    refine wpAny_passesOwn hp (thn (hb _ s6 σ6 H6 _ I6 q6) fun f s7 q7 => ?_)
    have again : ∀ {σ7 : St} {H7 : Hp}, Inv X (pins ++ pinsAt fp s5.heap) σ7 H7 s7 → N σ7 H7 → ∃ m, m < n ∧ ∃ i σ' H', Inv X pins σ' H' s7 ∧ tn i s7.heap ∧ (∀ b ∈ fp, H' b = none) ∧ W i m σ' H' := fun {σ7 H7} I7 n7 => by
      obtain ⟨m', hm, w7⟩ := hN σ7 H7 n7
      refine ⟨m', hm, i + 1, σ7, H7, I7.unpinned, T.keep _ _ _ st5 fun b hb o e => (I7.pin (b, o) (List.mem_append_right _ (List.mem_append_right _ (mem_pinsAt hb e)))).1, fun b hb => ?_, w7⟩
      obtain ⟨o, e, d⟩ := T.obj _ _ st5 b hb
      exact (I7.pin (b, o) (List.mem_append_right _ (List.mem_append_right _ (mem_pinsAt hb e)))).2.1
    cases f with
    | next => obtain ⟨σ7, H7, I7, n7⟩ := q7; exact again I7 n7
    | cont => obtain ⟨σ7, H7, I7, n7⟩ := q7; exact again I7 n7
    | brk => obtain ⟨σ7, H7, I7, q7⟩ := q7; exact ⟨σ7, H7, I7.unpinned, q7⟩
    | ret v => obtain ⟨x7, σ7, H7, I7, r7, q7⟩ := q7; exact ⟨x7, σ7, H7, I7.unpinned, r7, q7⟩
end
theorem for_list {K : PySem.W.Frag} {a : Addr} {xs : List V} {g : TG} {tb : TS} {D : Ends} {σ : St} {H : Hp} (Pv : Nat → St → Hp → Prop) (h0 : Pv 0 σ H) (hl : ∀ i σ H, i ≤ xs.length → Pv i σ H → SqL K H a xs)
    (hs : ∀ i x σ H, xs[i]? = some x → Pv i σ H → g x σ H fun σ2 H2 => tb { D with nx := Pv (i + 1), ct := Pv (i + 1), bk := D.nx } σ2 H2) (hd : ∀ σ H, Pv xs.length σ H → D.nx σ H) :
    ∃ W : Nat → Nat → St → Hp → Prop, (∃ m, W 0 m σ H) ∧ ∀ i m σ H, W i m σ H →
      ((Itl K a).stop i H ∧ D.nx σ H) ∨ ((Itl K a).go i H ∧ ∃ N : St → Hp → Prop, (∀ σ' H', N σ' H' → ∃ m', m' < m ∧ W (i + 1) m' σ' H') ∧ ∀ x H', (Itl K a).yld i H x H' → g x σ H' fun σ2 H2 => tb { D with nx := N, ct := N, bk := D.nx } σ2 H2) := by
  refine ⟨fun i m σ H => m = xs.length - i ∧ i ≤ xs.length ∧ Pv i σ H, ⟨xs.length, by simp, Nat.zero_le _, h0⟩, ?_⟩
  rintro i m σ H ⟨rfl, hi, p⟩
  have q := hl i σ H hi p
  by_cases hlt : i < xs.length
  · refine .inr ⟨⟨xs, xs[i], q, by simp [hlt]⟩, Pv (i + 1), fun σ' H' p' => ⟨xs.length - (i + 1), by omega, rfl, hlt, p'⟩, fun x H' y => ?_⟩
    obtain ⟨e, y⟩ := y
    subst e
    exact hs i x σ _ (y xs q) p
  · have e : i = xs.length := by omega
    subst e
    exact .inl ⟨⟨xs, q, Nat.le_refl _⟩, hd σ H p⟩
theorem for_range {lo : Int} {n : Nat} {g : TG} {tb : TS} {D : Ends} {σ : St} {H : Hp} (Pv : Nat → St → Hp → Prop) (h0 : Pv 0 σ H)
    (hs : ∀ i σ H, i < n → Pv i σ H → g (.int (lo + i)) σ H fun σ2 H2 => tb { D with nx := Pv (i + 1), ct := Pv (i + 1), bk := D.nx } σ2 H2) (hd : ∀ σ H, Pv n σ H → D.nx σ H) :
    ∃ W : Nat → Nat → St → Hp → Prop, (∃ m, W 0 m σ H) ∧ ∀ i m σ H, W i m σ H →
      ((Itr lo n).stop i H ∧ D.nx σ H) ∨ ((Itr lo n).go i H ∧ ∃ N : St → Hp → Prop, (∀ σ' H', N σ' H' → ∃ m', m' < m ∧ W (i + 1) m' σ' H') ∧ ∀ x H', (Itr lo n).yld i H x H' → g x σ H' fun σ2 H2 => tb { D with nx := N, ct := N, bk := D.nx } σ2 H2) := by
  refine ⟨fun i m σ H => m = n - i ∧ i ≤ n ∧ Pv i σ H, ⟨n, by simp, Nat.zero_le _, h0⟩, ?_⟩
  rintro i m σ H ⟨rfl, hi, p⟩
  by_cases hlt : i < n
  · refine .inr ⟨hlt, Pv (i + 1), fun σ' H' p' => ⟨n - (i + 1), by omega, rfl, hlt, p'⟩, fun x H' y => ?_⟩
    obtain ⟨e, y⟩ := y
    subst e y
    exact hs i σ _ hlt p
  · have e : i = n := by omega
    subst e
    exact .inl ⟨Nat.le_refl _, hd σ H p⟩
end L2
namespace L2
open PySem PySem.Spec PyProof.Rows
abbrev R2 := V → V → Hp → VK → Prop
def OpR (X : Cx) (f : Value → Value → Sem Value) (r : R2) : Prop :=
  ∀ (pins : List (Addr × Obj)) (s : Shared) (σ : St) (H : Hp) (x y : V) (v u : Value) (Q : VK), Inv X pins σ H s → RelV x v → RelV y u → r x y H Q →
    wpAny (model X.prog X.w) X.A (f v u) (EP X pins σ Q) X.xe s
def CallR (X : Cx) (f : Value) (r : List V → Hp → VK → Prop) : Prop :=
  ∀ (pins : List (Addr × Obj)) (s : Shared) (σ : St) (H : Hp) (xs : List V) (us : List Value) (Q : VK), Inv X pins σ H s → Vals xs us → r xs H Q →
    wpAny (model X.prog X.w) X.A (call f us) (EP X pins σ Q) X.xe s
def tOp (r : R2) (ta tb : TE) : TE := fun σ H Q => ta σ H fun x H1 => tb σ H1 fun y H2 => r x y H2 Q
def tUn (r : V → Hp → VK → Prop) (ta : TE) : TE := fun σ H Q => ta σ H fun x H1 => r x H1 Q
def rI (C : Int → Int → Prop) (g : Int → Int → V) : R2 := fun x y H Q => ∃ i j, x = .int i ∧ y = .int j ∧ C i j ∧ Q (g i j) H
def rI0 (g : Int → Int → V) : R2 := fun x y H Q => ∃ i j, x = .int i ∧ y = .int j ∧ Q (g i j) H
def rU (g : Int → V) : V → Hp → VK → Prop := fun x H Q => ∃ i, x = .int i ∧ Q (g i) H
section
variable {X : Cx} {a b c : Expr} {ta tb tc : TE} {pos : Pos}
theorem binT (ha : PE X a ta) (hb : PE X b tb) {pins : List (Addr × Obj)} {s : Shared} {σ : St} {H : Hp} {R : V → V → Hp → Prop} (I : Inv X pins σ H s)
    (h : ta σ H fun x H1 => tb σ H1 fun y H2 => R x y H2) {Q : Value → Shared → Prop} {f : Value → Value → Sem Value}
    (hf : ∀ v u s2 x y H2, Inv X pins σ H2 s2 → RelV x v → RelV y u → R x y H2 → wpAny (model X.prog X.w) X.A (f v u) Q X.xe s2) :
    wpAny (model X.prog X.w) X.A (eval a X.env) (fun v s₁ => wpAny (model X.prog X.w) X.A (eval b X.env) (fun u s₂ => wpAny (model X.prog X.w) X.A (f v u) Q X.xe s₂) X.xe s₁) X.xe s := by
  refine thn (ha pins s σ H _ I h) fun v s1 ⟨x, H1, I1, r1, q1⟩ => ?_
  refine thn (hb pins s1 σ H1 _ I1 q1) fun u s2 ⟨y, H2, I2, r2, q2⟩ => ?_
  exact hf v u s2 x y H2 I2 r1 r2 q2
theorem pe_op {op : Operator} {r : R2} (ho : OpR X (binaryOp op) r) (ha : PE X a ta) (hb : PE X b tb) : PE X (.BinOp a op b pos) (tOp r ta tb) := by
  intro pins s σ H Q I h
  exact wpAny_BinOp (binT ha hb I h fun v u s2 x y H2 I2 rx ry q => ho pins s2 σ H2 x y v u Q I2 rx ry q)
theorem opI {f : Value → Value → Sem Value} {C : Int → Int → Prop} {g : Int → Int → Int}
    (rule : ∀ (i j : Int) (t u : Tok) (s : Shared) (Q : Value → Shared → Prop) (E : Value → Shared → Prop), C i j → Q (.int (g i j) s.toks) { s with toks := s.toks + 1 } → wpAny (model X.prog X.w) X.A (f (.int i t) (.int j u)) Q E s) :
    OpR X f (rI C fun i j => .int (g i j)) := by
  intro pins s σ H x y v u Q I rx ry h
  obtain ⟨i, j, rfl, rfl, hc, q⟩ := h
  obtain ⟨t, rfl⟩ := rx
  obtain ⟨t', rfl⟩ := ry
  exact rule i j t t' s _ _ hc ⟨.int (g i j), H, I.tok _, ⟨_, rfl⟩, q⟩
theorem opI0 {f : Value → Value → Sem Value} {g : Int → Int → Int}
    (rule : ∀ (i j : Int) (t u : Tok) (s : Shared) (Q : Value → Shared → Prop) (E : Value → Shared → Prop), Q (.int (g i j) s.toks) { s with toks := s.toks + 1 } → wpAny (model X.prog X.w) X.A (f (.int i t) (.int j u)) Q E s) :
    OpR X f (rI0 fun i j => .int (g i j)) := by
  intro pins s σ H x y v u Q I rx ry h
  obtain ⟨i, j, rfl, rfl, q⟩ := h
  obtain ⟨t, rfl⟩ := rx
  obtain ⟨t', rfl⟩ := ry
  exact rule i j t t' s _ _ ⟨.int (g i j), H, I.tok _, ⟨_, rfl⟩, q⟩
theorem opB0 {f : Value → Value → Sem Value} {g : Int → Int → Bool}
    (rule : ∀ (i j : Int) (t u : Tok) (s : Shared) (Q : Value → Shared → Prop) (E : Value → Shared → Prop), Q (.bool (g i j)) s → wpAny (model X.prog X.w) X.A (f (.int i t) (.int j u)) Q E s) :
    OpR X f (rI0 fun i j => .bl (g i j)) := by
  intro pins s σ H x y v u Q I rx ry h
  obtain ⟨i, j, rfl, rfl, q⟩ := h
  obtain ⟨t, rfl⟩ := rx
  obtain ⟨t', rfl⟩ := ry
  exact rule i j t t' s _ _ ⟨.bl (g i j), H, I, rfl, q⟩
def CPow (i j : Int) : Prop := 0 ≤ j ∧ j ≤ 1000000 ∧ i.natAbs < 2 ^ 64
def CMul (i j : Int) : Prop := (-(2 ^ 64) < i ∧ i < 2 ^ 64) ∨ (-(2 ^ 64) < j ∧ j < 2 ^ 64)
theorem CMul.ok {i j : Int} (h : CMul i j) : IntMulOk i j := by
  rcases h with ⟨h1, h2⟩ | ⟨h1, h2⟩
  · exact .of_left (intBits_le_64 h1 h2)
  · exact .of_right (intBits_le_64 h1 h2)
theorem op_add : OpR X (binaryOp .Add) (rI0 fun i j => .int (i + j)) := opI0 fun _ _ _ _ _ _ _ q => add_int q
theorem op_sub : OpR X (binaryOp .Sub) (rI0 fun i j => .int (i - j)) := opI0 fun _ _ _ _ _ _ _ q => sub_int q
theorem op_mod : OpR X (binaryOp .Mod) (rI (fun _ j => 0 < j) fun i j => .int (i % j)) := opI fun i j _ _ _ _ _ hc q => by
  have h1 : (0 : Int) < j := hc
  exact mod_int' (by omega) (by rw [Int.fmod_eq_emod_of_nonneg i (by omega)]; exact q)
theorem op_pow : OpR X (binaryOp .Pow) (rI CPow fun i j => .int (i ^ j.toNat)) := opI fun _ _ _ _ _ _ _ hc q => pow_int_small hc.1 hc.2.1 hc.2.2 q
end
def scal : V → V → Bool
  | .non, .non => true | .non, .int _ => true | .int _, .non => true | .non, .bl _ => true | .bl _, .non => true | .non, .str _ => true | .str _, .non => true
  | .int _, .int _ => true | .bl _, .bl _ => true | .str _, .str _ => true | .byt _, .byt _ => true
  | .int _, .str _ => true | .str _, .int _ => true | .bl _, .str _ => true | .str _, .bl _ => true
  | _, _ => false
def rEq : R2 := fun x y H Q => scal x y = true ∧ Q (.bl (decide (x = y))) H
def rNe : R2 := fun x y H Q => scal x y = true ∧ Q (.bl (!decide (x = y))) H
theorem dec_int {i j : Int} : decide (V.int i = V.int j) = (i == j) := by
  rw [Bool.eq_iff_iff]
  simp
theorem dec_bl {i j : Bool} : decide (V.bl i = V.bl j) = (i == j) := by
  rw [Bool.eq_iff_iff]
  simp
theorem dec_str {i j : Str} : decide (V.str i = V.str j) = (i == j) := by
  rw [Bool.eq_iff_iff]
  simp
theorem dec_byt {i j : Array UInt8} : decide (V.byt i = V.byt j) = (i.toList == j.toList) := by
  rw [Bool.eq_iff_iff]
  cases i
  cases j
  simp
section
variable {X : Cx} {a b c : Expr} {ta tb tc : TE} {pos : Pos}
theorem fin_bl {pins : List (Addr × Obj)} {σ : St} {H : Hp} {s : Shared} {Q : VK} {k k' : Bool} (I : Inv X pins σ H s) (q : Q (.bl k) H) (e : k = k') : EP X pins σ Q (.bool k') s := by
  subst e
  exact ⟨.bl k, H, I, rfl, q⟩
theorem op_eq : OpR X (compareOp .Eq) rEq := by
  intro pins s σ H x y v u Q I rx ry h
  obtain ⟨hs, q⟩ := h
  cases x with
  | non =>
    cases rx
    cases y with
    | non => cases ry; exact PySem.EqNone.eq_none_none (fin_bl I q (by simp))
    | bl j => cases ry; exact PySem.EqNone.eq_none_bool (fin_bl I q (by simp))
    | int j => obtain ⟨t', rfl⟩ := ry; exact PySem.EqNone.eq_none_int (fin_bl I q (by simp))
    | str j => obtain ⟨t', rfl⟩ := ry; exact PySem.EqNone.eq_none_str (fin_bl I q (by simp))
    | _ => exact absurd (show false = true from hs) Bool.false_ne_true
  | bl i =>
    cases rx
    cases y with
    | non => cases ry; exact PySem.EqNone.eq_bool_none (fin_bl I q (by simp))
    | bl j => cases ry; exact eq_bool (fin_bl I q dec_bl)
    | str j => obtain ⟨t', rfl⟩ := ry; exact PySem.EqMixed.eq_bool_str (fin_bl I q (by simp))
    | _ => exact absurd (show false = true from hs) Bool.false_ne_true
  | int i =>
    obtain ⟨t, rfl⟩ := rx
    cases y with
    | non => cases ry; exact PySem.EqNone.eq_int_none (fin_bl I q (by simp))
    | int j => obtain ⟨t', rfl⟩ := ry; exact eq_int (fin_bl I q dec_int)
    | str j => obtain ⟨t', rfl⟩ := ry; exact PySem.EqMixed.eq_int_str (fin_bl I q (by simp))
    | _ => exact absurd (show false = true from hs) Bool.false_ne_true
  | str i =>
    obtain ⟨t, rfl⟩ := rx
    cases y with
    | non => cases ry; exact PySem.EqNone.eq_str_none (fin_bl I q (by simp))
    | bl j => cases ry; exact PySem.EqMixed.eq_str_bool (fin_bl I q (by simp))
    | int j => obtain ⟨t', rfl⟩ := ry; exact PySem.EqMixed.eq_str_int (fin_bl I q (by simp))
    | str j => obtain ⟨t', rfl⟩ := ry; exact eq_str (fin_bl I q dec_str)
    | _ => exact absurd (show false = true from hs) Bool.false_ne_true
  | byt i =>
    obtain ⟨t, rfl⟩ := rx
    cases y with
    | byt j => obtain ⟨t', rfl⟩ := ry; exact PySem.W.eq_bytes (fin_bl I q dec_byt)
    | _ => exact absurd (show false = true from hs) Bool.false_ne_true
  | _ => cases y <;> exact absurd (show false = true from hs) Bool.false_ne_true
theorem op_ne : OpR X (compareOp .NotEq) rNe := by
  intro pins s σ H x y v u Q I rx ry h
  obtain ⟨hs, q⟩ := h
  cases x with
  | non =>
    cases rx
    cases y with
    | non => cases ry; exact PySem.EqNone.ne_none_none (fin_bl I q (by simp))
    | bl j => cases ry; exact PySem.EqNone.ne_none_bool (fin_bl I q (by simp))
    | int j => obtain ⟨t', rfl⟩ := ry; exact PySem.EqNone.ne_none_int (fin_bl I q (by simp))
    | str j => obtain ⟨t', rfl⟩ := ry; exact PySem.EqNone.ne_none_str (fin_bl I q (by simp))
    | _ => exact absurd (show false = true from hs) Bool.false_ne_true
  | bl i =>
    cases rx
    cases y with
    | non => cases ry; exact PySem.EqNone.ne_bool_none (fin_bl I q (by simp))
    | bl j => cases ry; exact ne_bool (fin_bl I q (congrArg not dec_bl))
    | str j => obtain ⟨t', rfl⟩ := ry; exact PySem.EqMixed.ne_bool_str (fin_bl I q (by simp))
    | _ => exact absurd (show false = true from hs) Bool.false_ne_true
  | int i =>
    obtain ⟨t, rfl⟩ := rx
    cases y with
    | non => cases ry; exact PySem.EqNone.ne_int_none (fin_bl I q (by simp))
    | int j => obtain ⟨t', rfl⟩ := ry; exact ne_int (fin_bl I q (congrArg not dec_int))
    | str j => obtain ⟨t', rfl⟩ := ry; exact PySem.EqMixed.ne_int_str (fin_bl I q (by simp))
    | _ => exact absurd (show false = true from hs) Bool.false_ne_true
  | str i =>
    obtain ⟨t, rfl⟩ := rx
    cases y with
    | non => cases ry; exact PySem.EqNone.ne_str_none (fin_bl I q (by simp))
    | bl j => cases ry; exact PySem.EqMixed.ne_str_bool (fin_bl I q (by simp))
    | int j => obtain ⟨t', rfl⟩ := ry; exact PySem.EqMixed.ne_str_int (fin_bl I q (by simp))
    | str j => obtain ⟨t', rfl⟩ := ry; exact ne_str (fin_bl I q (congrArg not dec_str))
    | _ => exact absurd (show false = true from hs) Bool.false_ne_true
  | byt i =>
    obtain ⟨t, rfl⟩ := rx
    cases y with
    | byt j => obtain ⟨t', rfl⟩ := ry; exact PySem.W.ne_bytes (fin_bl I q (congrArg not dec_byt))
    | _ => exact absurd (show false = true from hs) Bool.false_ne_true
  | _ => cases y <;> exact absurd (show false = true from hs) Bool.false_ne_true
theorem op_lt : OpR X (compareOp .Lt) (rI0 fun i j => .bl (decide (i < j))) := opB0 fun _ _ _ _ _ _ _ q => lt_int q
theorem op_le : OpR X (compareOp .LtE) (rI0 fun i j => .bl (decide (i ≤ j))) := opB0 fun _ _ _ _ _ _ _ q => le_int q
theorem op_gt : OpR X (compareOp .Gt) (rI0 fun i j => .bl (decide (j < i))) := opB0 fun _ _ _ _ _ _ _ q => gt_int q
theorem nomark (b : Expr) {op : CmpOp} (h : op ≠ .In := by decide) (h2 : op ≠ .NotIn := by decide) : behindInMarks op b = false := by
  have e1 : (op == CmpOp.In) = false := by cases op <;> first | rfl | exact absurd rfl h
  have e2 : (op == CmpOp.NotIn) = false := by cases op <;> first | rfl | exact absurd rfl h2
  cases b <;> simp [behindInMarks, e1, e2]
theorem pe_cmpR {op : CmpOp} {r : R2} (ho : OpR X (compareOp op) r) (ha : PE X a ta) (hb : PE X b tb) (hm : behindInMarks op b = false) : PE X (.Compare a [op] [b] pos) (tOp r ta tb) := by
  intro pins s σ H Q I h
  exact wpAny_Compare1 (binT ha hb I h fun v u s2 x y H2 I2 rx ry q => ho pins s2 σ H2 x y v u Q I2 rx ry q) hm
def tTest (t : TE) : TT := fun σ H Q => t σ H fun x H' => ∃ k, x = .bl k ∧ Q k H'
theorem pt_cmpR {op : CmpOp} {r : R2} (ho : OpR X (compareOp op) r) (ha : PE X a ta) (hb : PE X b tb) (hm : behindInMarks op b = false) : PT X (.Compare a [op] [b] pos) (tTest (tOp r ta tb)) := by
  intro pins s σ H Q I h
  refine wpAny_isTrue_Compare1 (thn (ha pins s σ H _ I h) fun v s1 ⟨x, H1, I1, r1, q1⟩ => thn (hb pins s1 σ H1 _ I1 q1) fun u s2 ⟨y, H2, I2, r2, q2⟩ =>
    thn (ho pins s2 σ H2 x y v u _ I2 r1 r2 q2) fun c s3 ⟨z, H3, I3, r3, k, e, q3⟩ => ?_) hm
  subst e
  cases r3
  exact wpAny_truthy_bool ⟨H3, I3, q3⟩
def tChain (r r' : R2) (ta tb tc : TE) : TE := fun σ H Q => ta σ H fun x H1 => tb σ H1 fun y H2 => r x y H2 fun z H3 => ∃ k, z = .bl k ∧
  (if k = true then tc σ H3 fun w' H4 => r' y w' H4 Q else Q (.bl false) H3)
theorem line63 : (sizeLine : Nat) < 2 ^ 63 := by rw [sizeLine_eq]; decide
theorem vals1 {x : V} {us : List Value} (r : Vals [x] us) : ∃ u, us = [u] ∧ RelV x u := by
  cases r with
  | cons r1 r2 => cases r2; exact ⟨_, rfl, r1⟩
theorem vals2 {x y : V} {us : List Value} (r : Vals [x, y] us) : ∃ u w', us = [u, w'] ∧ RelV x u ∧ RelV y w' := by
  cases r with
  | cons r1 r2 =>
    cases r2 with
    | cons r3 r4 => cases r4; exact ⟨_, _, rfl, r1, r3⟩
theorem call_abs : CallR X (.builtin "abs") (fun xs H Q => ∃ i, xs = [.int i] ∧ Q (.int (if i < 0 then -i else i)) H) := by
  intro pins s σ H xs us Q I r h
  obtain ⟨i, rfl, q⟩ := h
  obtain ⟨u, rfl, t, rfl⟩ := vals1 r
  exact call_abs_int fun u tk => ⟨.int (if i < 0 then -i else i), H, I.tok _, ⟨_, rfl⟩, q⟩
theorem call_min2 (hc : X.calm = true) : CallR X (.builtin "min") (fun xs H Q => ∃ i j, xs = [.int i, .int j] ∧ Q (.int (if j < i then j else i)) H) := by
  intro pins s σ H xs us Q I r h
  obtain ⟨i, j, rfl, q⟩ := h
  obtain ⟨u, w', rfl, ⟨t, rfl⟩, ⟨t', rfl⟩⟩ := vals2 r
  refine min_two_ints (I.ok.hd hc) fun h' tk k => ⟨_, H, I.kept k, ?_, q⟩
  by_cases hj : j < i
  · rw [if_pos hj, if_pos hj]; exact ⟨_, rfl⟩
  · rw [if_neg hj, if_neg hj]; exact ⟨_, rfl⟩
end
end L2
namespace L2
open PySem PySem.Spec PyProof.Rows
structure ObjM (h : Heap) (x dx C : Addr) (mA : Str → Option Value) : Prop where
  obj : h.get? x = some (PySem.W.instObj C dx)
  ns : h.Ns1 dx mA
  ne : dx ≠ x
theorem lookIn_ns {h : Heap} {dx : Addr} {mA : Str → Option Value} (n : h.Ns1 dx mA) : ∃ od, h.get? dx = some od ∧ ∀ name, PySem.W.lookIn name od = some (mA name) := by
  obtain ⟨o, es, ep, ho, hd, hk, _, hm⟩ := n
  refine ⟨o, ho, fun name => ?_⟩
  have e := hm name
  unfold nsFind findBy at e
  rw [← Array.find?_toList] at e
  unfold PySem.W.lookIn
  rw [hd]
  dsimp only
  split
  · rename_i y q
    rw [q] at e
    exact congrArg some e
  · rename_i q
    rw [q] at e
    have a : es.toList.any (·.refKey) = false := by
      rw [List.any_eq_false]
      intro y hy
      obtain ⟨z, t, hkey⟩ := hk y (Array.mem_toList_iff.mp hy)
      simp [DictEntry.refKey, hkey]
    have a' : ¬ es.toList.any (·.refKey) = true := by rw [a]; exact Bool.false_ne_true
    rw [if_neg a']
    exact congrArg some e
theorem ObjM.look {h : Heap} {x dx C : Addr} {mA : Str → Option Value} (I : ObjM h x dx C mA) : ∃ od, PySem.W.InstAt h x (PySem.W.instObj C dx) C (some od) ∧ ∀ name, PySem.W.lookIn name od = some (mA name) :=
  let ⟨od, ho, hl⟩ := lookIn_ns I.ns
  ⟨od, ⟨I.obj, rfl, rfl, ho⟩, hl⟩
section
variable {prog : Program} {w : World} {A : Around} {E : Value → Shared → Prop} {s : Shared} {K : PySem.W.Frag} {x dx C f : Addr} {mA : Str → Option Value} {name : Str} {v : Value}
end
section
variable {P : Program} {w : World} {H H' : Hp} {h h' : Heap} {a C dx : Addr} {fs fs' : List (Str × V)}
theorem ins_get (hok : HOk P w H h) (e : H a = some (.ins C dx fs)) : ∃ mA, ObjM h a dx C mA ∧ (∀ f, RelO (fs.lookup f) (mA f)) ∧ PySem.Within mA (fs.map (·.1)) ∧ fs.length ≤ 1000 ∧ H dx = some (.own a) := by
  obtain ⟨d, z, ne, ob, mA, n, r, q⟩ := (show ObjOk P w H h a (.ins C dx fs) from hok a _ e)
  exact ⟨mA, ⟨ob, n, ne⟩, r, q, z, d⟩
end
structure Cls (K : PySem.W.Frag) (C : Addr) : Prop where
  pg : PySem.W.plainGet K C Str.empty = true
  hd : PySem.W.hasDictIn K C = true
  po : PySem.W.plainOver K C = true
  sa : PySem.W.findIn K (.ref C) "__setattr__" = some (some (.builtin "object.__setattr__"))
theorem Cls.get {K : PySem.W.Frag} {C : Addr} (c : Cls K C) (f : Str) : PySem.W.plainGet K C f = true := c.pg
structure Con (K : PySem.W.Frag) (C : Addr) (f : Str) (v : V) (u : Value) : Prop where
  at_ : PySem.W.findIn K (.ref C) f = some (some u)
  rel : RelV v u
  get : PySem.W.specialIn K u "__get__" = some none
  cp : PySem.W.copiedNames.contains f = false
structure Meth (K : PySem.W.Frag) (C : Addr) (m : Str) (f : Addr) : Prop where
  at_ : PySem.W.findIn K (.ref C) m = some (some (.ref f))
  fn : PySem.W.isFn K (.ref f) = true
  kp : PySem.W.keepIn K (.ref f) = true
section
variable {X : Cx} {pins : List (Addr × Obj)} {σ : St} {H : Hp} {s : Shared} {a C dx : Addr} {fs : List (Str × V)} {f : Str} {v : V} {A : Around} {E : Value → Shared → Prop}
end
section
variable {X : Cx} {o e value : Expr} {f : Str} {pos pos' tpos : Pos} {ta tv : TE}
end
section
variable {X : Cx} {pins : List (Addr × Obj)} {σ : St} {H : Hp} {s : Shared} {A : Around} {E : Value → Shared → Prop} {Q : Value → Shared → Prop} {c : Value} {b : Bool}
inductive TyOf (K : PySem.W.Frag) (H : Hp) : V → Value → Prop where
  | non : TyOf K H .non (.type "NoneType")
  | bl (x : Bool) : TyOf K H (.bl x) (.type "bool")
  | int (i : Int) : TyOf K H (.int i) (.type "int")
  | str (x : Str) : TyOf K H (.str x) (.type "str")
  | flt (x : UInt64) : TyOf K H (.flt x) (.type "float")
  | lst {a : Addr} {xs : List V} (e : H a = some (.lst xs)) : TyOf K H (.ref a) (.type "list")
  | frz {a : Addr} {o : Obj} {xs : List V} (e : H a = some (.frz o (.lst xs))) : TyOf K H (.ref a) (.type "list")
  | tup {a : Addr} {xs : List V} (e : H a = some (.tup xs)) : TyOf K H (.ref a) (.type "tuple")
  | dK {a : Addr} {kvs : List (Key × V)} (e : H a = some (.dK kvs)) : TyOf K H (.ref a) (.type "dict")
  | dT {a : Addr} {kvs : List (List Key × V)} (e : H a = some (.dT kvs)) : TyOf K H (.ref a) (.type "dict")
  | ins {a C dx : Addr} {fs : List (Str × V)} (e : H a = some (.ins C dx fs)) (cl : Cls K C) (ha : PySem.W.findIn K (.ref C) "__class__" = some (some (.builtin "object.__class__")))
      (hn : PySem.W.specialIn K (.builtin "object.__class__") "__get__" = some (some (.builtin "getset_descriptor.__get__"))) (htk : PySem.W.takesIn K (.builtin "object.__class__") = some true)
      (hm : PySem.W.mroIn K C (.type "object") = some true) : TyOf K H (.ref a) (.ref C)
theorem isinst_ok {x : V} {u t : Value} (I : Inv X pins σ H s) (rx : RelV x u) (ty : TyOf X.K H x t) (e : PySem.W.kitOne X.K t c = some b) (h : ∀ tk, Q (.bool b) { s with toks := tk }) :
    wpAny (model X.prog X.w) A (call (.builtin "isinstance") [u, c]) Q E s := by
  cases ty with
  | non => cases (show u = Value.none from rx); exact PySem.W.kia_one PySem.W.kitx_none I.kIn True.intro e (fun z => nomatch z) h
  | bl y => cases (show u = Value.bool y from rx); exact PySem.W.kia_one PySem.W.kitx_bool I.kIn True.intro e (fun z => nomatch z) h
  | int i => obtain ⟨t, q⟩ := (show ∃ t, u = Value.int i t from rx); cases q; exact PySem.W.kia_one PySem.W.kitx_int I.kIn True.intro e (fun z => nomatch z) h
  | str y => obtain ⟨t, q⟩ := (show ∃ t, u = Value.str y t from rx); cases q; exact PySem.W.kia_one PySem.W.kitx_str I.kIn True.intro e (fun z => nomatch z) h
  | flt y => obtain ⟨t, q⟩ := (show ∃ t, u = Value.float y t from rx); cases q; exact PySem.W.kia_one PySem.W.kitx_float I.kIn True.intro e (fun z => nomatch z) h
  | @lst a xs ea =>
    cases (show u = Value.ref a from rx)
    obtain ⟨_, _, n, _, h1⟩ := (show ObjOk X.prog X.w H s.heap a (.lst xs) from I.hok a _ ea)
    exact PySem.W.kia_one PySem.W.kitx_list I.kIn ⟨_, h1, rfl⟩ e (fun z => nomatch z) h
  | @frz a ob xs ea =>
    cases (show u = Value.ref a from rx)
    obtain ⟨_, _, _, n, _, h1⟩ := (show ObjOk X.prog X.w H s.heap a (.frz ob (.lst xs)) from I.hok a _ ea)
    exact PySem.W.kia_one PySem.W.kitx_list I.kIn ⟨_, h1, rfl⟩ e (fun z => nomatch z) h
  | @tup a xs ea =>
    cases (show u = Value.ref a from rx)
    obtain ⟨_, _, _, p⟩ := (show ObjOk X.prog X.w H s.heap a (.tup xs) from I.hok a _ ea)
    obtain ⟨o, h1, h2, _⟩ := p
    exact PySem.W.kia_one PySem.W.kitx_tuple I.kIn ⟨o, h1, h2⟩ e (fun z => nomatch z) h
  | @dK a kvs ea =>
    cases (show u = Value.ref a from rx)
    obtain ⟨_, _, vs, _, p⟩ := (show ObjOk X.prog X.w H s.heap a (.dK kvs) from I.hok a _ ea)
    obtain ⟨o, es, ep, h1, h2, _⟩ := p
    exact PySem.W.kia_one PySem.W.kitx_dict I.kIn ⟨o, h1, h2.1⟩ e (fun z => nomatch z) h
  | @dT a kvs ea =>
    cases (show u = Value.ref a from rx)
    obtain ⟨_, _, xs, _, o, es, ep, h1, h2, _⟩ := (show ObjOk X.prog X.w H s.heap a (.dT kvs) from I.hok a _ ea)
    exact PySem.W.kia_one PySem.W.kitx_dict I.kIn ⟨o, h1, h2.1⟩ e (fun z => nomatch z) h
  | @ins a C dx fs ea cl ha hn htk hm =>
    cases (show u = Value.ref a from rx)
    obtain ⟨mA, O, _⟩ := ins_get I.hok ea
    obtain ⟨od, J, _⟩ := O.look
    exact PySem.W.kia_one (PySem.W.kitx_own (cl.get _) cl.hd ha hn htk hm) I.kIn J e (fun z => nomatch z) h
end
end L2
namespace L2
open PySem PySem.Spec PyProof.Rows
structure Room (k : Nat) (A : Around) : Prop where
  hd : A.handled = none
  dp : A.depth + 3 * k + 5 < recursionLimit
  un : A.units + 16 * k + 200 < cLine
theorem Room.mono {j k : Nat} {A : Around} (r : Room k A) (h : j ≤ k) : Room j A := ⟨r.hd, by have := r.dp; omega, by have := r.un; omega⟩
theorem Room.deeper {k : Nat} {A : Around} (r : Room (k + 1) A) (env : Env) : Room k (A.deeper env) :=
  ⟨r.hd, by have := r.dp; show A.depth + 1 + 3 * k + 5 < _; omega, by have := r.un; show A.units + 3 + 16 * k + 200 < _; omega⟩
theorem Room.in1 {k : Nat} {A : Around} (r : Room (k + 1) A) : Room k A.in1 :=
  ⟨r.hd, by have := r.dp; show A.depth + 3 * k + 5 < _; omega, by have := r.un; show A.units + 1 + 16 * k + 200 < _; omega⟩
theorem Room.depth {k : Nat} {A : Around} (r : Room k A) : A.depth < recursionLimit := by have := r.dp; omega
theorem Room.units {k : Nat} {A : Around} (r : Room k A) : A.units + 64 < cLine := by have := r.un; omega
def tNil : TA := fun _ H Q => Q [] H
def tCons (ta : TE) (tr : TA) : TA := fun σ H Q => ta σ H fun x H1 => tr σ H1 fun xs H2 => Q (x :: xs) H2
section
variable {X : Cx} {e : Expr} {es : List Expr} {te : TE} {t : TA} {pos : Pos}
theorem pa_nil : PA X [] tNil := fun _ _ _ _ H Q I h => Calls.spliced_nil ⟨[], H, I, .nil, h⟩
theorem pa_cons (ha : PE X e te) (hr : PA X es t) (hs : starEach (e :: es) X.env = (false, eval e X.env) :: starEach es X.env := by rfl) : PA X (e :: es) (tCons te t) := by
  intro pos pins s σ H Q I h
  rw [hs]
  show wpAny _ _ (spliced ((false, eval e X.env) :: backTo pos (starEach es X.env))) _ _ s
  refine Calls.spliced_cons (thn (ha pins s σ H _ I h) fun u s1 ⟨x, H1, I1, r1, q1⟩ => ?_)
  exact thn (hr pos pins s1 σ H1 _ I1 q1) fun us s2 ⟨xs, H2, I2, r2, q2⟩ => ⟨x :: xs, H2, I2, .cons r1 r2, q2⟩
def tTup (t : TA) : TE := fun σ H Q => t σ H fun xs H1 => xs.length ≤ sizeLine ∧ ∀ p, H1 p = none → Q (.ref p) (upd H1 p (.tup xs))
def tLst (t : TA) : TE := fun σ H Q => t σ H fun xs H1 => xs.length ≤ sizeLine ∧ ∀ p, H1 p = none → Q (.ref p) (upd H1 p (.lst xs))
theorem pe_tup {x1} (h : PA X es t) : PE X (.Tuple es x1 pos) (tTup t) := by
  intro pins s σ H Q I hq
  refine wpAny_Tuple_spliced (thn (h pos pins s σ H _ I hq) fun us s1 ⟨xs, H1, I1, r, z, q⟩ => ⟨by rw [← r.length]; exact z, ?_⟩)
  have hf : H1 s1.heap.objs.size = none := I1.hok.fresh (Nat.le_refl _)
  refine ⟨.ref s1.heap.objs.size, upd H1 s1.heap.objs.size (.tup xs), I1.laid (t' := s1.toks) (fun b u e => Heap.get?_push_of_some _ e) (Nat.le_refl _) ?_, rfl, q _ hf⟩
  exact ⟨z, us, r, ⟨_, Heap.get?_push_size _ rfl, rfl, _, rfl⟩⟩
theorem pe_lst (h : PA X es t) : PE X (.List es pos) (tLst t) := by
  intro pins s σ H Q I hq
  refine wpAny_List_spliced (thn (h pos pins s σ H _ I hq) fun us s1 ⟨xs, H1, I1, r, z, q⟩ => ⟨by rw [← r.length]; exact z, ?_⟩)
  have hf : H1 s1.heap.objs.size = none := I1.hok.fresh (Nat.le_refl _)
  refine ⟨.ref s1.heap.objs.size, upd H1 s1.heap.objs.size (.lst xs), I1.laid (t' := s1.toks) (fun b u e => Heap.get?_push_of_some _ e) (Nat.le_refl _) ?_, rfl, q _ hf⟩
  exact ⟨z, us, 0, r, Heap.get?_push_size _ rfl⟩
end
abbrev Sp := List V → Hp → VK → XK → Prop
abbrev CXT := List Env → Hp → Shared → XK → Value → Shared → Prop
structure Env0 (P : Program) (w : World) (K : PySem.W.Frag) (mg : Str → Option Value) (base : Heap) (A : Around) (outer : List Env) (s : Shared) (H : Hp) : Prop where
  frames : A.frames = some outer
  mod : Mod K mg base
  bs : ∀ b o, base.get? b = some o → s.heap.get? b = some o ∧ H b = none
  bsz : base.objs.size ≤ s.heap.objs.size
  funs : s.heap.FunFrames base outer
  frf : ∀ b ∈ frs outer, H b = none
  hok : HOk P w H s.heap
  bare : AllBare s.gens
def CE (outer : List Env) (P : Program) (w : World) (H : Hp) (s : Shared) (Q : VK) (u : Value) (s' : Shared) : Prop :=
  ∃ v H', s'.os = s.os ∧ AllBare s'.gens ∧ Un (frs outer) [] H H' s.heap s'.heap ∧ HOk P w H' s'.heap ∧ RelV v u ∧ Q v H'
def CR (CX : CXT) (outer : List Env) (P : Program) (w : World) (H : Hp) (s : Shared) (Q : VK) (E : XK) (r : Result) (s' : Shared) : Prop :=
  match r with
  | .ok (.ret u) => CE outer P w H s Q u s'
  | .ok _ => False
  | .error e => CX outer H s E e s'
structure FnOk (P : Program) (w : World) (K : PySem.W.Frag) (mg : Str → Option Value) (base : Heap) (CX : CXT) (k : Nat) (f : Addr) (fd : FuncData) (ps : List Str) (sp : Sp) : Prop where
  len : ∀ vs H Q E, sp vs H Q E → vs.length = ps.length
  run : ∀ (A : Around) (outer : List Env) (s : Shared) (H : Hp) (args : Args) (us : List Value) (vs : List V) (Q : VK) (E : XK), Room k A → Env0 P w K mg base A outer s H → BindsTo s fd args (ps.zip us) → Vals vs us → sp vs H Q E →
    codeAny (model P w) A (.call (.ref f) args) (CR CX outer P w H s Q E) s
theorem FnOk.mono {P : Program} {w : World} {K : PySem.W.Frag} {mg : Str → Option Value} {base : Heap} {CX : CXT} {j k : Nat} {f : Addr} {fd : FuncData} {ps : List Str} {sp : Sp} (F : FnOk P w K mg base CX j f fd ps sp) (h : j ≤ k) :
    FnOk P w K mg base CX k f fd ps sp := ⟨F.len, fun A outer s H args us vs Q E hr => F.run A outer s H args us vs Q E (hr.mono h)⟩
theorem FnOk.imp {P : Program} {w : World} {K : PySem.W.Frag} {mg : Str → Option Value} {base : Heap} {CX : CXT} {k : Nat} {f : Addr} {fd : FuncData} {ps : List Str} {sp sp' : Sp} (F : FnOk P w K mg base CX k f fd ps sp)
    (h : ∀ vs H Q E, sp' vs H Q E → sp vs H Q E) : FnOk P w K mg base CX k f fd ps sp' :=
  ⟨fun vs H Q E q => F.len vs H Q E (h _ _ _ _ q), fun A outer s H args us vs Q E hr he hb hv hs => F.run A outer s H args us vs Q E hr he hb hv (h _ _ _ _ hs)⟩
theorem Env0.in1 {P : Program} {w : World} {K : PySem.W.Frag} {mg : Str → Option Value} {base : Heap} {A : Around} {outer : List Env} {s : Shared} {H : Hp} (e : Env0 P w K mg base A outer s H) :
    Env0 P w K mg base A.in1 outer s H := ⟨e.frames, e.mod, e.bs, e.bsz, e.funs, e.frf, e.hok, e.bare⟩
section
variable {X : Cx} {pins : List (Addr × Obj)} {σ : St} {H : Hp} {s s' : Shared}
theorem Inv.env0 (I : Inv X pins σ H s) : Env0 X.prog X.w X.K X.mg X.base X.A X.stack s H :=
  ⟨I.ok.frames, I.ok.mod, I.bs, Nat.le_trans I.ok.bsz I.sz, I.stack, I.stkFree, I.hok, I.bare⟩
theorem Inv.after {Q : VK} {u : Value} (I : Inv X pins σ H s) (h : CE X.stack X.prog X.w H s Q u s') : EP X pins σ Q u s' := by
  obtain ⟨v, H', os, bare, un, hok, r, q⟩ := h
  obtain ⟨hh, g, d, t, os'⟩ := s'
  obtain rfl : os' = s.os := os
  exact ⟨v, H', I.call (h' := hh) (g' := g) (d' := d) (t' := t) (ch := []) un hok bare (fun b z => absurd z (by simp)), r, q⟩
end
def tCall (sp : Sp) (dvs : List V) (E : XK) (t : TA) : TE := fun σ H Q => t σ H fun vs H1 => sp (vs ++ dvs) H1 Q E
def Binds (K : PySem.W.Frag) (fd : FuncData) (ps : List Str) (ds : List Value) : Prop :=
  ∀ (s : Shared) (us : List Value), K.In s.heap → (us ++ ds).length = ps.length → BindsTo s fd ⟨us, []⟩ (ps.zip (us ++ ds))
theorem Binds.all {K : PySem.W.Frag} {fd : FuncData} {ps : List Str} (h : ∀ us : List Value, us.length = ps.length → bindArgs fd ⟨us, []⟩ = pure (ps.zip us)) : Binds K fd ps [] := fun s us _ hl => by
  rw [List.append_nil] at hl ⊢
  exact .of_eq (h us hl)
def Passes (CX : CXT) (X : Cx) (E : XK) : Prop := ∀ (pins : List (Addr × Obj)) (σ : St) (H : Hp) (s : Shared) (e : Value) (s' : Shared), Inv X pins σ H s → CX X.stack H s E e s' → X.xe e s'
section
variable {X : Cx} {CX : CXT} {k : Nat} {f C : Addr} {fd : FuncData} {ps : List Str} {sp : Sp} {dvs : List V} {ds : List Value} {E : XK} {x m : Str} {p pos apos : Pos} {e o : Expr} {es : List Expr} {ta : TE} {t : TA}
theorem run_fn {pins : List (Addr × Obj)} {σ : St} {H : Hp} {s : Shared} {Q : VK} {us : List Value} {vs : List V} (F : FnOk X.prog X.w X.K X.mg X.base CX k f fd ps sp) (hr : Room k X.A) (hb : Binds X.K fd ps ds) (hd : Vals dvs ds) (hx : Passes CX X E)
    (I : Inv X pins σ H s) (r : Vals vs us) (h : sp (vs ++ dvs) H Q E) : wpAny (model X.prog X.w) X.A (call (.ref f) us) (EP X pins σ Q) X.xe s := by
  have r2 : Vals (vs ++ dvs) (us ++ ds) := r.append hd
  have hl : (us ++ ds).length = ps.length := by rw [← r2.length]; exact F.len _ _ _ _ h
  refine wpAny_call (codeAny_mono (F.run X.A X.stack s H ⟨us, []⟩ (us ++ ds) (vs ++ dvs) Q E hr I.env0 (hb s us I.kIn hl) r2 h) fun r s' hq => ?_)
  cases r with
  | error e => exact hx pins σ H s e s' I hq
  | ok fl =>
    cases fl with
    | ret u => exact I.after hq
    | next => exact False.elim hq
    | brk => exact False.elim hq
    | cont => exact False.elim hq
theorem pe_call (F : FnOk X.prog X.w X.K X.mg X.base CX k f fd ps sp) (hr : Room k X.A) (hg : Gl X x) (hm : X.mg x = some (.ref f)) (hk : PySem.W.keepIn X.K (.ref f) = true) (hb : Binds X.K fd ps ds) (hd : Vals dvs ds) (hx : Passes CX X E)
    (ha : PA X (e :: es) t) (hdb : (x == ("__debug__" : Str)) = false := by decide) (he : starEach (e :: es) X.env = (false, eval e X.env) :: starEach es X.env := by rfl) (hpl : (backTo pos (starEach es X.env)).any (·.1) = false := by rfl) :
    PE X (.Call (.Name x p) (e :: es) [] pos) (tCall sp dvs E t) := by
  intro pins s σ H Q I h
  refine wpAny_Call_Name_kw (ld_glob I hg hm ?_ hdb)
  refine PySem.W.callWith_K (h₀ := X.base) I.ok.mod.kin hk (thn (ha pos pins s σ H _ I h) fun us s1 ⟨vs, H1, I1, r, q⟩ => ⟨I1.kIn, ?_⟩) he hpl
  exact run_fn F hr hb hd hx I1 r q
structure Mk (K : PySem.W.Frag) (C f : Addr) : Prop where
  makes : PySem.W.makesIn K C = true
  init : PySem.W.findIn K (.ref C) "__init__" = some (some (.ref f))
  fn : PySem.W.isFn K (.ref f) = true
  kp : PySem.W.keepIn K (.ref C) = true
end
section
variable {X : Cx} {CX : CXT} {k : Nat} {f C : Addr} {fd : FuncData} {ps ks : List Str} {sp : Sp} {E : XK} {x m : Str} {p pos apos kpos : Pos} {e o : Expr} {es : List Expr} {kws : List Keyword} {te ta : TE} {t tk : TA} {nm : Option Str}
structure KBinds (K : PySem.W.Frag) (fd : FuncData) (ps ks : List Str) (g : List Value → List Value → List Value) (gV : List V → List V → List V) : Prop where
  to : ∀ (s : Shared) (us ws : List Value), K.In s.heap → (g us ws).length = ps.length → BindsTo s fd ⟨us, ks.zip ws⟩ (ps.zip (g us ws))
  rel : ∀ {vs : List V} {us : List Value} {zs : List V} {ws : List Value}, Vals vs us → Vals zs ws → Vals (gV vs zs) (g us ws)
variable {g : List Value → List Value → List Value} {gV : List V → List V → List V}
end
structure FnScope (N P : List Str) (sc : Scope) : Prop where
  kind : sc.kind = .function
  co : sc.isCoroutine = false
  gen : sc.isGenerator = false
  nd : N.Nodup
  pre : N.take P.length = P
  par : ∀ x ∈ P, sc.names.lookup x = some .local ∨ sc.names.lookup x = some .cell
  nofree : ∀ y ∈ sc.names, y.2 ≠ .free
theorem bindL_out {kindOf : Str → Option NameKind} {x : Str} : ∀ {binds : List (Str × Value)} {m : Str → Option Value}, (∀ v, (x, v) ∉ binds) → bindL kindOf binds m x = m x
  | [], _, _ => rfl
  | (n, v) :: r, m, h => by
    unfold bindL
    rw [bindL_out fun w hw => h w (List.mem_cons_of_mem _ hw)]
    split
    · have : x ≠ n := by rintro rfl; exact h v List.mem_cons_self
      simp [this]
    · rfl
theorem bindC_out {kindOf : Str → Option NameKind} {x : Str} : ∀ {binds : List (Str × Value)} {m : Str → Option Value}, (∀ v, (x, v) ∉ binds) → bindC kindOf binds m x = m x
  | [], _, _ => rfl
  | (n, v) :: r, m, h => by
    unfold bindC
    rw [bindC_out fun w hw => h w (List.mem_cons_of_mem _ hw)]
    split
    · rfl
    · have : x ≠ n := by rintro rfl; exact h v List.mem_cons_self
      simp [this]
theorem bindL_get {kindOf : Str → Option NameKind} {x : Str} {v : Value} : ∀ {P : List Str} {vs : List Value} {i : Nat} {m : Str → Option Value}, P.Nodup → P[i]? = some x → vs[i]? = some v → kindOf x = some .local →
    bindL kindOf (P.zip vs) m x = some v
  | [], _, _, _, _, h, _, _ => by simp at h
  | _ :: _, [], _, _, _, _, h, _ => by simp at h
  | p :: P, w :: vs, 0, m, nd, h1, h2, hk => by
    simp at h1 h2; subst h1; subst h2
    show bindL kindOf ((p, w) :: P.zip vs) m p = _
    unfold bindL
    rw [bindL_out fun v hv => (List.nodup_cons.mp nd).1 (List.of_mem_zip hv).1, if_pos hk]
    simp
  | p :: P, w :: vs, i + 1, m, nd, h1, h2, hk => by
    show bindL kindOf ((p, w) :: P.zip vs) m x = _
    unfold bindL
    exact bindL_get (i := i) (List.nodup_cons.mp nd).2 (by simpa using h1) (by simpa using h2) hk
theorem bindC_get {kindOf : Str → Option NameKind} {x : Str} {v : Value} : ∀ {P : List Str} {vs : List Value} {i : Nat} {m : Str → Option Value}, P.Nodup → P[i]? = some x → vs[i]? = some v → kindOf x ≠ some .local →
    bindC kindOf (P.zip vs) m x = some v
  | [], _, _, _, _, h, _, _ => by simp at h
  | _ :: _, [], _, _, _, _, h, _ => by simp at h
  | p :: P, w :: vs, 0, m, nd, h1, h2, hk => by
    simp at h1 h2; subst h1; subst h2
    show bindC kindOf ((p, w) :: P.zip vs) m p = _
    unfold bindC
    rw [bindC_out fun v hv => (List.nodup_cons.mp nd).1 (List.of_mem_zip hv).1, if_neg hk]
    simp
  | p :: P, w :: vs, i + 1, m, nd, h1, h2, hk => by
    show bindC kindOf ((p, w) :: P.zip vs) m x = _
    unfold bindC
    exact bindC_get (i := i) (List.nodup_cons.mp nd).2 (by simpa using h1) (by simpa using h2) hk
def start (N : List Str) (vs : List V) : St := vs.map some ++ List.replicate (N.length - vs.length) none
def cxOf (CX : CXT) (P : Program) (w : World) (K : PySem.W.Frag) (mg : Str → Option Value) (base : Heap) (N : List Str) (qual : Str) (scope : Scope) (f : Addr) (cd : Value) (A : Around) (outer : List Env) (s : Shared) (H : Hp) (E : XK) : Cx where
  prog := P
  w := w
  K := K
  mg := mg
  base := base
  A := A.deeper (envOfC qual scope s.heap.objs.size f cd)
  N := N
  s₀ := s
  H₀ := H
  env := envOfC qual scope s.heap.objs.size f cd
  outer := outer
  stack := envOfC qual scope s.heap.objs.size f cd :: outer
  ex := []
  calm := true
  fn := fun _ => true
  pn := []
  xe := fun e s' => wpAny (model P w) (A.deeper (envOfC qual scope s.heap.objs.size f cd)) (leaving (envOfC qual scope s.heap.objs.size f cd) e) (fun _ s'' => CX outer H s E e s'') (fun e' s'' => CX outer H s E e' s'') s'
theorem cell_has {sc : Scope} {n : Nat} {x : Str} (h : sc.names.lookup x = some .cell) : ∃ c, (cellsFrom n sc.names []).lookup x = some c := by
  have q := PySem.W.cellsFrom_some sc.names n [] (.inl h)
  exact Option.isSome_iff_exists.mp q
theorem inv_start {CX : CXT} {P : Program} {w : World} {K : PySem.W.Frag} {mg : Str → Option Value} {base : Heap} {N ps : List Str} {qual : Str} {scope : Scope} {f : Addr} {cd : Value} {A : Around} {outer : List Env} {s s1 : Shared} {H : Hp} {E : XK} {us : List Value} {vs : List V}
    (S : FnScope N ps scope) (hd : A.handled = none) (e0 : Env0 P w K mg base A outer s H) (hl : vs.length = ps.length) (r : Vals vs us)
    (x : InCallC s s.heap.objs.size (bindL (envOfC qual scope s.heap.objs.size f cd).kindOf (ps.zip us) fun _ => none) (cellsFrom (s.heap.objs.size + 1) scope.names []) (bindC (envOfC qual scope s.heap.objs.size f cd).kindOf (ps.zip us) fun _ => none) s1) :
    Inv (cxOf CX P w K mg base N qual scope f cd A outer s H E) [] (start N vs) H s1 := by
  have hpl : ps.length ≤ N.length := by have := congrArg List.length S.pre; rw [List.length_take] at this; omega
  obtain ⟨h1, tk, rfl, hk⟩ := x.done
  have noA : ∀ b : Addr, b ∉ (cxOf CX P w K mg base N qual scope f cd A outer s H E).ex := fun b z => absurd (show b ∈ ([] : List Addr) from z) (by simp)
  refine ⟨⟨e0.mod, S.kind, rfl, rfl, Nat.le_refl _, fun y z c h1 h2 => ?_, fun y hy => ?_, fun y c _ h => ?_, fun _ => hd, Around.frames_deeper e0.frames, .inr ⟨rfl, rfl⟩, fun b z => absurd z (noA b), e0.bs, e0.bsz, fun b _ _ => noA b, fun b z => absurd z (noA b), e0.funs, e0.frf⟩,
    rfl, e0.bare, Un.kept hk, ⟨_, x.toInCall.ns, fun i y v h1 h2 h3 => ?_⟩, fun y c h => ⟨_, x.cell y c h⟩, e0.hok.fresh (Nat.le_refl _), fun y c h => ?_, fun p hp => absurd (show p ∈ ([] : List (Addr × Obj)) from hp) (by simp), e0.hok.kept hk, ?_⟩
  · exact name_of_addr x.apart (PySem.mem_of_lookup h1) (PySem.mem_of_lookup h2)
  · have hy : scope.names.lookup y = some .cell ∨ scope.names.lookup y = some .free := hy
    rcases hy with hy | hy
    · exact cell_has hy
    · exact absurd rfl (S.nofree _ (PySem.mem_of_lookup hy))
  · exact Nat.le_of_lt (x.above y c (PySem.mem_of_lookup h))
  · have hi : i < vs.length := by
      unfold start at h2
      by_cases hi : i < vs.length
      · exact hi
      · rw [List.getElem?_append_right (by simpa using hi)] at h2
        rw [List.getElem?_replicate] at h2
        split at h2 <;> cases h2
    have ha : vs[i]? = some v := by
      unfold start at h2
      rw [List.getElem?_append_left (by simpa using hi), List.getElem?_map] at h2
      cases e : vs[i]? with
      | none => rw [e] at h2; cases h2
      | some a => rw [e] at h2; cases h2; rfl
    obtain ⟨u, hu, rv⟩ := r.get ha
    have hp : ps[i]? = some y := by
      rw [← S.pre, List.getElem?_take_of_lt (by omega)]; exact h1
    have ndP : ps.Nodup := by rw [← S.pre]; exact S.nd.sublist (List.take_sublist _ _)
    refine ⟨u, rv, ?_⟩
    rcases S.par y (List.mem_of_getElem? hp) with k | k
    · exact .inl ⟨k, bindL_get ndP hp hu k⟩
    · obtain ⟨c, e⟩ := cell_has (n := s.heap.objs.size + 1) k
      refine .inr ⟨.inl k, c, e, ?_⟩
      have q := x.cell y c e
      rw [bindC_get ndP hp hu (by show scope.names.lookup y ≠ _; rw [k]; decide)] at q
      exact q
  · exact e0.hok.fresh (Nat.le_of_lt (x.above y c (PySem.mem_of_lookup h)))
  · unfold start
    show _ = N.length
    rw [List.length_append, List.length_map, List.length_replicate]
    omega
theorem fn_of {CX : CXT} {P : Program} {w : World} {K : PySem.W.Frag} {mg : Str → Option Value} {base : Heap} {k : Nat} {f : Addr} {name qual : Str} {params : Arguments} {body : List Stmt} {scope : Scope} {dV kV doc pm cdv ct oc : Value} {an od : Option Addr}
    {osl : Array (Option Value)} {N ps : List Str} {sp : Sp} (lk : K.lookup f = some ⟨oc, od, .func (PySem.W.fnOf name qual params body scope dV kV doc pm an cdv ct), osl⟩) (hcd : PySem.W.codeIn K cdv qual = true) (S : FnScope N ps scope)
    (len : ∀ vs H Q E, sp vs H Q E → vs.length = ps.length)
    (hbody : ∀ (A : Around) (outer : List Env) (s : Shared) (H : Hp) (vs : List V) (Q : VK) (E : XK), Room k (A.deeper (envOfC qual scope s.heap.objs.size f cdv)) → sp vs H Q E →
      ∃ t, PSs (cxOf CX P w K mg base N qual scope f cdv A outer s H E) body t ∧ t { nx := fun _ H' => Q .non H', rt := Q } (start N vs) H) :
    FnOk P w K mg base CX (k + 1) f (PySem.W.fnOf name qual params body scope dV kV doc pm an cdv ct) ps sp := by
  refine ⟨len, fun A outer s H args us vs Q E hr e0 hb r hsp => ?_⟩
  have hl := len _ _ _ _ hsp
  have KX : K.In s.heap := e0.mod.kin.keeps fun b o e => (e0.bs b o e).1
  have lim : s.heap.NoLimit := e0.mod.nolimit.keeps fun b o e => (e0.bs b o e).1
  have hkind : ∀ y ∈ ps.zip us, scope.names.lookup y.1 = some .local ∨ (scope.names.lookup y.1 = some .cell ∧ ((cellsFrom (s.heap.objs.size + 1) scope.names []).lookup y.1).isSome = true) := fun ⟨n, v⟩ hy => by
    rcases S.par n (List.of_mem_zip hy).1 with q | q
    · exact .inl q
    · exact .inr ⟨q, PySem.W.cellsFrom_some _ _ _ (.inl q)⟩
  refine codeAny_call_function hr.depth (KX _ _ lk) rfl S.co S.gen rfl (PySem.W.codeRec_of KX hcd) (hb _ _ _ _ ?_)
  refine wpAny_newFunctionEnv_cells S.kind hkind fun env he s1 x => ?_
  subst he
  refine ⟨lim.keeps x.toInCall.keep, codeAny_func ?_⟩
  obtain ⟨t, ht, hq⟩ := hbody A outer s H vs Q E (hr.deeper _) hsp
  have I : Inv (cxOf CX P w K mg base N qual scope f cdv A outer s H E) [] (start N vs) H s1 := inv_start S hr.hd e0 hl r x
  refine wpAny_mono (ht [] s1 (start N vs) H _ I hq) (fun fl s' hs => ?_) fun e s' hs => hs
  have fin : ∀ {σ' : St} {H' : Hp} {v : V} {u : Value}, Inv (cxOf CX P w K mg base N qual scope f cdv A outer s H E) [] σ' H' s' → RelV v u → Q v H' → CE outer P w H s Q u s' :=
    fun {σ' H' v u} J rv q => ⟨v, H', J.os, J.bare, J.base, J.hok, rv, q⟩
  cases fl with
  | ret u =>
    obtain ⟨v, σ', H', J, rv, q⟩ := hs
    exact fin J rv q
  | next =>
    obtain ⟨σ', H', J, q⟩ := hs
    exact fin (v := V.non) (u := Value.none) J rfl q
  | brk =>
    obtain ⟨_, _, _, q⟩ := hs
    exact False.elim q
  | cont =>
    obtain ⟨_, _, _, q⟩ := hs
    exact False.elim q
end L2
namespace L2
open PySem PySem.Spec PyProof.Rows
section
variable {X : Cx} {x : Str} {p pos : Pos} {e : Expr} {es : List Expr} {t : TA} {id T : String} {r : List V → Hp → VK → Prop}
def tCB (r : List V → Hp → VK → Prop) (t : TA) : TE := fun σ H Q => t σ H fun vs H1 => r vs H1 Q
theorem pe_callB (hc : CallR X (.builtin id) r) (hg : Gl X x) (hm : X.mg x = none) (hv : bootBuiltins x = some (.builtin id)) (ha : PA X (e :: es) t) (hn : x ≠ "__name__" := by decide) (hdb : (x == ("__debug__" : Str)) = false := by decide)
    (he : starEach (e :: es) X.env = (false, eval e X.env) :: starEach es X.env := by rfl) (hpl : (backTo pos (starEach es X.env)).any (·.1) = false := by rfl) : PE X (.Call (.Name x p) (e :: es) [] pos) (tCB r t) := by
  intro pins s σ H Q I h
  refine wpAny_Call_Name_kw (ld_blt I hg hm hv ?_ hn hdb)
  exact PyProof.Rows.callWith_builtin1 (thn (ha pos pins s σ H _ I h) fun us s1 ⟨vs, H1, I1, r1, q1⟩ => hc pins s1 σ H1 vs us Q I1 r1 q1) he hpl
theorem pe_callTy (hc : CallR X (.type T) r) (hg : Gl X x) (hm : X.mg x = none) (hv : bootBuiltins x = some (.type T)) (ha : PA X (e :: es) t) (hn : x ≠ "__name__" := by decide) (hdb : (x == ("__debug__" : Str)) = false := by decide)
    (he : starEach (e :: es) X.env = (false, eval e X.env) :: starEach es X.env := by rfl) (hpl : (backTo pos (starEach es X.env)).any (·.1) = false := by rfl) : PE X (.Call (.Name x p) (e :: es) [] pos) (tCB r t) := by
  intro pins s σ H Q I h
  refine wpAny_Call_Name_kw (ld_blt I hg hm hv ?_ hn hdb)
  exact PyProof.Rows.callWith_type1 (thn (ha pos pins s σ H _ I h) fun us s1 ⟨vs, H1, I1, r1, q1⟩ => hc pins s1 σ H1 vs us Q I1 r1 q1) he hpl
end
end L2
namespace HT
open PySem PyProof.Rows
section
open PySem.SeqAt
open PySem.AutoSeq1 (wpAny_loadPart')
open PySem.MeetsSeq PySem.MeetsSeq2 PySem.MeetsSeq3
end
section
variable {prog : Program} {w : World} {A : Around} {E : Value → Shared → Prop} {s : Shared}
def sIx (n d : Nat) : Option Int → Nat
  | none => d
  | some v => if v < 0 then (v + (n : Int)).toNat else min v.toNat n
theorem sIx_none (n d : Nat) : sIx n d none = d := rfl
theorem sIx_nat (n d k : Nat) : sIx n d (some (k : Int)) = min k n := by
  show (if (k : Int) < 0 then ((k : Int) + (n : Int)).toNat else min (k : Int).toNat n) = min k n
  rw [if_neg (by omega), Int.toNat_natCast]
end
end HT
namespace L2
open PySem PySem.Spec PyProof.Rows
abbrev TO := St → Hp → (Option Int → Hp → Prop) → Prop
def PO (X : Cx) (e : Option Expr) (t : TO) : Prop :=
  ∀ (pins : List (Addr × Obj)) (s : Shared) (σ : St) (H : Hp) (Q : Option Int → Hp → Prop), Inv X pins σ H s → t σ H Q →
    wpAny (model X.prog X.w) X.A (evalPart e X.env) (fun u s' => ∃ o H', Inv X pins σ H' s' ∧ IsPart u o ∧ Q o H') X.xe s
def tNoPart : TO := fun _ H Q => Q none H
def tPart (t : TE) : TO := fun σ H Q => t σ H fun x H1 => ∃ i, x = .int i ∧ Q (some i) H1
section
variable {X : Cx} {e : Expr} {te : TE} {lo hi : Option Expr} {tl th : TO} {pos p2 : Pos}
theorem po_none : PO X none tNoPart := by
  intro pins s σ H Q I h
  rw [evalPart_none]
  exact wpAny_pure ⟨none, H, I, .none, h⟩
theorem po_some (h : PE X e te) : PO X (some e) (tPart te) := by
  intro pins s σ H Q I hw
  rw [evalPart_some]
  refine thn (h pins s σ H _ I hw) fun u s1 ⟨x, H1, I1, r1, q1⟩ => ?_
  obtain ⟨i, rfl, q⟩ := q1
  obtain ⟨t, rfl⟩ := r1
  exact ⟨some i, H1, I1, .int i t, q⟩
def SlR (X : Cx) (r : V → Option Int → Option Int → Hp → VK → Prop) : Prop :=
  ∀ (pins : List (Addr × Obj)) (s : Shared) (σ : St) (H : Hp) (x : V) (v vl vu : Value) (lo hi : Option Int) (sl : Addr) (Q : VK), Inv X pins σ H s → RelV x v → s.heap.IsSliceOf sl vl vu .none → IsPart vl lo → IsPart vu hi → r x lo hi H Q →
    ∃ T id, typeLookup (.type T) "__getitem__" = pure (some (.builtin id)) ∧ s.TypeIs v T ∧ wpAny (model X.prog X.w) X.A (getItem v (.ref sl)) (EP X pins σ Q) X.xe s
def tSl (r : V → Option Int → Option Int → Hp → VK → Prop) (te : TE) (tl th : TO) : TE := fun σ H Q => te σ H fun x H1 => tl σ H1 fun l H2 => th σ H2 fun u H3 => r x l u H3 Q
theorem pe_slice {r : V → Option Int → Option Int → Hp → VK → Prop} (hr : SlR X r) (he : PE X e te) (hl : PO X lo tl) (hu : PO X hi th) : PE X (.Subscript e (.Slice lo hi none p2) pos) (tSl r te tl th) := by
  intro pins s σ H Q I h
  refine Subscript_ (thn (he pins s σ H _ I h) fun v s1 ⟨x, H1, I1, r1, q1⟩ => ?_)
  refine wpAny_Slice (thn (hl pins s1 σ H1 _ I1 q1) fun vl s2 ⟨l, H2, I2, pl, q2⟩ => thn (hu pins s2 σ H2 _ I2 q2) fun vu s3 ⟨u, H3, I3, pu, q3⟩ => ?_)
  rw [evalPart_none]
  refine wpAny_pure ?_
  have I4 : Inv X pins σ H3 { s3 with heap := s3.heap.push { cls := .type "slice", data := .fields #[vl, vu, .none] } } := I3.kept (t' := s3.toks) fun b ob q => Heap.get?_push_of_some _ q
  obtain ⟨T, id, hT, ht, hg⟩ := hr pins { s3 with heap := s3.heap.push { cls := .type "slice", data := .fields #[vl, vu, .none] } } σ H3 x v vl vu l u s3.heap.objs.size Q I4 r1 (Heap.IsSliceOf.new ..) pl pu q3
  show wpAny (model X.prog X.w) X.A (subscriptTail e (.Slice lo hi none p2) v (.ref s3.heap.objs.size)) (EP X pins σ Q) X.xe { s3 with heap := s3.heap.push { cls := .type "slice", data := .fields #[vl, vu, .none] } }
  exact tail_any (ops := [.ref s3.heap.objs.size, v]) ht hT hg (by with_unfolding_all rfl)
def cutV (xs : List V) (lo hi : Option Int) : List V := (xs.drop (HT.sIx xs.length 0 lo)).take (HT.sIx xs.length xs.length hi - HT.sIx xs.length 0 lo)
theorem cutV_length (xs : List V) (lo hi : Option Int) : (cutV xs lo hi).length ≤ xs.length := by
  unfold cutV
  rw [List.length_take, List.length_drop]
  omega
end
end L2
namespace L2
open PySem PySem.Spec PyProof.Rows
def ixN (n : Nat) (i : Int) : Option Nat := if 0 ≤ i then (if i < n then some i.toNat else none) else if -(n : Int) ≤ i then some (i + n).toNat else none
def atI {α : Type} (xs : List α) (i : Int) : Option α := (ixN xs.length i).bind fun j => xs[j]?
theorem ixN_seq {n : Nat} {i : Int} {j : Nat} (h : ixN n i = some j) : seqIndex? i n = some j ∧ j < n ∧ -(n : Int) ≤ i ∧ i < n := by
  unfold ixN at h
  by_cases h0 : 0 ≤ i
  · rw [if_pos h0] at h
    by_cases h1 : i < n
    · rw [if_pos h1] at h
      have e : i.toNat = j := Option.some.inj h
      exact ⟨by rw [seqIndex_of h0 h1, e], by omega, by omega, h1⟩
    · rw [if_neg h1] at h; cases h
  · rw [if_neg h0] at h
    by_cases h1 : -(n : Int) ≤ i
    · rw [if_pos h1] at h
      have e : (i + n).toNat = j := Option.some.inj h
      exact ⟨by rw [seqIndex_neg (by omega) h1, e], by omega, h1, by omega⟩
    · rw [if_neg h1] at h; cases h
theorem atI_get {α : Type} {xs : List α} {i : Int} {v : α} (h : atI xs i = some v) : ∃ j, seqIndex? i xs.length = some j ∧ xs[j]? = some v ∧ j < xs.length ∧ -(xs.length : Int) ≤ i ∧ i < xs.length := by
  unfold atI at h
  cases e : ixN xs.length i with
  | none => rw [e] at h; cases h
  | some j =>
    rw [e] at h
    obtain ⟨h1, h2, h3, h4⟩ := ixN_seq e
    exact ⟨j, h1, h, h2, h3, h4⟩
theorem atI_nat {α : Type} {xs : List α} {j : Nat} {v : α} (h : xs[j]? = some v) : atI xs (j : Int) = some v := by
  have hj : j < xs.length := (List.getElem?_eq_some_iff.mp h).1
  have e : ixN xs.length (j : Int) = some j := by
    unfold ixN
    rw [if_pos (by omega), if_pos (by omega)]; simp
  unfold atI; rw [e]; exact h
def PlainIx (b : Expr) : Prop := ∀ o i, subscripted b false o i = operate [o, i] (getItem o i)
def IxR (X : Cx) (r : R2) : Prop :=
  ∀ (value slice : Expr) (pins : List (Addr × Obj)) (s : Shared) (σ : St) (H : Hp) (x y : V) (v u : Value) (Q : VK), Inv X pins σ H s → RelV x v → RelV y u → r x y H Q →
    subscripted slice false v u = operate [v, u] (getItem v u) → wpAny (model X.prog X.w) X.A (subscriptTail value slice v u) (EP X pins σ Q) X.xe s
section
variable {X : Cx} {a b : Expr} {ta tb : TE} {pos : Pos}
theorem pe_ix {r : R2} (hr : IxR X r) (ha : PE X a ta) (hb : PE X b tb) (hs : PlainIx b) : PE X (.Subscript a b pos) (tOp r ta tb) := by
  intro pins s σ H Q I h
  exact Subscript_ (binT ha hb I h fun v u s2 x y H2 I2 rx ry q => hr a b pins s2 σ H2 x y v u Q I2 rx ry q (hs _ _))
def rIxL (K : PySem.W.Frag) : R2 := fun x y H Q => ∃ p xs i v, x = .ref p ∧ y = .int i ∧ SqL K H p xs ∧ atI xs i = some v ∧ Q v H
def rIxT (K : PySem.W.Frag) : R2 := fun x y H Q => ∃ p xs i v, x = .ref p ∧ y = .int i ∧ SqT K H p xs ∧ atI xs i = some v ∧ Q v H
theorem ix_list : IxR X (rIxL X.K) := by
  intro value slice pins s σ H x y v u Q I rx ry h hs
  obtain ⟨p, xs, i, z, rfl, rfl, hq, he, q⟩ := h
  cases rx
  obtain ⟨t, rfl⟩ := ry
  obtain ⟨its, r, pl, hz⟩ := I.list hq
  obtain ⟨j, h1, h2, h3, h4, h5⟩ := atI_get he
  obtain ⟨w, ew, rw'⟩ := r.get h2
  have hl := r.length
  have hn := line63
  have fin : EP X pins σ Q w s := ⟨z, H, I, rw', q⟩
  by_cases h0 : 0 ≤ i
  · have hj : i.toNat = j := by
      rw [seqIndex_of h0 h5] at h1
      exact Option.some.inj h1
    exact item_listR pl.isList h0 (by omega) (by rw [hj]; simpa using ew) fin hs
  · have hj : (i + (its.toArray.size : Int)).toNat = j := by
      rw [seqIndex_neg (by omega) h4] at h1
      rw [List.size_toArray, ← hl]
      exact Option.some.inj h1
    exact subscriptTail_builtinR (x := w) pl.isList.typeIs slot_list_getitem.lookup
      (wpAny_getItem_list_neg (Q := fun r s' => r = w ∧ EP X pins σ Q r s') pl.isList (by omega) (by rw [List.size_toArray] <;> omega) (by omega) (by rw [hj]; simpa using ew) ⟨rfl, fin⟩) hs
theorem ix_tup : IxR X (rIxT X.K) := by
  intro value slice pins s σ H x y v u Q I rx ry h hs
  obtain ⟨p, xs, i, z, rfl, rfl, hq, he, q⟩ := h
  cases rx
  obtain ⟨t, rfl⟩ := ry
  obtain ⟨its, r, pl, hz⟩ := I.tuple hq
  obtain ⟨j, h1, h2, h3, h4, h5⟩ := atI_get he
  obtain ⟨w, ew, rw'⟩ := r.get h2
  have hl := r.length
  have hn := line63
  have fin : EP X pins σ Q w s := ⟨z, H, I, rw', q⟩
  exact subscriptTail_builtinR (x := w) pl.typeIs slot_tuple_getitem.lookup
    (getItem_tuple (j := j) (Q := fun r s' => r = w ∧ EP X pins σ Q r s') pl (by omega) (by omega) (by rw [List.size_toArray, ← hl]; exact h1) (by simpa using ew) ⟨rfl, fin⟩) hs
theorem mapSeq_set (its : List Value) (n j : Nat) (u : Value) : Obj.mapSeq (·.setIfInBounds j u) { cls := .type "list", data := .seq its.toArray n } = { cls := .type "list", data := .seq (its.set j u).toArray n } := by
  simp [Obj.mapSeq]
theorem Inv.lst {pins : List (Addr × Obj)} {σ : St} {H : Hp} {s : Shared} {p : Addr} {xs : List V} (I : Inv X pins σ H s) (h : H p = some (.lst xs)) :
    ∃ (its : List Value) (n : Nat), Vals xs its ∧ s.heap.get? p = some { cls := .type "list", data := .seq its.toArray n } ∧ xs.length ≤ sizeLine := by
  obtain ⟨z, its, n, r, e⟩ := I.hok p _ h
  exact ⟨its, n, r, e, z⟩
theorem Inv.lstUpd {pins : List (Addr × Obj)} {σ : St} {H : Hp} {s : Shared} {p : Addr} {xs ys : List V} {its its' : List Value} {n n' : Nat} {f : Obj → Obj} (I : Inv X pins σ H s) (h : H p = some (.lst xs))
    (ho : s.heap.get? p = some { cls := .type "list", data := .seq its.toArray n }) (hf : f { cls := .type "list", data := .seq its.toArray n } = { cls := .type "list", data := .seq its'.toArray n' }) (r : Vals ys its') (hz : ys.length ≤ sizeLine) (t : Nat) :
    Inv X pins σ (upd H p (.lst ys)) { s with heap := s.heap.update p f, toks := t } := by
  have e : (s.heap.update p f).get? p = some { cls := .type "list", data := .seq its'.toArray n' } := by
    rw [Heap.get?_update_self f ho (by rw [hf] <;> rfl), hf]
  refine I.write (x := p) (e := p) (by rw [h]; trivial) (.inl rfl) (fun b u hb q => (Heap.get?_update_other _ _ (Ne.symm hb)).trans q) ⟨_, e⟩ ?_
  exact ⟨hz, its', n', r, e⟩
def rSetL : V → V → V → Hp → (Hp → Prop) → Prop := fun o i v H Q => ∃ p xs k j, o = .ref p ∧ i = .int k ∧ H p = some (.lst xs) ∧ ixN xs.length k = some j ∧ Q (upd H p (.lst (xs.set j v)))
theorem set_list : PSet X rSetL := by
  intro pins s σ H o i v ov iv u Q I ro ri rv h
  obtain ⟨p, xs, k, j, rfl, rfl, hp, hj, q⟩ := h
  cases ro
  obtain ⟨t, rfl⟩ := ri
  obtain ⟨its, n, r, ho, hz⟩ := I.lst hp
  obtain ⟨h1, h2, h3, h4⟩ := ixN_seq hj
  have hl := r.length
  have hn := line63
  have I' : Inv X pins σ (upd H p (.lst (xs.set j v))) { s with heap := s.heap.update p (Obj.mapSeq (·.setIfInBounds j u)) } :=
    I.lstUpd hp ho (mapSeq_set its n j u) (r.set rv j) (by rw [List.length_set]; exact hz) s.toks
  by_cases h0 : 0 ≤ k
  · have hk : k.toNat = j := by
      rw [seqIndex_of h0 h4] at h1
      exact Option.some.inj h1
    exact PySem.W.ki_setAt ho h0 (by omega) (by rw [List.size_toArray, ← hl]; exact h4) (by rw [hk]; exact ⟨_, I', q⟩)
  · have hk : (k + (its.toArray.size : Int)).toNat = j := by
      rw [seqIndex_neg (by omega) h3] at h1
      rw [List.size_toArray, ← hl]
      exact Option.some.inj h1
    exact PySem.W.ki_setBack ho (by omega) (by rw [List.size_toArray, ← hl]; exact h3) (by omega) (by rw [hk]; exact ⟨_, I', q⟩)
theorem slice_bounds (lo hi : Option Int) (n : Nat) : (sliceBounds lo hi none n).1 = ((HT.sIx n 0 lo : Nat) : Int) ∧ (sliceBounds lo hi none n).2.1 = ((HT.sIx n n hi : Nat) : Int) ∧ (sliceBounds lo hi none n).2.2 = 1 := by
  refine ⟨?_, ?_, rfl⟩
  · cases lo with
    | none => simp [sliceBounds, HT.sIx]
    | some i =>
      simp only [sliceBounds, HT.sIx, Option.getD_none, show (1 : Int) > 0 by decide, if_true]
      by_cases h : i < 0
      · simp only [h, if_true] <;> omega
      · simp only [h, if_false] <;> omega
  · cases hi with
    | none => simp [sliceBounds, HT.sIx]
    | some i =>
      simp only [sliceBounds, HT.sIx, Option.getD_none, show (1 : Int) > 0 by decide, if_true]
      by_cases h : i < 0
      · simp only [h, if_true] <;> omega
      · simp only [h, if_false] <;> omega
theorem slicePick_cut (its : List Value) (lo hi : Option Int) : slicePick its.toArray lo hi none = ((its.drop (HT.sIx its.length 0 lo)).take (HT.sIx its.length its.length hi - HT.sIx its.length 0 lo)).toArray := by
  obtain ⟨h1, h2, h3⟩ := slice_bounds lo hi its.toArray.size
  unfold slicePick
  rw [h1, h2, h3]
  simp only [sliceRange_one, pick_run, List.size_toArray] <;> rfl
def rSlL (K : PySem.W.Frag) : V → Option Int → Option Int → Hp → VK → Prop := fun x lo hi H Q => ∃ a xs, x = .ref a ∧ SqL K H a xs ∧ ∀ p, H p = none → Q (.ref p) (upd H p (.lst (cutV xs lo hi)))
theorem sl_list : SlR X (rSlL X.K) := by
  intro pins s σ H x v vl vu lo hi sl Q I rx hs pl pu h
  obtain ⟨a, xs, rfl, hx, q⟩ := h
  cases rx
  obtain ⟨its, r, ht, hz⟩ := I.list hx
  have hlen := r.length
  refine ⟨"list", _, slot_list_getitem.lookup, ht.isList.typeIs, ?_⟩
  refine wpAny_getItem_list_slice ht.isList hs pl pu .none (by simp) ?_ (by rw [List.size_toArray] <;> omega)
  rw [slicePick_cut, ← hlen]
  refine ⟨.ref s.heap.objs.size, _, I.laid (t' := s.toks) (o := .lst (cutV xs lo hi)) (fun b ob q => Heap.get?_push_of_some _ q) (Nat.le_refl _) ?_, rfl, q _ (I.hok.fresh (Nat.le_refl _))⟩
  exact ⟨Nat.le_trans (cutV_length xs lo hi) hz, _, 0, (r.drop (HT.sIx xs.length 0 lo)).take (HT.sIx xs.length xs.length hi - HT.sIx xs.length 0 lo), Heap.get?_push_size _ rfl⟩
theorem call_len_seq : CallR X (.builtin "len") (fun xs H Q => ∃ p ys, xs = [.ref p] ∧ (SqL X.K H p ys ∨ SqT X.K H p ys) ∧ Q (.int ys.length) H) := by
  intro pins s σ H xs us Q I r h
  obtain ⟨p, ys, rfl, hq, q⟩ := h
  obtain ⟨u, rfl, rx⟩ := vals1 r
  cases rx
  have hn := line63
  rcases hq with hq | hq
  · obtain ⟨its, r', pl, hz⟩ := I.list hq
    have hlen := r'.length
    exact Calls.call_len_list pl.isList (by simp only [List.size_toArray] <;> omega) ⟨.int ys.length, H, I.tok _, ⟨s.toks + 1, by rw [List.size_toArray, hlen]⟩, q⟩
  · obtain ⟨its, r', pl, hz⟩ := I.tuple hq
    have hlen := r'.length
    exact len_tuple pl (by simp only [List.size_toArray] <;> omega) ⟨.int ys.length, H, I.tok _, ⟨s.toks + 1, by rw [List.size_toArray, hlen]⟩, q⟩
theorem call_list_of : CallR X (.type "list") (fun xs H Q => ∃ p ys, xs = [.ref p] ∧ (SqL X.K H p ys ∨ SqT X.K H p ys) ∧ ∀ l, H l = none → Q (.ref l) (upd H l (.lst ys))) := by
  intro pins s σ H xs us Q I r h
  obtain ⟨p, ys, rfl, hq, q⟩ := h
  obtain ⟨u, rfl, rx⟩ := vals1 r
  cases rx
  have fin : ∀ (its : List Value), Vals ys its → ys.length ≤ sizeLine → ∀ (h' : Heap) (c' : Nat), (∀ b o', s.heap.get? b = some o' → h'.get? b = some o') →
      h'.get? s.heap.objs.size = some { cls := .type "list", dict := none, data := .seq its.toArray c', slots := #[] } → EP X pins σ Q (.ref s.heap.objs.size) { s with heap := h' } := fun its r' hz h' c' kp e =>
    ⟨.ref s.heap.objs.size, _, I.laid (t' := s.toks) kp (Nat.le_refl _) (show ObjOk X.prog X.w _ h' _ (.lst ys) from ⟨hz, its, c', r', e⟩), rfl, q _ (I.hok.fresh (Nat.le_refl _))⟩
  rcases hq with hq | hq
  · obtain ⟨its, r', pl, hz⟩ := I.list hq
    have hlen := r'.length
    obtain ⟨o, ho, hc, n, hd⟩ := pl.isList
    exact call_list_seq p (.inl rfl) ho hc hd (fun h' c' kp e => fin its r' hz h' c' kp e) (by simp only [List.size_toArray] <;> omega)
  · obtain ⟨its, r', pl, hz⟩ := I.tuple hq
    have hlen := r'.length
    obtain ⟨o, ho, hc, n, hd⟩ := pl
    exact call_list_seq p (.inr rfl) ho hc hd (fun h' c' kp e => fin its r' hz h' c' kp e) (by simp only [List.size_toArray] <;> omega)
variable {o e : Expr} {es : List Expr} {to : TE} {t : TA} {name : Str} {apos cpos : Pos} {T id : String} {r : V → List V → Hp → VK → Prop}
end
end L2
namespace L2
open PySem PySem.Spec PyProof.Rows
theorem Vals.one : ∀ {x : V} {us : List Value}, Vals [x] us → ∃ u, us = [u] ∧ RelV x u
  | _, _, .cons r .nil => ⟨_, rfl, r⟩
theorem Vals.two : ∀ {x y : V} {us : List Value}, Vals [x, y] us → ∃ u v, us = [u, v] ∧ RelV x u ∧ RelV y v
  | _, _, _, .cons r (.cons q .nil) => ⟨_, _, rfl, r, q⟩
theorem Vals.zero : ∀ {us : List Value}, Vals [] us → us = []
  | _, .nil => rfl
theorem Vals.reverse {xs : List V} {us : List Value} (h : Vals xs us) : Vals xs.reverse us.reverse := by
  induction h with
  | nil => exact .nil
  | cons r t ih => rw [List.reverse_cons, List.reverse_cons]; exact Vals.append ih (.cons r .nil)
section
variable {X : Cx} {pins : List (Addr × Obj)} {σ : St} {H : Hp} {s : Shared} {l b : Addr} {xs ys zs : List V}
theorem Inv.fresh (I : Inv X pins σ H s) : H s.heap.objs.size = none := I.hok.fresh (Nat.le_refl _)
end
section
variable {X : Cx}
end
section
variable {prog : Program} {w : World} {A : Around} {E : Value → Shared → Prop} {s : Shared}
end
section
variable {X : Cx}
end
end L2
namespace Att
open PySem PySem.W PySem.Calls PyProof.Rows
theorem ints_of_wellAll {P : Params} {h : Heap} : ∀ (ns : List Int) (vs : List Value), WellAll P h vs (ns.map WData.int) → IntsAre vs ns := by
  intro ns
  induction ns with
  | nil =>
    intro vs w
    rw [List.map_nil] at w
    cases w
    exact .nil
  | cons n ns ih =>
    intro vs w
    rw [List.map_cons] at w
    cases w with
    | cons a b =>
      cases a
      exact .cons _ _ (ih _ b)
theorem script_of {l : OpenLaw} {n : Nat} (hn : l.most = some n) {P : Params} {h : Heap} {args : List WData} {vals : List Value}
    (hpre : l.row.toRowW.claim.pre args = true) (hwl : WellAll P h vals args) :
    ∃ a vs ns, vals = [Value.ref a] ∧ args = [WData.list (ns.map WData.int)] ∧ h.get? a = some { cls := .type "list", data := .seq vs.toArray } ∧ IntsAre vs ns ∧ ns.length ≤ n := by
  have hsh : WShape.hasAll [] args [.list .int] = true := (pre_splitW hpre).1
  have hc : l.pre.holds [] { args := args } = true := (pre_splitW hpre).2
  obtain ⟨d, r, rfl, h1, h2⟩ := hasAllW_cons hsh
  obtain rfl := hasAllW_nil h2
  obtain ⟨xs, rfl, h3⟩ := hasW_list h1
  obtain ⟨ns, rfl⟩ := items_int h3
  have hlen : ns.length ≤ n := by
    unfold OpenLaw.pre at hc
    have h4 : (WTm.not (.lt (.lit (.int (n : Int))) (.len (.arg 0)))).holds [] { args := [.list (ns.map .int)] } = true := by
      have h4 := (holds_andW hc).1
      rw [hn] at h4
      exact h4
    have h5 := condW_of h4 (w_not (w_lt w_lit (w_len_list (w_arg rfl))))
    rw [List.length_map] at h5
    refine Nat.le_of_not_lt fun q => ?_
    have q' : (n : Int) < ((ns.length : Nat) : Int) := by omega
    first
      | (rw [decide_eq_true q'] at h5; exact absurd h5 (by decide))
      | (simp at h5; omega)
  cases hwl with
  | cons w1 w2 =>
    cases w2
    cases w1 with
    | list ho hall => exact ⟨_, _, ns, rfl, rfl, ho, ints_of_wellAll ns _ hall, hlen⟩
theorem post_true (l : OpenLaw) (args : List WData) : l.row.toRowW.claim.post args (.bool true) args = true :=
  postW_of (r := l.row.toRowW) (X := (true == true))
    (show WShape.has [] (.bool true) .bool = true by first | rfl | decide | simp [WShape.has, WShape.arms, WShape.armsAll])
    (show (WTm.eq .res (.lit (.bool true))).value [] { args := args, res := some (.bool true), after := args } = some (.bool (true == true)) from w_eq_bool (w_res rfl) w_lit) rfl
theorem attach_call {l : OpenLaw} {n : Nat} {q : Program} {loose : List Str} {XP : (Str → Option Value) → Heap → Prop} {YP : World → Heap → Prop} {d : DefRec}
    (hn : l.most = some n) (hdf : d.params.defaults = [])
    (call : ∀ (w : World) (s₀ s₁ : Shared) (mg mb : Str → Option Value) (fa : Addr) (o : Obj) (pm cd doc : Value) (a : Addr) (vs : List Value) (ns : List Int),
      Ground q loose [] XP w s₀ mg mb s₁.heap → YP w s₁.heap →
      s₁.heap.get? fa = some o → o.data = .func (docDef d.name d.params d.body d.scope pm cd doc) → s₁.heap.CodeRec cd d.name → mg d.name = some (.ref fa) →
      s₁.heap.get? a = some { cls := .type "list", data := .seq vs.toArray } → IntsAre vs ns → ns.length ≤ n → s₁.gens = #[] →
      codeAny (model l.prog w) callerA (.call (.ref fa) ⟨[.ref a], []⟩) (fun r s' => r = .ok (.ret (.bool true)) ∧ OldK s₁.heap s'.heap ∧ s'.os = s₁.os ∧ AllBare s'.gens) s₁) :
    WalkO q loose XP YP l.row.toRowW d [] (fun f vs => PySem.call f vs) := by
  intro w s₀ s₁ mg mb G Y fa o pm cd doc dV kV ho hd hcd hD hmg hg args vals as hpre hlay hrd hwl hlo
  obtain rfl : dV = .none := Dflts.none hD hdf
  obtain rfl : kV = .none := Dflts.noKw hD
  obtain ⟨a, vs, ns, rfl, rfl, hobj, hints, hlen⟩ := script_of hn hpre hwl
  refine enter_call (codeAny_mono (call w s₀ s₁ mg mb fa o pm cd doc a vs ns G Y ho (fd_plain hd) hcd hmg hobj hints hlen hg) fun r s' hq => ?_)
  obtain ⟨rfl, h2, h3, h4⟩ := hq
  exact ⟨.inl ⟨.bool true, .bool true, [], rfl, fun _ => rfl, .bool true, post_true l _, fun _ => ⟨List.Pairwise.nil, fun _ hm => (nomatch hm)⟩⟩, h2, h3, h4⟩
section
variable {prog : Program} {w : World} {A : Around} {E : Value → Shared → Prop} {s : Shared} {K : Frag}
end
end Att
namespace L2
open PySem PySem.Spec PyProof.Rows
theorem vals_ints : ∀ {vs : List Value} {ns : List Int}, IntsAre vs ns → Vals (ns.map V.int) vs
  | _, _, .nil => .nil
  | _, _, .cons n t h => .cons ⟨t, rfl⟩ (vals_ints h)
def Only (H : Hp) : Prop := ∀ b, H b = none ∨ ∃ o xs, H b = some (.frz o (.lst xs))
theorem law_call {P : Program} {w : World} {K : PySem.W.Frag} {mg mb : Str → Option Value} {CX : CXT} {k : Nat} {fa a : Addr} {fd : FuncData} {x : Str} {sp : Sp} {s₁ : Shared} {vs : List Value} {ns : List Int}
    (KX : K.In s₁.heap) (hns : s₁.heap.Ns mainGlobals mg) (hb : s₁.heap.Ns builtinsNs mb) (hbb : ∀ x : Str, x ≠ "__name__" → mb x = bootBuiltins x) (hlim : s₁.heap.NoLimit) (hg : s₁.gens = #[])
    (ha : s₁.heap.get? a = some { cls := .type "list", data := .seq vs.toArray }) (hi : IntsAre vs ns) (hl : ns.length ≤ sizeLine) (hr : Room k callerA)
    (F : ∀ base : Heap, K.In base → base.Ns mainGlobals mg → FnOk P w K mg base CX k fa fd [x] sp) (hbind : ∀ (s : Shared) (u : Value), BindsTo s fd ⟨[u], []⟩ [(x, u)])
    (hsp : ∀ H : Hp, Only H → SqL K H a (ns.map V.int) → sp [.ref a] H (fun v _ => v = .bl true) fun _ _ _ => False)
    (hCX : ∀ H e s', CX [] H s₁ (fun _ _ _ => False) e s' → False) :
    codeAny (model P w) callerA (.call (.ref fa) ⟨[.ref a], []⟩) (fun r s' => r = .ok (.ret (.bool true)) ∧ OldK s₁.heap s'.heap ∧ s'.os = s₁.os ∧ AllBare s'.gens) s₁ := by
  have rv := vals_ints hi
  have lenV := hi.length
  have core : ∀ H : Hp, Only H → SqL K H a (ns.map V.int) → HOk P w H s₁.heap → (∀ b, H b ≠ none → b = a) → (H a ≠ none → K.lookup a = none) →
      codeAny (model P w) callerA (.call (.ref fa) ⟨[.ref a], []⟩) (fun r s' => r = .ok (.ret (.bool true)) ∧ OldK s₁.heap s'.heap ∧ s'.os = s₁.os ∧ AllBare s'.gens) s₁ := by
    intro H hO hS hok hA hK
    have base_of : ∀ {b : Addr} {o : Obj}, s₁.heap.get? b = some o → H b = none → (hidT s₁.heap H).get? b = some o := fun e n => hidT_get e n
    have noA : ∀ {b : Addr} {o : Obj} {es : Array DictEntry} {ep : Nat}, s₁.heap.get? b = some o → o.data = .dict es ep → H b = none := fun {b o es ep} e d => by
      cases q : H b with
      | none => rfl
      | some u =>
        have e' : b = a := hA b (by rw [q]; simp)
        subst e'
        rw [ha] at e; cases e
        have d' : Data.seq vs.toArray _ = Data.dict es ep := d
        cases d'
    have nsK : ∀ {b : Addr} {m : Str → Option Value}, s₁.heap.Ns b m → (hidT s₁.heap H).Ns b m := fun {b m} ⟨o, es, ep, e, d, r⟩ => ⟨o, es, ep, base_of e (noA e d), d, r⟩
    have hKb : K.In (hidT s₁.heap H) := fun b o e => base_of (KX b o e) (by
      cases q : H b with
      | none => rfl
      | some u =>
        have e' : b = a := hA b (by rw [q]; simp)
        subst e'
        rw [hK (by rw [q]; simp)] at e; cases e)
    have hM : Mod K mg (hidT s₁.heap H) := ⟨hKb, nsK hns, ⟨mb, nsK hb, hbb⟩, let ⟨mc, h1, h2⟩ := hlim; ⟨mc, nsK h1, h2⟩⟩
    have e0 : Env0 P w K mg (hidT s₁.heap H) callerA [] s₁ H := ⟨rfl, hM, fun b o e => of_hidT e, Nat.le_of_eq (hidT_size _ _), trivial, fun b hb => absurd (show b ∈ ([] : List Addr) from hb) (by simp), hok, .of_eq hg⟩
    refine codeAny_mono ((F _ hKb (nsK hns)).run callerA [] s₁ H ⟨[.ref a], []⟩ [.ref a] [.ref a] _ _ hr e0 (hbind s₁ (.ref a)) (.cons rfl .nil) (hsp H hO hS)) fun r s' h => ?_
    cases r with
    | error e => exact (hCX H e s' h).elim
    | ok fl =>
      cases fl with
      | next => exact False.elim h
      | brk => exact False.elim h
      | cont => exact False.elim h
      | ret u =>
        obtain ⟨v, H', os, bare, un, hok', r', q⟩ := h
        have q' : v = .bl true := q
        subst q'
        obtain rfl : u = Value.bool true := r'
        refine ⟨rfl, OldK.of_keep fun b o e => ?_, os, bare⟩
        cases q : H b with
        | none => exact un.keep b o e q (by intro z; exact absurd (show b ∈ ([] : List Addr) from z) (by simp)) (by simp)
        | some u =>
          rcases hO b with z | ⟨ob, xs, z⟩
          · rw [q] at z; cases z
          · have z2 := un.frzs b ob _ z
            obtain ⟨e1, _⟩ := hok b _ z
            obtain ⟨e2, _⟩ := hok' b _ z2
            rw [e] at e1; cases e1
            exact e2
  cases hk : K.lookup a with
  | some o =>
    have e := KX a o hk
    rw [ha] at e
    cases e
    refine core (fun _ => none) (fun _ => .inl rfl) (.inr ⟨_, vs.toArray, _, hk, rfl, rfl, rfl, by rw [List.size_toArray, lenV]; exact hl, by simpa using rv⟩) (fun b u z => by have z' : (none : Option HO) = some u := z; cases z') (fun b z => absurd rfl z) fun z => absurd rfl z
  | none =>
    refine core (fun b => if b = a then some (.frz { cls := .type "list", data := .seq vs.toArray } (.lst (ns.map V.int))) else none) (fun b => ?_) (.inl (.inr ⟨{ cls := .type "list", data := .seq vs.toArray }, if_pos rfl⟩)) (fun b u z => ?_) (fun b z => ?_) fun _ => hk
    · by_cases hb : b = a
      · exact .inr ⟨_, _, if_pos hb⟩
      · exact .inl (if_neg hb)
    · by_cases hb : b = a
      · have z' := (if_pos hb).symm.trans z
        cases z'
        subst hb
        exact ⟨ha, by rw [List.length_map]; exact hl, vs, _, rv, ha⟩
      · have z' := (if_neg hb).symm.trans z
        cases z'
    · by_cases hb : b = a
      · exact hb
      · exact absurd (if_neg hb) z
end L2
namespace L2
open PySem PySem.Spec PyProof.Rows
theorem walk_of {l : PySem.W.OpenLaw} {n k : Nat} {q : Program} {loose : List Str} {XP : (Str → Option Value) → Heap → Prop} {YP : World → Heap → Prop} {d : DefRec} {K : Params → PySem.W.Frag} {CX : World → CXT} {sp : World → Sp} {x : Str}
    (hn : l.most = some n) (hn2 : n ≤ sizeLine) (hdf : d.params.defaults = []) (hr : Room k callerA)
    (hY : ∀ (w : World) (h : Heap), YP w h → (K w.params).In h)
    (F : ∀ (w : World) (mg : Str → Option Value) (fa : Addr) (h : Heap), (K w.params).In h → h.Ns mainGlobals mg → mg d.name = some (.ref fa) →
      ∃ fd : FuncData, (∀ (s : Shared) (u : Value), BindsTo s fd ⟨[u], []⟩ [(x, u)]) ∧
        ∀ base : Heap, (K w.params).In base → base.Ns mainGlobals mg → FnOk l.prog w (K w.params) mg base (CX w) k fa fd [x] (sp w))
    (hsp : ∀ (w : World) (H : Hp) (a : Addr) (ns : List Int), ns.length ≤ n → Only H → SqL (K w.params) H a (ns.map V.int) → sp w [.ref a] H (fun v _ => v = .bl true) fun _ _ _ => False)
    (hCX : ∀ (w : World) (H : Hp) (s : Shared) (e : Value) (s' : Shared), CX w [] H s (fun _ _ _ => False) e s' → False) :
    PySem.W.WalkO q loose XP YP l.row.toRowW d [] (fun f vs => PySem.call f vs) := by
  refine Att.attach_call hn hdf fun w s₀ s₁ mg mb fa o pm cd doc a vs ns G Y ho hd hcd hmg hobj hints hlen hg => ?_
  have KX := hY w _ Y
  obtain ⟨fd, hb, hF⟩ := F w mg fa _ KX G.T.g hmg
  exact law_call KX G.T.g G.T.b G.T.builtins G.T.nolimit hg hobj hints (Nat.le_trans hlen hn2) hr hF hb (fun H hO hS => hsp w H a ns hlen hO hS) fun H e s' => hCX w H s₁ e s'
end L2
namespace L2
open PySem PySem.Spec PyProof.Rows
def defArgs (s : Stmt) : Arguments := match s with
  | .FunctionDef _ a _ _ _ _ _ _ _ _ => a
  | _ => { posonlyargs := [], args := [], vararg := none, kwonlyargs := [], kw_defaults := [], kwarg := none, defaults := [] }
def defBody (s : Stmt) : List Stmt := match s with
  | .FunctionDef _ _ b _ _ _ _ _ _ _ => b
  | _ => []
def defScope (s : Stmt) : Scope := match s with
  | .FunctionDef _ _ _ _ _ _ sc _ _ _ => sc
  | _ => { kind := .function, names := [], isGenerator := false, isCoroutine := false }
abbrev CX0 : CXT := fun _ _ _ _ _ _ => False
abbrev E0 : XK := fun _ _ _ => False
theorem pass0 {X : Cx} : Passes CX0 X E0 := fun _ _ _ _ _ _ _ h => h.elim
structure Fun (K : PySem.W.Frag) (x qual : Str) (st : Stmt) (f : Addr) (fd : FuncData) : Prop where
  ex : ∃ (oc : Value) (od : Option Addr) (kV doc pm : Value) (an : Option Addr) (cdv ct : Value) (osl : Array (Option Value)),
    fd = PySem.W.fnOf x qual (defArgs st) (defBody st) (defScope st) .none kV doc pm an cdv ct ∧ K.lookup f = some ⟨oc, od, .func fd, osl⟩ ∧ PySem.W.codeIn K cdv qual = true
  kp : PySem.W.keepIn K (.ref f) = true
section
variable {P : Program} {w : World} {K : PySem.W.Frag} {mg : Str → Option Value} {base : Heap}
theorem Fun.ok {x qual : Str} {st : Stmt} {f : Addr} {fd : FuncData} {N ps : List Str} {k : Nat} {sp : Sp} (F : Fun K x qual st f fd) (S : FnScope N ps (defScope st)) (len : ∀ vs H Q E, sp vs H Q E → vs.length = ps.length)
    (hbody : ∀ (cdv : Value) (A : Around) (outer : List Env) (s : Shared) (H : Hp) (vs : List V) (Q : VK) (E : XK), Room k (A.deeper (envOfC qual (defScope st) s.heap.objs.size f cdv)) → sp vs H Q E →
      ∃ t, PSs (cxOf CX0 P w K mg base N qual (defScope st) f cdv A outer s H E).nox (defBody st) t ∧ t { nx := fun _ H' => Q .non H', rt := Q } (start N vs) H) : FnOk P w K mg base CX0 (k + 1) f fd ps sp := by
  obtain ⟨oc, od, kV, doc, pm, an, cdv, ct, osl, rfl, lk, hcd⟩ := F.ex
  refine fn_of lk hcd S len fun A outer s H vs Q E hr hsp => ?_
  obtain ⟨t, h, q⟩ := hbody cdv A outer s H vs Q E hr hsp
  exact ⟨t, h.nox, q⟩
theorem Fun.binds {x qual : Str} {st : Stmt} {f : Addr} {fd : FuncData} {ps : List Str} (F : Fun K x qual st f fd)
    (h : ∀ (kV doc pm : Value) (an : Option Addr) (cdv ct : Value) (us : List Value), us.length = ps.length → bindArgs (PySem.W.fnOf x qual (defArgs st) (defBody st) (defScope st) .none kV doc pm an cdv ct) ⟨us, []⟩ = pure (ps.zip us)) : Binds K fd ps [] := by
  obtain ⟨oc, od, kV, doc, pm, an, cdv, ct, osl, rfl, lk, hcd⟩ := F.ex
  exact .all (h kV doc pm an cdv ct)
theorem fun_mk {x qual : Str} {st : Stmt} {f : Addr} {oc : Value} {od an : Option Addr} {osl : Array (Option Value)} {kV doc pm cdv ct : Value} (l : K.lookup f = some ⟨oc, od, .func (PySem.W.fnOf x qual (defArgs st) (defBody st) (defScope st) .none kV doc pm an cdv ct), osl⟩)
    (c : PySem.W.codeIn K cdv qual = true) (k : PySem.W.keepIn K (.ref f) = true) : Fun K x qual st f (PySem.W.fnOf x qual (defArgs st) (defBody st) (defScope st) .none kV doc pm an cdv ct) := ⟨⟨oc, od, kV, doc, pm, an, cdv, ct, osl, rfl, l, c⟩, k⟩
end
section
variable {X : Cx}
end
theorem ite2 {c A B : Prop} [Decidable c] (h1 : c → A) (h2 : ¬ c → B) : if c then A else B := by
  by_cases h : c
  · rw [if_pos h]
    exact h1 h
  · rw [if_neg h]
    exact h2 h
def Same (H H' : Hp) : Prop := ∀ b o, H b = some o → H' b = some o
theorem Same.refl (H : Hp) : Same H H := fun _ _ h => h
theorem Same.trans {H H1 H2 : Hp} (a : Same H H1) (b : Same H1 H2) : Same H H2 := fun c o h => b c o (a c o h)
theorem Same.free {H H' : Hp} (e : Same H H') {l : Addr} (h : H' l = Option.none) : H l = Option.none := by
  cases q : H l with
  | none => rfl
  | some o =>
    rw [e l o q] at h
    cases h
theorem Same.seq {K : PySem.W.Frag} {H H' : Hp} {a : Addr} {xs : List V} (e : Same H H') (h : SqL K H a xs) : SqL K H' a xs := by
  rcases h with (h | ⟨o, h⟩) | h
  · exact .inl (.inl (e _ _ h))
  · exact .inl (.inr ⟨o, e _ _ h⟩)
  · exact .inr h
end L2
namespace L2
open PySem PySem.Spec PyProof.Rows
section
variable {P : Program} {w : World} {H H' : Hp} {h h' : Heap} {a : Addr} {o : HO}
theorem ObjOk.there (x : ObjOk P w H h a o) : ∃ ob, h.get? a = some ob := by
  induction o with
  | lst xs => obtain ⟨_, its, n, _, e⟩ := x; exact ⟨_, e⟩
  | tup xs => obtain ⟨_, its, _, ob, e, _⟩ := x; exact ⟨_, e⟩
  | dK kvs => obtain ⟨_, _, vs, _, ob, es, ep, e, _⟩ := x; exact ⟨_, e⟩
  | dT kvs => obtain ⟨_, _, xs, _, ob, es, ep, e, _⟩ := x; exact ⟨_, e⟩
  | set S n => obtain ⟨ob, es, ep, tb, e, _⟩ := (x : h.SetOf (intKind P w) a S n); exact ⟨_, e⟩
  | ins C dx fs => obtain ⟨_, _, _, e, _⟩ := x; exact ⟨_, e⟩
  | own x' => exact x
  | xd fs => obtain ⟨mA, ⟨ob, es, ep, e, _⟩, _⟩ := x; exact ⟨_, e⟩
  | met f y => exact ⟨_, x⟩
  | rng lo hi => obtain ⟨t, u, v, e⟩ := x; exact ⟨_, e⟩
  | frz ob u ih => exact ⟨_, x.1⟩
  | tbl ps => exact ⟨_, x⟩
  | ext φ => exact x.2.1
theorem HOk.stays (x : HOk P w H h) (k : ∀ b u, H b ≠ none → h.get? b = some u → h'.get? b = some u) : HOk P w H h' := fun a o e =>
  (x a o e).stay (fun b u hb q => k b u (by
    rcases hb with z | z
    · rw [z, e]; exact Option.some_ne_none _
    · rw [z]; exact Option.some_ne_none _) q) (fun _ q => q) fun _ _ q => q
end
def Fly (outer : List Env) (H' : Hp) (h₀ h' : Heap) (e : Addr) (cls : Value) : Prop :=
  ∃ B a0, Heap.FlyingW B outer e cls a0 h' ∧ ∀ b o, h'.get? b = some o → (H' b ≠ none ∨ ∃ o₀, h₀.get? b = some o₀) → b ∉ frs outer → B.get? b = some o
def CXR (P : Program) (w : World) : CXT := fun outer H s E e s' => ∃ ea cls H', e = .ref ea ∧ s'.os = s.os ∧ AllBare s'.gens ∧ Un (frs outer) [] H H' s.heap s'.heap ∧ HOk P w H' s'.heap ∧ Fly outer H' s.heap s'.heap ea cls ∧ E cls none H'
theorem frs_cons {env : Env} {l : List Env} {L : Addr} (hf : env.frame = some L) {b : Addr} : b ∈ frs (env :: l) ↔ b = L ∨ b ∈ frs l := by
  unfold frs
  rw [List.filterMap_cons, hf]
  exact List.mem_cons
theorem Un.onSlots {fs fs' : List Addr} {H H1 : Hp} {h h1 h2 : Heap} (u : Un fs [] H H1 h h1) (hsub : ∀ b o, h.get? b = some o → b ∈ fs' → b ∈ fs)
    (k : ∀ b o, (∃ o₀, h.get? b = some o₀) → h1.get? b = some o → b ∉ fs' → h2.get? b = some o) (sl : ∀ b o, h1.get? b = some o → b ∈ fs' → ∃ sl, h2.get? b = some { o with slots := sl }) : Un fs [] H H1 h h2 where
  keep := fun b o e n hb hx => k b o ⟨o, e⟩ (u.keep b o e n hb hx) fun z => hb (hsub b o e z)
  slot := fun b o e n hb hx => by
    obtain ⟨s1, e1⟩ := u.slot b o e n hb hx
    by_cases z : b ∈ fs'
    · obtain ⟨s2, e2⟩ := sl b _ e1 z
      exact ⟨s2, e2⟩
    · exact ⟨s1, k b _ ⟨o, e⟩ e1 z⟩
  free := u.free
  there := fun b o e hx => by
    obtain ⟨o1, e1⟩ := u.there b o e hx
    by_cases z : b ∈ fs'
    · obtain ⟨s2, e2⟩ := sl b _ e1 z
      exact ⟨_, e2⟩
    · exact ⟨_, k b _ ⟨o, e⟩ e1 z⟩
  tups := u.tups
  frzs := u.frzs
  tbls := u.tbls
section
variable {P : Program} {w : World} {K : PySem.W.Frag} {mg : Str → Option Value} {base : Heap} {N : List Str} {qual : Str} {scope : Scope} {f : Addr} {cd : Value} {A : Around} {outer : List Env} {s : Shared} {H : Hp} {E : XK}
abbrev cxR (P : Program) (w : World) (K : PySem.W.Frag) (mg : Str → Option Value) (base : Heap) (N : List Str) (qual : Str) (scope : Scope) (f : Addr) (cd : Value) (A : Around) (outer : List Env) (s : Shared) (H : Hp) (E : XK) : Cx :=
  cxOf (CXR P w) P w K mg base N qual scope f cd A outer s H E
theorem frame_slots {l : List Env} {B h h' : Heap} (hl : h.FunFrames B l) (k : h.UpToSlots h') {b : Addr} {o : Obj} (hb : b ∈ frs l) (e : h.get? b = some o) : ∃ sl, h'.get? b = some { o with slots := sl } := by
  obtain ⟨_, o', e', nf⟩ := hl.mem hb
  rw [e] at e'
  cases e'
  exact k b o e nf
theorem raised_xe {pins : List (Addr × Obj)} {σ : St} {H1 : Hp} {s1 : Shared} {h2 : Heap} {e : Addr} {cls : Value} {vs : List Value}
    (I : Inv (cxR P w K mg base N qual scope f cd A outer s H E) pins σ H1 s1) (hx : Heap.MadeExcOf s1.heap h2 e cls vs) (hE : E cls none H1) :
    (cxR P w K mg base N qual scope f cd A outer s H E).xe (.ref e) { s1 with heap := h2 } := by
  have hF := I.stack
  have hin : ∀ env ∈ (envOfC qual scope s.heap.objs.size f cd :: outer), ∀ b, env.frame = some b → b ∈ (envOfC qual scope s.heap.objs.size f cd :: outer).filterMap (·.frame) := fun env he b hb => List.mem_filterMap.mpr ⟨env, he, hb⟩
  have hfr : (envOfC qual scope s.heap.objs.size f cd).frame = some s.heap.objs.size := rfl
  refine wpAny_leaves_madeW (s := { s1 with heap := h2 }) (base := PySem.W.hideAll s1.heap ((envOfC qual scope s.heap.objs.size f cd :: outer).filterMap (·.frame))) (h := s1.heap) I.ok.frames hfr (fun b o q => PySem.W.of_hideAll _ q) (PySem.W.funFrames_hide hF hin) hx fun h' t x1 x2 x3 x4 => ?_
  have k1 : ∀ b o, s1.heap.get? b = some o → b ∉ frs (envOfC qual scope s.heap.objs.size f cd :: outer) → h'.get? b = some o := fun b o q n => x1.1 b o (PySem.W.hideAll_get _ q n)
  have hF2 : h2.FunFrames base (envOfC qual scope s.heap.objs.size f cd :: outer) := hF.of_keeps fun b o q _ => ⟨o, hx.keeps b o q, rfl⟩
  have k2 : ∀ b o, s1.heap.get? b = some o → b ∈ frs (envOfC qual scope s.heap.objs.size f cd :: outer) → ∃ sl, h'.get? b = some { o with slots := sl } := fun b o q n => frame_slots hF2 x4 n (hx.keeps b o q)
  have old : ∀ b o, s.heap.get? b = some o → b ∈ frs (envOfC qual scope s.heap.objs.size f cd :: outer) → b ∈ frs outer := fun b o q z => by
    rcases (frs_cons hfr).mp z with z | z
    · rw [z] at q
      exact absurd (Heap.lt_size q) (Nat.lt_irrefl _)
    · exact z
  have un : Un (frs outer) [] H H1 s.heap h' := Un.onSlots (show Un (frs outer) [] H H1 s.heap s1.heap from I.base) old (fun b o _ => k1 b o) k2
  refine ⟨e, cls, H1, rfl, I.os, I.bare, un, I.hok.stays fun b u n q => k1 b u q fun z => n (I.stkFree b z), ⟨_, _, x1, fun b o q hb hn => ?_⟩, hE⟩
  have hs : b ∉ frs (envOfC qual scope s.heap.objs.size f cd :: outer) := fun z => by
    rcases hb with hb | ⟨o₀, hb⟩
    · exact hb (I.stkFree b z)
    · exact hn (old b o₀ hb z)
  have h1 : ∃ o1, s1.heap.get? b = some o1 := by
    rcases hb with hb | ⟨o₀, hb⟩
    · cases q' : H1 b with
      | none => exact absurd q' hb
      | some u => exact (I.hok b u q').there
    · exact I.base.there b o₀ hb (by intro z; exact absurd (show b ∈ ([] : List Addr) from z) (by simp))
  obtain ⟨o1, h1⟩ := h1
  have := k1 b o1 h1 hs
  rw [q] at this
  cases this
  exact PySem.W.hideAll_get _ h1 hs
theorem fly_on {X : Cx} {pins : List (Addr × Obj)} {σ : St} {H1 H2 : Hp} {s1 : Shared} {h2 h3 B : Heap} {e : Addr} {cls a0 : Value} (I : Inv X pins σ H1 s1) (u : Un (frs X.stack) [] H1 H2 s1.heap h2) (hok : HOk X.prog X.w H2 h2)
    (fl : Heap.FlyingW B X.stack e cls a0 h2) (hB : ∀ b o, h2.get? b = some o → (H2 b ≠ none ∨ ∃ o₀, s1.heap.get? b = some o₀) → b ∉ frs X.stack → B.get? b = some o) (st : B.StaysIn h3) (sm : h2.UpToSlots h3) :
    Un (frs X.stack) [] H1 H2 s1.heap h3 ∧ HOk X.prog X.w H2 h3 := by
  have fr2 : ∀ b ∈ frs X.stack, H2 b = none := fun b hb => by
    obtain ⟨_, o, q, _⟩ := I.stack.mem hb
    exact u.free b o q (I.stkFree b hb) (by simp)
  refine ⟨Un.onSlots u (fun _ _ _ z => z) (fun b o h0 q n => st b o (hB b o q (.inr h0) n)) fun b o q n => frame_slots fl.2.2.1 sm n q, hok.stays fun b v n q => st b v (hB b v q (.inl n) fun z => n (fr2 b z))⟩
theorem passR : Passes (CXR P w) (cxR P w K mg base N qual scope f cd A outer s H E) E := by
  intro pins σ H1 s1 e s2 I hc
  obtain ⟨ea, cls, H2, rfl, os, bare, u, hok, ⟨B, a0, fl, hB⟩, hE⟩ := hc
  have hfr : (envOfC qual scope s.heap.objs.size f cd).frame = some s.heap.objs.size := rfl
  refine wpAny_leaves_onW I.ok.frames hfr fl fun h' x1 x2 => ?_
  obtain ⟨u', hok'⟩ := fly_on I u hok fl hB x1.1 x2
  have old : ∀ b o, s.heap.get? b = some o → b ∈ frs (envOfC qual scope s.heap.objs.size f cd :: outer) → b ∈ frs outer := fun b o q z => by
    rcases (frs_cons hfr).mp z with z | z
    · rw [z] at q
      exact absurd (Heap.lt_size q) (Nat.lt_irrefl _)
    · exact z
  have ib : Un (frs outer) [] H H1 s.heap s1.heap := I.base
  have hs2 : ∀ b, (∃ o₀, s.heap.get? b = some o₀) → ∃ o1, s1.heap.get? b = some o1 := fun b ⟨o₀, q⟩ => ib.there b o₀ q (by simp)
  have un : Un (frs outer) [] H H2 s.heap h' :=
    { keep := fun b o q n hb hx => u'.keep b o (ib.keep b o q n hb hx) (ib.free b o q n hx) (fun z => hb (old b o q z)) hx
      slot := fun b o q n hb hx => by
        obtain ⟨s3, e3⟩ := ib.slot b o q n hb hx
        obtain ⟨s4, e4⟩ := u'.slot b _ e3 (ib.free b o q n hx) ((frs_cons hfr).mpr (.inr hb)) hx
        exact ⟨s4, e4⟩
      free := fun b o q n hx => by
        obtain ⟨o1, e1⟩ := ib.there b o q hx
        exact u'.free b o1 e1 (ib.free b o q n hx) hx
      there := fun b o q hx => by
        obtain ⟨o1, e1⟩ := ib.there b o q hx
        exact u'.there b o1 e1 hx
      tups := fun b xs q => u'.tups b xs (ib.tups b xs q)
      frzs := fun b o v q => u'.frzs b o v (ib.frzs b o v q)
      tbls := fun b ps q => by
        obtain ⟨m1, q1⟩ := ib.tbls b ps q
        obtain ⟨m2, q2⟩ := u'.tbls b _ q1
        exact ⟨m1 ++ m2, by rw [q2, Array.append_assoc]⟩ }
  refine ⟨ea, cls, H2, rfl, os.trans I.os, bare, un, hok', ⟨B, a0, x1, fun b o q hb hn => ?_⟩, hE⟩
  have fr2 : ∀ b ∈ frs (envOfC qual scope s.heap.objs.size f cd :: outer), H2 b = none := fun b hb => by
    obtain ⟨_, o, q, _⟩ := I.stack.mem hb
    exact u.free b o q (I.stkFree b hb) (by simp)
  have hs : b ∉ frs (envOfC qual scope s.heap.objs.size f cd :: outer) := fun z => by
    rcases hb with hb | ⟨o₀, hb⟩
    · exact hb (fr2 b z)
    · exact hn (old b o₀ hb z)
  have h1 : ∃ o2, s2.heap.get? b = some o2 := by
    rcases hb with hb | hb
    · cases q' : H2 b with
      | none => exact absurd q' hb
      | some v => exact (hok b v q').there
    · obtain ⟨o1, e1⟩ := hs2 b hb
      exact u.there b o1 e1 (by simp)
  obtain ⟨o2, e2⟩ := h1
  have hBb := hB b o2 e2 (hb.imp id (hs2 b)) hs
  have := x1.1 b o2 hBb
  rw [q] at this
  cases this
  exact hBb
theorem passR0 {X : Cx} : Passes (CXR P w) X E0 := fun _ _ _ _ _ _ _ h => by
  obtain ⟨_, _, _, _, _, _, _, _, _, z⟩ := h
  exact z.elim
end
theorem PS.nox {X : Cx} {st : Stmt} {t : TS} (h : PS X.nox st t) : PS X st t := fun pins s σ H D I hw =>
  wpAny_mono (h pins s σ H D (I.wish _) hw) (fun _ _ z => SP.unwish z) fun _ _ z => z.elim
abbrev veTail : List Value := [.type "ValueError", .type "Exception", .type "BaseException", .type "object"]
structure Exc (K : PySem.W.Frag) (mg : Str → Option Value) (x : Str) (C : Addr) : Prop where
  bound : mg x = some (.ref C)
  isIn : PySem.W.excIn K C veTail "ValueError.__new__" = true
theorem Exc.obj {K : PySem.W.Frag} {mg : Str → Option Value} {x : Str} {C : Addr} {h : Heap} (O : Exc K mg x C) (X : K.In h) :
    ∃ bm N nm q bs hdct sn sub ab col dd k0 k1 k2 k3 k5 mN, h.get? C = some (excClassObj nm q C N bs bm hdct sn sub ab col dd k0 k1 k2 k3 k5 "ValueError.__new__") ∧ h.Ns N mN ∧ mN "__init__" = none ∧ OwnTail h veTail bm := by
  have q := O.isIn
  unfold PySem.W.excIn at q
  split at q
  case h_2 => cases q
  rename_i dd cd sl ho
  split at q
  case h_2 => cases q
  rename_i C' bm k0 k1 k2 k3 n k5 hm hs
  simp only [Bool.and_eq_true, beq_iff_eq, Bool.not_eq_true'] at q
  obtain ⟨⟨⟨⟨⟨e1, e2⟩, hdel⟩, ht⟩, hok⟩, hni⟩ := q
  subst e1; subst e2
  cases cd with
  | mk nm bs mro ns qn hd sn sub ab col del =>
    dsimp only at hm hdel hok hni
    subst hm; subst hdel
    obtain rfl : sl = #[k0, k1, k2, k3, some (.builtin "ValueError.__new__"), k5] := by
      cases sl with
      | mk l => exact congrArg Array.mk hs
    exact ⟨bm, ns, nm, qn, bs, hd, sn, sub, ab, col, dd, k0, k1, k2, k3, k5, _, X _ _ ho, .of_isNs (PySem.W.isNs_of_in X hok), PySem.W.nsMap_none_of_in X hok hni, PySem.W.tail_of_in X ht⟩
def Raises (X : Cx) (E : XK) : Prop := ∀ (pins : List (Addr × Obj)) (σ : St) (H : Hp) (s : Shared) (h' : Heap) (e : Addr) (cls : Value) (vs : List Value), Inv X pins σ H s → Heap.MadeExcOf s.heap h' e cls vs → E cls none H → X.xe (.ref e) { s with heap := h' }
theorem raisesR {P : Program} {w : World} {K : PySem.W.Frag} {mg : Str → Option Value} {base : Heap} {N : List Str} {qual : Str} {scope : Scope} {f : Addr} {cd : Value} {A : Around} {outer : List Env} {s : Shared} {H : Hp} {E : XK} :
    Raises (cxR P w K mg base N qual scope f cd A outer s H E) E := fun _ _ _ _ _ _ _ _ I hx hE => raised_xe I hx hE
def tRaise (C : Addr) (E : XK) (t : TA) : TS := fun _ σ H => t σ H fun vs H1 => vs.length ≤ sizeLine ∧ E (.ref C) none H1
theorem ps_raise {X : Cx} {E : XK} {x : Str} {C : Addr} {np cpos pos : Pos} {e : Expr} {es : List Expr} {t : TA} (hR : Raises X E) (O : Exc X.K X.mg x C) (hc : X.calm = true) (hg : Gl X x) (ha : PA X (e :: es) t)
    (hdb : (x == ("__debug__" : Str)) = false := by decide) (he : starEach (e :: es) X.env = (false, eval e X.env) :: starEach es X.env := by rfl) (hpl : (backTo cpos (starEach es X.env)).any (·.1) = false := by rfl) :
    PS X (.Raise (some (.Call (.Name x np) (e :: es) [] cpos)) none pos) (tRaise C E t) := by
  intro pins s σ H D I h
  obtain ⟨tl, Nn, nm, q, bs, hdct, sn, sub, ab, col, dd, k0, k1, k2, k3, k5, mN, hC, hN, hni, T⟩ := O.obj I.ok.mod.kin
  refine wpAny_Raise_call_subT (C := C) (nm := nm) (q := q) (N := Nn) (bs := bs) (bm := tl) (hdct := hdct) (sn := sn) (sub := sub) (ab := ab) (col := col) (dd := dd) (k0 := k0) (k1 := k1) (k2 := k2) (k3 := k3) (k5 := k5)
    PySem.F.excBase_ValueError (mN := mN) (T.hasType PySem.F.excBase_ValueError.hasBase) (I.ok.hd hc) (by rw [he]; show (false || (backTo cpos (starEach es X.env)).any (·.1)) = false; rw [hpl]; rfl) hni (ld_glob I hg O.bound ⟨rfl, ?_⟩ hdb)
  have hp := ha cpos pins s σ H _ I h
  rw [he] at hp ⊢
  refine Calls.evalArgs_plain (thn hp fun us s2 ⟨vs, H1, I1, r, hl, hE⟩ => ⟨rfl, ?_, I1.bk _ _ hC, hN.keeps I1.bk, T.keeps I1.bk, fun h' e' hm => hR pins σ H1 s2 h' e' _ us I1 hm hE⟩)
  show us.length ≤ sizeLine
  rw [← r.length]
  exact hl
abbrev XEx := Value → St → Hp → Prop
def XE (X : Cx) (EX : XEx) : Value → Shared → Prop := fun e s' => ∃ pins σ H1 s1, Inv X pins σ H1 s1 ∧ CXR X.prog X.w X.stack H1 s1 (fun cls _ H2 => EX cls σ H2) e s'
abbrev Cx.pinned (X : Cx) (pn : List (Addr × Obj)) : Cx := { X with pn := pn }
abbrev Cx.tr (X : Cx) (pn : List (Addr × Obj)) (EX : XEx) : Cx := (X.pinned pn).wish (XE (X.pinned pn) EX)
def tCallX (sp : Sp) (EX : XEx) (t : TA) : TE := fun σ H Q => t σ H fun vs H1 => sp vs H1 Q fun cls _ H2 => EX cls σ H2
theorem SP.imp {X Y : Cx} {pins pins' : List (Addr × Obj)} {D : Ends} {f : Flow} {s' : Shared} (k : ∀ σ H, Inv X pins σ H s' → Inv Y pins' σ H s') (h : SP X pins D f s') : SP Y pins' D f s' := by
  cases f with
  | next => obtain ⟨σ, H, I, q⟩ := h; exact ⟨σ, H, k σ H I, q⟩
  | brk => obtain ⟨σ, H, I, q⟩ := h; exact ⟨σ, H, k σ H I, q⟩
  | cont => obtain ⟨σ, H, I, q⟩ := h; exact ⟨σ, H, k σ H I, q⟩
  | ret u => obtain ⟨v, σ, H, I, r, q⟩ := h; exact ⟨v, σ, H, k σ H I, r, q⟩
def tTry (C : Addr) (tb : XEx → TS) (th : TS) : TS := fun D σ H => tb (fun cls σ' H' => cls = .ref C ∧ th D σ' H') D σ H
theorem Fun.okR {P : Program} {w : World} {K : PySem.W.Frag} {mg : Str → Option Value} {base : Heap} {x qual : Str} {st : Stmt} {f : Addr} {fd : FuncData} {N ps : List Str} {k : Nat} {sp : Sp} (F : Fun K x qual st f fd) (S : FnScope N ps (defScope st)) (len : ∀ vs H Q E, sp vs H Q E → vs.length = ps.length)
    (hbody : ∀ (cdv : Value) (A : Around) (outer : List Env) (s : Shared) (H : Hp) (vs : List V) (Q : VK) (E : XK), Room k (A.deeper (envOfC qual (defScope st) s.heap.objs.size f cdv)) → sp vs H Q E →
      ∃ t, PSs (cxR P w K mg base N qual (defScope st) f cdv A outer s H E) (defBody st) t ∧ t { nx := fun _ H' => Q .non H', rt := Q } (start N vs) H) : FnOk P w K mg base (CXR P w) (k + 1) f fd ps sp := by
  obtain ⟨oc, od, kV, doc, pm, an, cdv, ct, osl, rfl, lk, hcd⟩ := F.ex
  exact fn_of lk hcd S len fun A outer s H vs Q E hr hsp => hbody cdv A outer s H vs Q E hr hsp
end L2
namespace L2
open PySem PySem.Spec PyProof.Rows
def PFs (X : Cx) (ifs : List Expr) (t : TT) : Prop :=
  ∀ (pins : List (Addr × Obj)) (s : Shared) (σ : St) (H : Hp) (Q : Bool → Hp → Prop), Inv X pins σ H s → t σ H Q →
    wpAny (model X.prog X.w) X.A (forIn ifs true fun c r => if r = true then do let ok ← isTrue c X.env (eval c X.env); pure (ForInStep.yield ok) else pure (ForInStep.yield r)) (TP X pins σ Q) X.xe s
def Ext (σ σ' : St) : Prop := σ.length = σ'.length ∧ ∀ (i : Nat) v, σ[i]? = some (some v) → σ'[i]? = some (some v)
theorem Ext.refl (σ : St) : Ext σ σ := ⟨rfl, fun _ _ h => h⟩
section
variable {prog : Program} {w : World} {A : Around} {R : Result → Shared → Prop} {s : Shared}
end
section
variable {X : Cx}
end
end L2
namespace L2
open PySem PySem.Spec PyProof.Rows
open PySem.Builtin.Int (intBits)
abbrev Sz (k : Nat) (x : Int) : Prop := intBits x ≤ k
theorem Sz.of {k : Nat} {x : Int} (h : x.natAbs < 2 ^ k) : Sz k x := PySem.intBits_le_iff.mpr h
theorem Sz.lt {k : Nat} {x : Int} (h : Sz k x) : x.natAbs < 2 ^ k := PySem.intBits_le_iff.mp h
theorem Sz.mono {j k : Nat} {x : Int} (h : Sz j x) (q : j ≤ k) : Sz k x := Nat.le_trans h q
theorem Sz.le {k : Nat} {x y : Int} (h : Sz k y) (q : x.natAbs ≤ y.natAbs) : Sz k x := PySem.intBits_le_of_natAbs q h
theorem Sz.mul {j k : Nat} {x y : Int} (h : Sz j x) (q : Sz k y) : Sz (j + k) (x * y) := PySem.intBits_mul_le h q
theorem Sz.sub {k : Nat} {x y : Int} (h : Sz k x) (q : Sz k y) : Sz (k + 1) (x - y) := Nat.le_trans (PySem.intBits_sub_le h q) (by omega)
theorem Sz.ok {j k : Nat} {x y : Int} (h : Sz j x) (q : Sz k y) (e : j + k ≤ 134217728) : IntMulOk x y := PySem.IntMulOk.of_le h q e
theorem Sz.okR {k : Nat} {x y : Int} (q : Sz k y) (e : k ≤ 64) : IntMulOk x y := IntMulOk.of_right (Nat.le_trans q e)
theorem Sz.okL {k : Nat} {x y : Int} (q : Sz k x) (e : k ≤ 64) : IntMulOk x y := IntMulOk.of_left (Nat.le_trans q e)
theorem Sz.noPy {k : Nat} {x y : Int} (q : Sz k y) (e : k ≤ 9000) : Builtin.divisionGoesByPylong x y = false := by
  refine PyProof.noPylong_of_log2 ?_
  by_cases h0 : y.natAbs = 0
  · rw [h0]; decide +kernel
  · exact (Nat.log2_lt h0).mpr (Sz.lt (q.mono e))
section
variable {X : Cx}
def CMulB (i j : Int) : Prop := IntMulOk i j
def CDivB (i j : Int) : Prop := 0 < j ∧ Sz 9000 j
theorem op_mulB : OpR X (binaryOp .Mult) (rI CMulB fun i j => .int (i * j)) := opI fun _ _ _ _ _ _ _ hc q => mul_int q hc
theorem op_fdivB : OpR X (binaryOp .FloorDiv) (rI CDivB fun i j => .int (i / j)) := opI fun i j _ _ _ _ _ hc q => by
  have h1 : (0 : Int) < j := hc.1
  exact floordiv_int (by omega) (by rw [Int.fdiv_eq_ediv_of_nonneg i (by omega)]; exact q) (.inl (Sz.noPy hc.2 (Nat.le_refl _)))
def tyNm (x : V) (H : Hp) : Option String := match x with
  | .non => some "NoneType"
  | .bl _ => some "bool"
  | .int _ => some "int"
  | .str _ => some "str"
  | .ref a => (match H a with
    | some (.lst _) => some "list"
    | some (.tup _) => some "tuple"
    | some (.dK _) => some "dict"
    | _ => none)
  | _ => none
theorem tyNm_of {K : PySem.W.Frag} {H : Hp} {x : V} {n : String} (h : tyNm x H = some n) : TyOf K H x (.type n) := by
  unfold tyNm at h
  split at h
  · cases h; exact .non
  · cases h; exact .bl _
  · cases h; exact .int _
  · cases h; exact .str _
  · split at h
    · cases h; exact .lst (by assumption)
    · cases h; exact .tup (by assumption)
    · cases h; exact .dK (by assumption)
    · cases h
  · cases h
def isiB (t c : String) : Bool := t == c || (t == "bool" && c == "int")
def isiNames : List String := ["NoneType", "bool", "int", "str", "list", "tuple", "dict"]
theorem kit_of (K : PySem.W.Frag) : ∀ t ∈ isiNames, ∀ c ∈ ["bool", "int", "str", "list", "tuple", "dict"], PySem.W.kitOne K (.type t) (.type c) = some (isiB t c) := by
  intro t ht c hc
  simp only [isiNames, List.mem_cons, List.not_mem_nil, or_false] at ht hc
  rcases ht with rfl | rfl | rfl | rfl | rfl | rfl | rfl <;> rcases hc with rfl | rfl | rfl | rfl | rfl | rfl <;> kernel_rfl
theorem tyNm_mem {x : V} {H : Hp} {n : String} (h : tyNm x H = some n) : n ∈ isiNames := by
  unfold tyNm at h
  split at h
  · cases h; decide
  · cases h; decide
  · cases h; decide
  · cases h; decide
  · split at h
    · cases h; decide
    · cases h; decide
    · cases h; decide
    · cases h
  · cases h
def rIsi : List V → Hp → VK → Prop := fun xs H Q => ∃ x n t, xs = [x, .ty n] ∧ n ∈ ["bool", "int", "str", "list", "tuple", "dict"] ∧ tyNm x H = some t ∧ Q (.bl (isiB t n)) H
theorem call_isi : CallR X (.builtin "isinstance") rIsi := by
  intro pins s σ H xs us Q I r h
  obtain ⟨x, n, t, rfl, hn, ty, q⟩ := h
  obtain ⟨u, v, rfl, ru, rv⟩ := r.two
  obtain rfl : v = Value.type n := rv
  exact isinst_ok I ru (tyNm_of ty) (kit_of X.K t (tyNm_mem ty) n hn) fun tk => ⟨.bl _, H, I.tok tk, rfl, q⟩
theorem isiN_int : ("int" ∈ ["bool", "int", "str", "list", "tuple", "dict"]) = True := eq_true (by decide)
theorem isiN_bool : ("bool" ∈ ["bool", "int", "str", "list", "tuple", "dict"]) = True := eq_true (by decide)
theorem isiN_list : ("list" ∈ ["bool", "int", "str", "list", "tuple", "dict"]) = True := eq_true (by decide)
theorem isiN_tuple : ("tuple" ∈ ["bool", "int", "str", "list", "tuple", "dict"]) = True := eq_true (by decide)
theorem isiN_str : ("str" ∈ ["bool", "int", "str", "list", "tuple", "dict"]) = True := eq_true (by decide)
theorem isi_ii : isiB "int" "int" = true := rfl
theorem isi_ib : isiB "int" "bool" = false := rfl
theorem isi_bb : isiB "bool" "bool" = true := rfl
theorem isi_bi : isiB "bool" "int" = true := rfl
theorem isi_tt : isiB "tuple" "tuple" = true := rfl
theorem isi_ll : isiB "list" "list" = true := rfl
theorem isi_nt : isiB "NoneType" "tuple" = false := rfl
theorem isi_ni : isiB "NoneType" "int" = false := rfl
def seqAt (H : Hp) (p : Addr) : Option (List V) := match H p with
  | some (.lst xs) => some xs
  | some (.tup xs) => some xs
  | some (.frz _ (.lst xs)) => some xs
  | _ => none
theorem sq_of {K : PySem.W.Frag} {H : Hp} {p : Addr} {xs : List V} (h : seqAt H p = some xs) : SqL K H p xs ∨ SqT K H p xs := by
  unfold seqAt at h
  split at h
  · rename_i e; cases h; exact .inl (SqL.of e)
  · rename_i e; cases h; exact .inr (SqT.of e)
  · rename_i e; cases h; exact .inl (.inl (.inr ⟨_, e⟩))
  · cases h
def rIxF : R2 := fun x y H Q => ∃ p xs i v, x = .ref p ∧ y = .int i ∧ seqAt H p = some xs ∧ atI xs i = some v ∧ Q v H
theorem ix_seqA : IxR X rIxF := by
  intro value slice pins s σ H x y v u Q I rx ry h hs
  obtain ⟨p, xs, i, z, e1, e2, hq, he, q⟩ := h
  rcases sq_of (K := X.K) hq with h' | h'
  · exact ix_list value slice pins s σ H x y v u Q I rx ry ⟨p, xs, i, z, e1, e2, h', he, q⟩ hs
  · exact ix_tup value slice pins s σ H x y v u Q I rx ry ⟨p, xs, i, z, e1, e2, h', he, q⟩ hs
def rLenF : List V → Hp → VK → Prop := fun xs H Q => ∃ p ys, xs = [.ref p] ∧ seqAt H p = some ys ∧ Q (.int ys.length) H
theorem call_lenF : CallR X (.builtin "len") rLenF := by
  intro pins s σ H xs us Q I r h
  obtain ⟨p, ys, e1, hq, q⟩ := h
  exact call_len_seq pins s σ H xs us Q I r ⟨p, ys, e1, sq_of hq, q⟩
def rGetF : V → V → Hp → VK → Prop := fun x y H Q => ∃ p xs i v, x = .ref p ∧ y = .int i ∧ H p = some (.lst xs) ∧ 0 ≤ i ∧ atI xs i = some v ∧ Q v H
theorem get_list : PGet X rGetF := by
  intro pins s σ H o i ov iv Q I r1 r2 h
  obtain ⟨p, xs, k, v, rfl, rfl, hl, h0, he, q⟩ := h
  obtain rfl : ov = Value.ref p := r1
  obtain ⟨t, rfl⟩ := r2
  obtain ⟨its, rv, pl, hz⟩ := I.list (SqL.of hl)
  obtain ⟨j, h1, h2, h3, h4, h5⟩ := atI_get he
  obtain ⟨u, hu, ru⟩ := rv.get h2
  have hlen := rv.length
  have hn := line63
  have hj : k.toNat = j := by
    rw [seqIndex_of h0 h5] at h1
    exact Option.some.inj h1
  exact wpAny_getItem_list pl.isList h0 (by omega) (by rw [hj]; simpa using hu) ⟨v, H, I, ru, q⟩
theorem atI_0 {α : Type} {a : α} {l : List α} : atI (a :: l) 0 = some a := atI_nat (j := 0) rfl
theorem atI_1 {α : Type} {a b : α} {l : List α} : atI (a :: b :: l) 1 = some b := atI_nat (j := 1) rfl
theorem atI_2 {α : Type} {a b c : α} {l : List α} : atI (a :: b :: c :: l) 2 = some c := atI_nat (j := 2) rfl
theorem atI_3 {α : Type} {a b c d : α} {l : List α} : atI (a :: b :: c :: d :: l) 3 = some d := atI_nat (j := 3) rfl
theorem ixN_4_0 : ixN 4 0 = some 0 := rfl
theorem ixN_4_1 : ixN 4 1 = some 1 := rfl
theorem ixN_4_2 : ixN 4 2 = some 2 := rfl
theorem ixN_4_3 : ixN 4 3 = some 3 := rfl
theorem atI_lt {α : Type} {xs : List α} {i : Int} (h0 : 0 ≤ i) (h1 : i < xs.length) : ∃ v, atI xs i = some v ∧ v ∈ xs := by
  have hl : i.toNat < xs.length := by omega
  refine ⟨xs[i.toNat], ?_, List.getElem_mem hl⟩
  have := atI_nat (xs := xs) (j := i.toNat) (v := xs[i.toNat]) (by simp [hl])
  rwa [Int.toNat_of_nonneg h0] at this
end
theorem bt_len : bootBuiltins "len" = some (.builtin "len") := by decide +kernel
theorem bt_abs : bootBuiltins "abs" = some (.builtin "abs") := by decide +kernel
theorem bt_isinstance : bootBuiltins "isinstance" = some (.builtin "isinstance") := by decide +kernel
theorem bt_min : bootBuiltins "min" = some (.builtin "min") := by decide +kernel
theorem bt_int : bootBuiltins "int" = some (.type "int") := by decide +kernel
theorem bt_bool : bootBuiltins "bool" = some (.type "bool") := by decide +kernel
theorem bt_list : bootBuiltins "list" = some (.type "list") := by decide +kernel
theorem bt_tuple : bootBuiltins "tuple" = some (.type "tuple") := by decide +kernel
theorem scal_ii {i j : Int} : scal (.int i) (.int j) = true := rfl
theorem scal_bb {i j : Bool} : scal (.bl i) (.bl j) = true := rfl
theorem scal_ss {i j : Str} : scal (.str i) (.str j) = true := rfl
theorem scal_nn : scal .non .non = true := rfl
theorem sizeLine_1 : (1 ≤ sizeLine) = True := eq_true (by decide)
theorem sizeLine_2 : (2 ≤ sizeLine) = True := eq_true (by decide)
theorem sizeLine_3 : (3 ≤ sizeLine) = True := eq_true (by decide)
theorem sizeLine_4 : (4 ≤ sizeLine) = True := eq_true (by decide)
theorem sizeLine_5 : (5 ≤ sizeLine) = True := eq_true (by decide)
theorem sizeLine_6 : (6 ≤ sizeLine) = True := eq_true (by decide)
theorem sizeLine_7 : (7 ≤ sizeLine) = True := eq_true (by decide)
theorem int_c2 : (((2 : Nat) : Int)) = 2 := rfl
theorem pow_ok : (Int.natAbs 10 < 2 ^ 64) = True := eq_true (by decide)
theorem int_01 : ((0 : Int) ≤ 1) = True := eq_true (by decide)
section
variable {X : Cx}
def rListF : List V → Hp → VK → Prop := fun xs H Q => ∃ p ys, xs = [.ref p] ∧ seqAt H p = some ys ∧ ∀ l, H l = none → Q (.ref l) (upd H l (.lst ys))
theorem call_listF : CallR X (.type "list") rListF := by
  intro pins s σ H xs us Q I r h
  obtain ⟨p, ys, e1, hq, q⟩ := h
  exact call_list_of pins s σ H xs us Q I r ⟨p, ys, e1, sq_of hq, q⟩
def rTupF : List V → Hp → VK → Prop := fun xs H Q => ∃ p ys, xs = [.ref p] ∧ H p = some (.lst ys) ∧ ∀ l, H l = none → Q (.ref l) (upd H l (.tup ys))
theorem cutV_all {ns : List V} {k : Nat} (h : ns.length ≤ k) : cutV ns none (some (k : Int)) = ns := by
  unfold cutV
  rw [HT.sIx_none, HT.sIx_nat, List.drop_zero, Nat.sub_zero, Nat.min_eq_right h, List.take_length]
end
def DefOk (P : Program) (w : World) (K : PySem.W.Frag) (mg : Str → Option Value) (base : Heap) (CX : CXT) (k : Nat) (x : Str) (ps : List Str) (sp : Sp) : Prop :=
  ∃ f fd, FnOk P w K mg base CX k f fd ps sp ∧ mg x = some (.ref f) ∧ PySem.W.keepIn K (.ref f) = true ∧ Binds K fd ps []
inductive Tg.{u} {α : Sort u} (a : α) : Type
  | mk
def Hold (Q : VK) (_ : Tg Q) : VK := Q
theorem Hold_ap {Q : VK} {k : Tg Q} {v : V} {H : Hp} : Hold Q k v H = Q v H := propext Iff.rfl
def tD (sp : Sp) (E : XK) (t : TA) : TE := fun σ H Q => t σ H fun vs H1 => sp vs H1 (Hold Q .mk) E
section
variable {X : Cx} {CX : CXT} {k : Nat} {ps : List Str} {sp : Sp} {E : XK} {x : Str} {p pos : Pos} {e : Expr} {es : List Expr} {t : TA}
theorem pe_d (d : DefOk X.prog X.w X.K X.mg X.base CX k x ps sp) (hr : Room k X.A) (hx : Passes CX X E) (hg : Gl X x) (ha : PA X (e :: es) t)
    (hdb : (x == ("__debug__" : Str)) = false := by decide) (he : starEach (e :: es) X.env = (false, eval e X.env) :: starEach es X.env := by rfl) (hpl : (backTo pos (starEach es X.env)).any (·.1) = false := by rfl) :
    PE X (.Call (.Name x p) (e :: es) [] pos) (tD sp E t) := by
  obtain ⟨f, fd, F, hm, hk, hb⟩ := d
  intro pins s σ H Q I h
  refine pe_call (dvs := []) (ds := []) F hr hg hm hk hb .nil hx ha hdb he hpl pins s σ H Q I ?_
  have e0 : tCall sp [] E t = tD sp E t := by
    funext σ H Q
    unfold tCall tD Hold
    simp only [List.append_nil]
  rw [e0]
  exact h
end
structure DefAt (K : PySem.W.Frag) (mg : Str → Option Value) (x : Str) (st : Stmt) (f : Addr) (fd : FuncData) : Prop where
  fn : Fun K x x st f fd
  mg : mg x = some (.ref f)
theorem DefAt.ok {P : Program} {w : World} {K : PySem.W.Frag} {mg : Str → Option Value} {base : Heap} {CX : CXT} {k : Nat} {x : Str} {st : Stmt} {f : Addr} {fd : FuncData} {ps : List Str} {sp : Sp} (D : DefAt K mg x st f fd) (F : FnOk P w K mg base CX k f fd ps sp) (b : Binds K fd ps []) : DefOk P w K mg base CX k x ps sp :=
  ⟨f, fd, F, D.mg, D.fn.kp, b⟩
theorem pick {P : Int → Prop} (l : List Int) {d : Int} (h0 : 0 ≤ d) (h1 : d < l.length) (hp : ∀ x ∈ l, P x) : ∃ x, atI (l.map V.int) d = some (.int x) ∧ P x := by
  obtain ⟨v, e, hv⟩ := atI_lt (xs := l.map V.int) h0 (by rw [List.length_map]; exact h1)
  obtain ⟨x, hx, rfl⟩ := List.mem_map.mp hv
  exact ⟨x, e, hp x hx⟩
def Fr1 (B : Addr) (H H' : Hp) : Prop := ∀ b o, b ≠ B → H b = some o → H' b = some o
theorem Fr1.refl {B : Addr} {H : Hp} : Fr1 B H H := fun _ _ _ h => h
theorem Fr1.trans {B : Addr} {H H1 H2 : Hp} (a : Fr1 B H H1) (b : Fr1 B H1 H2) : Fr1 B H H2 := fun c o n h => b c o n (a c o n h)
theorem Fr1.upd {B : Addr} {H : Hp} {o : HO} : Fr1 B H (L2.upd H B o) := fun c u n h => by rw [upd_ne n]; exact h
theorem Fr1.new {B p : Addr} {H : Hp} {o : HO} (hp : H p = none) : Fr1 B H (L2.upd H p o) := fun c u n h => by rw [upd_ne (ne_of_none h hp)]; exact h
theorem Same.new {p : Addr} {H : Hp} {o : HO} (hp : H p = none) : Same H (L2.upd H p o) := fun c u h => by rw [upd_ne (ne_of_none h hp)]; exact h
theorem Room.le {j k : Nat} {A : Around} (r : Room k A) (h : j ≤ k := by decide) : Room j A := r.mono h
def Brk (b : Bool) (A B : Prop) (_ : Tg A) (_ : Tg B) : Prop := if b = true then A else B
theorem Brk_t {A B : Prop} {k : Tg A} {l : Tg B} : Brk true A B k l = A := by unfold Brk; rw [if_pos rfl]
theorem Brk_f {A B : Prop} {k : Tg A} {l : Tg B} : Brk false A B k l = B := by unfold Brk; rw [if_neg Bool.false_ne_true]
theorem brk {b : Bool} {A B : Prop} {k : Tg A} {l : Tg B} (h1 : b = true → A) (h2 : b = false → B) : Brk b A B k l := by
  cases b with
  | true => rw [Brk_t]; exact h1 rfl
  | false => rw [Brk_f]; exact h2 rfl
theorem brkD {p : Prop} [Decidable p] {A B : Prop} {k : Tg A} {l : Tg B} (h1 : p → A) (h2 : ¬ p → B) : Brk (decide p) A B k l := brk (fun h => h1 (of_decide_eq_true h)) (fun h => h2 (of_decide_eq_false h))
section
variable {σ : St} {H : Hp} {Q : VK} {D : Ends} {te ta tb : TE} {t u : TS} {c c' : TT} {tr : TA} {QT : Bool → Hp → Prop} {QA : List V → Hp → Prop} {x y : V} {xs : List V} {v : V}
theorem tSeq_ap : tSeq t u D σ H = t { D with nx := u D } σ H := propext Iff.rfl
theorem tIfS_ap : tIfS c t u D σ H = c σ H fun b H1 => Brk b (t D σ H1) (u D σ H1) .mk .mk := propext Iff.rfl
theorem tNext_ap : tNext D σ H = D.nx σ H := propext Iff.rfl
theorem tDrop_ap : tDrop te D σ H = te σ H fun _ H1 => D.nx σ H1 := propext Iff.rfl
theorem tRet_ap : tRet te D σ H = te σ H D.rt := propext Iff.rfl
theorem tRetN_ap : tRetN D σ H = D.rt .non H := propext Iff.rfl
theorem tAsg_ap {g : TG} : tAsg te g D σ H = te σ H fun x H1 => g x σ H1 D.nx := propext Iff.rfl
theorem gName_ap {i : Nat} {R : St → Hp → Prop} : gName i v σ H R = R (σ.set i (some v)) H := propext Iff.rfl
theorem gSub_ap {to ti : TE} {ts : TSet} {R : St → Hp → Prop} : gSub to ti ts v σ H R = to σ H fun o H1 => ti σ H1 fun i H2 => ts o i v H2 fun H3 => R σ H3 := propext Iff.rfl
theorem tPar_ap {i j : Nat} : tPar i j tr D σ H = tr σ H fun vs H1 => ∃ v w, vs = [v, w] ∧ D.nx ((σ.set i (some v)).set j (some w)) H1 := propext Iff.rfl
theorem tAugS_ap {to ti : TE} {tg : V → V → Hp → VK → Prop} {tp : TIp} {ts : TSet} : tAugS to ti te tg tp ts D σ H = to σ H fun o H1 => ti σ H1 fun i H2 => tg o i H2 fun x H3 => te σ H3 fun y H4 => tp x y H4 fun z H5 => ts o i z H5 fun H6 => D.nx σ H6 := propext Iff.rfl
theorem tVar_ap {i : Nat} : tVar i σ H Q = ∃ v, σ[i]? = some (some v) ∧ Q v H := propext Iff.rfl
theorem tC_ap : tC v σ H Q = Q v H := propext Iff.rfl
theorem tB_ap : tB te σ H QT = te σ H fun x H1 => ∃ c, x = .bl c ∧ QT c H1 := propext Iff.rfl
theorem tTest_ap : tTest te σ H QT = te σ H fun x H1 => ∃ c, x = .bl c ∧ QT c H1 := propext Iff.rfl
theorem tOp_ap {r : R2} : tOp r ta tb σ H Q = ta σ H fun x H1 => tb σ H1 fun y H2 => r x y H2 Q := propext Iff.rfl
theorem tUn_ap {r : V → Hp → VK → Prop} : tUn r ta σ H Q = ta σ H fun x H1 => r x H1 Q := propext Iff.rfl
theorem tCB_ap {r : List V → Hp → VK → Prop} : tCB r tr σ H Q = tr σ H fun vs H1 => r vs H1 Q := propext Iff.rfl
theorem tNil_ap : tNil σ H QA = QA [] H := propext Iff.rfl
theorem tCons_ap : tCons ta tr σ H QA = ta σ H fun x H1 => tr σ H1 fun xs H2 => QA (x :: xs) H2 := propext Iff.rfl
theorem tTup_ap : tTup tr σ H Q = tr σ H fun xs H1 => xs.length ≤ sizeLine ∧ ∀ p, H1 p = none → Q (.ref p) (upd H1 p (.tup xs)) := propext Iff.rfl
theorem tLst_ap : tLst tr σ H Q = tr σ H fun xs H1 => xs.length ≤ sizeLine ∧ ∀ p, H1 p = none → Q (.ref p) (upd H1 p (.lst xs)) := propext Iff.rfl
theorem tAnd_ap : tAnd c c' σ H QT = c σ H fun b H1 => Brk b (c' σ H1 QT) (QT false H1) .mk .mk := propext Iff.rfl
theorem tOr_ap : tOr c c' σ H QT = c σ H fun b H1 => Brk b (QT true H1) (c' σ H1 QT) .mk .mk := propext Iff.rfl
theorem tNot_ap : tNot c σ H QT = c σ H fun b H1 => QT (!b) H1 := propext Iff.rfl
theorem tAndV_ap : tAndV ta tb σ H Q = ta σ H fun x H1 => ∃ c, x = .bl c ∧ Brk c (tb σ H1 Q) (Q (.bl false) H1) .mk .mk := propext Iff.rfl
theorem tOrV_ap : tOrV ta tb σ H Q = ta σ H fun x H1 => ∃ c, x = .bl c ∧ Brk c (Q (.bl true) H1) (tb σ H1 Q) .mk .mk := propext Iff.rfl
theorem tNotV_ap : tNotV ta σ H Q = ta σ H fun x H1 => ∃ c, x = .bl c ∧ Q (.bl (!c)) H1 := propext Iff.rfl
theorem tIf_ap : tIf c ta tb σ H Q = c σ H fun b H1 => Brk b (ta σ H1 Q) (tb σ H1 Q) .mk .mk := propext Iff.rfl
theorem tD_ap {sp : Sp} {E : XK} : tD sp E tr σ H Q = tr σ H fun vs H1 => sp vs H1 (Hold Q .mk) E := propext Iff.rfl
theorem tCallX_ap {sp : Sp} {EX : XEx} : tCallX sp EX tr σ H Q = tr σ H fun vs H1 => sp vs H1 (Hold Q .mk) fun cls _ H2 => EX cls σ H2 := propext Iff.rfl
theorem tTry_ap {C : Addr} {tb' : XEx → TS} {th : TS} : tTry C tb' th D σ H = tb' (fun cls σ' H' => cls = .ref C ∧ th D σ' H') D σ H := propext Iff.rfl
theorem tRaise_ap {C : Addr} {E : XK} : tRaise C E tr D σ H = tr σ H fun vs H1 => vs.length ≤ sizeLine ∧ E (.ref C) none H1 := propext Iff.rfl
theorem tIsN_ap : tIsN ta σ H Q = ta σ H fun x H1 => Q (.bl (decide (x = .non))) H1 := propext Iff.rfl
theorem tNotN_ap : tNotN ta σ H Q = ta σ H fun x H1 => Q (.bl (!decide (x = .non))) H1 := propext Iff.rfl
theorem rI_ap {C : Int → Int → Prop} {g : Int → Int → V} : rI C g x y H Q = ∃ i j, x = .int i ∧ y = .int j ∧ C i j ∧ Q (g i j) H := propext Iff.rfl
theorem rI0_ap {g : Int → Int → V} : rI0 g x y H Q = ∃ i j, x = .int i ∧ y = .int j ∧ Q (g i j) H := propext Iff.rfl
theorem rU_ap {g : Int → V} : rU g x H Q = ∃ i, x = .int i ∧ Q (g i) H := propext Iff.rfl
theorem rEq_ap : rEq x y H Q = (scal x y = true ∧ Q (.bl (decide (x = y))) H) := propext Iff.rfl
theorem rNe_ap : rNe x y H Q = (scal x y = true ∧ Q (.bl (!decide (x = y))) H) := propext Iff.rfl
theorem ipI_ap {f : Int → Int → Int} : ipI f x y H Q = ∃ i j, x = .int i ∧ y = .int j ∧ Q (.int (f i j)) H := propext Iff.rfl
theorem rIxF_ap : rIxF x y H Q = ∃ p xs i v, x = .ref p ∧ y = .int i ∧ seqAt H p = some xs ∧ atI xs i = some v ∧ Q v H := propext Iff.rfl
theorem rLenF_ap : rLenF xs H Q = ∃ p ys, xs = [.ref p] ∧ seqAt H p = some ys ∧ Q (.int ys.length) H := propext Iff.rfl
theorem rGetF_ap : rGetF x y H Q = ∃ p xs i v, x = .ref p ∧ y = .int i ∧ H p = some (.lst xs) ∧ 0 ≤ i ∧ atI xs i = some v ∧ Q v H := propext Iff.rfl
theorem rSetL_ap {R : Hp → Prop} : rSetL x y v H R = ∃ p xs k j, x = .ref p ∧ y = .int k ∧ H p = some (.lst xs) ∧ ixN xs.length k = some j ∧ R (upd H p (.lst (xs.set j v))) := propext Iff.rfl
theorem rIsi_ap : rIsi xs H Q = ∃ x n t, xs = [x, .ty n] ∧ n ∈ ["bool", "int", "str", "list", "tuple", "dict"] ∧ tyNm x H = some t ∧ Q (.bl (isiB t n)) H := propext Iff.rfl
theorem rListF_ap : rListF xs H Q = ∃ p ys, xs = [.ref p] ∧ seqAt H p = some ys ∧ ∀ l, H l = none → Q (.ref l) (upd H l (.lst ys)) := propext Iff.rfl
theorem rTupF_ap : rTupF xs H Q = ∃ p ys, xs = [.ref p] ∧ H p = some (.lst ys) ∧ ∀ l, H l = none → Q (.ref l) (upd H l (.tup ys)) := propext Iff.rfl
end
end L2
namespace L2
open PySem PySem.Spec PyProof.Rows
structure QE (X : Cx) (e : Expr) (t : TE) : Prop where
  p : PE X e t
structure QT (X : Cx) (e : Expr) (t : TT) : Prop where
  p : PT X e t
structure QW (X : Cx) (e : Expr) (t : TT) : Prop where
  p : PW X e t
structure QA (X : Cx) (e : List Expr) (t : TA) : Prop where
  p : PA X e t
structure QS (X : Cx) (e : Stmt) (t : TS) : Prop where
  p : PS X e t
structure QB (X : Cx) (e : List Stmt) (t : TS) : Prop where
  p : PSs X e t
structure QI (X : Cx) (tg e : Expr) (t : TI) : Prop where
  p : PI X tg e t
structure QG (X : Cx) (e : Expr) (t : TG) : Prop where
  p : PG X e t
structure QGs (X : Cx) (e : List Expr) (t : TGs) : Prop where
  p : PGs X e t
structure QF (X : Cx) (e : List Expr) (t : TT) : Prop where
  p : PFs X e t
structure QO (X : Cx) (e : Option Expr) (t : TO) : Prop where
  p : PO X e t
section
variable {X : Cx} {a b c e o : Expr} {es rest : List Expr} {ta tb tc te : TE} {t tr : TA} {tA tB' : TT} {pos p : Pos} {x : Str} {st : Stmt} {sts : List Stmt} {ts us : TS}
theorem qv (i : Nat) (hN : X.N[i]? = some x := by rfl) (hv : Vis X.env.scope x := by first | exact Or.inl rfl | exact Or.inr (Or.inl rfl) | exact Or.inr (Or.inr rfl)) (hd : (x == ("__debug__" : Str)) = false := by decide)
    (hcd : (x == ("__classdict__" : Str)) = false := by decide) : QE X (.Name x pos) (tVar i) := ⟨pe_var hN hv hd hcd⟩
theorem qe_int {i j} : QE X (.Constant (.int i) j pos) (tC (.int i)) := ⟨pe_int⟩
theorem qe_bl {i j} : QE X (.Constant (.bool i) j pos) (tC (.bl i)) := ⟨pe_bl⟩
theorem qe_str {i j} : QE X (.Constant (.str i) j pos) (tC (.str i)) := ⟨pe_str⟩
theorem qe_bltn {v : V} {u : Value} (hg : Gl X x) (hm : X.mg x = none) (hv : bootBuiltins x = some u) (r : RelV v u) (hn : x ≠ "__name__" := by decide) (hd : (x == ("__debug__" : Str)) = false := by decide) : QE X (.Name x pos) (tC v) := ⟨pe_bltn hg hm hv r hn hd⟩
theorem qe_op {op : Operator} {r : R2} (ho : OpR X (binaryOp op) r) (ha : QE X a ta) (hb : QE X b tb) : QE X (.BinOp a op b pos) (tOp r ta tb) := ⟨pe_op ho ha.p hb.p⟩
theorem qe_not (ha : QE X a ta) : QE X (.UnaryOp .Not a pos) (tNotV ta) := ⟨pe_not ha.p⟩
theorem qe_one {op} (h : QE X a ta) : QE X (.BoolOp op [a] pos) ta := ⟨pe_one h.p⟩
theorem qe_and (ha : QE X a ta) (hb : QE X (.BoolOp .And (b :: rest) pos) tb) : QE X (.BoolOp .And (a :: b :: rest) pos) (tAndV ta tb) := ⟨pe_and ha.p hb.p⟩
theorem qe_cmpR {op : CmpOp} {r : R2} (ho : OpR X (compareOp op) r) (ha : QE X a ta) (hb : QE X b tb) (hm : behindInMarks op b = false) : QE X (.Compare a [op] [b] pos) (tOp r ta tb) := ⟨pe_cmpR ho ha.p hb.p hm⟩
theorem qe_tup {x1} (h : QA X es t) : QE X (.Tuple es x1 pos) (tTup t) := ⟨pe_tup h.p⟩
theorem qe_lst (h : QA X es t) : QE X (.List es pos) (tLst t) := ⟨pe_lst h.p⟩
theorem qe_slice {r : V → Option Int → Option Int → Hp → VK → Prop} {lo hi : Option Expr} {tl th : TO} {p2 : Pos} (hr : SlR X r) (he : QE X e te) (hl : QO X lo tl) (hu : QO X hi th) : QE X (.Subscript e (.Slice lo hi none p2) pos) (tSl r te tl th) := ⟨pe_slice hr he.p hl.p hu.p⟩
theorem qe_ix {r : R2} (hr : IxR X r) (ha : QE X a ta) (hb : QE X b tb) (hs : PlainIx b) : QE X (.Subscript a b pos) (tOp r ta tb) := ⟨pe_ix hr ha.p hb.p hs⟩
theorem qe_callB {id : String} {r : List V → Hp → VK → Prop} (hc : CallR X (.builtin id) r) (hg : Gl X x) (hm : X.mg x = none) (hv : bootBuiltins x = some (.builtin id)) (ha : QA X (e :: es) t) (hn : x ≠ "__name__" := by decide) (hdb : (x == ("__debug__" : Str)) = false := by decide)
    (he : starEach (e :: es) X.env = (false, eval e X.env) :: starEach es X.env := by rfl) (hpl : (backTo pos (starEach es X.env)).any (·.1) = false := by rfl) : QE X (.Call (.Name x p) (e :: es) [] pos) (tCB r t) := ⟨pe_callB hc hg hm hv ha.p hn hdb he hpl⟩
theorem qe_callTy {T : String} {r : List V → Hp → VK → Prop} (hc : CallR X (.type T) r) (hg : Gl X x) (hm : X.mg x = none) (hv : bootBuiltins x = some (.type T)) (ha : QA X (e :: es) t) (hn : x ≠ "__name__" := by decide) (hdb : (x == ("__debug__" : Str)) = false := by decide)
    (he : starEach (e :: es) X.env = (false, eval e X.env) :: starEach es X.env := by rfl) (hpl : (backTo pos (starEach es X.env)).any (·.1) = false := by rfl) : QE X (.Call (.Name x p) (e :: es) [] pos) (tCB r t) := ⟨pe_callTy hc hg hm hv ha.p hn hdb he hpl⟩
theorem qe_d {CX : CXT} {k : Nat} {ps : List Str} {sp : Sp} {E : XK} (d : DefOk X.prog X.w X.K X.mg X.base CX k x ps sp) (hr : Room k X.A) (hx : Passes CX X E) (hg : Gl X x) (ha : QA X (e :: es) t)
    (hdb : (x == ("__debug__" : Str)) = false := by decide) (he : starEach (e :: es) X.env = (false, eval e X.env) :: starEach es X.env := by rfl) (hpl : (backTo pos (starEach es X.env)).any (·.1) = false := by rfl) :
    QE X (.Call (.Name x p) (e :: es) [] pos) (tD sp E t) := ⟨pe_d d hr hx hg ha.p hdb he hpl⟩
theorem qt_cmpR {op : CmpOp} {r : R2} (ho : OpR X (compareOp op) r) (ha : QE X a ta) (hb : QE X b tb) (hm : behindInMarks op b = false) : QT X (.Compare a [op] [b] pos) (tTest (tOp r ta tb)) := ⟨pt_cmpR ho ha.p hb.p hm⟩
theorem qt_not (ha : QT X a tA) : QT X (.UnaryOp .Not a pos) (tNot tA) := ⟨pt_not ha.p⟩
theorem qw_and (ha : QT X a tA) (hb : QW X (.BoolOp .And (b :: rest) pos) tB') : QW X (.BoolOp .And (a :: b :: rest) pos) (tAnd tA tB') := ⟨pw_and ha.p hb.p⟩
theorem qw_and1 (ha : QT X a tA) : QW X (.BoolOp .And [a] pos) tA := ⟨pw_and1 ha.p⟩
theorem qw_or (ha : QT X a tA) (hb : QW X (.BoolOp .Or (b :: rest) pos) tB') : QW X (.BoolOp .Or (a :: b :: rest) pos) (tOr tA tB') := ⟨pw_or ha.p hb.p⟩
theorem qw_or1 (ha : QT X a tA) : QW X (.BoolOp .Or [a] pos) tA := ⟨pw_or1 ha.p⟩
theorem QW.pt (h : QW X e tA) : QT X e tA := ⟨h.p.pt⟩
theorem qt_val (h : QE X e te) (he : ∀ whole, isTrue e X.env whole = (do let v ← whole; standAt e.pos; holding [v] (truthy v)) := by intro _; rfl) : QT X e (tB te) := ⟨pt_val h.p he⟩
theorem qa_nil : QA X [] tNil := ⟨pa_nil⟩
theorem qa_cons (ha : QE X e te) (hr : QA X es t) (hs : starEach (e :: es) X.env = (false, eval e X.env) :: starEach es X.env := by rfl) : QA X (e :: es) (tCons te t) := ⟨pa_cons ha.p hr.p hs⟩
theorem qi_list {tg : Expr} (hl : QE X e te) : QI X tg e (iList X.K te) := ⟨pi_list hl.p⟩
theorem qi_range1 {tg : Expr} (hg : Gl X "range") (hm : X.mg "range" = none) (ha : QA X [a] t) (hs : starEach [a] X.env = [(false, eval a X.env)] := by rfl) : QI X tg (.Call (.Name "range" p) [a] [] pos) (iRng1 t) := ⟨pi_range1 hg hm ha.p hs⟩
theorem qg_name {i : Nat} (hN : X.N.Nodup) (hi : X.N[i]? = some x) (hx : Loc X.env.scope x) (hf : X.fn x = true ∨ X.env.scope.names.lookup x = some .local := by first | exact .inl rfl | exact .inr rfl | assumption) : QG X (.Name x pos) (gName i) := ⟨pg_name hN hi hx hf⟩
theorem qg_sub {i : Expr} {ti : TE} {tset : TSet} (ho : QE X o ta) (hi : QE X i ti) (hs : PSet X tset)
    (ha : ∀ v, assign (.Subscript o i pos) X.env v = (do
      let ov ← holding [v] (eval o X.env)
      let iv ← holding [v, ov] (eval i X.env)
      standAt pos
      holding [v, ov, iv] (setItem ov iv v)
      release [v, ov, iv] []) := by intro _; rfl) : QG X (.Subscript o i pos) (gSub ta ti tset) := ⟨pg_sub ho.p hi.p hs ha⟩
theorem qss_nil : QB X [] tNext := ⟨pss_nil⟩
theorem qss_cons (h1 : QS X st ts) (h2 : QB X sts us) : QB X (st :: sts) (tSeq ts us) := ⟨pss_cons h1.p h2.p⟩
theorem qss_one (h1 : QS X st ts) : QB X [st] ts := ⟨pss_one h1.p⟩
theorem qs_set {i : Nat} {pos' : Pos} (hN : X.N.Nodup) (hi : X.N[i]? = some x) (hx : Loc X.env.scope x) (he : QE X e te) (hs : swapsWith e (some (.Name x pos')) pos.line X.env = pure false := by rfl) (hf : X.fn x = true ∨ X.env.scope.names.lookup x = some .local := by first | exact .inl rfl | exact .inr rfl | assumption) :
    QS X (.Assign [.Name x pos'] e pos) (tAsg te (gName i)) := ⟨ps_set hN hi hx he.p hs hf⟩
theorem qs_par {i j : Nat} {y : Str} {px py pt : Pos} {kt k2 pt2} (hc : X.calm = true) (hN : X.N.Nodup) (hi : X.N[i]? = some x) (hj : X.N[j]? = some y) (hij : i ≠ j)
    (hx : X.env.scope.names.lookup x = some .local) (hy : X.env.scope.names.lookup y = some .local) (ha : QA X [a, b] t)
    (hw : swappedStores [.Tuple [.Name x px, .Name y py] kt pt] (.Tuple [a, b] k2 pt2) X.env = pure (some [x, y]))
    (hs : swapsWithSole [.Tuple [.Name x px, .Name y py] kt pt] (.Tuple [a, b] k2 pt2) pos.line X.env = pure false := by rfl) :
    QS X (.Assign [.Tuple [.Name x px, .Name y py] kt pt] (.Tuple [a, b] k2 pt2) pos) (tPar i j t) := ⟨ps_par hc hN hi hj hij hx hy ha.p hw hs⟩
theorem qs_asg {tg : Expr} {g : TG} (he : QE X e te) (hg : QG X tg g) (hs : swapsWithSole [tg] e pos.line X.env = pure false := by rfl) (hw : swappedStores [tg] e X.env = pure none := by rfl) (h1 : List.map (fun x => x.snd) (assignEach [tg] X.env) = [assign tg X.env] := by rfl) : QS X (.Assign [tg] e pos) (tAsg te g) := ⟨ps_asg he.p hg.p hs hw h1⟩
theorem qs_augS {i : Expr} {ti : TE} {tget : V → V → Hp → VK → Prop} {tip : TIp} {tset : TSet} {op : Operator} {tpos : Pos} (ho : QE X o ta) (hi : QE X i ti) (hg : PGet X tget) (he : QE X e te) (hp : PIp X op tip) (hs : PSet X tset)
    (ha : ∀ ov iv new, augStore i ov iv new = (do holding [new, ov, iv] (setItem ov iv new); release [new, ov, iv] []; pure .next) := by intros; rfl) : QS X (.AugAssign (.Subscript o i tpos) op e pos) (tAugS ta ti te tget tip tset) := ⟨ps_augS ho.p hi.p hg he.p hp hs ha⟩
theorem qs_ret (he : QE X e te) : QS X (.Return (some e) pos) (tRet te) := ⟨ps_ret he.p⟩
theorem qs_if {ss : List Stmt} (hc : QT X c tA) (ha : QB X sts ts) (hb : QB X ss us) : QS X (.If c sts ss pos) (tIfS tA ts us) := ⟨ps_if hc.p ha.p hb.p⟩
theorem qs_while (hp : PassesOwn (model X.prog X.w) X.A X.env X.xe) (hc : QT X c tA) (hb : QB X sts ts) : QS X (.While c sts [] pos) (tWhile tA ts) := ⟨ps_while hp hc.p hb.p⟩
theorem qs_for {tg iter : Expr} {wi : TI} {g : TG} (hp : PassesOwn (model X.prog X.w) X.A X.env X.xe) (hc : X.calm = true) (hi : QI X tg iter wi) (hg : QG X tg g) (hb : QB X sts ts)
    (hs : ∀ x, foldedSetIterable iter X.env x = pure x := by intro _; rfl) : QS X (.For tg iter sts [] pos) (tFor wi g ts) := ⟨ps_for hp hc hi.p hg.p hb.p hs⟩
theorem qo_none : QO X none tNoPart := ⟨po_none⟩
theorem qo_some (h : QE X e te) : QO X (some e) (tPart te) := ⟨po_some h.p⟩
theorem qs_raise {E : XK} {C : Addr} {np cpos : Pos} (hR : Raises X E) (O : Exc X.K X.mg x C) (hc : X.calm = true) (hg : Gl X x) (ha : QA X (e :: es) t)
    (hdb : (x == ("__debug__" : Str)) = false := by decide) (he : starEach (e :: es) X.env = (false, eval e X.env) :: starEach es X.env := by rfl) (hpl : (backTo cpos (starEach es X.env)).any (·.1) = false := by rfl) :
    QS X (.Raise (some (.Call (.Name x np) (e :: es) [] cpos)) none pos) (tRaise C E t) := ⟨ps_raise hR O hc hg ha.p hdb he hpl⟩
end
section
variable {X : Cx} {elt iter tg c : Expr} {ifs : List Expr} {scope : Scope} {pos spos py : Pos} {wi : TI} {g : TG} {tt : TT} {te : TE}
theorem tChain_ap {r r' : R2} {ta tb tc : TE} {σ : St} {H : Hp} {Q : VK} : tChain r r' ta tb tc σ H Q = ta σ H fun x H1 => tb σ H1 fun y H2 => r x y H2 fun z H3 => ∃ k, z = .bl k ∧ Brk k (tc σ H3 fun w' H4 => r' y w' H4 Q) (Q (.bl false) H3) .mk .mk := propext Iff.rfl
end
theorem DefAt.q {P : Program} {w : World} {K : PySem.W.Frag} {mg : Str → Option Value} {base : Heap} {x : Str} {st : Stmt} {f : Addr} {fd : FuncData} {N ps : List Str} {k : Nat} {sp : Sp} (D : DefAt K mg x st f fd) (S : FnScope N ps (defScope st)) (len : ∀ vs H Q E, sp vs H Q E → vs.length = ps.length)
    (hbody : ∀ (cdv : Value) (A : Around) (outer : List Env) (s : Shared) (H : Hp) (vs : List V) (Q : VK) (E : XK), Room k (A.deeper (envOfC x (defScope st) s.heap.objs.size f cdv)) → sp vs H Q E →
      ∃ t, QB (cxOf CX0 P w K mg base N x (defScope st) f cdv A outer s H E).nox (defBody st) t ∧ t { nx := fun _ H' => Q .non H', rt := Q } (start N vs) H) : FnOk P w K mg base CX0 (k + 1) f fd ps sp :=
  D.fn.ok S len fun cdv A outer s H vs Q E hr h => by
    obtain ⟨t, h1, h2⟩ := hbody cdv A outer s H vs Q E hr h
    exact ⟨t, h1.p, h2⟩
theorem DefAt.qR {P : Program} {w : World} {K : PySem.W.Frag} {mg : Str → Option Value} {base : Heap} {x : Str} {st : Stmt} {f : Addr} {fd : FuncData} {N ps : List Str} {k : Nat} {sp : Sp} (D : DefAt K mg x st f fd) (S : FnScope N ps (defScope st)) (len : ∀ vs H Q E, sp vs H Q E → vs.length = ps.length)
    (hbody : ∀ (cdv : Value) (A : Around) (outer : List Env) (s : Shared) (H : Hp) (vs : List V) (Q : VK) (E : XK), Room k (A.deeper (envOfC x (defScope st) s.heap.objs.size f cdv)) → sp vs H Q E →
      ∃ t, QB (cxR P w K mg base N x (defScope st) f cdv A outer s H E) (defBody st) t ∧ t { nx := fun _ H' => Q .non H', rt := Q } (start N vs) H) : FnOk P w K mg base (CXR P w) (k + 1) f fd ps sp :=
  D.fn.okR S len fun cdv A outer s H vs Q E hr h => by
    obtain ⟨t, h1, h2⟩ := hbody cdv A outer s H vs Q E hr h
    exact ⟨t, h1.p, h2⟩
end L2
namespace L2
open PySem PySem.Spec PyProof.Rows
inductive Dt where
  | non | bl (b : Bool) | int (i : Int) | str (x : Str) | tup (l : List Dt) | lst (l : List Dt)
mutual
def Den (H : Hp) : Dt → V → Prop
  | .non, x => x = .non
  | .bl b, x => x = .bl b
  | .int i, x => x = .int i
  | .str z, x => x = .str z
  | .tup ds, x => ∃ a xs, x = .ref a ∧ H a = some (.tup xs) ∧ Dens H ds xs
  | .lst ds, x => ∃ a xs, x = .ref a ∧ H a = some (.lst xs) ∧ Dens H ds xs
def Dens (H : Hp) : List Dt → List V → Prop
  | [], xs => xs = []
  | d :: ds, xs => ∃ y ys, xs = y :: ys ∧ Den H d y ∧ Dens H ds ys
end
theorem Dens.length {H : Hp} : ∀ {ds : List Dt} {xs : List V}, Dens H ds xs → ds.length = xs.length
  | [], xs, h => by
    unfold Dens at h
    rw [h]
    rfl
  | d :: ds, xs, h => by
    unfold Dens at h
    obtain ⟨y, ys, rfl, _, h2⟩ := h
    rw [List.length_cons, List.length_cons, Dens.length h2]
theorem Dens.get {H : Hp} : ∀ {ds : List Dt} {xs : List V} {j : Nat} {d : Dt}, Dens H ds xs → ds[j]? = some d → ∃ y, xs[j]? = some y ∧ Den H d y
  | [], xs, j, d, h, e => by simp at e
  | c :: ds, xs, 0, d, h, e => by
    unfold Dens at h
    obtain ⟨y, ys, rfl, h1, h2⟩ := h
    cases e
    exact ⟨y, rfl, h1⟩
  | c :: ds, xs, j + 1, d, h, e => by
    unfold Dens at h
    obtain ⟨y, ys, rfl, h1, h2⟩ := h
    obtain ⟨y', g, n⟩ := Dens.get (j := j) h2 (by simpa using e)
    exact ⟨y', by simpa using g, n⟩
mutual
theorem Den.same {H H' : Hp} (s : ∀ b o, H b = some o → H' b = some o) : ∀ {d : Dt} {x : V}, Den H d x → Den H' d x
  | .non, x, h => by unfold Den at h ⊢; exact h
  | .bl b, x, h => by unfold Den at h ⊢; exact h
  | .int i, x, h => by unfold Den at h ⊢; exact h
  | .str z, x, h => by unfold Den at h ⊢; exact h
  | .tup ds, x, h => by
    unfold Den at h ⊢
    obtain ⟨a, xs, e, h1, h2⟩ := h
    exact ⟨a, xs, e, s _ _ h1, Dens.same s h2⟩
  | .lst ds, x, h => by
    unfold Den at h ⊢
    obtain ⟨a, xs, e, h1, h2⟩ := h
    exact ⟨a, xs, e, s _ _ h1, Dens.same s h2⟩
theorem Dens.same {H H' : Hp} (s : ∀ b o, H b = some o → H' b = some o) : ∀ {ds : List Dt} {xs : List V}, Dens H ds xs → Dens H' ds xs
  | [], xs, h => by unfold Dens at h ⊢; exact h
  | d :: ds, xs, h => by
    unfold Dens at h ⊢
    obtain ⟨y, ys, e, h1, h2⟩ := h
    exact ⟨y, ys, e, Den.same s h1, Dens.same s h2⟩
end
mutual
theorem Den.inj {H : Hp} : ∀ {d e : Dt} {x : V}, Den H d x → Den H e x → d = e
  | d, e, x, h1, h2 => by
    cases d with
    | tup ds =>
      unfold Den at h1
      obtain ⟨a, xs, rfl, g1, g2⟩ := h1
      cases e <;> unfold Den at h2
      case tup es =>
        obtain ⟨b, ys, eb, k1, k2⟩ := h2
        cases eb
        rw [g1] at k1
        cases k1
        rw [Dens.inj g2 k2]
      case lst es =>
        obtain ⟨b, ys, eb, k1, k2⟩ := h2
        cases eb
        rw [g1] at k1
        cases k1
      all_goals cases h2
    | lst ds =>
      unfold Den at h1
      obtain ⟨a, xs, rfl, g1, g2⟩ := h1
      cases e <;> unfold Den at h2
      case lst es =>
        obtain ⟨b, ys, eb, k1, k2⟩ := h2
        cases eb
        rw [g1] at k1
        cases k1
        rw [Dens.inj g2 k2]
      case tup es =>
        obtain ⟨b, ys, eb, k1, k2⟩ := h2
        cases eb
        rw [g1] at k1
        cases k1
      all_goals cases h2
    | non => unfold Den at h1; subst h1; cases e <;> unfold Den at h2 <;> first | (obtain ⟨_, _, z, _⟩ := h2; cases z; done) | (cases h2; rfl) | (cases h2; done) | rfl
    | bl b => unfold Den at h1; subst h1; cases e <;> unfold Den at h2 <;> first | (obtain ⟨_, _, z, _⟩ := h2; cases z; done) | (cases h2; rfl) | (cases h2; done) | rfl
    | int b => unfold Den at h1; subst h1; cases e <;> unfold Den at h2 <;> first | (obtain ⟨_, _, z, _⟩ := h2; cases z; done) | (cases h2; rfl) | (cases h2; done) | rfl
    | str b => unfold Den at h1; subst h1; cases e <;> unfold Den at h2 <;> first | (obtain ⟨_, _, z, _⟩ := h2; cases z; done) | (cases h2; rfl) | (cases h2; done) | rfl
theorem Dens.inj {H : Hp} : ∀ {ds es : List Dt} {xs : List V}, Dens H ds xs → Dens H es xs → ds = es
  | [], [], _, _, _ => rfl
  | [], e :: es, xs, h1, h2 => by
    unfold Dens at h1 h2
    obtain ⟨_, _, z, _⟩ := h2
    rw [h1] at z
    cases z
  | d :: ds, [], xs, h1, h2 => by
    unfold Dens at h1 h2
    obtain ⟨_, _, z, _⟩ := h1
    rw [h2] at z
    cases z
  | d :: ds, e :: es, xs, h1, h2 => by
    unfold Dens at h1 h2
    obtain ⟨y, ys, rfl, a1, a2⟩ := h1
    obtain ⟨y', ys', ez, b1, b2⟩ := h2
    cases ez
    rw [Den.inj a1 b1, Dens.inj a2 b2]
end
def Cmp : Nat → Dt → Dt → Prop
  | _, .int _, .int _ => True
  | _, .bl _, .bl _ => True
  | _, .str _, .str _ => True
  | _, .non, .non => True
  | _, .non, .tup _ => True
  | _, .tup _, .non => True
  | k + 1, .tup ds, .tup es => ∀ (j : Nat) d e, ds[j]? = some d → es[j]? = some e → Cmp k d e
  | k + 1, .lst ds, .lst es => ds.length = es.length → ∀ (j : Nat) d e, ds[j]? = some d → es[j]? = some e → Cmp k d e
  | _, _, _ => False
section
open Classical
theorem all_range {ds es : List Dt} (n : Nat) (hn : n = min ds.length es.length) : ((List.range n).all (fun j => decide (ds[j]? = es[j]?)) && decide (ds.length = es.length)) = decide (ds = es) := by
  rw [Bool.eq_iff_iff]
  simp only [Bool.and_eq_true, List.all_eq_true, List.mem_range, decide_eq_true_eq]
  constructor
  · rintro ⟨h1, h2⟩
    refine List.ext_getElem? fun i => ?_
    by_cases hi : i < n
    · exact h1 i hi
    · rw [List.getElem?_eq_none_iff.mpr (by omega), List.getElem?_eq_none_iff.mpr (by omega)]
  · rintro rfl
    exact ⟨fun _ _ => rfl, rfl⟩
theorem all_range2 {ds es : List Dt} (hl : ds.length = es.length) : ((List.range ds.length).all (fun j => decide (ds[j]? = es[j]?))) = decide (ds = es) := by
  have h := all_range (ds := ds) (es := es) ds.length (by omega)
  rw [decide_eq_true hl, Bool.and_true] at h
  exact h
theorem dec_tup (ds es : List Dt) : decide (Dt.tup ds = Dt.tup es) = decide (ds = es) := by
  rw [decide_eq_decide]
  exact ⟨fun h => Dt.tup.inj h, fun h => by rw [h]⟩
theorem dec_lst (ds es : List Dt) : decide (Dt.lst ds = Dt.lst es) = decide (ds = es) := by
  rw [decide_eq_decide]
  exact ⟨fun h => Dt.lst.inj h, fun h => by rw [h]⟩
variable {X : Cx} {pins : List (Addr × Obj)} {σ : St} {H : Hp} {s : Shared}
theorem rc_seq (I : Inv X pins σ H s) {k : Nat} (ih : ∀ d e x y u v (A : Around), Den H d x → Den H e y → Cmp k d e → A.units + k + 2 < cLine → RelV x u → RelV y v → SeqAt.EqAt A s u v (decide (d = e)))
    {ds es : List Dt} {a b : Addr} {A : Around} (hu : A.units + (k + 1) + 2 < cLine) :
    (∀ xs ys, H a = some (.tup xs) → H b = some (.tup ys) → Dens H ds xs → Dens H es ys → (∀ (j : Nat) d e, ds[j]? = some d → es[j]? = some e → Cmp k d e) → SeqAt.RcAt A s (.ref a) (.ref b) (decide (Dt.tup ds = Dt.tup es)) ∧ SeqAt.RcNeAt A s (.ref a) (.ref b) (!decide (Dt.tup ds = Dt.tup es))) ∧
    (∀ xs ys, H a = some (.lst xs) → H b = some (.lst ys) → Dens H ds xs → Dens H es ys → (ds.length = es.length → ∀ (j : Nat) d e, ds[j]? = some d → es[j]? = some e → Cmp k d e) → SeqAt.RcAt A s (.ref a) (.ref b) (decide (Dt.lst ds = Dt.lst es)) ∧ SeqAt.RcNeAt A s (.ref a) (.ref b) (!decide (Dt.lst ds = Dt.lst es))) := by
  have hu' : A.units < cLine := by omega
  have el : ∀ (xs ys : List V) (i1 i2 : List Value), Dens H ds xs → Dens H es ys → Vals xs i1 → Vals ys i2 → (∀ (j : Nat) d e, ds[j]? = some d → es[j]? = some e → Cmp k d e) →
      ∀ j (h1 : j < i1.toArray.size) (h2 : j < i2.toArray.size), SeqAt.EqAt A.in1 s i1.toArray[j] i2.toArray[j] (decide (ds[j]? = es[j]?)) := fun xs ys i1 i2 d1 d2 v1 v2 hc j h1 h2 => by
    have l1 := v1.length
    have l2 := v2.length
    have l3 := d1.length
    have l4 := d2.length
    have k1 : j < i1.length := by simpa using h1
    have k2 : j < i2.length := by simpa using h2
    have m1 : j < ds.length := by omega
    have m2 : j < es.length := by omega
    have e1 : ds[j]? = some ds[j] := List.getElem?_eq_getElem m1
    have e2 : es[j]? = some es[j] := List.getElem?_eq_getElem m2
    obtain ⟨y1, g1, n1⟩ := d1.get e1
    obtain ⟨y2, g2, n2⟩ := d2.get e2
    obtain ⟨u1, w1, r1⟩ := v1.get g1
    obtain ⟨u2, w2, r2⟩ := v2.get g2
    have z1 : i1.toArray[j] = u1 := by
      rw [List.getElem?_eq_getElem k1] at w1
      simpa using w1
    have z2 : i2.toArray[j] = u2 := by
      rw [List.getElem?_eq_getElem k2] at w2
      simpa using w2
    have key := ih _ _ _ _ _ _ A.in1 n1 n2 (hc j _ _ e1 e2) (by show A.units + 1 + k + 2 < cLine; omega) r1 r2
    have ed : decide (ds[j]? = es[j]?) = decide (ds[j] = es[j]) := by
      rw [decide_eq_decide, e1, e2]
      exact ⟨fun h => Option.some.inj h, fun h => by rw [h]⟩
    rw [z1, z2, ed]
    exact key
  refine ⟨fun xs ys ha hb d1 d2 hc => ?_, fun xs ys ha hb d1 d2 hc => ?_⟩
  · obtain ⟨i1, v1, t1, _⟩ := I.tuple (SqT.of ha)
    obtain ⟨i2, v2, t2, _⟩ := I.tuple (SqT.of hb)
    have l1 := v1.length
    have l2 := v2.length
    have l3 := d1.length
    have l4 := d2.length
    have e := el xs ys i1 i2 d1 d2 v1 v2 hc
    have s1 : i1.toArray.size = ds.length := by rw [List.size_toArray]; omega
    have s2 : i2.toArray.size = es.length := by rw [List.size_toArray]; omega
    have b1 : ((List.range (min i1.toArray.size i2.toArray.size)).all (fun j => decide (ds[j]? = es[j]?)) && i1.toArray.size == i2.toArray.size) = decide (Dt.tup ds = Dt.tup es) := by
      rw [s1, s2, dec_tup, ← all_range (ds := ds) (es := es) _ rfl]
      congr 1
      all_goals (rw [Bool.eq_iff_iff]; simp)
    rw [← b1]
    exact ⟨SeqAt.RcAt.tuples t1 t2 hu' e, SeqAt.RcNeAt.tuples t1 t2 hu' e⟩
  · obtain ⟨i1, v1, t1, _⟩ := I.list (SqL.of ha)
    obtain ⟨i2, v2, t2, _⟩ := I.list (SqL.of hb)
    have l1 := v1.length
    have l2 := v2.length
    have l3 := d1.length
    have l4 := d2.length
    have s1 : i1.toArray.size = ds.length := by rw [List.size_toArray]; omega
    have s2 : i2.toArray.size = es.length := by rw [List.size_toArray]; omega
    by_cases hl : ds.length = es.length
    · have e := el xs ys i1 i2 d1 d2 v1 v2 (hc hl)
      have b1 : (List.range i1.toArray.size).all (fun j => decide (ds[j]? = es[j]?)) = decide (Dt.lst ds = Dt.lst es) := by
        rw [s1, dec_lst, ← all_range2 hl]
      rw [← b1]
      exact ⟨SeqAt.RcAt.lists t1.isList t2.isList (by omega) hu' e, SeqAt.RcNeAt.lists t1.isList t2.isList (by omega) hu' e⟩
    · have b1 : decide (Dt.lst ds = Dt.lst es) = false := decide_eq_false fun h => hl (by rw [Dt.lst.inj h])
      have nz : (i1.toArray.size != i2.toArray.size) = true := by
        rw [s1, s2]
        simpa using hl
      rw [b1]
      exact ⟨SeqAt.RcAt.lists_lengths t1.isList t2.isList nz hu', SeqAt.RcNeAt.lists_lengths t1.isList t2.isList nz hu'⟩
theorem dec_int' (a b : Int) : decide (Dt.int a = Dt.int b) = (a == b) := by
  rw [Bool.eq_iff_iff]
  simp
theorem dec_bl' (a b : Bool) : decide (Dt.bl a = Dt.bl b) = (a == b) := by
  rw [Bool.eq_iff_iff]
  simp
theorem dec_str' (a b : Str) : decide (Dt.str a = Dt.str b) = (a == b) := by
  rw [Bool.eq_iff_iff]
  simp
theorem eq_den (I : Inv X pins σ H s) : ∀ (k : Nat) (d e : Dt) (x y : V) (u v : Value) (A : Around), Den H d x → Den H e y → Cmp k d e → A.units + k + 2 < cLine → RelV x u → RelV y v → SeqAt.EqAt A s u v (decide (d = e)) := by
  intro k
  induction k with
  | zero =>
    intro d e x y u v A h1 h2 hc hu r1 r2
    cases d <;> cases e <;> first | exact hc.elim | skip
    · unfold Den at h1 h2; subst h1; subst h2; cases r1; cases r2
      rw [decide_eq_true rfl]; exact SeqAt.EqAt.same _
    · unfold Den at h1 h2; subst h1; cases r1
      obtain ⟨a, xs, rfl, ha, _⟩ := h2; cases r2
      obtain ⟨i1, _, t1, _⟩ := I.tuple (SqT.of ha)
      rw [decide_eq_false (by intro z; cases z)]; exact SeqAt.EqAt.none_tuple t1 (by omega)
    · unfold Den at h1 h2; subst h1; subst h2; cases r1; cases r2
      rw [dec_bl']; exact SeqAt.EqAt.bool_bool _ _
    · unfold Den at h1 h2; subst h1; subst h2; obtain ⟨t1, rfl⟩ := r1; obtain ⟨t2, rfl⟩ := r2
      rw [dec_int']; exact SeqAt.EqAt.int_int _ _ _ _
    · unfold Den at h1 h2; subst h1; subst h2; obtain ⟨t1, rfl⟩ := r1; obtain ⟨t2, rfl⟩ := r2
      rw [dec_str']; exact SeqAt.EqAt.str_str _ _ _ _
    · unfold Den at h1 h2; subst h2; cases r2
      obtain ⟨a, xs, rfl, ha, _⟩ := h1; cases r1
      obtain ⟨i1, _, t1, _⟩ := I.tuple (SqT.of ha)
      rw [decide_eq_false (by intro z; cases z)]; exact SeqAt.EqAt.tuple_none t1 (by omega)
  | succ k ih =>
    intro d e x y u v A h1 h2 hc hu r1 r2
    cases d <;> cases e <;> first | exact hc.elim | skip
    · unfold Den at h1 h2; subst h1; subst h2; cases r1; cases r2
      rw [decide_eq_true rfl]; exact SeqAt.EqAt.same _
    · unfold Den at h1 h2; subst h1; cases r1
      obtain ⟨a, xs, rfl, ha, _⟩ := h2; cases r2
      obtain ⟨i1, _, t1, _⟩ := I.tuple (SqT.of ha)
      rw [decide_eq_false (by intro z; cases z)]; exact SeqAt.EqAt.none_tuple t1 (by omega)
    · unfold Den at h1 h2; subst h1; subst h2; cases r1; cases r2
      rw [dec_bl']; exact SeqAt.EqAt.bool_bool _ _
    · unfold Den at h1 h2; subst h1; subst h2; obtain ⟨t1, rfl⟩ := r1; obtain ⟨t2, rfl⟩ := r2
      rw [dec_int']; exact SeqAt.EqAt.int_int _ _ _ _
    · unfold Den at h1 h2; subst h1; subst h2; obtain ⟨t1, rfl⟩ := r1; obtain ⟨t2, rfl⟩ := r2
      rw [dec_str']; exact SeqAt.EqAt.str_str _ _ _ _
    · unfold Den at h1 h2; subst h2; cases r2
      obtain ⟨a, xs, rfl, ha, _⟩ := h1; cases r1
      obtain ⟨i1, _, t1, _⟩ := I.tuple (SqT.of ha)
      rw [decide_eq_false (by intro z; cases z)]; exact SeqAt.EqAt.tuple_none t1 (by omega)
    · have g1 := h1
      have g2 := h2
      unfold Den at h1 h2
      obtain ⟨a, xs, rfl, ha, da⟩ := h1
      obtain ⟨b, ys, rfl, hb, db⟩ := h2
      cases r1; cases r2
      by_cases hab : a = b
      · subst hab
        rw [decide_eq_true (g1.inj g2)]
        exact SeqAt.EqAt.same _
      · exact SeqAt.EqAt.of_refs hab ((rc_seq I ih hu).1 xs ys ha hb da db hc).1
    · have g1 := h1
      have g2 := h2
      unfold Den at h1 h2
      obtain ⟨a, xs, rfl, ha, da⟩ := h1
      obtain ⟨b, ys, rfl, hb, db⟩ := h2
      cases r1; cases r2
      by_cases hab : a = b
      · subst hab
        rw [decide_eq_true (g1.inj g2)]
        exact SeqAt.EqAt.same _
      · exact SeqAt.EqAt.of_refs hab ((rc_seq I ih hu).2 xs ys ha hb da db hc).1
def rEqD : R2 := fun x y H Q => ∃ d e, Den H d x ∧ Den H e y ∧ Cmp 8 d e ∧ Q (.bl (decide (d = e))) H
def rNeD : R2 := fun x y H Q => ∃ d e, Den H d x ∧ Den H e y ∧ Cmp 8 d e ∧ Q (.bl (!decide (d = e))) H
theorem rcs (I : Inv X pins σ H s) {d e : Dt} {x y : V} {u v : Value} {A : Around} (h1 : Den H d x) (h2 : Den H e y) (hc : Cmp 8 d e) (hu : A.units + 64 < cLine) (r1 : RelV x u) (r2 : RelV y v) :
    SeqAt.RcAt A s u v (decide (d = e)) ∧ SeqAt.RcNeAt A s u v (!decide (d = e)) := by
  cases d <;> cases e <;> first | exact hc.elim | skip
  · unfold Den at h1 h2; subst h1; subst h2; cases r1; cases r2
    rw [decide_eq_true rfl]; exact ⟨SeqAt.RcAt.none_none, SeqAt.RcNeAt.none_none⟩
  · unfold Den at h1 h2; subst h1; cases r1
    obtain ⟨a, xs, rfl, ha, _⟩ := h2; cases r2
    obtain ⟨i1, _, t1, _⟩ := I.tuple (SqT.of ha)
    rw [decide_eq_false (by intro z; cases z)]; exact ⟨SeqAt.RcAt.none_tuple t1 (by omega), SeqAt.RcNeAt.none_tuple t1 (by omega)⟩
  · unfold Den at h1 h2; subst h1; subst h2; cases r1; cases r2
    rw [dec_bl']; exact ⟨SeqAt.RcAt.bool_bool _ _, SeqAt.RcNeAt.bool_bool _ _⟩
  · unfold Den at h1 h2; subst h1; subst h2; obtain ⟨t1, rfl⟩ := r1; obtain ⟨t2, rfl⟩ := r2
    rw [dec_int']; exact ⟨SeqAt.RcAt.int_int _ _ _ _, SeqAt.RcNeAt.int_int _ _ _ _⟩
  · unfold Den at h1 h2; subst h1; subst h2; obtain ⟨t1, rfl⟩ := r1; obtain ⟨t2, rfl⟩ := r2
    rw [dec_str']; exact ⟨SeqAt.RcAt.str_str _ _ _ _, SeqAt.RcNeAt.str_str _ _ _ _⟩
  · unfold Den at h1 h2; subst h2; cases r2
    obtain ⟨a, xs, rfl, ha, _⟩ := h1; cases r1
    obtain ⟨i1, _, t1, _⟩ := I.tuple (SqT.of ha)
    rw [decide_eq_false (by intro z; cases z)]; exact ⟨SeqAt.RcAt.tuple_none t1 (by omega), SeqAt.RcNeAt.tuple_none t1 (by omega)⟩
  · unfold Den at h1 h2
    obtain ⟨a, xs, rfl, ha, da⟩ := h1
    obtain ⟨b, ys, rfl, hb, db⟩ := h2
    cases r1; cases r2
    exact (rc_seq I (eq_den I 7) (by omega)).1 xs ys ha hb da db hc
  · unfold Den at h1 h2
    obtain ⟨a, xs, rfl, ha, da⟩ := h1
    obtain ⟨b, ys, rfl, hb, db⟩ := h2
    cases r1; cases r2
    exact (rc_seq I (eq_den I 7) (by omega)).2 xs ys ha hb da db hc
theorem op_eqD (hu : X.A.units + 64 < cLine) : OpR X (compareOp .Eq) rEqD := by
  intro pins s σ H x y v u Q I rx ry h
  obtain ⟨d, e, h1, h2, hc, q⟩ := h
  exact (rcs I h1 h2 hc hu rx ry).1 _ _ _ _ ⟨.bl _, H, I, rfl, q⟩
theorem op_neD (hu : X.A.units + 64 < cLine) : OpR X (compareOp .NotEq) rNeD := by
  intro pins s σ H x y v u Q I rx ry h
  obtain ⟨d, e, h1, h2, hc, q⟩ := h
  exact (rcs I h1 h2 hc hu rx ry).2 _ _ _ _ ⟨.bl _, H, I, rfl, q⟩
end
theorem den2 {H : Hp} {p : Addr} {a b : Int} (h : H p = some (.tup [.int a, .int b])) : Den H (.tup [.int a, .int b]) (.ref p) := by
  unfold Den
  refine ⟨p, _, rfl, h, ?_⟩
  unfold Dens
  refine ⟨_, _, rfl, by unfold Den; rfl, ?_⟩
  unfold Dens
  refine ⟨_, _, rfl, by unfold Den; rfl, ?_⟩
  unfold Dens
  rfl
theorem cmp2 {k : Nat} (a b c d : Int) : Cmp (k + 1) (.tup [.int a, .int b]) (.tup [.int c, .int d]) := by
  intro j x y h1 h2
  match j, h1, h2 with
  | 0, h1, h2 => cases h1; cases h2; cases k <;> exact trivial
  | 1, h1, h2 => cases h1; cases h2; cases k <;> exact trivial
  | j + 2, h1, h2 => simp at h1
theorem dt2 (a b c d : Int) : (Dt.tup [.int a, .int b] = Dt.tup [.int c, .int d]) ↔ (a = c ∧ b = d) := by
  constructor
  · intro h
    injection h with h
    injection h with h1 h2
    injection h1 with h1
    injection h2 with h2 _
    injection h2 with h2
    exact ⟨h1, h2⟩
  · rintro ⟨rfl, rfl⟩
    rfl
section
variable {X : Cx}
def rEqP : R2 := fun x y H Q => ∃ p q a b c d, x = .ref p ∧ y = .ref q ∧ H p = some (.tup [.int a, .int b]) ∧ H q = some (.tup [.int c, .int d]) ∧ Q (.bl (decide (a = c ∧ b = d))) H
def rNeP : R2 := fun x y H Q => ∃ p q a b c d, x = .ref p ∧ y = .ref q ∧ H p = some (.tup [.int a, .int b]) ∧ H q = some (.tup [.int c, .int d]) ∧ Q (.bl (!decide (a = c ∧ b = d))) H
open Classical in
theorem op_eqP (hu : X.A.units + 64 < cLine) : OpR X (compareOp .Eq) rEqP := by
  intro pins s σ H x y v u Q I rx ry h
  obtain ⟨p, q, a, b, c, d, rfl, rfl, h1, h2, h3⟩ := h
  refine op_eqD hu pins s σ H _ _ v u Q I rx ry ⟨_, _, den2 h1, den2 h2, cmp2 a b c d, ?_⟩
  have e : decide (Dt.tup [.int a, .int b] = Dt.tup [.int c, .int d]) = decide (a = c ∧ b = d) := by rw [decide_eq_decide]; exact dt2 a b c d
  rw [e]
  exact h3
open Classical in
theorem op_neP (hu : X.A.units + 64 < cLine) : OpR X (compareOp .NotEq) rNeP := by
  intro pins s σ H x y v u Q I rx ry h
  obtain ⟨p, q, a, b, c, d, rfl, rfl, h1, h2, h3⟩ := h
  refine op_neD hu pins s σ H _ _ v u Q I rx ry ⟨_, _, den2 h1, den2 h2, cmp2 a b c d, ?_⟩
  have e : decide (Dt.tup [.int a, .int b] = Dt.tup [.int c, .int d]) = decide (a = c ∧ b = d) := by rw [decide_eq_decide]; exact dt2 a b c d
  rw [e]
  exact h3
theorem rEqP_ap {x y : V} {H : Hp} {Q : VK} : rEqP x y H Q = ∃ p q a b c d, x = .ref p ∧ y = .ref q ∧ H p = some (.tup [.int a, .int b]) ∧ H q = some (.tup [.int c, .int d]) ∧ Q (.bl (decide (a = c ∧ b = d))) H := propext Iff.rfl
theorem rNeP_ap {x y : V} {H : Hp} {Q : VK} : rNeP x y H Q = ∃ p q a b c d, x = .ref p ∧ y = .ref q ∧ H p = some (.tup [.int a, .int b]) ∧ H q = some (.tup [.int c, .int d]) ∧ Q (.bl (!decide (a = c ∧ b = d))) H := propext Iff.rfl
end
end L2
namespace L2
open PySem PySem.Spec PyProof.Rows
section
variable {X : Cx}
end
theorem qi_listK {X : Cx} {K : PySem.W.Frag} {e tg : Expr} {te : TE} (hK : X.K = K) (hl : QE X e te) : QI X tg e (iList K te) := hK ▸ qi_list hl
section
variable {H : Hp} {Q : VK} {v : V} {l : St}
end
end L2
namespace L2
open PySem PySem.Spec PyProof.Rows
section
variable {X : Cx}
end
section
variable {X : Cx} {a b : Expr} {t : TA} {p pos tp : Pos} {elts : List Expr} {k : Nat}
end
end L2
namespace L2
open PySem PySem.Spec PyProof.Rows
section
variable {X : Cx}
end
end L2
namespace L2
open PySem PySem.Spec PyProof.Rows
section
variable {X : Cx} {o e : Expr} {es : List Expr} {to : TE} {t : TA} {name : Str} {apos cpos : Pos} {T id : String} {r : V → List V → Hp → VK → Prop}
end
end L2
namespace L2
end L2
namespace L2
open PySem
end L2
namespace L2
open PySem
end L2
namespace L2
end L2
namespace L2
end L2
set_option maxHeartbeats 4000000
namespace Srt
open PySem PyProof.Rows
abbrev PS := Array Nat × Array (Nat × Nat × Nat) × Nat
abbrev TW (β : Type) := PS → Option (β × PS)
abbrev enc (k : Nat → Keyed) (t : PS) : SortSt := SortSt.mk' oneType' (t.1.map k) t.2.1 t.2.2 none
structure Asked (P : Program) (w : World) (A : Around) (s : Shared) (k : Nat → Keyed) (c : Nat → Nat → Bool) (N : Nat) : Prop where
  lt : ∀ i j, i < N → j < N → ∀ (E : Value → Shared → Prop) (Q : Bool → Shared → Prop), Q (c i j) s → wpAny (model P w) A (oneLt' true (k i).1 (k j).1) Q E s
structure Sim (c : Nat → Nat → Bool) (N : Nat) {α β : Type} (φ : (Nat → Keyed) → β → α) (m : (Nat → Keyed) → StateT SortSt Sem α) (n : TW β) : Prop where
  run : ∀ (P : Program) (w : World) (A : Around) (E : Value → Shared → Prop) (s : Shared) (k : Nat → Keyed), Asked P w A s k c N → ∀ t b t', n t = some (b, t') → wpS (model P w) A E s (m k) (fun a st => a = φ k b ∧ st = enc k t') (enc k t)
section
variable {c : Nat → Nat → Bool} {N : Nat} {α β γ δ : Type}
def tpure (b : β) : TW β := fun t => some (b, t)
def tbind (n : TW β) (g : β → TW δ) : TW δ := fun t => match n t with
  | none => none
  | some (b, t') => g b t'
def tfor (f : Nat → β → TW (ForInStep β)) : List Nat → β → TW β
  | [], b => tpure b
  | x :: l, b => fun t => match f x b t with
    | none => none
    | some (.done b', t') => some (b', t')
    | some (.yield b', t') => tfor f l b' t'
def tite (p : Prop) [Decidable p] (x y : TW β) : TW β := fun t => if p then x t else y t
def tnone : TW β := fun _ => none
def tget : TW PS := fun t => some (t, t)
def tmod (f : PS → PS) : TW Unit := fun t => some ((), f t)
def tlt (c : Nat → Nat → Bool) (N i j : Nat) : TW Bool := fun t => if i < N ∧ j < N then some (c i j, t) else none
def tel (p : Array Nat) (i : Nat) : TW Nat := fun t => match p[i]? with
  | none => none
  | some j => some (j, t)
abbrev ident : (Nat → Keyed) → β → β := fun _ b => b
theorem sim_pure (b : β) : Sim c N ident (fun _ => pure b) (tpure b) := by
  refine ⟨?_⟩
  intro P w A E s k h t b' t' e
  cases e
  exact wpS_pure ⟨rfl, rfl⟩
theorem sim_pureV {φ : (Nat → Keyed) → β → α} {v : (Nat → Keyed) → α} (b : β) (hv : ∀ k, v k = φ k b) : Sim c N φ (fun k => pure (v k)) (tpure b) := by
  refine ⟨?_⟩
  intro P w A E s k h t b' t' e
  cases e
  exact wpS_pure ⟨hv k, rfl⟩
theorem sim_bind {φ : (Nat → Keyed) → β → α} {ψ : (Nat → Keyed) → δ → γ} {m : (Nat → Keyed) → StateT SortSt Sem α} {f : (Nat → Keyed) → α → StateT SortSt Sem γ} {n : TW β} {g : β → TW δ}
    (h1 : Sim c N φ m n) (h2 : ∀ b, Sim c N ψ (fun k => f k (φ k b)) (g b)) : Sim c N ψ (fun k => m k >>= f k) (tbind n g) := by
  refine ⟨?_⟩
  intro P w A E s k h t b t' e
  unfold tbind at e
  cases e1 : n t with
  | none => rw [e1] at e; cases e
  | some r =>
    obtain ⟨b1, t1⟩ := r
    rw [e1] at e
    refine wpS_bind (wpS_mono (h1.run P w A E s k h t b1 t1 e1) fun a st ⟨ea, es⟩ => ?_)
    rw [ea, es]
    exact (h2 b1).run P w A E s k h t1 b t' e
theorem sim_ite {φ : (Nat → Keyed) → β → α} {p : Prop} {d : (Nat → Keyed) → Decidable p} [Decidable p] {m1 m2 : (Nat → Keyed) → StateT SortSt Sem α} {n1 n2 : TW β} (h1 : Sim c N φ m1 n1) (h2 : Sim c N φ m2 n2) : Sim c N φ (fun k => @ite _ p (d k) (m1 k) (m2 k)) (tite p n1 n2) := by
  refine ⟨?_⟩
  intro P w A E s k h t b t' e
  unfold tite at e
  by_cases hp : p
  · rw [if_pos hp] at e
    simp only [if_pos hp]
    exact h1.run P w A E s k h t b t' e
  · rw [if_neg hp] at e
    simp only [if_neg hp]
    exact h2.run P w A E s k h t b t' e
theorem sim_none {φ : (Nat → Keyed) → β → α} {m : (Nat → Keyed) → StateT SortSt Sem α} : Sim c N φ m tnone := ⟨fun _ _ _ _ _ _ _ _ _ _ e => nomatch e⟩
theorem sim_get : Sim c N enc (fun _ => get) tget := by
  refine ⟨?_⟩
  intro P w A E s k h t b' t' e
  cases e
  exact wpS_get ⟨rfl, rfl⟩
theorem sim_mod {f : SortSt → SortSt} (f' : PS → PS) (hf : ∀ k t, f (enc k t) = enc k (f' t)) : Sim c N ident (fun _ => modify f) (tmod f') := by
  refine ⟨?_⟩
  intro P w A E s k h t b' t' e
  cases e
  exact wpS_modify ⟨rfl, hf k t⟩
theorem sim_rule {x : String} : Sim c N ident (fun _ => (liftM (rule x) : StateT SortSt Sem Unit)) (tpure ()) := by
  refine ⟨?_⟩
  intro P w A E s k h t b' t' e
  cases e
  exact wpS_lift (wpAny_rule ⟨rfl, rfl, rfl⟩)
theorem sim_lt {i j : Nat} : Sim c N (fun _ b => some b) (fun k => lt' (k i) (k j)) (tlt c N i j) := by
  refine ⟨?_⟩
  intro P w A E s k h t b' t' e
  unfold tlt at e
  split at e
  case isFalse => cases e
  rename_i hij
  cases e
  try dsimp only
  rw [lt'_eq]
  refine wpS_bind (wpS_get ?_)
  show wpS _ _ _ _ (do let r ← (keyLt' oneType' (k i).1 (k j).1).attempt; _) _ _
  rw [keyLt'_oneType]
  refine wpS_bind (wpS_lift (wpAny_attempt (h.lt i j hij.1 hij.2 _ _ ⟨rfl, ?_⟩)))
  exact wpS_pure ⟨rfl, rfl⟩
theorem sim_el {p : Array Nat} {i : Nat} : Sim c N (fun k j => k j) (fun k => elem' (p.map k) i) (tel p i) := by
  refine ⟨?_⟩
  intro P w A E s k h t b' t' e
  unfold tel at e
  try dsimp only
  rw [elem'_eq]
  cases e1 : p[i]? with
  | none => rw [e1] at e; cases e
  | some j =>
    rw [e1] at e
    cases e
    rw [Array.getElem?_map, e1]
    exact wpS_pure ⟨rfl, rfl⟩
def stepM (φ : (Nat → Keyed) → β → α) (k : Nat → Keyed) : ForInStep β → ForInStep α
  | .done b => .done (φ k b)
  | .yield b => .yield (φ k b)
theorem sim_forL {φ : (Nat → Keyed) → β → α} {F : (Nat → Keyed) → Nat → α → StateT SortSt Sem (ForInStep α)} {f : Nat → β → TW (ForInStep β)} (h : ∀ x b, Sim c N (stepM φ) (fun k => F k x (φ k b)) (f x b)) :
    ∀ (l : List Nat) (b : β), Sim c N φ (fun k => forIn l (φ k b) (F k)) (tfor f l b)
  | [], b => by
    refine ⟨?_⟩
    intro P w A E s k ha t b' t' e
    cases e
    simp only [List.forIn_nil]
    exact wpS_pure ⟨rfl, rfl⟩
  | x :: l, b => by
    refine ⟨?_⟩
    intro P w A E s k ha t b' t' e
    simp only [List.forIn_cons]
    unfold tfor at e
    cases e1 : f x b t with
    | none => rw [e1] at e; cases e
    | some r =>
      obtain ⟨r, t1⟩ := r
      rw [e1] at e
      refine wpS_bind (wpS_mono ((h x b).run P w A E s k ha t r t1 e1) fun a st ⟨ea, es⟩ => ?_)
      rw [ea, es]
      cases r with
      | done b1 =>
        cases e
        exact wpS_pure ⟨rfl, rfl⟩
      | yield b1 => exact (sim_forL h l b1).run P w A E s k ha t1 b' t' e
theorem sim_for {φ : (Nat → Keyed) → β → α} {F : (Nat → Keyed) → Nat → α → StateT SortSt Sem (ForInStep α)} {f : Nat → β → TW (ForInStep β)} {a b : Nat} {v : (Nat → Keyed) → α} (b0 : β) (hv : ∀ k, v k = φ k b0) (h : ∀ x b, Sim c N (stepM φ) (fun k => F k x (φ k b)) (f x b)) :
    Sim c N φ (fun k => forIn [a:b] (v k) (F k)) (tfor f (List.range' a (b - a)) b0) := by
  refine ⟨?_⟩
  intro P w A E s k ha t b' t' e
  have := (sim_forL h _ b0).run P w A E s k ha t b' t' e
  try dsimp only
  rw [hv k, Std.Legacy.Range.forIn_eq_forIn_range']
  have hsz : ([a:b] : Std.Legacy.Range).size = b - a := by simp [Std.Legacy.Range.size]
  show wpS _ _ _ _ (forIn (List.range' a ([a:b] : Std.Legacy.Range).size 1) _ _) _ _
  rw [hsz]
  exact this
theorem sim_forI {F : (Nat → Keyed) → Nat → β → StateT SortSt Sem (ForInStep β)} {f : Nat → β → TW (ForInStep β)} {a b : Nat} {b0 : β} (h : ∀ x b, Sim c N (stepM ident) (fun k => F k x b) (f x b)) :
    Sim c N ident (fun k => forIn [a:b] b0 (F k)) (tfor f (List.range' a (b - a)) b0) := sim_for b0 (fun _ => rfl) h
theorem sim_done (b : β) : Sim c N (stepM ident) (fun _ => pure (ForInStep.done b)) (tpure (.done b)) := sim_pureV _ fun _ => rfl
theorem sim_yield (b : β) : Sim c N (stepM ident) (fun _ => pure (ForInStep.yield b)) (tpure (.yield b)) := sim_pureV _ fun _ => rfl
def tcase {ρ τ : Type} (g1 : ρ → τ → TW δ) (g2 : τ → TW δ) : Option ρ × τ → TW δ
  | (some r, y) => g1 r y
  | (none, y) => g2 y
theorem sim_case {ρ τ : Type} {ψ : (Nat → Keyed) → δ → γ} {f : (Nat → Keyed) → Option ρ × τ → StateT SortSt Sem γ} {g1 : ρ → τ → TW δ} {g2 : τ → TW δ} (h1 : ∀ r y, Sim c N ψ (fun k => f k (some r, y)) (g1 r y)) (h2 : ∀ y, Sim c N ψ (fun k => f k (none, y)) (g2 y)) :
    ∀ b, Sim c N ψ (fun k => f k b) (tcase g1 g2 b)
  | (some r, y) => h1 r y
  | (none, y) => h2 y
theorem sim_ltAt {i j : Nat} : Sim c N (fun _ b => some b) (fun _ => ltAt' i j) (fun t => tbind (tel t.1 i) (fun x => tbind (tel t.1 j) (tlt c N x)) t) := by
  refine ⟨?_⟩
  intro P w A E s k h t b' t' e
  try dsimp only
  rw [ltAt'_eq]
  refine wpS_bind (wpS_get ?_)
  have g : Sim c N (fun _ b => some b) (fun k => do let x ← elem' (t.1.map k) i; let y ← elem' (t.1.map k) j; lt' x y) (tbind (tel t.1 i) (fun x => tbind (tel t.1 j) (tlt c N x))) := sim_bind sim_el fun x => sim_bind sim_el fun y => sim_lt
  exact g.run P w A E s k h t b' t' e
theorem swap_map (k : Nat → Keyed) (xs : Array Nat) (i j : Nat) : (xs.map k).swapIfInBounds i j = (xs.swapIfInBounds i j).map k := by
  by_cases hi : i < xs.size
  · by_cases hj : j < xs.size
    · apply Array.ext_getElem?
      intro q
      rw [getElem?_swapIB (by rw [Array.size_map]; exact hi) (by rw [Array.size_map]; exact hj)]
      simp only [Array.getElem?_map]
      rw [getElem?_swapIB hi hj]
      by_cases h1 : j = q <;> by_cases h2 : i = q <;> simp [h1, h2]
    · simp [Array.swapIfInBounds_def, hi, hj]
  · simp [Array.swapIfInBounds_def, hi]
theorem mirror_map (k : Nat → Keyed) (xs : Array Nat) (i j d : Nat) : mirror (xs.map k) i j d = (mirror xs i j d).map k := by
  have go : ∀ (l : List Nat) (xs : Array Nat), l.foldl (fun a q => a.swapIfInBounds (i + q) (j - 1 - q)) (xs.map k) = (l.foldl (fun a q => a.swapIfInBounds (i + q) (j - 1 - q)) xs).map k := by
    intro l
    induction l with
    | nil => intro xs; rfl
    | cons x l ih => intro xs; simp only [List.foldl_cons]; rw [swap_map, ih]
  exact go _ _
theorem bubble_map (k : Nat → Keyed) (xs : Array Nat) (src d : Nat) : bubble (xs.map k) src d = (bubble xs src d).map k := by
  have go : ∀ (l : List Nat) (xs : Array Nat), l.foldl (fun a q => a.swapIfInBounds (src - q) (src - q - 1)) (xs.map k) = (l.foldl (fun a q => a.swapIfInBounds (src - q) (src - q - 1)) xs).map k := by
    intro l
    induction l with
    | nil => intro xs; rfl
    | cons x l ih => intro xs; simp only [List.foldl_cons]; rw [swap_map, ih]
  exact go _ _
end
end Srt
set_option maxHeartbeats 4000000
namespace Srt
open PySem PyProof.Rows
variable {c : Nat → Nat → Bool} {N : Nat}
theorem sim_moveDown {src dst : Nat} : Sim c N ident (fun _ => moveDown' src dst) (tmod fun t => (bubble t.1 src (src - dst), t.2)) := by
  simp only [moveDown'_eq]
  exact sim_mod _ fun k t => by
    show SortSt.mk' oneType' (bubble (t.1.map k) src (src - dst)) t.2.1 t.2.2 none = _
    rw [bubble_map]
theorem sim_reverse {i j : Nat} : Sim c N ident (fun _ => reverseSlice' i j) (tmod fun t => (mirror t.1 i j ((j - i) / 2), t.2)) := by
  simp only [reverseSlice'_eq]
  exact sim_mod _ fun k t => by
    show SortSt.mk' oneType' (mirror (t.1.map k) i j ((j - i) / 2)) t.2.1 t.2.2 none = _
    rw [mirror_map]
def mkS {α β : Type} {φ : (Nat → Keyed) → β → α} {m : (Nat → Keyed) → StateT SortSt Sem α} {n : TW β} (h : Sim c N φ m n) : { n : TW β // Sim c N φ m n } := ⟨n, h⟩
def binS (c : Nat → Nat → Bool) (N lo n ok : Nat) : { m : TW Bool // Sim c N ident (fun _ => binarySort' lo n ok) m } := by
  apply mkS
  · simp only [binarySort'_eq]
    repeat' (first
      | with_reducible exact sim_done _ | with_reducible exact sim_yield _ | with_reducible exact sim_pure _ | with_reducible exact sim_ltAt | with_reducible exact sim_moveDown | with_reducible exact sim_reverse | with_reducible exact sim_rule | with_reducible exact sim_el | with_reducible exact sim_lt
      | apply sim_ite | with_reducible apply sim_forI | with_reducible apply sim_case | with_reducible apply sim_bind | (intro _; try dsimp only [ident]))
def countS (c : Nat → Nat → Bool) (N lo nrem : Nat) : { m : TW (Option Nat) // Sim c N ident (fun _ => countRun' lo nrem) m } := by
  apply mkS
  · simp only [countRun'_eq]
    repeat' (first
      | with_reducible exact sim_done _ | with_reducible exact sim_yield _ | with_reducible exact sim_pure _ | with_reducible exact sim_ltAt | with_reducible exact sim_moveDown | with_reducible exact sim_reverse | with_reducible exact sim_rule | with_reducible exact sim_el | with_reducible exact sim_lt
      | apply sim_ite | with_reducible apply sim_forI | with_reducible apply sim_case | with_reducible apply sim_bind | (intro _; try dsimp only [ident]))
end Srt
set_option maxHeartbeats 4000000
namespace Srt
open PySem PyProof.Rows
variable {c : Nat → Nat → Bool} {N : Nat}
def gallop' : Bool → Keyed → Array Keyed → Nat → Nat → Nat → StateT SortSt Sem (Option Nat) := sortPriv% PySem.Builtin.gallop
def mergeLo' : Array Keyed → Array Keyed → StateT SortSt Sem (Array Keyed) := sortPriv% PySem.Builtin.mergeLo
def setMinGallop' : Nat → StateT SortSt Sem Unit := sortPriv% PySem.Builtin.setMinGallop
def tbey (c : Nat → Nat → Bool) (N : Nat) (left : Bool) (p : Array Nat) (i j : Nat) : TW Bool := tbind (tel p i) fun x => tite (left = true) (tlt c N x j) (tbind (tlt c N j x) fun r => tpure (!r))
theorem sim_beyond {left : Bool} {p : Array Nat} {i j : Nat} : Sim c N (fun _ b => some b) (fun k => elem' (p.map k) i >>= fun x => if left = true then lt' x (k j) else lt' (k j) x >>= fun r => pure (Option.map (fun x => !x) r)) (tbey c N left p i j) := by
  unfold tbey
  apply sim_bind
  · exact sim_el
  · intro x
    apply sim_ite
    · exact sim_lt
    · apply sim_bind
      · exact sim_lt
      · intro r
        exact sim_pureV (φ := fun _ b => some b) (!r) fun _ => rfl
def topt {ρ δ : Type} (g1 : ρ → TW δ) (g2 : TW δ) : Option ρ → TW δ
  | some r => g1 r
  | none => g2
theorem sim_opt {ρ δ γ : Type} {ψ : (Nat → Keyed) → δ → γ} {f : (Nat → Keyed) → Option ρ → StateT SortSt Sem γ} {g1 : ρ → TW δ} {g2 : TW δ} (h1 : ∀ r, Sim c N ψ (fun k => f k (some r)) (g1 r)) (h2 : Sim c N ψ (fun k => f k none) g2) : ∀ b, Sim c N ψ (fun k => f k b) (topt g1 g2 b)
  | some r => h1 r
  | none => h2
def gallopS (c : Nat → Nat → Bool) (N : Nat) (left : Bool) (j : Nat) (p : Array Nat) (base n hint : Nat) : { m : TW (Option Nat) // Sim c N ident (fun k => gallop' left (k j) (p.map k) base n hint) m } := by
  apply mkS
  · apply sim_bind
    · exact sim_beyond
    · intro b
      dsimp only
      repeat' (first
        | with_reducible exact sim_done _ | with_reducible exact sim_yield _ | with_reducible exact sim_pure _ | exact sim_beyond
        | apply sim_ite | with_reducible apply sim_forI | with_reducible apply sim_case | with_reducible apply sim_bind | (intro _; try dsimp only [ident]))
theorem sim_gallop {left : Bool} {j : Nat} {p : Array Nat} {base n hint : Nat} : Sim c N ident (fun k => gallop' left (k j) (p.map k) base n hint) (gallopS c N left j p base n hint).1 := (gallopS c N left j p base n hint).2
theorem sim_setMG {g : Nat} : Sim c N ident (fun _ => setMinGallop' g) (tmod fun t => (t.1, t.2.1, g)) := sim_mod _ fun k t => rfl
theorem sim_unsup {α β : Type} {φ : (Nat → Keyed) → β → α} {x : String} : Sim c N φ (fun _ => (liftM (unsupported x : Sem α) : StateT SortSt Sem α)) tnone := sim_none
abbrev phA : (Nat → Keyed) → Array Nat → Array Keyed := fun k p => Array.map k p
def phM {τ : Type} : (Nat → Keyed) → Option (Array Nat) × Array Nat × τ → Option (Array Keyed) × Array Keyed × τ := fun k r => (r.1.map (Array.map k), Array.map k r.2.1, r.2.2)
theorem phM_ap {τ : Type} (k : Nat → Keyed) (r : Option (Array Nat) × Array Nat × τ) : phM k r = (r.1.map (Array.map k), Array.map k r.2.1, r.2.2) := rfl
theorem nm1 (k : Nat → Keyed) (o : Array Nat) (j : Nat) : (Array.map k o).push (k j) = Array.map k (o.push j) := by simp
theorem nm2 (k : Nat → Keyed) (o : Array Nat) (i j : Nat) : (Array.map k o).extract i j = Array.map k (o.extract i j) := by simp
theorem nm3 (k : Nat → Keyed) (o q : Array Nat) : Array.map k o ++ Array.map k q = Array.map k (o ++ q) := by simp
theorem nm4 (k : Nat → Keyed) (o : Array Nat) : (Array.map k o).size = o.size := by simp
theorem nm5 (k : Nat → Keyed) (j : Nat) : (#[k j] : Array Keyed) = Array.map k #[j] := by simp
section
variable {τ δ γ : Type}
theorem simM_for {F : (Nat → Keyed) → Nat → (Option (Array Keyed) × Array Keyed × τ) → StateT SortSt Sem (ForInStep (Option (Array Keyed) × Array Keyed × τ))} {f : Nat → (Option (Array Nat) × Array Nat × τ) → TW (ForInStep (Option (Array Nat) × Array Nat × τ))} {a b : Nat} {p0 : Array Nat} {y0 : τ}
    (h : ∀ x b, Sim c N (stepM phM) (fun k => F k x (phM k b)) (f x b)) : Sim c N phM (fun k => forIn [a:b] (none, Array.map k p0, y0) (F k)) (tfor f (List.range' a (b - a)) (none, p0, y0)) := sim_for (none, p0, y0) (fun _ => rfl) h
theorem simM_done0 {o : Array Nat} {y : τ} : Sim c N (stepM phM) (fun k => pure (ForInStep.done (none, Array.map k o, y))) (tpure (.done (none, o, y))) := sim_pureV _ fun _ => rfl
theorem simM_done1 {r o : Array Nat} {y : τ} : Sim c N (stepM phM) (fun k => pure (ForInStep.done (some (Array.map k r), Array.map k o, y))) (tpure (.done (some r, o, y))) := sim_pureV _ fun _ => rfl
theorem simM_yield {o : Array Nat} {y : τ} : Sim c N (stepM phM) (fun k => pure (ForInStep.yield (none, Array.map k o, y))) (tpure (.yield (none, o, y))) := sim_pureV _ fun _ => rfl
theorem simM_pure {r : Array Nat} : Sim c N phA (fun k => pure (Array.map k r)) (tpure r) := sim_pureV _ fun _ => rfl
def tcaseM (g1 : Array Nat → Array Nat → τ → TW δ) (g2 : Array Nat → τ → TW δ) : Option (Array Nat) × Array Nat × τ → TW δ
  | (some r, o, y) => g1 r o y
  | (none, o, y) => g2 o y
theorem simM_case {ψ : (Nat → Keyed) → δ → γ} {f : (Nat → Keyed) → Option (Array Keyed) × Array Keyed × τ → StateT SortSt Sem γ} {g1 : Array Nat → Array Nat → τ → TW δ} {g2 : Array Nat → τ → TW δ} (h1 : ∀ r o y, Sim c N ψ (fun k => f k (some (Array.map k r), Array.map k o, y)) (g1 r o y)) (h2 : ∀ o y, Sim c N ψ (fun k => f k (none, Array.map k o, y)) (g2 o y)) :
    ∀ b, Sim c N ψ (fun k => f k (phM k b)) (tcaseM g1 g2 b)
  | (some r, o, y) => h1 r o y
  | (none, o, y) => h2 o y
theorem simM_bind {ψ : (Nat → Keyed) → δ → γ} {m : (Nat → Keyed) → StateT SortSt Sem (Option (Array Keyed) × Array Keyed × τ)} {f : (Nat → Keyed) → Option (Array Keyed) × Array Keyed × τ → StateT SortSt Sem γ} {n : TW (Option (Array Nat) × Array Nat × τ)} {g1 : Array Nat → Array Nat → τ → TW δ} {g2 : Array Nat → τ → TW δ}
    (h : Sim c N phM m n) (h1 : ∀ r o y, Sim c N ψ (fun k => f k (some (Array.map k r), Array.map k o, y)) (g1 r o y)) (h2 : ∀ o y, Sim c N ψ (fun k => f k (none, Array.map k o, y)) (g2 o y)) :
    Sim c N ψ (fun k => m k >>= f k) (tbind n (tcaseM g1 g2)) := sim_bind h (simM_case h1 h2)
end
def mergeS (c : Nat → Nat → Bool) (N : Nat) (a b : Array Nat) : { m : TW (Array Nat) // Sim c N phA (fun k => mergeLo' (a.map k) (b.map k)) m } := by
  apply mkS
  · apply sim_bind
    · exact sim_rule
    · intro _
      dsimp only
      apply sim_bind
      · exact sim_el
      · intro j
        try dsimp only
        simp only [nm1, nm2, nm3, nm4, nm5]
        repeat' (first
          | exact sim_rule | exact sim_unsup | exact sim_setMG | exact sim_el | exact sim_lt | exact sim_gallop | exact sim_get
          | apply sim_ite | with_reducible apply simM_for | with_reducible apply sim_opt | with_reducible apply simM_bind | with_reducible apply sim_bind | exact simM_done0 | exact simM_done1 | exact simM_yield | exact simM_pure | (simp only [nm1, nm2, nm3, nm4, nm5]; first | exact simM_done0 | exact simM_done1 | exact simM_yield | exact simM_pure | apply sim_ite | with_reducible apply simM_bind | with_reducible apply sim_bind | with_reducible apply simM_for) | (intro _; try dsimp only [ident, enc, phM_ap]; try simp only [nm1, nm2, nm3, nm4, nm5]))
end Srt
set_option maxHeartbeats 4000000
namespace Srt
open PySem PyProof.Rows
def sub (i : Nat) : List Int := ((List.range 6).filter fun b => i.testBit b).map Int.ofNat
def llt : List Int → List Int → Bool
  | [], [] => false
  | [], _ :: _ => true
  | _ :: _, [] => false
  | x :: xs, y :: ys => if x = y then llt xs ys else decide (x < y)
def cmp (i j : Nat) : Bool := llt (sub i) (sub j)
def a1 : Array Nat := #[0, 1, 3, 7, 15, 31, 23, 11, 27, 19, 5, 13, 29, 21, 9, 25, 17, 2, 6, 14, 30, 22, 10, 26, 18, 4, 12, 28, 20, 8, 24, 16, 32, 33, 34, 35, 36, 37, 38, 39, 40, 41, 42, 43, 44, 45, 46, 47, 48, 49, 50, 51, 52, 53, 54, 55, 56, 57, 58, 59, 60, 61, 62, 63]
def a3 : Array Nat := #[0, 1, 3, 7, 15, 31, 23, 11, 27, 19, 5, 13, 29, 21, 9, 25, 17, 2, 6, 14, 30, 22, 10, 26, 18, 4, 12, 28, 20, 8, 24, 16, 33, 32, 34, 35, 36, 37, 38, 39, 40, 41, 42, 43, 44, 45, 46, 47, 48, 49, 50, 51, 52, 53, 54, 55, 56, 57, 58, 59, 60, 61, 62, 63]
def a4 : Array Nat := #[0, 1, 3, 7, 15, 31, 23, 11, 27, 19, 5, 13, 29, 21, 9, 25, 17, 2, 6, 14, 30, 22, 10, 26, 18, 4, 12, 28, 20, 8, 24, 16, 63, 47, 55, 39, 59, 43, 51, 35, 61, 45, 53, 37, 57, 41, 49, 33, 62, 46, 54, 38, 58, 42, 50, 34, 60, 44, 52, 36, 56, 40, 48, 32]
def order : Array Nat := #[0, 1, 3, 7, 15, 31, 63, 47, 23, 55, 39, 11, 27, 59, 43, 19, 51, 35, 5, 13, 29, 61, 45, 21, 53, 37, 9, 25, 57, 41, 17, 49, 33, 2, 6, 14, 30, 62, 46, 22, 54, 38, 10, 26, 58, 42, 18, 50, 34, 4, 12, 28, 60, 44, 20, 52, 36, 8, 24, 56, 40, 16, 48, 32]
def t0 : PS := ((List.range 64).toArray, #[], 7)
def t2 : PS := (a1, #[(0, 32, 0)], 7)
def t4 : PS := (a4, #[(0, 32, 0)], 7)
def t6 : PS := (a4, #[(0, 64, 1)], 7)
theorem e0 : (countS cmp 64 0 64).1 t0 = some (some 3, t0) := by kernel_rfl
theorem e1 : (binS cmp 64 0 32 3).1 t0 = some (true, (a1, #[], 7)) := by kernel_rfl
theorem e2 : (countS cmp 64 32 32).1 t2 = some (some 2, (a3, #[(0, 32, 0)], 7)) := by kernel_rfl
theorem e3 : (binS cmp 64 32 32 2).1 (a3, #[(0, 32, 0)], 7) = some (true, t4) := by kernel_rfl
theorem e4 : (gallopS cmp 64 false (a4.getD 32 0) a4 0 32 0).1 t6 = some (some 6, t6) := by kernel_rfl
def mg : Array Nat := order.extract 6 62
theorem e6 : (mergeS cmp 64 (a4.extract 6 32) (a4.extract 32 62)).1 t6 = some (mg, t6) := by kernel_rfl
section
variable {P : Program} {w : World} {A : Around} {E : Value → Shared → Prop} {s : Shared} {k : Nat → Keyed}
end
end Srt
set_option maxHeartbeats 4000000
namespace Srt
open PySem PyProof.Rows
section
variable {P : Program} {w : World} {A : Around} {E : Value → Shared → Prop} {s : Shared} {k : Nat → Keyed}
def o2 : Array Nat := #[0, 1]
theorem c2 : (countS cmp 2 0 2).1 ((List.range 2).toArray, #[], 7) = some (some 2, ((List.range 2).toArray, #[], 7)) := by kernel_rfl
def o4 : Array Nat := #[0, 1, 3, 2]
theorem b4 : (binS cmp 4 0 4 3).1 ((List.range 4).toArray, #[], 7) = some (true, (o4, #[], 7)) := by kernel_rfl
def o8 : Array Nat := #[0, 1, 3, 7, 5, 2, 6, 4]
theorem b8 : (binS cmp 8 0 8 3).1 ((List.range 8).toArray, #[], 7) = some (true, (o8, #[], 7)) := by kernel_rfl
end
end Srt
namespace L2
open PySem PySem.Spec PyProof.Rows Srt
section
variable {prog : Program} {w : World} {A : Around} {E : Value → Shared → Prop} {s : Shared}
end
end L2
namespace L2
open PySem PySem.Spec PyProof.Rows Srt
def ordL (n : Nat) : List Nat := order.toList.filter fun i => decide (i < n)
theorem ord_lt {n i : Nat} (h : i ∈ ordL n) : i < n := by
  unfold ordL at h
  exact of_decide_eq_true (List.mem_filter.mp h).2
section
variable {X : Cx}
end
end L2
namespace L2
open PySem PySem.Spec PyProof.Rows
section
variable {X : Cx}
end
end L2
namespace L2
open PySem
end L2
namespace Toy
open PySem L2
open PySem.Builtin.Int (intBits)
structure BagAt (H : Hp) (B L : Addr) : Prop where
  ex : ∃ ns i r salt, H B = some (.lst [.ref L, .int i, .int r, .int salt]) ∧ H L = some (.lst (List.map V.int ns)) ∧ (0 : Int) ≤ i
theorem BagAt.new {H : Hp} {B L p : Addr} {o : HO} (b : BagAt H B L) (hp : H p = none) : BagAt (upd H p o) B L := by
  obtain ⟨ns, i, r, salt, h1, h2, h3⟩ := b
  exact ⟨ns, i, r, salt, by rw [upd_ne (ne_of_none h1 hp)]; exact h1, by rw [upd_ne (ne_of_none h2 hp)]; exact h2, h3⟩
theorem BagAt.ne {H : Hp} {B L p : Addr} (b : BagAt H B L) (hp : H p = none) : p ≠ B := fun e => by
  obtain ⟨_, _, _, _, z, _⟩ := b
  rw [← e, hp] at z
  cases z
abbrev lowN (n u : Int) : Int := n / (Int.gcd n u : Int)
abbrev lowU (n u : Int) : Int := u / (Int.gcd n u : Int)
def RowAt (H : Hp) (xs : List V) (ps : List (Int × Int)) : Prop := xs.length = ps.length ∧ ∀ (i : Nat) p, ps[i]? = some p → ∃ r, xs[i]? = some (.ref r) ∧ H r = some (.tup [.int p.1, .int p.2]) ∧ 0 < p.2 ∧ Sz 100 p.1 ∧ Sz 31 p.2
theorem RowAt.same {H H' : Hp} {xs : List V} {ps : List (Int × Int)} (h : RowAt H xs ps) (s : Same H H') : RowAt H' xs ps := ⟨h.1, fun i p hp => by
  obtain ⟨r, e, h1, h2⟩ := h.2 i p hp
  exact ⟨r, e, s _ _ h1, h2⟩⟩
def TS (H H' : Hp) : Prop := ∀ b xs, H b = some (.tup xs) → H' b = some (.tup xs)
theorem TS.of {H H' : Hp} (s : Same H H') : TS H H' := fun b xs h => s b _ h
theorem TS.refl (H : Hp) : TS H H := fun _ _ h => h
theorem TS.trans {H H1 H2 : Hp} (a : TS H H1) (b : TS H1 H2) : TS H H2 := fun c xs h => b c xs (a c xs h)
theorem TS.lst {H : Hp} {l : Addr} {xs : List V} {o : HO} (h : H l = some (.lst xs)) : TS H (L2.upd H l o) := fun c ys hc => by
  rw [upd_ne (fun e => by rw [e, h] at hc; cases hc)]
  exact hc
theorem BagAt.neL {H : Hp} {B L p : Addr} (b : BagAt H B L) (hp : H p = none) : p ≠ L := fun e => by
  obtain ⟨_, _, _, _, _, z, _⟩ := b
  rw [← e, hp] at z
  cases z
theorem BagAt.keep {H H' : Hp} {B L : Addr} (b : BagAt H B L) (s : Same H H') : BagAt H' B L := by
  obtain ⟨ns, i, r, salt, h1, h2, h3⟩ := b
  exact ⟨ns, i, r, salt, s _ _ h1, s _ _ h2, h3⟩
theorem Fr1.of {H H' : Hp} {B : Addr} (s : Same H H') : Fr1 B H H' := fun b o _ h => s b o h
theorem RowAt.ts {H H' : Hp} {xs : List V} {ps : List (Int × Int)} (h : RowAt H xs ps) (s : TS H H') : RowAt H' xs ps := ⟨h.1, fun i p hp => by
  obtain ⟨r, e, h1, h2⟩ := h.2 i p hp
  exact ⟨r, e, s _ _ h1, h2⟩⟩
theorem RowAt.nil {H : Hp} : RowAt H [] [] := ⟨rfl, fun i p h => by simp at h⟩
structure Cl where
  n : Int
  u : Int
  hp : List Int
  rk : Int
def ClAt (H : Hp) (v : V) (c : Cl) : Prop := ∃ r p h, v = .ref r ∧ H r = some (.tup [.ref p, .ref h, .int c.rk]) ∧ H p = some (.tup [.int c.n, .int c.u]) ∧ H h = some (.tup (c.hp.map V.int))
theorem ClAt.ts {H H' : Hp} {v : V} {c : Cl} (h : ClAt H v c) (s : TS H H') : ClAt H' v c := by
  obtain ⟨r, p, k, e, h1, h2, h3⟩ := h
  exact ⟨r, p, k, e, s _ _ h1, s _ _ h2, s _ _ h3⟩
def ClsAt (H : Hp) (xs : List V) (cs : List Cl) : Prop := xs.length = cs.length ∧ ∀ (i : Nat) c, cs[i]? = some c → ∃ v, xs[i]? = some v ∧ ClAt H v c
theorem ClsAt.ts {H H' : Hp} {xs : List V} {cs : List Cl} (h : ClsAt H xs cs) (s : TS H H') : ClsAt H' xs cs := ⟨h.1, fun i c hc => by
  obtain ⟨v, e, h1⟩ := h.2 i c hc
  exact ⟨v, e, h1.ts s⟩⟩
theorem ClsAt.nil {H : Hp} : ClsAt H [] [] := ⟨rfl, fun i p h => by simp at h⟩
def HeapsAt (H : Hp) (xs : List V) (m : Int) : Prop := ∀ v ∈ xs, ∃ (t : Addr) (hs : List Int), v = .ref t ∧ H t = some (.tup (hs.map V.int)) ∧ (hs.length : Int) ≤ m ∧ ∀ x ∈ hs, 0 ≤ x ∧ x < m
theorem HeapsAt.ts {H H' : Hp} {xs : List V} {m : Int} (h : HeapsAt H xs m) (s : TS H H') : HeapsAt H' xs m := fun v hv => by
  obtain ⟨t, hs, e, h1, h2⟩ := h v hv
  exact ⟨t, hs, e, s _ _ h1, h2⟩
theorem HeapsAt.mono {H : Hp} {xs : List V} {m k : Int} (h : HeapsAt H xs m) (q : m ≤ k) : HeapsAt H xs k := fun v hv => by
  obtain ⟨t, hs, e, h1, h2, h3⟩ := h v hv
  exact ⟨t, hs, e, h1, by omega, fun x hx => ⟨(h3 x hx).1, Int.lt_of_lt_of_le (h3 x hx).2 q⟩⟩
theorem gcd_step {g l : Int} (hl : 0 < l) : Int.gcd l (g % l) = Int.gcd g l := by
  rw [Int.gcd_comm g l]
  have e : g = g % l + l * (g / l) := (Int.emod_add_mul_ediv g l).symm
  conv => rhs; rw [e]
  rw [Int.gcd_add_mul_left_right]
theorem gcd_pos {n u : Int} (hu : 0 < u) : 0 < (Int.gcd n u : Int) := by
  have : 0 < Int.gcd n u := Int.gcd_pos_of_ne_zero_right n (by omega)
  omega
theorem natAbs_div_le (a b : Int) : (a / b).natAbs ≤ a.natAbs := by
  by_cases h : 0 ≤ b
  · have := PySem.natAbs_fdiv_le a b
    rwa [Int.fdiv_eq_ediv_of_nonneg a h] at this
  · have e : a / b = -(a / -b) := by rw [Int.ediv_neg, Int.neg_neg]
    rw [e, Int.natAbs_neg]
    have := PySem.natAbs_fdiv_le a (-b)
    rwa [Int.fdiv_eq_ediv_of_nonneg a (by omega)] at this
theorem low_red (n : Int) {u : Int} (hu : 0 < u) : 1 ≤ u / (Int.gcd n u : Int) ∧ Int.gcd (n / (Int.gcd n u : Int)) (u / (Int.gcd n u : Int)) = 1 ∧ n / (Int.gcd n u : Int) * u = n * (u / (Int.gcd n u : Int)) ∧ 0 < u / (Int.gcd n u : Int) := by
  have hg := gcd_pos (n := n) hu
  have d1 : (Int.gcd n u : Int) ∣ n := Int.gcd_dvd_left n u
  have d2 : (Int.gcd n u : Int) ∣ u := Int.gcd_dvd_right n u
  have e1 := Int.ediv_mul_cancel d1
  have e2 := Int.ediv_mul_cancel d2
  have p : 0 < u / (Int.gcd n u : Int) := by
    by_cases h : 0 < u / (Int.gcd n u : Int)
    · exact h
    · have : u / (Int.gcd n u : Int) * (Int.gcd n u : Int) ≤ 0 := Int.mul_nonpos_of_nonpos_of_nonneg (by omega) (by omega)
      omega
  refine ⟨p, Int.gcd_ediv_gcd_ediv_gcd (by omega), ?_, p⟩
  generalize n / (Int.gcd n u : Int) = a at e1
  generalize u / (Int.gcd n u : Int) = b at e2
  generalize (Int.gcd n u : Int) = g at e1 e2
  rw [← e1, ← e2]
  rw [Int.mul_comm b g, Int.mul_assoc]
theorem pull_mixed {i m z : Int} {R : Prop} (hm : 0 < m) (hQ : R) : IntMulOk z 48271 ∧ IntMulOk (i + 1) 16807 ∧ IntMulOk ((z * 48271 + (i + 1) * 16807 + 11) % 2147483647) ((z * 48271 + (i + 1) * 16807 + 11) % 2147483647) ∧
      IntMulOk ((z * 48271 + (i + 1) * 16807 + 11) % 2147483647 * ((z * 48271 + (i + 1) * 16807 + 11) % 2147483647) % 2147483629 + (i + 1)) 69621 ∧ Sz 9000 13 ∧ R := by
  refine ⟨Sz.okR (k := 16) (by decide) (by decide), Sz.okR (k := 16) (by decide) (by decide), Sz.okR (k := 31) (Sz.of ?_) (by decide), Sz.okR (k := 17) (by decide) (by decide), by decide, hQ⟩
  have h1 := Int.emod_nonneg (z * 48271 + (i + 1) * 16807 + 11) (by decide : (2147483647 : Int) ≠ 0)
  have h2 := Int.emod_lt_of_pos (z * 48271 + (i + 1) * 16807 + 11) (by decide : (0 : Int) < 2147483647)
  omega
theorem low_eq {a b n u : Int} (hb : 0 < b) (hu : 0 < u) (hc : Int.gcd n u = 1) (h : a * u = n * b) : lowN a b = n ∧ lowU a b = u := by
  have hg := gcd_pos (n := a) hb
  have d1 : (Int.gcd a b : Int) ∣ a := Int.gcd_dvd_left a b
  have d2 : (Int.gcd a b : Int) ∣ b := Int.gcd_dvd_right a b
  have e1 := Int.ediv_mul_cancel d1
  have e2 := Int.ediv_mul_cancel d2
  have hc2 : Int.gcd (a / (Int.gcd a b : Int)) (b / (Int.gcd a b : Int)) = 1 := Int.gcd_ediv_gcd_ediv_gcd (by omega)
  show a / (Int.gcd a b : Int) = n ∧ b / (Int.gcd a b : Int) = u
  generalize a / (Int.gcd a b : Int) = A at e1 hc2 ⊢
  generalize b / (Int.gcd a b : Int) = B at e2 hc2 ⊢
  generalize (Int.gcd a b : Int) = g at e1 e2 hg
  have k : A * u = n * B := by
    have : g * (A * u) = g * (n * B) := by
      rw [← e1, ← e2] at h
      rw [Int.mul_left_comm g A u, Int.mul_left_comm g n B, ← Int.mul_assoc, ← Int.mul_assoc]
      rw [Int.mul_assoc A g u, Int.mul_comm B g] at h
      rw [Int.mul_assoc A g u, Int.mul_assoc n g B]
      exact h
    exact Int.eq_of_mul_eq_mul_left (by omega) this
  have hB : 0 < B := by
    by_cases q : 0 < B
    · exact q
    · have : B * g ≤ 0 := Int.mul_nonpos_of_nonpos_of_nonneg (by omega) (by omega)
      omega
  have c1 : Nat.Coprime u.natAbs n.natAbs := by
    rw [Int.gcd_eq_natAbs_gcd_natAbs] at hc
    exact Nat.Coprime.symm hc
  have c2 : Nat.Coprime B.natAbs A.natAbs := by
    rw [Int.gcd_eq_natAbs_gcd_natAbs] at hc2
    exact Nat.Coprime.symm hc2
  have v1 : u.natAbs ∣ B.natAbs := c1.dvd_of_dvd_mul_left (by
    rw [← Int.natAbs_mul, Int.natAbs_dvd_natAbs, ← k]
    exact Int.dvd_mul_left A u)
  have v2 : B.natAbs ∣ u.natAbs := c2.dvd_of_dvd_mul_left (by
    rw [← Int.natAbs_mul, Int.natAbs_dvd_natAbs, k]
    exact Int.dvd_mul_left n B)
  have e : u = B := by
    have := Nat.dvd_antisymm v1 v2
    omega
  subst e
  exact ⟨Int.eq_of_mul_eq_mul_right (by omega) k, rfl⟩
theorem mul_pos' {a b : Int} (ha : 0 < a) (hb : 0 < b) : 0 < a * b := Int.mul_pos ha hb
theorem gcdZ {k : Nat} (n : Int) {u : Int} (hu : 0 < u) (hz : Sz k u) : Sz k (Int.gcd n u : Int) := hz.le (by have := Int.gcd_le_natAbs_right n (b := u) (by omega); omega)
def hp (m : Int) : Int → List Int → Bool
  | _, [] => true
  | l, x :: r => if x ≤ l ∨ m ≤ x then false else hp m x r
def OrdAt (H : Hp) (xs : List V) (n : Nat) : Prop := ∃ ts : Nat → Addr, xs = (ordL n).map (fun i => V.ref (ts i)) ∧ ∀ i, i < n → H (ts i) = some (.tup ((Srt.sub i).map V.int))
theorem OrdAt.ts {H H' : Hp} {xs : List V} {n : Nat} (h : OrdAt H xs n) (s : TS H H') : OrdAt H' xs n := by
  obtain ⟨f, e, h1⟩ := h
  exact ⟨f, e, fun i hi => s _ _ (h1 i hi)⟩
theorem OrdAt.mem {H : Hp} {xs : List V} {n : Nat} (h : OrdAt H xs n) {v : V} (hv : v ∈ xs) : ∃ t i, v = .ref t ∧ i < n ∧ H t = some (.tup ((Srt.sub i).map V.int)) := by
  obtain ⟨f, rfl, h1⟩ := h
  obtain ⟨i, hi, rfl⟩ := List.mem_map.mp hv
  exact ⟨f i, i, rfl, ord_lt hi, h1 i (ord_lt hi)⟩
theorem seq_cut3 {t1 t2 t3 tb : L2.TS} {D : Ends} {σ : St} {H : Hp} (W : St → Hp → Prop) (h2 : ∀ σ' H', W σ' H' → tb D σ' H') (h1 : ∀ tb' : L2.TS, (∀ σ' H', W σ' H' → tb' D σ' H') → (tSeq t1 (tSeq t2 (tSeq t3 tb'))) D σ H) : (tSeq t1 (tSeq t2 (tSeq t3 tb))) D σ H := h1 tb h2
theorem RowAt.mem {H : Hp} {xs : List V} {ps : List (Int × Int)} (h : RowAt H xs ps) {p : Int × Int} (hp : p ∈ ps) : 0 < p.2 ∧ Sz 100 p.1 ∧ Sz 31 p.2 := by
  obtain ⟨i, hi⟩ := List.mem_iff_getElem?.mp hp
  obtain ⟨r, _, _, h1⟩ := h.2 i p hi
  exact h1
def OptH (H : Hp) (v : V) : Option Nat → Prop
  | none => v = .non
  | some i => ∃ t, v = .ref t ∧ H t = some (.tup ((Srt.sub i).map V.int))
theorem OptH.ts {H H' : Hp} {v : V} {o : Option Nat} (h : OptH H v o) (s : TS H H') : OptH H' v o := by
  cases o with
  | none => exact h
  | some i =>
    obtain ⟨t, e, h1⟩ := h
    exact ⟨t, e, s _ _ h1⟩
end Toy
namespace L2
open PySem
section
variable {σ : St} {H : Hp} {Q : VK} {D : Ends} {te ta tb : TE} {t u : TS} {c c' : TT} {tr : TA} {QT : Bool → Hp → Prop} {QA : List V → Hp → Prop} {x y : V} {xs : List V} {v : V} {i j : Int} {p : Addr}
end
section
variable {σ : St} {H : Hp} {Q : VK} {D : Ends} {tr : TA} {xs : List V} {A B : Prop} {k : Tg A} {l : Tg B} {q : Prop} [Decidable q]
end
end L2
namespace Toy
open PySem L2
open PySem.Builtin.Int (intBits)
def num (U : Int) (p : Int × Int) : Int := p.1 * (U / p.2)
structure Ok (U : Int) (p : Int × Int) : Prop where
  pos : 0 < p.2
  dvd : p.2 ∣ U
  cop : Int.gcd p.1 p.2 = 1
def low (n u : Int) : Int × Int := (lowN n u, lowU n u)
theorem low_pos {n u : Int} (hu : 0 < u) : 0 < (low n u).2 := (low_red n hu).1
theorem low_cop {n u : Int} (hu : 0 < u) : Int.gcd (low n u).1 (low n u).2 = 1 := (low_red n hu).2.1
theorem low_x {n u : Int} (hu : 0 < u) : (low n u).1 * u = n * (low n u).2 := (low_red n hu).2.2.1
theorem low_u {n u : Int} : (low n u).2 ∣ u := ⟨(Int.gcd n u : Int), (Int.ediv_mul_cancel (Int.gcd_dvd_right n u)).symm⟩
theorem Ok.low {n u U : Int} (hu : 0 < u) (h : u ∣ U) : Ok U (Toy.low n u) := ⟨low_pos hu, Int.dvd_trans low_u h, low_cop hu⟩
structure UOk (U : Int) : Prop where
  pos : 0 < U
  sz : Sz 4000 U
structure PtOk (U : Int) (k : Nat) (p : Int × Int) : Prop extends Ok U p where
  sz : Sz k (num U p)
theorem PtOk.mono {U : Int} {k j : Nat} {p : Int × Int} (h : PtOk U k p) (q : k ≤ j) : PtOk U j p := ⟨h.toOk, h.sz.mono q⟩
def RowU (U : Int) (k : Nat) (H : Hp) (xs : List V) (ps : List (Int × Int)) : Prop := xs.length = ps.length ∧ ∀ (i : Nat) p, ps[i]? = some p → ∃ r, xs[i]? = some (.ref r) ∧ H r = some (.tup [.int p.1, .int p.2]) ∧ PtOk U k p
theorem RowU.ts {U : Int} {k : Nat} {H H' : Hp} {xs : List V} {ps : List (Int × Int)} (h : RowU U k H xs ps) (s : TS H H') : RowU U k H' xs ps := ⟨h.1, fun i p hp => by
  obtain ⟨r, e, h1, h2⟩ := h.2 i p hp
  exact ⟨r, e, s _ _ h1, h2⟩⟩
theorem RowU.mono {U : Int} {k j : Nat} {H : Hp} {xs : List V} {ps : List (Int × Int)} (h : RowU U k H xs ps) (q : k ≤ j) : RowU U j H xs ps := ⟨h.1, fun i p hp => by
  obtain ⟨r, e, h1, h2⟩ := h.2 i p hp
  exact ⟨r, e, h1, h2.mono q⟩⟩
theorem RowU.nil {U : Int} {k : Nat} {H : Hp} : RowU U k H [] [] := ⟨rfl, fun i p h => by simp at h⟩
theorem RowU.mem {U : Int} {k : Nat} {H : Hp} {xs : List V} {ps : List (Int × Int)} (h : RowU U k H xs ps) : ∀ p ∈ ps, PtOk U k p := fun p hp => by
  obtain ⟨i, hi⟩ := List.mem_iff_getElem?.mp hp
  obtain ⟨r, _, _, h1⟩ := h.2 i p hi
  exact h1
theorem RowU.set {U : Int} {k : Nat} {H : Hp} {xs : List V} {ps : List (Int × Int)} {r : Addr} {p : Int × Int} {j : Nat} (h : RowU U k H xs ps) (hr : H r = some (.tup [.int p.1, .int p.2])) (hp : PtOk U k p) : RowU U k H (xs.set j (.ref r)) (ps.set j p) := by
  refine ⟨by rw [List.length_set, List.length_set, h.1], fun i q hq => ?_⟩
  by_cases e : j = i
  · subst e
    rw [List.getElem?_set] at hq
    rw [if_pos rfl] at hq
    split at hq
    · cases hq
      refine ⟨r, ?_, hr, hp⟩
      rw [List.getElem?_set, if_pos rfl, if_pos (by rw [h.1]; assumption)]
    · cases hq
  · rw [List.getElem?_set_ne e] at hq
    rw [List.getElem?_set_ne e]
    exact h.2 i q hq
structure Lvl (R D : Nat → Int) (n : Nat) (r : Int × Int) : Prop where
  pos : 0 < r.2
  cop : Int.gcd r.1 r.2 = 1
  one : r.1 ≤ r.2
  le : ∀ i, i < n → 0 < D i → r.1 * D i ≤ R i * r.2
  at' : r = (1, 1) ∨ ∃ i, i < n ∧ 0 < D i ∧ r.1 * D i = R i * r.2
theorem Lvl.below {R D : Nat → Int} {n : Nat} {r s : Int × Int} (a : Lvl R D n r) (b : Lvl R D n s) : r.1 * s.2 ≤ s.1 * r.2 := by
  have p1 := a.pos
  have p2 := b.pos
  rcases b.at' with rfl | ⟨i, hi, hD, e⟩
  · have := a.one
    show r.1 * 1 ≤ 1 * r.2
    omega
  · have h1 := a.le i hi hD
    have h2 := Int.mul_le_mul_of_nonneg_right h1 (by omega : 0 ≤ s.2)
    have h3 : R i * r.2 * s.2 = s.1 * r.2 * D i := by grind
    have h4 : r.1 * D i * s.2 = r.1 * s.2 * D i := by grind
    rw [h3, h4] at h2
    exact Int.le_of_mul_le_mul_right h2 hD
structure Du (U : Int) (k : Nat) (n u : Int) : Prop where
  pt : PtOk U k (n, u)
  nn : 0 ≤ n
def RowsAt (X : List Addr) (U : Int) (k : Nat) (H : Hp) (zs : List V) (rss : List (List (Int × Int))) : Prop := zs.length = rss.length ∧ zs.Nodup ∧ ∀ (i : Nat) r, rss[i]? = some r → ∃ l xs, zs[i]? = some (.ref l) ∧ H l = some (.lst xs) ∧ RowU U k H xs r ∧ l ∉ X
theorem RowsAt.step {X : List Addr} {U : Int} {k : Nat} {H H' : Hp} {zs : List V} {rss : List (List (Int × Int))} (h : RowsAt X U k H zs rss) (f : ∀ l xs, V.ref l ∈ zs → l ∉ X → H l = some (.lst xs) → H' l = some (.lst xs)) (s : TS H H') : RowsAt X U k H' zs rss := ⟨h.1, h.2.1, fun i r hr => by
  obtain ⟨l, xs, e, h1, h2, h3⟩ := h.2.2 i r hr
  exact ⟨l, xs, e, f l xs (List.mem_of_getElem? e) h3 h1, h2.ts s, h3⟩⟩
theorem RowsAt.nil {X : List Addr} {U : Int} {k : Nat} {H : Hp} : RowsAt X U k H [] [] := ⟨rfl, .nil, fun i p h => by simp at h⟩
theorem RowsAt.fresh {X : List Addr} {U : Int} {k : Nat} {H : Hp} {zs : List V} {rss : List (List (Int × Int))} (h : RowsAt X U k H zs rss) {l : Addr} (hl : H l = none) : V.ref l ∉ zs := fun z => by
  obtain ⟨i, hi, e⟩ := List.getElem_of_mem z
  have hi2 : i < rss.length := by rw [← h.1]; exact hi
  obtain ⟨l', xs, e', h1, _⟩ := h.2.2 i rss[i] (List.getElem?_eq_getElem hi2)
  rw [List.getElem?_eq_getElem hi, e] at e'
  cases e'
  rw [hl] at h1
  cases h1
end Toy
namespace Toy
open PySem L2
open PySem.Builtin.Int (intBits)
theorem Lvl.zero {R D : Nat → Int} : Lvl R D 0 (1, 1) := ⟨by decide, by decide, by decide, fun i hi => by omega, .inl rfl⟩
theorem Lvl.skip {R D : Nat → Int} {j : Nat} {r : Int × Int} (a : Lvl R D j r) (h : ¬ 0 < D j) : Lvl R D (j + 1) r :=
  ⟨a.pos, a.cop, a.one, fun i hi hD => a.le i (by
    by_cases e : i = j
    · subst e; exact absurd hD h
    · omega) hD, a.at'.imp id fun ⟨i, hi, z⟩ => ⟨i, by omega, z⟩⟩
theorem Lvl.stay {R D : Nat → Int} {j : Nat} {r : Int × Int} (a : Lvl R D j r) (h : 0 < D j) (n : ¬ (low (R j) (D j)).1 * r.2 < r.1 * (low (R j) (D j)).2) : Lvl R D (j + 1) r := by
  refine ⟨a.pos, a.cop, a.one, fun i hi hD => ?_, a.at'.imp id fun ⟨i, hi, z⟩ => ⟨i, by omega, z⟩⟩
  by_cases e : i = j
  · subst e
    have x := low_x (n := R i) hD
    have p := low_pos (n := R i) hD
    generalize low (R i) (D i) = q at x p n
    have h1 := Int.mul_le_mul_of_nonneg_right (Int.not_lt.mp n) (by omega : 0 ≤ D i)
    have k2 : q.1 * r.2 * D i = R i * r.2 * q.2 := by grind
    have k1 : r.1 * q.2 * D i = r.1 * D i * q.2 := by grind
    rw [k1, k2] at h1
    exact Int.le_of_mul_le_mul_right h1 p
  · exact a.le i (by omega) hD
end Toy
set_option maxHeartbeats 4000000
namespace Toy
open PySem L2
open PySem.Builtin.Int (intBits)
def top (i : Nat) : Stmt := PySem.Challenge.pw_keelbond_k10_fills_told.main.body.getD i (.Pass ⟨0, 0, 0, 0⟩)
abbrev s_common_factor : Stmt := top 5
theorem sc_common_factor : FnScope ["number", "under", "greater", "lesser", "rest"] ["number", "under"] (defScope s_common_factor) := ⟨rfl, rfl, rfl, by decide +kernel, rfl, by decide +kernel, by decide +kernel⟩
abbrev s_lowest : Stmt := top 6
theorem sc_lowest : FnScope ["number", "under", "factor"] ["number", "under"] (defScope s_lowest) := ⟨rfl, rfl, rfl, by decide +kernel, rfl, by decide +kernel, by decide +kernel⟩
abbrev s_over : Stmt := top 7
theorem sc_over : FnScope ["one", "other"] ["one", "other"] (defScope s_over) := ⟨rfl, rfl, rfl, by decide +kernel, rfl, by decide +kernel, by decide +kernel⟩
abbrev s_fill : Stmt := top 9
theorem sc_fill : FnScope ["due", "paid"] ["due", "paid"] (defScope s_fill) := ⟨rfl, rfl, rfl, by decide +kernel, rfl, by decide +kernel, by decide +kernel⟩
abbrev s__law_bag : Stmt := top 11
theorem sc__law_bag : FnScope ["_law_script", "_law_salt", "_law_one"] ["_law_script"] (defScope s__law_bag) := ⟨rfl, rfl, rfl, by decide +kernel, rfl, by decide +kernel, by decide +kernel⟩
abbrev s__law_pull : Stmt := top 12
theorem sc__law_pull : FnScope ["_law_bag_here", "_law_many", "_law_seed", "_law_mixed", "_law_drawn"] ["_law_bag_here", "_law_many"] (defScope s__law_pull) := ⟨rfl, rfl, rfl, by decide +kernel, rfl, by decide +kernel, by decide +kernel⟩
abbrev s__law_gcd : Stmt := top 13
theorem sc__law_gcd : FnScope ["_law_one", "_law_other"] ["_law_one", "_law_other"] (defScope s__law_gcd) := ⟨rfl, rfl, rfl, by decide +kernel, rfl, by decide +kernel, by decide +kernel⟩
abbrev s__law_low : Stmt := top 14
theorem sc__law_low : FnScope ["_law_number_here", "_law_under", "_law_by"] ["_law_number_here", "_law_under"] (defScope s__law_low) := ⟨rfl, rfl, rfl, by decide +kernel, rfl, by decide +kernel, by decide +kernel⟩
abbrev s__law_times : Stmt := top 15
theorem sc__law_times : FnScope ["_law_one", "_law_other"] ["_law_one", "_law_other"] (defScope s__law_times) := ⟨rfl, rfl, rfl, by decide +kernel, rfl, by decide +kernel, by decide +kernel⟩
abbrev s__law_whole : Stmt := top 16
theorem sc__law_whole : FnScope ["_law_found"] ["_law_found"] (defScope s__law_whole) := ⟨rfl, rfl, rfl, by decide +kernel, rfl, by decide +kernel, by decide +kernel⟩
abbrev s__law_pair : Stmt := top 17
theorem sc__law_pair : FnScope ["_law_found"] ["_law_found"] (defScope s__law_pair) := ⟨rfl, rfl, rfl, by decide +kernel, rfl, by decide +kernel, by decide +kernel⟩
abbrev s__law_number : Stmt := top 18
theorem sc__law_number : FnScope ["_law_bag_here", "_law_scale"] ["_law_bag_here"] (defScope s__law_number) := ⟨rfl, rfl, rfl, by decide +kernel, rfl, by decide +kernel, by decide +kernel⟩
abbrev s__law_fraction : Stmt := top 19
theorem sc__law_fraction : FnScope ["_law_bag_here"] ["_law_bag_here"] (defScope s__law_fraction) := ⟨rfl, rfl, rfl, by decide +kernel, rfl, by decide +kernel, by decide +kernel⟩
abbrev s_law : Stmt := top 20
theorem sc_law : FnScope ["_law_script", "_law_bag_here", "_law_k", "_law_due", "_law_base", "_law_paid", "_law_found"] ["_law_script"] (defScope s_law) := ⟨rfl, rfl, rfl, by decide +kernel, rfl, by decide +kernel, by decide +kernel⟩
structure Txt (K : PySem.W.Frag) (mg : Str → Option Value) (cx : Str → Addr) : Prop where
  n_list : mg "list" = none
  n_len : mg "len" = none
  n_abs : mg "abs" = none
  n_isinstance : mg "isinstance" = none
  n_bool : mg "bool" = none
  n_int : mg "int" = none
  n_tuple : mg "tuple" = none
  n_range : mg "range" = none
  n_min : mg "min" = none
  x_BadPart : Exc K mg "BadPart" (cx "BadPart")
/-! ### the promises -/
/-- a part in the heap -/
structure Pt (H : Hp) (p : Addr) (n u : Int) (k l : Nat) : Prop where
  at_ : H p = some (.tup [.int n, .int u])
  pos : 0 < u
  cop : Int.gcd n u = 1
  zn : Sz k n
  zu : Sz l u
theorem low_cross' (n : Int) {u : Int} (hu : 0 < u) : lowN n u * u = n * lowU n u := (low_red n hu).2.2.1
abbrev sp_common_factor : Sp := fun vs H Q _ => ∃ n u : Int, vs = [.int n, .int u] ∧ 0 < u ∧ Q (.int (Int.gcd n u)) H
abbrev sp_lowest (K : PySem.W.Frag) (cx : Str → Addr) : Sp := fun vs H Q E => ∃ n u : Int, vs = [.int n, .int u] ∧ Sz 9000 u ∧ (u < 1 → E (.ref (cx "BadPart")) none H) ∧ (0 < u → ∀ p, H p = none → Q (.ref p) (upd H p (.tup [.int (n / (Int.gcd n u : Int)), .int (u / (Int.gcd n u : Int))])))
abbrev sp_over (K : PySem.W.Frag) (cx : Str → Addr) : Sp := fun vs H Q E => ∃ p q n1 u1 n2 u2, vs = [.ref p, .ref q] ∧ H p = some (.tup [.int n1, .int u1]) ∧ H q = some (.tup [.int n2, .int u2]) ∧ 0 < u1 ∧ Sz 1000 n1 ∧ Sz 1000 u1 ∧ Sz 1000 n2 ∧ Sz 1000 u2 ∧ (n2 < 1 → E (.ref (cx "BadPart")) none H) ∧ (0 < n2 → ∀ r, H r = none → Q (.ref r) (upd H r (.tup [.int (lowN (n1 * u2) (u1 * n2)), .int (lowU (n1 * u2) (u1 * n2))])))
abbrev sp_fill : Sp := fun vs H Q _ => ∃ p q n1 u1 n2 u2, vs = [.ref p, .ref q] ∧ H p = some (.tup [.int n1, .int u1]) ∧ H q = some (.tup [.int n2, .int u2]) ∧ 0 ≤ n1 ∧ 0 < u1 ∧ 0 < u2 ∧ Int.gcd n1 u1 = 1 ∧ Sz 1000 n1 ∧ Sz 1000 u1 ∧ Sz 1000 n2 ∧ Sz 1000 u2 ∧ ∀ r x y H', Same H H' → H' r = some (.tup [.int x, .int y]) → (n1 = 0 → x = 1 ∧ y = 1) → (0 < n1 → x = lowN (n2 * u1) (u2 * n1) ∧ y = lowU (n2 * u1) (u2 * n1)) → Q (.ref r) H'
abbrev sp__law_bag (K : PySem.W.Frag) (cx : Str → Addr) : Sp := fun vs H Q _ => ∃ a ns, vs = [.ref a] ∧ SqL K H a (List.map V.int ns) ∧ ns.length ≤ 63 ∧ ∀ B L H', Same H H' → H B = none → BagAt H' B L → Q (.ref B) H'
abbrev sp__law_pull : Sp := fun vs H Q _ => ∃ B m L, vs = [.ref B, .int m] ∧ BagAt H B L ∧ 0 < m ∧ Sz 9000 m ∧ ∀ d H', 0 ≤ d → d < m → BagAt H' B L → Fr1 B H H' → Q (.int d) H'
abbrev sp__law_gcd : Sp := fun vs H Q _ => ∃ n u : Int, vs = [.int n, .int u] ∧ Q (.int (Int.gcd n u)) H
abbrev sp__law_low : Sp := fun vs H Q _ => ∃ n u : Int, vs = [.int n, .int u] ∧ 0 < u ∧ Sz 9000 u ∧ ∀ p, H p = none → Q (.ref p) (upd H p (.tup [.int (lowN n u), .int (lowU n u)]))
abbrev sp__law_times : Sp := fun vs H Q _ => ∃ p q n1 u1 n2 u2, vs = [.ref p, .ref q] ∧ H p = some (.tup [.int n1, .int u1]) ∧ H q = some (.tup [.int n2, .int u2]) ∧ 0 < u1 ∧ 0 < u2 ∧ Sz 20000 n1 ∧ Sz 4400 u1 ∧ Sz 20000 n2 ∧ Sz 4400 u2 ∧ ∀ r, H r = none → Q (.ref r) (upd H r (.tup [.int (lowN (n1 * n2) (u1 * u2)), .int (lowU (n1 * n2) (u1 * u2))]))
abbrev sp__law_whole : Sp := fun vs H Q _ => ∃ n : Int, vs = [.int n] ∧ Q (.bl true) H
abbrev sp__law_pair : Sp := fun vs H Q _ => ∃ p n u, vs = [.ref p] ∧ H p = some (.tup [.int n, .int u]) ∧ Q (.bl (decide (1 ≤ u) && decide (Int.gcd n u = 1))) H
abbrev sp__law_number : Sp := fun vs H Q _ => ∃ B L, vs = [.ref B] ∧ BagAt H B L ∧ ∀ d H', Sz 100 d → BagAt H' B L → Fr1 B H H' → Q (.int d) H'
abbrev sp__law_fraction : Sp := fun vs H Q _ => ∃ B L, vs = [.ref B] ∧ BagAt H B L ∧ ∀ p n u H', BagAt H' B L → Pt H' p n u 100 31 → Q (.ref p) H'
abbrev sp_law (K : PySem.W.Frag) (cx : Str → Addr) : Sp := fun vs H Q _ => ∃ a ns, vs = [.ref a] ∧ SqL K H a (List.map V.int ns) ∧ ns.length ≤ 63 ∧ ∀ H', Q (.bl true) H'
local macro_rules | `(tactic| k_extra "rd") => `(tactic| simp only [tSeq_ap, tIfS_ap, tNext_ap, tDrop_ap, tRet_ap, tRetN_ap, tVar_ap, tC_ap, tB_ap, tTest_ap, tOp_ap, tUn_ap, tCB_ap, tNil_ap, tCons_ap, tTup_ap, tLst_ap, tAsg_ap, gName_ap, gSub_ap, tPar_ap, tAugS_ap, rI_ap, rI0_ap, rU_ap, rEq_ap, rNe_ap, rEqP_ap, rNeP_ap, scal_ii, scal_bb, scal_ss, scal_nn, tAnd_ap, tOr_ap, tNot_ap, tAndV_ap, tOrV_ap, tNotV_ap, tIf_ap, tChain_ap, tD_ap, Hold_ap, Brk_t, Brk_f, tIsN_ap, tNotN_ap, ipI_ap,
  rIxF_ap, rLenF_ap, rGetF_ap, rSetL_ap, rIsi_ap, tyNm, isiN_int, isiN_bool, isiN_list, isiN_tuple, isiN_str, isi_ii, isi_ib, isi_bb, isi_bi, isi_tt, isi_ll, isi_nt, isi_ni, rListF_ap, rTupF_ap,  L2.start, CMulB, CDivB, CPow, tCallX_ap, tTry_ap, tRaise_ap, sp_common_factor, sp__law_gcd, sp__law_whole, sp__law_pair,
  List.getElem?_cons_zero, List.getElem?_cons_succ, List.set_cons_zero, List.set_cons_succ, List.map_cons, List.map_nil, List.cons_append, List.nil_append, List.length_cons, List.length_nil, List.length_map, Nat.reduceAdd, Nat.reduceSub, Nat.zero_add, Nat.sub_self, List.replicate_succ, List.replicate_zero,
  Option.some.injEq, V.int.injEq, V.bl.injEq, V.ref.injEq, V.ty.injEq, V.str.injEq, HO.lst.injEq, HO.tup.injEq, List.cons.injEq, reduceCtorEq, exists_eq_left', exists_eq_left, exists_eq_right', exists_eq_right, exists_and_left, and_assoc, and_true, true_and, and_self, eq_self, decide_true, decide_false, decide_eq_true_eq, Bool.not_eq_true', decide_eq_false_iff_not, Bool.true_eq_false, Bool.false_eq_true, if_true, if_false, Bool.not_false, Bool.not_true, Bool.true_and, Bool.false_and, Bool.and_true, Bool.and_false, Bool.true_or, Bool.false_or, not_true_eq_false, ne_eq, not_false_eq_true, atI_0, atI_1, atI_2, atI_3, ixN_4_0, ixN_4_1, ixN_4_2, ixN_4_3, seqAt, upd_same, upd_ne, sizeLine_1, sizeLine_2, sizeLine_3, sizeLine_4, sizeLine_5, sizeLine_6, sizeLine_7, int_01, int_c2, pow_ok, Int.reduceLE, Int.reduceLT, Int.reduceAdd, Int.reduceSub, Int.reduceMul, Int.reduceNeg, Int.reducePow, Int.reduceToNat, *])
theorem ok_common_factor {P : Program} {w : World} {K : PySem.W.Frag} {mg : Str → Option Value} {base : Heap} {cx : Str → Addr} {f : Addr} {fd : FuncData} (D : DefAt K mg "common_factor" s_common_factor f fd) (T : Txt K mg cx)  : DefOk P w K mg base CX0 1 "common_factor" ["number", "under"] sp_common_factor := by
  refine D.ok (D.q sc_common_factor (fun vs H Q E h => ?_) (fun cdv A outer s H vs Q E hr h => ?_)) (D.fn.binds fun _ _ _ _ _ _ us hl => match us, hl with | [_, _], _ => rfl)
  · obtain ⟨_, _, rfl, _⟩ := h
    rfl
  obtain ⟨n, u, rfl, hu, hQ⟩ := h
  refine ⟨_, (qss_cons (qs_set (i := 2) sc_common_factor.nd rfl (Or.inl rfl) (qv 0))
      (qss_cons (qs_set (i := 3) sc_common_factor.nd rfl (Or.inl rfl) (qv 1))
      (qss_cons (qs_while PassesOwn.never (qt_cmpR op_ne (qv 3) qe_int (nomark _)) (qss_cons (qs_set (i := 4) sc_common_factor.nd rfl (Or.inl rfl) (qe_op op_mod (qv 2) (qv 3)))
      (qss_cons (qs_set (i := 2) sc_common_factor.nd rfl (Or.inl rfl) (qv 3))
      (qss_one (qs_set (i := 3) sc_common_factor.nd rfl (Or.inl rfl) (qv 4))))))
      (qss_one (qs_ret (qv 2)))))), ?_⟩
  k_extra "rd"
  refine ⟨fun m σ H' => H' = H ∧ ∃ (g l : Int) (r : Option V), σ = [some (.int n), some (.int u), some (.int g), some (.int l), r] ∧ m = l.toNat ∧ 0 ≤ l ∧ Int.gcd g l = Int.gcd n u ∧ (l = 0 → 0 < g), ⟨_, rfl, n, u, none, rfl, rfl, by omega, rfl, by omega⟩, ?_⟩
  rintro m σ H' ⟨rfl, g, l, r, rfl, rfl, h0, hg, hp⟩
  k_extra "rd"
  refine ite2 (fun hl => ?_) (fun hl => ?_)
  · refine ⟨fun σ' H'' => H'' = H' ∧ ∃ (g' l' : Int) (r' : Option V), σ' = [some (.int n), some (.int u), some (.int g'), some (.int l'), r'] ∧ l'.toNat < l.toNat ∧ 0 ≤ l' ∧ Int.gcd g' l' = Int.gcd n u ∧ (l' = 0 → 0 < g'), fun σ' H'' ⟨e, g', l', r', e2, a1, a2, a3, a4⟩ => ⟨l'.toNat, a1, e, g', l', r', e2, rfl, a2, a3, a4⟩, ?_⟩
    have hl' : 0 < l := by omega
    k_extra "rd"
    have := Int.emod_lt_of_pos g hl'
    have := Int.emod_nonneg g (by omega : l ≠ 0)
    exact ⟨by omega, by omega, by rw [gcd_step hl']; exact hg, fun _ => trivial⟩
  · have e : l = 0 := by omega
    subst e
    have e2 : ((Int.gcd n u : Nat) : Int) = g := by
      rw [← hg, Int.gcd_zero_right]
      have := hp rfl
      omega
    rw [e2] at hQ
    exact hQ
theorem ok_lowest {P : Program} {w : World} {K : PySem.W.Frag} {mg : Str → Option Value} {base : Heap} {cx : Str → Addr} {f : Addr} {fd : FuncData} (D : DefAt K mg "lowest" s_lowest f fd) (T : Txt K mg cx) (d_common_factor : DefOk P w K mg base CX0 1 "common_factor" ["number", "under"] sp_common_factor) : DefOk P w K mg base (CXR P w) 2 "lowest" ["number", "under"] (sp_lowest K cx) := by
  refine D.ok (D.qR sc_lowest (fun vs H Q E h => ?_) (fun cdv A outer s H vs Q E hr h => ?_)) (D.fn.binds fun _ _ _ _ _ _ us hl => match us, hl with | [_, _], _ => rfl)
  · obtain ⟨_, _, rfl, _⟩ := h
    rfl
  obtain ⟨n, u, rfl, hz, hE, hQ⟩ := h
  refine ⟨_, (qss_cons (qs_if (qt_cmpR op_lt (qv 1) qe_int (nomark _)) (qss_one (qs_raise raisesR T.x_BadPart rfl (by rfl) (qa_cons qe_str qa_nil))) qss_nil)
      (qss_cons (qs_set (i := 2) sc_lowest.nd rfl (Or.inl rfl) (qe_d d_common_factor hr.le pass0 (by rfl) (qa_cons (qv 0) (qa_cons (qv 1) qa_nil))))
      (qss_one (qs_ret (qe_tup (qa_cons (qe_op op_fdivB (qv 0) (qv 2)) (qa_cons (qe_op op_fdivB (qv 1) (qv 2)) qa_nil))))))), ?_⟩
  k_extra "rd"
  refine brkD (fun h1 => ?_) (fun h1 => ?_)
  · k_extra "rd"
  k_extra "rd"
  have h2 : 0 < u := by omega
  have hg := gcd_pos (n := n) h2
  have hgz : Sz 9000 (Int.gcd n u : Int) := hz.le (by have := Int.gcd_le_natAbs_right n (b := u) (by omega); omega)
  exact ⟨h2, hg, hgz, hg, hgz, fun p hp => hQ h2 p hp⟩
theorem ok_over {P : Program} {w : World} {K : PySem.W.Frag} {mg : Str → Option Value} {base : Heap} {cx : Str → Addr} {f : Addr} {fd : FuncData} (D : DefAt K mg "over" s_over f fd) (T : Txt K mg cx) (d_lowest : DefOk P w K mg base (CXR P w) 2 "lowest" ["number", "under"] (sp_lowest K cx)) : DefOk P w K mg base (CXR P w) 3 "over" ["one", "other"] (sp_over K cx) := by
  refine D.ok (D.qR sc_over (fun vs H Q E h => ?_) (fun cdv A outer s H vs Q E hr h => ?_)) (D.fn.binds fun _ _ _ _ _ _ us hl => match us, hl with | [_, _], _ => rfl)
  · obtain ⟨_, _, _, _, _, _, rfl, _⟩ := h
    rfl
  obtain ⟨p, q, n1, u1, n2, u2, rfl, hp, hq, h1, z1, z2, z3, z4, hE, hQ⟩ := h
  refine ⟨_, (qss_cons (qs_if (qt_cmpR op_lt (qe_ix ix_seqA (qv 1) qe_int (fun _ _ => rfl)) qe_int (nomark _)) (qss_one (qs_raise raisesR T.x_BadPart rfl (by rfl) (qa_cons qe_str qa_nil))) qss_nil)
      (qss_one (qs_ret (qe_d d_lowest hr.le passR (by rfl) (qa_cons (qe_op op_mulB (qe_ix ix_seqA (qv 0) qe_int (fun _ _ => rfl)) (qe_ix ix_seqA (qv 1) qe_int (fun _ _ => rfl))) (qa_cons (qe_op op_mulB (qe_ix ix_seqA (qv 0) qe_int (fun _ _ => rfl)) (qe_ix ix_seqA (qv 1) qe_int (fun _ _ => rfl))) qa_nil)))))), ?_⟩
  k_extra "rd"
  refine brkD (fun h2 => ?_) (fun h2 => ?_)
  · k_extra "rd"
  · k_extra "rd"
    have h3 : 0 < n2 := by omega
    exact ⟨z1.ok z4 (by decide), z2.ok z3 (by decide), _, _, rfl, (z2.mul z3).mono (by decide), fun h => absurd h (by have := mul_pos' h1 h3; omega), fun _ r hr => hQ h3 r hr⟩
theorem ok_fill {P : Program} {w : World} {K : PySem.W.Frag} {mg : Str → Option Value} {base : Heap} {cx : Str → Addr} {f : Addr} {fd : FuncData} (D : DefAt K mg "fill" s_fill f fd) (T : Txt K mg cx) (d_over : DefOk P w K mg base (CXR P w) 3 "over" ["one", "other"] (sp_over K cx)) : DefOk P w K mg base CX0 4 "fill" ["due", "paid"] sp_fill := by
  refine D.ok (D.q sc_fill (fun vs H Q E h => ?_) (fun cdv A outer s H vs Q E hr h => ?_)) (D.fn.binds fun _ _ _ _ _ _ us hl => match us, hl with | [_, _], _ => rfl)
  · obtain ⟨_, _, _, _, _, _, rfl, _⟩ := h
    rfl
  obtain ⟨p, q, n1, u1, n2, u2, rfl, hp, hq, h0, h1, h2, hc, z1, z2, z3, z4, hQ⟩ := h
  refine ⟨_, (qss_cons (qs_if (qt_cmpR (op_eqP hr.units) (qv 0) (qe_tup (qa_cons qe_int (qa_cons qe_int qa_nil))) (nomark _)) (qss_one (qs_ret (qe_tup (qa_cons qe_int (qa_cons qe_int qa_nil))))) qss_nil)
      (qss_one (qs_ret (qe_d d_over hr.le passR0 (by rfl) (qa_cons (qv 1) (qa_cons (qv 0) qa_nil)))))), ?_⟩
  k_extra "rd"
  intro r hr
  have s1 : Same H (upd H r (.tup [.int 0, .int 1])) := Same.new hr
  have hp1 := s1 _ _ hp
  have hq1 := s1 _ _ hq
  have hr1 : upd H r (.tup [.int 0, .int 1]) r = _ := upd_same
  generalize upd H r (.tup [.int 0, .int 1]) = H1 at s1 hp1 hq1 hr1 ⊢
  clear hr hp hq
  k_extra "rd"
  refine brkD (fun h => ?_) (fun h => ?_)
  · obtain ⟨rfl, rfl⟩ := h
    k_extra "rd"
    exact fun t ht => hQ t _ _ _ (s1.trans (Same.new ht)) upd_same (fun _ => ⟨rfl, rfl⟩) (fun h => absurd h (by decide))
  · have hn : 0 < n1 := by
      by_cases e : n1 = 0
      · subst e
        rw [Int.gcd_zero_left] at hc
        exact absurd ⟨rfl, by omega⟩ h
      · omega
    k_extra "rd"
    exact ⟨q, p, n2, u2, n1, u1, rfl, hq1, hp1, h2, z3, z4, z1, z2, fun h => absurd h (by omega), fun _ t ht => hQ t _ _ _ (s1.trans (Same.new ht)) upd_same (fun h => absurd h (by omega)) (fun _ => ⟨rfl, rfl⟩)⟩
theorem ok__law_bag {P : Program} {w : World} {K : PySem.W.Frag} {mg : Str → Option Value} {base : Heap} {cx : Str → Addr} {f : Addr} {fd : FuncData} (D : DefAt K mg "_law_bag" s__law_bag f fd) (T : Txt K mg cx)  : DefOk P w K mg base CX0 1 "_law_bag" ["_law_script"] (sp__law_bag K cx) := by
  refine D.ok (D.q sc__law_bag (fun vs H Q E h => ?_) (fun cdv A outer s H vs Q E hr h => ?_)) (D.fn.binds fun _ _ _ _ _ _ us hl => match us, hl with | [_], _ => rfl)
  · obtain ⟨_, _, rfl, _⟩ := h
    rfl
  obtain ⟨a, ns, rfl, hS, hl, hQ⟩ := h
  have hc : cutV (List.map V.int ns) none (some (63 : Int)) = List.map V.int ns := cutV_all (k := 63) (by rw [List.length_map]; exact hl)
  refine ⟨_, (qss_cons (qs_set (i := 1) sc__law_bag.nd rfl (Or.inl rfl) (qe_callB call_lenF (by rfl) T.n_len bt_len (qa_cons (qe_slice sl_list (qv 0) qo_none (qo_some qe_int)) qa_nil)))
      (qss_cons (qs_for PassesOwn.never rfl (qi_listK (K := K) rfl (qe_slice sl_list (qv 0) qo_none (qo_some qe_int))) (qg_name (i := 2) sc__law_bag.nd rfl (Or.inl rfl)) (qss_one (qs_set (i := 1) sc__law_bag.nd rfl (Or.inl rfl) (qe_op op_mod (qe_op op_add (qe_op op_mulB (qv 1) qe_int) (qv 2)) qe_int))))
      (qss_one (qs_ret (qe_lst (qa_cons (qe_callTy call_listF (by rfl) T.n_list bt_list (qa_cons (qe_slice sl_list (qv 0) qo_none (qo_some qe_int)) qa_nil)) (qa_cons qe_int (qa_cons qe_int (qa_cons (qv 1) qa_nil))))))))), ?_⟩
  -- the salt's first value
  refine ⟨_, rfl, _, rfl, a, _, rfl, hS, fun p hp => ?_⟩
  rw [hc]
  refine ⟨p, _, rfl, by unfold seqAt; rw [upd_same], ?_⟩
  have s1 : Same H (upd H p (.lst (List.map V.int ns))) := Same.new hp
  -- the loop
  refine ⟨_, rfl, _, rfl, a, _, rfl, s1.seq hS, fun p2 hp2 => ?_⟩
  rw [hc]
  have s2 : Same H (upd (upd H p (.lst (List.map V.int ns))) p2 (.lst (List.map V.int ns))) := s1.trans (Same.new hp2)
  refine ⟨p2, rfl, ⟨_, SqL.of upd_same⟩, for_list (K := K) (a := p2) (xs := List.map V.int ns) (fun i σ H2 => ∃ (z : Int) (v : Option V), σ = [some (.ref a), some (.int z), v] ∧ Same H H2 ∧ SqL K H2 p2 (List.map V.int ns)) ⟨_, _, rfl, s2, SqL.of upd_same⟩ (fun i σ H2 _ ⟨_, _, _, _, q⟩ => q) ?_ ?_⟩
  · rintro i y σ H2 hy ⟨z, v, rfl, s3, hp3⟩
    obtain ⟨k, rfl⟩ : ∃ k, y = V.int k := by
      rw [List.getElem?_map] at hy
      cases e : ns[i]? with
      | none => rw [e] at hy; cases hy
      | some k => rw [e] at hy; exact ⟨k, (Option.some.inj hy).symm⟩
    k_extra "rd"
    exact ⟨Sz.okR (k := 10) (by decide) (by decide), _, rfl⟩
  · rintro σ H2 ⟨z, v, rfl, s3, hp3⟩
    refine ⟨_, rfl, _, rfl, a, _, rfl, s3.seq hS, fun p4 hp4 => ?_⟩
    rw [hc]
    refine ⟨p4, _, rfl, by unfold seqAt; rw [upd_same], fun L hL => ?_⟩
    k_extra "rd"
    intro B hB
    have s5 := (s3.trans (Same.new (o := .lst (List.map V.int ns)) hp4)).trans (Same.new (o := .lst (List.map V.int ns)) hL)
    have nBL : L ≠ B := fun e => by rw [← e, upd_same] at hB; cases hB
    refine hQ B L _ (s5.trans (Same.new hB)) (s5.free hB) ⟨ns, 0, 0, z, upd_same, ?_, by omega⟩
    rw [upd_ne nBL, upd_same]
theorem ok__law_pull {P : Program} {w : World} {K : PySem.W.Frag} {mg : Str → Option Value} {base : Heap} {cx : Str → Addr} {f : Addr} {fd : FuncData} (D : DefAt K mg "_law_pull" s__law_pull f fd) (T : Txt K mg cx)  : DefOk P w K mg base CX0 1 "_law_pull" ["_law_bag_here", "_law_many"] sp__law_pull := by
  refine D.ok (D.q sc__law_pull (fun vs H Q E h => ?_) (fun cdv A outer s H vs Q E hr h => ?_)) (D.fn.binds fun _ _ _ _ _ _ us hl => match us, hl with | [_, _], _ => rfl)
  · obtain ⟨_, _, _, rfl, _⟩ := h
    rfl
  obtain ⟨B, m, L, rfl, ⟨ns, i, r, salt, hB, hL, hi⟩, hm, hz, hQ⟩ := h
  have nLB : L ≠ B := ne_of hL hB (by intro e; cases ns <;> cases e)
  have bag : ∀ (H0 : Hp) (i r' : Int), (∀ b o, b ≠ B → H b = some o → H0 b = some o) → 0 ≤ i → BagAt (upd H0 B (.lst [.ref L, .int i, .int r', .int salt])) B L := fun H0 i r' k h0 => ⟨ns, i, r', salt, upd_same, by rw [upd_ne nLB]; exact k _ _ nLB hL, h0⟩
  have f1 : ∀ (o : HO), Fr1 B H (upd H B o) := fun o => Fr1.upd
  have f2 : ∀ (o o' : HO), Fr1 B H (upd (upd H B o) B o') := fun o o' => Fr1.upd.trans Fr1.upd
  have f3 : ∀ (o o' o'' : HO), Fr1 B H (upd (upd (upd H B o) B o') B o'') := fun o o' o'' => (f2 o o').trans Fr1.upd
  refine ⟨_, (qss_cons (qs_if (qt_cmpR op_le (qe_ix ix_seqA (qv 0) qe_int (fun _ _ => rfl)) qe_int (nomark _)) (qss_cons (qs_augS (qv 0) qe_int get_list qe_int ip_add set_list)
      (qss_cons (qs_set (i := 2) sc__law_pull.nd rfl (Or.inl rfl) (qe_ix ix_seqA (qv 0) qe_int (fun _ _ => rfl)))
      (qss_cons (qs_if (qt_cmpR op_le (qe_ix ix_seqA (qv 0) qe_int (fun _ _ => rfl)) (qe_callB call_lenF (by rfl) T.n_len bt_len (qa_cons (qe_ix ix_seqA (qv 0) qe_int (fun _ _ => rfl)) qa_nil)) (nomark _)) (qss_one (qs_set (i := 2) sc__law_pull.nd rfl (Or.inl rfl) (qe_ix ix_seqA (qe_ix ix_seqA (qv 0) qe_int (fun _ _ => rfl)) (qe_op op_sub (qe_ix ix_seqA (qv 0) qe_int (fun _ _ => rfl)) qe_int) (fun _ _ => rfl)))) qss_nil)
      (qss_cons (qs_if (qw_or (qt_cmpR op_gt (qe_ix ix_seqA (qv 0) qe_int (fun _ _ => rfl)) (qe_callB call_lenF (by rfl) T.n_len bt_len (qa_cons (qe_ix ix_seqA (qv 0) qe_int (fun _ _ => rfl)) qa_nil)) (nomark _)) (qw_or1 (qt_cmpR op_lt (qv 2) (qe_op op_pow qe_int qe_int) (nomark _)))).pt (qss_cons (qs_set (i := 3) sc__law_pull.nd rfl (Or.inl rfl) (qe_op op_mod (qe_op op_add (qe_op op_add (qe_op op_mulB (qv 2) qe_int) (qe_op op_mulB (qe_ix ix_seqA (qv 0) qe_int (fun _ _ => rfl)) qe_int)) qe_int) qe_int))
      (qss_cons (qs_set (i := 3) sc__law_pull.nd rfl (Or.inl rfl) (qe_op op_mod (qe_op op_mulB (qv 3) (qv 3)) qe_int))
      (qss_one (qs_ret (qe_op op_mod (qe_op op_fdivB (qe_op op_mod (qe_op op_mulB (qe_op op_add (qv 3) (qe_ix ix_seqA (qv 0) qe_int (fun _ _ => rfl))) qe_int) qe_int) qe_int) (qv 1)))))) qss_nil)
      (qss_one (qs_asg (qv 2) (qg_sub (qv 0) qe_int set_list))))))) qss_nil)
      (qss_cons (qs_set (i := 4) sc__law_pull.nd rfl (Or.inl rfl) (qe_op op_mod (qe_ix ix_seqA (qv 0) qe_int (fun _ _ => rfl)) (qv 1)))
      (qss_cons (qs_asg (qe_op op_fdivB (qe_ix ix_seqA (qv 0) qe_int (fun _ _ => rfl)) (qv 1)) (qg_sub (qv 0) qe_int set_list))
      (qss_one (qs_ret (qv 4)))))), ?_⟩
  k_extra "rd"
  refine brkD (fun h1 => ?_) (fun h1 => ?_)
  · k_extra "rd"
    refine brkD (fun h2 => ?_) (fun h2 => ?_)
    · obtain ⟨v, e, hv⟩ := atI_lt (xs := List.map V.int ns) (i := i + 1 - 1) (by omega) (by rw [List.length_map]; omega)
      obtain ⟨z, _, rfl⟩ := List.mem_map.mp hv
      k_extra "rd"
      refine brkD (fun h3 => ?_) (fun h3 => ?_)
      · exfalso; omega
      · k_extra "rd"
        refine brkD (fun h4 => ?_) (fun h4 => ?_)
        · k_extra "rd"
          exact pull_mixed hm (hQ _ _ (Int.emod_nonneg _ (by omega)) (Int.emod_lt_of_pos _ hm) (bag H _ _ (fun _ _ _ h => h) (by omega)) (f1 _))
        · k_extra "rd"
          exact hQ _ _ (Int.emod_nonneg _ (by omega)) (Int.emod_lt_of_pos _ hm) (bag _ _ _ (f2 _ _) (by omega)) (f3 _ _ _)
    · k_extra "rd"
      refine brkD (fun h3 => ?_) (fun h3 => ?_)
      · k_extra "rd"
        exact pull_mixed hm (hQ _ _ (Int.emod_nonneg _ (by omega)) (Int.emod_lt_of_pos _ hm) (bag H _ _ (fun _ _ _ h => h) (by omega)) (f1 _))
      · exfalso; omega
  · k_extra "rd"
    exact hQ _ _ (Int.emod_nonneg _ (by omega)) (Int.emod_lt_of_pos _ hm) (bag _ _ _ (fun _ _ _ h => h) hi) (f1 _)
theorem ok__law_gcd {P : Program} {w : World} {K : PySem.W.Frag} {mg : Str → Option Value} {base : Heap} {cx : Str → Addr} {f : Addr} {fd : FuncData} (D : DefAt K mg "_law_gcd" s__law_gcd f fd) (T : Txt K mg cx)  : DefOk P w K mg base CX0 1 "_law_gcd" ["_law_one", "_law_other"] sp__law_gcd := by
  refine D.ok (D.q sc__law_gcd (fun vs H Q E h => ?_) (fun cdv A outer s H vs Q E hr h => ?_)) (D.fn.binds fun _ _ _ _ _ _ us hl => match us, hl with | [_, _], _ => rfl)
  · obtain ⟨_, _, rfl, _⟩ := h
    rfl
  obtain ⟨n, u, rfl, hQ⟩ := h
  refine ⟨_, (qss_cons (qs_set (i := 0) sc__law_gcd.nd rfl (Or.inl rfl) (qe_callB call_abs (by rfl) T.n_abs bt_abs (qa_cons (qv 0) qa_nil)))
      (qss_cons (qs_set (i := 1) sc__law_gcd.nd rfl (Or.inl rfl) (qe_callB call_abs (by rfl) T.n_abs bt_abs (qa_cons (qv 1) qa_nil)))
      (qss_cons (qs_while PassesOwn.never (qt_cmpR op_ne (qv 1) qe_int (nomark _)) (qss_one (qs_par (i := 0) (j := 1) rfl sc__law_gcd.nd rfl rfl (by decide) rfl rfl (qa_cons (qv 1) (qa_cons (qe_op op_mod (qv 0) (qv 1)) qa_nil)) rfl)))
      (qss_one (qs_ret (qv 0)))))), ?_⟩
  k_extra "rd"
  have en : (if n < 0 then -n else n) = (n.natAbs : Int) := by split <;> omega
  have eu : (if u < 0 then -u else u) = (u.natAbs : Int) := by split <;> omega
  rw [en, eu]
  refine ⟨fun m σ H' => H' = H ∧ ∃ (g l : Int), σ = [some (.int g), some (.int l)] ∧ m = l.toNat ∧ 0 ≤ l ∧ 0 ≤ g ∧ Int.gcd g l = Int.gcd n u, ⟨_, rfl, _, _, rfl, rfl, by omega, by omega, by rw [Int.gcd_eq_natAbs_gcd_natAbs n u]; rfl⟩, ?_⟩
  rintro m σ H' ⟨rfl, g, l, rfl, rfl, h0, hg0, hg⟩
  k_extra "rd"
  refine ite2 (fun hl => ?_) (fun hl => ?_)
  · have hl' : 0 < l := by omega
    refine ⟨fun σ' H'' => H'' = H' ∧ ∃ (g' l' : Int), σ' = [some (.int g'), some (.int l')] ∧ l'.toNat < l.toNat ∧ 0 ≤ l' ∧ 0 ≤ g' ∧ Int.gcd g' l' = Int.gcd n u, fun σ' H'' ⟨e, g', l', e2, a1, a2, a3, a4⟩ => ⟨l'.toNat, a1, e, g', l', e2, rfl, a2, a3, a4⟩, ?_⟩
    k_extra "rd"
    have := Int.emod_lt_of_pos g hl'
    have := Int.emod_nonneg g (by omega : l ≠ 0)
    exact ⟨by omega, by omega, by rw [gcd_step hl']; exact hg⟩
  · have e : l = 0 := by omega
    subst e
    have e2 : ((Int.gcd n u : Nat) : Int) = g := by
      rw [← hg, Int.gcd_zero_right]
      omega
    rw [e2] at hQ
    exact hQ
theorem ok__law_low {P : Program} {w : World} {K : PySem.W.Frag} {mg : Str → Option Value} {base : Heap} {cx : Str → Addr} {f : Addr} {fd : FuncData} (D : DefAt K mg "_law_low" s__law_low f fd) (T : Txt K mg cx) (d__law_gcd : DefOk P w K mg base CX0 1 "_law_gcd" ["_law_one", "_law_other"] sp__law_gcd) : DefOk P w K mg base CX0 2 "_law_low" ["_law_number_here", "_law_under"] sp__law_low := by
  refine D.ok (D.q sc__law_low (fun vs H Q E h => ?_) (fun cdv A outer s H vs Q E hr h => ?_)) (D.fn.binds fun _ _ _ _ _ _ us hl => match us, hl with | [_, _], _ => rfl)
  · obtain ⟨_, _, rfl, _⟩ := h
    rfl
  obtain ⟨n, u, rfl, hu, hz, hQ⟩ := h
  refine ⟨_, (qss_cons (qs_set (i := 2) sc__law_low.nd rfl (Or.inl rfl) (qe_d d__law_gcd hr.le pass0 (by rfl) (qa_cons (qv 0) (qa_cons (qv 1) qa_nil))))
      (qss_one (qs_ret (qe_tup (qa_cons (qe_op op_fdivB (qv 0) (qv 2)) (qa_cons (qe_op op_fdivB (qv 1) (qv 2)) qa_nil)))))), ?_⟩
  have hg := gcd_pos (n := n) hu
  have hgz := gcdZ n hu hz
  k_extra "rd"
  exact fun p hp => hQ p hp
theorem ok__law_times {P : Program} {w : World} {K : PySem.W.Frag} {mg : Str → Option Value} {base : Heap} {cx : Str → Addr} {f : Addr} {fd : FuncData} (D : DefAt K mg "_law_times" s__law_times f fd) (T : Txt K mg cx) (d__law_low : DefOk P w K mg base CX0 2 "_law_low" ["_law_number_here", "_law_under"] sp__law_low) : DefOk P w K mg base CX0 3 "_law_times" ["_law_one", "_law_other"] sp__law_times := by
  refine D.ok (D.q sc__law_times (fun vs H Q E h => ?_) (fun cdv A outer s H vs Q E hr h => ?_)) (D.fn.binds fun _ _ _ _ _ _ us hl => match us, hl with | [_, _], _ => rfl)
  · obtain ⟨_, _, _, _, _, _, rfl, _⟩ := h
    rfl
  obtain ⟨p, q, n1, u1, n2, u2, rfl, hp, hq, h1, h2, z1, z2, z3, z4, hQ⟩ := h
  refine ⟨_, (qss_one (qs_ret (qe_d d__law_low hr.le pass0 (by rfl) (qa_cons (qe_op op_mulB (qe_ix ix_seqA (qv 0) qe_int (fun _ _ => rfl)) (qe_ix ix_seqA (qv 1) qe_int (fun _ _ => rfl))) (qa_cons (qe_op op_mulB (qe_ix ix_seqA (qv 0) qe_int (fun _ _ => rfl)) (qe_ix ix_seqA (qv 1) qe_int (fun _ _ => rfl))) qa_nil))))), ?_⟩
  k_extra "rd"
  exact ⟨z1.ok z3 (by decide), z2.ok z4 (by decide), _, _, rfl, mul_pos' h1 h2, (z2.mul z4).mono (by decide), fun r hr => hQ r hr⟩
theorem ok__law_whole {P : Program} {w : World} {K : PySem.W.Frag} {mg : Str → Option Value} {base : Heap} {cx : Str → Addr} {f : Addr} {fd : FuncData} (D : DefAt K mg "_law_whole" s__law_whole f fd) (T : Txt K mg cx)  : DefOk P w K mg base CX0 1 "_law_whole" ["_law_found"] sp__law_whole := by
  refine D.ok (D.q sc__law_whole (fun vs H Q E h => ?_) (fun cdv A outer s H vs Q E hr h => ?_)) (D.fn.binds fun _ _ _ _ _ _ us hl => match us, hl with | [_], _ => rfl)
  · obtain ⟨_, rfl, _⟩ := h
    rfl
  obtain ⟨n, rfl, hQ⟩ := h
  refine ⟨_, (qss_one (qs_ret (qe_and (qe_callB call_isi (by rfl) T.n_isinstance bt_isinstance (qa_cons (qv 0) (qa_cons (qe_bltn (v := .ty "int") (by rfl) T.n_int bt_int rfl) qa_nil))) (qe_one (qe_not (qe_callB call_isi (by rfl) T.n_isinstance bt_isinstance (qa_cons (qv 0) (qa_cons (qe_bltn (v := .ty "bool") (by rfl) T.n_bool bt_bool rfl) qa_nil)))))))), ?_⟩
  k_extra "rd"
theorem ok__law_pair {P : Program} {w : World} {K : PySem.W.Frag} {mg : Str → Option Value} {base : Heap} {cx : Str → Addr} {f : Addr} {fd : FuncData} (D : DefAt K mg "_law_pair" s__law_pair f fd) (T : Txt K mg cx) (d__law_gcd : DefOk P w K mg base CX0 1 "_law_gcd" ["_law_one", "_law_other"] sp__law_gcd) (d__law_whole : DefOk P w K mg base CX0 1 "_law_whole" ["_law_found"] sp__law_whole) : DefOk P w K mg base CX0 2 "_law_pair" ["_law_found"] sp__law_pair := by
  refine D.ok (D.q sc__law_pair (fun vs H Q E h => ?_) (fun cdv A outer s H vs Q E hr h => ?_)) (D.fn.binds fun _ _ _ _ _ _ us hl => match us, hl with | [_], _ => rfl)
  · obtain ⟨_, _, _, rfl, _⟩ := h
    rfl
  obtain ⟨p, n, u, rfl, hp, hQ⟩ := h
  refine ⟨_, (qss_cons (qs_if (qw_or (qt_not (qt_val (qe_callB call_isi (by rfl) T.n_isinstance bt_isinstance (qa_cons (qv 0) (qa_cons (qe_bltn (v := .ty "tuple") (by rfl) T.n_tuple bt_tuple rfl) qa_nil))))) (qw_or1 (qt_cmpR op_ne (qe_callB call_lenF (by rfl) T.n_len bt_len (qa_cons (qv 0) qa_nil)) qe_int (nomark _)))).pt (qss_one (qs_ret qe_bl)) qss_nil)
      (qss_cons (qs_if (qw_or (qt_not (qt_val (qe_d d__law_whole hr.le pass0 (by rfl) (qa_cons (qe_ix ix_seqA (qv 0) qe_int (fun _ _ => rfl)) qa_nil)))) (qw_or (qt_not (qt_val (qe_d d__law_whole hr.le pass0 (by rfl) (qa_cons (qe_ix ix_seqA (qv 0) qe_int (fun _ _ => rfl)) qa_nil)))) (qw_or1 (qt_cmpR op_lt (qe_ix ix_seqA (qv 0) qe_int (fun _ _ => rfl)) qe_int (nomark _))))).pt (qss_one (qs_ret qe_bl)) qss_nil)
      (qss_one (qs_ret (qe_cmpR op_eq (qe_d d__law_gcd hr.le pass0 (by rfl) (qa_cons (qe_ix ix_seqA (qv 0) qe_int (fun _ _ => rfl)) (qa_cons (qe_ix ix_seqA (qv 0) qe_int (fun _ _ => rfl)) qa_nil))) qe_int (nomark _)))))), ?_⟩
  k_extra "rd"
  refine brkD (fun h1 => ?_) (fun h1 => ?_)
  · k_extra "rd"
    rw [decide_eq_false (by omega : ¬ 1 ≤ u), Bool.false_and] at hQ
    exact hQ
  · k_extra "rd"
    rw [decide_eq_true (by omega : 1 ≤ u), Bool.true_and] at hQ
    have e : decide ((Int.gcd n u : Int) = 1) = decide (Int.gcd n u = 1) := by
      rw [decide_eq_decide]; omega
    rw [e]
    exact hQ
theorem ok__law_number {P : Program} {w : World} {K : PySem.W.Frag} {mg : Str → Option Value} {base : Heap} {cx : Str → Addr} {f : Addr} {fd : FuncData} (D : DefAt K mg "_law_number" s__law_number f fd) (T : Txt K mg cx) (d__law_pull : DefOk P w K mg base CX0 1 "_law_pull" ["_law_bag_here", "_law_many"] sp__law_pull) : DefOk P w K mg base CX0 2 "_law_number" ["_law_bag_here"] sp__law_number := by
  refine D.ok (D.q sc__law_number (fun vs H Q E h => ?_) (fun cdv A outer s H vs Q E hr h => ?_)) (D.fn.binds fun _ _ _ _ _ _ us hl => match us, hl with | [_], _ => rfl)
  · obtain ⟨_, _, rfl, _⟩ := h
    rfl
  obtain ⟨B, L, rfl, hB, hQ⟩ := h
  refine ⟨_, (qss_cons (qs_set (i := 1) sc__law_number.nd rfl (Or.inl rfl) (qe_ix ix_seqA (qe_lst (qa_cons qe_int (qa_cons qe_int (qa_cons qe_int (qa_cons (qe_op op_pow qe_int qe_int) (qa_cons (qe_op op_pow qe_int qe_int) qa_nil)))))) (qe_d d__law_pull hr.le pass0 (by rfl) (qa_cons (qv 0) (qa_cons qe_int qa_nil))) (fun _ _ => rfl)))
      (qss_one (qs_ret (qe_op op_sub (qe_d d__law_pull hr.le pass0 (by rfl) (qa_cons (qv 0) (qa_cons (qe_op op_add (qe_op op_mulB qe_int (qv 1)) qe_int) qa_nil))) (qv 1))))), ?_⟩
  k_extra "rd"
  intro p hp
  have npB : p ≠ B := hB.ne hp
  refine ⟨B, 5, L, rfl, hB.new hp, by decide, by decide, fun d H1 d0 d1 b1 f1 => ?_⟩
  have hp1 := f1 p _ npB upd_same
  obtain ⟨x, ex, hx1, hx2⟩ := pick (P := fun x => 0 < x ∧ x ≤ 10 ^ 30) [3, 20, 1000, 10 ^ 9, 10 ^ 30] d0 d1 (by decide)
  have ex' : atI [V.int 3, V.int 20, V.int 1000, V.int 1000000000, V.int 1000000000000000000000000000000] d = some (.int x) := ex
  k_extra "rd"
  have hx3 : x ≤ 1000000000000000000000000000000 := hx2
  refine ⟨Sz.okL (k := 2) (by decide) (by decide), B, _, L, rfl, b1, by omega, Sz.mono (j := 110) (Sz.of (by omega)) (by decide), fun d2 H2 e0 e1 b2 f2 => ?_⟩
  k_extra "rd"
  exact hQ _ _ (Sz.of (by omega)) b2 ((Fr1.new hp).trans (f1.trans f2))
theorem ok__law_fraction {P : Program} {w : World} {K : PySem.W.Frag} {mg : Str → Option Value} {base : Heap} {cx : Str → Addr} {f : Addr} {fd : FuncData} (D : DefAt K mg "_law_fraction" s__law_fraction f fd) (T : Txt K mg cx) (d__law_low : DefOk P w K mg base CX0 2 "_law_low" ["_law_number_here", "_law_under"] sp__law_low) (d__law_number : DefOk P w K mg base CX0 2 "_law_number" ["_law_bag_here"] sp__law_number) (d__law_pull : DefOk P w K mg base CX0 1 "_law_pull" ["_law_bag_here", "_law_many"] sp__law_pull) : DefOk P w K mg base CX0 3 "_law_fraction" ["_law_bag_here"] sp__law_fraction := by
  refine D.ok (D.q sc__law_fraction (fun vs H Q E h => ?_) (fun cdv A outer s H vs Q E hr h => ?_)) (D.fn.binds fun _ _ _ _ _ _ us hl => match us, hl with | [_], _ => rfl)
  · obtain ⟨_, _, rfl, _⟩ := h
    rfl
  obtain ⟨B, L, rfl, hB, hQ⟩ := h
  refine ⟨_, (qss_one (qs_ret (qe_d d__law_low hr.le pass0 (by rfl) (qa_cons (qe_d d__law_number hr.le pass0 (by rfl) (qa_cons (qv 0) qa_nil)) (qa_cons (qe_op op_add qe_int (qe_d d__law_pull hr.le pass0 (by rfl) (qa_cons (qv 0) (qa_cons (qe_ix ix_seqA (qe_lst (qa_cons qe_int (qa_cons qe_int (qa_cons qe_int (qa_cons qe_int (qa_cons (qe_op op_pow qe_int qe_int) qa_nil)))))) (qe_d d__law_pull hr.le pass0 (by rfl) (qa_cons (qv 0) (qa_cons qe_int qa_nil))) (fun _ _ => rfl)) qa_nil)))) qa_nil))))), ?_⟩
  k_extra "rd"
  refine ⟨B, L, rfl, hB, fun n H1 z1 b1 f1 => ?_⟩
  k_extra "rd"
  intro p hp
  have npB : p ≠ B := b1.ne hp
  refine ⟨B, 5, L, rfl, b1.new hp, by decide, by decide, fun d H2 d0 d1 b2 f2 => ?_⟩
  have hp2 := f2 p _ npB upd_same
  obtain ⟨x, ex, hx1, hx2⟩ := pick (P := fun x => 0 < x ∧ x ≤ 1000000000) [1, 4, 12, 60, 1000000000] d0 d1 (by decide)
  have ex' : atI [V.int 1, V.int 4, V.int 12, V.int 60, V.int 1000000000] d = some (.int x) := ex
  k_extra "rd"
  refine ⟨B, x, L, rfl, b2, hx1, Sz.mono (j := 31) (Sz.of (by omega)) (by decide), fun d3 H3 e0 e1 b3 f3 => ?_⟩
  have hu : 0 < 1 + d3 := by omega
  have zu : Sz 31 (1 + d3) := Sz.of (by omega)
  k_extra "rd"
  refine ⟨n, 1 + d3, rfl, hu, zu.mono (by decide), fun q hq => ?_⟩
  obtain ⟨r1, r2, r3, r4⟩ := low_red n hu
  exact hQ q _ _ _ (b3.new hq) ⟨upd_same, r4, r2, z1.le (natAbs_div_le _ _), zu.le (natAbs_div_le _ _)⟩
theorem ok_law {P : Program} {w : World} {K : PySem.W.Frag} {mg : Str → Option Value} {base : Heap} {cx : Str → Addr} {f : Addr} {fd : FuncData} (D : DefAt K mg "law" s_law f fd) (T : Txt K mg cx) (d__law_bag : DefOk P w K mg base CX0 1 "_law_bag" ["_law_script"] (sp__law_bag K cx)) (d__law_fraction : DefOk P w K mg base CX0 3 "_law_fraction" ["_law_bag_here"] sp__law_fraction) (d__law_times : DefOk P w K mg base CX0 3 "_law_times" ["_law_one", "_law_other"] sp__law_times) (d_fill : DefOk P w K mg base CX0 4 "fill" ["due", "paid"] sp_fill) (d__law_pull : DefOk P w K mg base CX0 1 "_law_pull" ["_law_bag_here", "_law_many"] sp__law_pull) (d__law_pair : DefOk P w K mg base CX0 2 "_law_pair" ["_law_found"] sp__law_pair) : FnOk P w K mg base CX0 5 f fd ["_law_script"] (sp_law K cx) := by
  refine D.q sc_law (fun vs H Q E h => ?_) (fun cdv A outer s H vs Q E hr h => ?_)
  · obtain ⟨_, _, rfl, _⟩ := h
    rfl
  obtain ⟨a, ns, rfl, hS, hl, hQ⟩ := h
  refine ⟨_, (qss_cons (qs_set (i := 1) sc_law.nd rfl (Or.inl rfl) (qe_d d__law_bag hr.le pass0 (by rfl) (qa_cons (qv 0) qa_nil)))
      (qss_cons (qs_for PassesOwn.never rfl (qi_range1 (by rfl) T.n_range (qa_cons qe_int qa_nil)) (qg_name (i := 2) sc_law.nd rfl (Or.inl rfl)) (qss_cons (qs_set (i := 3) sc_law.nd rfl (Or.inl rfl) (qe_d d__law_fraction hr.le pass0 (by rfl) (qa_cons (qv 1) qa_nil)))
      (qss_cons (qs_set (i := 3) sc_law.nd rfl (Or.inl rfl) (qe_tup (qa_cons (qe_op op_mulB (qe_callB call_abs (by rfl) T.n_abs bt_abs (qa_cons (qe_ix ix_seqA (qv 3) qe_int (fun _ _ => rfl)) qa_nil)) (qe_callB (call_min2 rfl) (by rfl) T.n_min bt_min (qa_cons qe_int (qa_cons (qe_d d__law_pull hr.le pass0 (by rfl) (qa_cons (qv 1) (qa_cons qe_int qa_nil))) qa_nil)))) (qa_cons (qe_ix ix_seqA (qv 3) qe_int (fun _ _ => rfl)) qa_nil))))
      (qss_cons (qs_if (qt_cmpR op_eq (qe_ix ix_seqA (qv 3) qe_int (fun _ _ => rfl)) qe_int (nomark _)) (qss_one (qs_set (i := 3) sc_law.nd rfl (Or.inl rfl) (qe_tup (qa_cons qe_int (qa_cons qe_int qa_nil))))) qss_nil)
      (qss_cons (qs_set (i := 4) sc_law.nd rfl (Or.inl rfl) (qe_op op_add qe_int (qe_d d__law_pull hr.le pass0 (by rfl) (qa_cons (qv 1) (qa_cons qe_int qa_nil)))))
      (qss_cons (qs_set (i := 5) sc_law.nd rfl (Or.inl rfl) (qe_d d__law_times hr.le pass0 (by rfl) (qa_cons (qv 3) (qa_cons (qe_tup (qa_cons (qe_d d__law_pull hr.le pass0 (by rfl) (qa_cons (qv 1) (qa_cons (qe_op op_add (qv 4) qe_int) qa_nil))) (qa_cons (qv 4) qa_nil))) qa_nil))))
      (qss_cons (qs_set (i := 6) sc_law.nd rfl (Or.inl rfl) (qe_d d_fill hr.le pass0 (by rfl) (qa_cons (qv 3) (qa_cons (qv 5) qa_nil))))
      (qss_cons (qs_if (qt_not (qt_val (qe_d d__law_pair hr.le pass0 (by rfl) (qa_cons (qv 6) qa_nil)))) (qss_one (qs_ret qe_bl)) qss_nil)
      (qss_cons (qs_if (qw_and (qt_cmpR (op_eqP hr.units) (qv 3) (qe_tup (qa_cons qe_int (qa_cons qe_int qa_nil))) (nomark _)) (qw_and1 (qt_cmpR (op_neP hr.units) (qv 6) (qe_tup (qa_cons qe_int (qa_cons qe_int qa_nil))) (nomark _)))).pt (qss_one (qs_ret qe_bl)) qss_nil)
      (qss_one (qs_if (qt_cmpR (op_neP hr.units) (qe_d d__law_times hr.le pass0 (by rfl) (qa_cons (qv 6) (qa_cons (qv 3) qa_nil))) (qv 5) (nomark _)) (qss_one (qs_ret qe_bl)) qss_nil)))))))))))
      (qss_one (qs_ret qe_bl)))), ?_⟩
  refine ⟨_, rfl, a, ns, rfl, hS, hl, fun B L H1 s1 nB b1 => ?_⟩
  refine ⟨4, rfl, by decide, by decide, for_range (n := 4) (fun i σ H2 => ∃ v2 v3 v4 v5 v6, σ = [some (.ref a), some (.ref B), v2, v3, v4, v5, v6] ∧ BagAt H2 B L) ⟨_, _, _, _, _, rfl, b1⟩ ?_ ?_⟩
  · rintro i σ H2 hi ⟨v2, v3, v4, v5, v6, rfl, b2⟩
    clear hQ hl hS s1 b1 nB
    refine seq_cut3 (fun σ' H' => ∃ v2 v4 v5 v6 p N U, σ' = [some (.ref a), some (.ref B), v2, some (.ref p), v4, v5, v6] ∧ BagAt H' B L ∧ Pt H' p N U 101 31 ∧ 0 ≤ N) ?_ fun tb' key => ?_
    · rintro σ' H' ⟨v2, v4, v5, v6, p, N, U, rfl, b3, t3, hN⟩
      clear b2
      have hp := t3.at_
      k_extra "rd"
      refine ⟨B, _, L, rfl, b3, by decide, by decide, fun e H4 e0 e1 b4 f4 => ?_⟩
      have npB : p ≠ B := fun e => by
        obtain ⟨_, _, _, _, z, _⟩ := b3
        rw [← e, hp] at z
        cases z
      have hp4 := f4 _ _ npB hp
      clear hp
      obtain ⟨_, hU, hc, zN, zU⟩ := t3
      k_extra "rd"
      refine ⟨B, _, L, rfl, b4, by omega, Sz.mono (j := 31) (Sz.of (by omega)) (by decide), fun g H5 g0 g1 b5 f5 => ?_⟩
      have hp5 := f5 _ _ npB hp4
      clear hp4
      k_extra "rd"
      intro q hq
      have hp6 := (Same.new (o := .tup [.int g, .int (1 + e)]) hq) _ _ hp5
      have b6 := b5.new (o := .tup [.int g, .int (1 + e)]) hq
      have hq6 : upd H5 q (.tup [.int g, .int (1 + e)]) q = _ := upd_same
      generalize upd H5 q (.tup [.int g, .int (1 + e)]) = H6 at hp6 b6 hq6 ⊢
      clear hp5 hq
      have zg : Sz 31 g := Sz.of (by omega)
      have ze : Sz 31 (1 + e) := Sz.of (by omega)
      have hD : 0 < U * (1 + e) := Int.mul_pos hU (by omega)
      refine ⟨p, q, N, U, g, 1 + e, rfl, hp6, hq6, hU, by omega, zN.mono (by decide), zU.mono (by decide), zg.mono (by decide), ze.mono (by decide), fun r hr => ?_⟩
      have hp7 := (Same.new (o := .tup [.int (lowN (N * g) (U * (1 + e))), .int (lowU (N * g) (U * (1 + e)))]) hr) _ _ hp6
      have b7 := b6.new (o := .tup [.int (lowN (N * g) (U * (1 + e))), .int (lowU (N * g) (U * (1 + e)))]) hr
      have hr7 : upd H6 r (.tup [.int (lowN (N * g) (U * (1 + e))), .int (lowU (N * g) (U * (1 + e)))]) r = _ := upd_same
      generalize upd H6 r (.tup [.int (lowN (N * g) (U * (1 + e))), .int (lowU (N * g) (U * (1 + e)))]) = H7 at hp7 b7 hr7 ⊢
      clear hp6 hr hq6
      obtain ⟨r1, r2, r3, r4⟩ := low_red (N * g) hD
      have zP : Sz 140 (lowN (N * g) (U * (1 + e))) := ((zN.mul zg).mono (by decide)).le (natAbs_div_le _ _)
      have zD : Sz 70 (lowU (N * g) (U * (1 + e))) := ((zU.mul ze).mono (by decide)).le (natAbs_div_le _ _)
      have q0 : N = 0 → lowN (N * g) (U * (1 + e)) = 0 ∧ lowU (N * g) (U * (1 + e)) = 1 := fun h => by
        subst h
        exact low_eq hD (by decide) (by decide) (by rw [Int.zero_mul, Int.zero_mul, Int.zero_mul])
      have en : lowN (N * g) (U * (1 + e)) = N * g / (Int.gcd (N * g) (U * (1 + e)) : Int) := rfl
      have eu : lowU (N * g) (U * (1 + e)) = U * (1 + e) / (Int.gcd (N * g) (U * (1 + e)) : Int) := rfl
      rw [← en, ← eu] at r2
      rw [← eu] at r1 r4
      clear r3
      generalize lowN (N * g) (U * (1 + e)) = P' at r2 hr7 zP q0
      generalize lowU (N * g) (U * (1 + e)) = D' at r1 r2 r4 hr7 zD q0
      clear en eu
      k_extra "rd"
      refine ⟨p, r, N, U, P', D', rfl, hp7, hr7, hN, hU, r4, hc, zN.mono (by decide), zU.mono (by decide), zP.mono (by decide), zD.mono (by decide), fun t x y H8 s8 ht f1 f2 => ?_⟩
      have hp8 := s8 _ _ hp7
      have hr8 := s8 _ _ hr7
      have b8 := b7.keep s8
      clear hp7 hr7 s8
      have hx : 1 ≤ y ∧ Int.gcd x y = 1 ∧ Sz 300 x ∧ Sz 300 y ∧ lowN (x * N) (y * U) = P' ∧ lowU (x * N) (y * U) = D' ∧ (N = 0 → x = 1 ∧ y = 1) := by
        rcases Int.lt_or_eq_of_le hN with h | h
        · obtain ⟨rfl, rfl⟩ := f2 h
          have hDN : 0 < D' * N := Int.mul_pos r4 h
          obtain ⟨k1, k2, k3, k4⟩ := low_red (P' * U) hDN
          refine ⟨k1, k2, ((zP.mul zU).mono (by decide)).le (natAbs_div_le _ _), ((zD.mul zN).mono (by decide)).le (natAbs_div_le _ _), ?_⟩
          have k5 := low_cross' (P' * U) hDN
          have k6 := low_eq (a := lowN (P' * U) (D' * N) * N) (b := lowU (P' * U) (D' * N) * U) (n := P') (u := D') (Int.mul_pos k4 hU) r4 r2 (by
            rw [Int.mul_assoc, Int.mul_comm N D', k5, Int.mul_assoc, Int.mul_comm U])
          exact ⟨k6.1, k6.2, fun e => absurd e (by omega)⟩
        · obtain ⟨rfl, rfl⟩ := f1 h.symm
          obtain ⟨rfl, rfl⟩ := q0 h.symm
          subst h
          rw [Int.gcd_zero_left] at hc
          have : U = 1 := by omega
          subst this
          exact ⟨by decide, by decide, by decide, by decide, by decide, by decide, fun _ => ⟨rfl, rfl⟩⟩
      obtain ⟨x1, x2, x3, x4, x5, x6, x7⟩ := hx
      have d1 : (decide (1 ≤ y) && decide (Int.gcd x y = 1)) = true := by rw [decide_eq_true x1, decide_eq_true x2]; rfl
      clear f1 f2 q0
      k_extra "rd"
      intro q2 hq2
      have s9 := Same.new (o := .tup [.int 0, .int 1]) hq2
      have hp9 := s9 _ _ hp8
      have hr9 := s9 _ _ hr8
      have ht9 := s9 _ _ ht
      have b9 := b8.keep s9
      generalize upd H8 q2 (.tup [.int 0, .int 1]) = H9 at s9 hp9 hr9 ht9 b9 ⊢
      refine ⟨N, U, hp9, brkD (fun h => ?_) (fun h => ?_)⟩
      · obtain ⟨hx, hy⟩ := x7 h.1
        k_extra "rd"
        intro q3 hq3
        have s10 := Same.new (o := .tup [.int 1, .int 1]) hq3
        have hp10 := s10 _ _ hp9
        have hr10 := s10 _ _ hr9
        have ht10 := s10 _ _ ht9
        have b10 := b9.keep s10
        generalize upd H9 q3 (.tup [.int 1, .int 1]) = H10 at s10 hp10 hr10 ht10 b10 ⊢
        have e6 : (!decide (x = 1 ∧ y = 1)) = false := by rw [decide_eq_true ⟨hx, hy⟩]; rfl
        refine ⟨x, y, ht10, ?_⟩
        rw [e6]
        k_extra "rd"
        refine ⟨t, p, x, y, N, U, rfl, ht10, hp10, by omega, hU, x3.mono (by decide), x4.mono (by decide), zN.mono (by decide), zU.mono (by decide), fun r5 hr5 => ?_⟩
        rw [x5, x6]
        have k5 : upd H10 r5 (.tup [.int P', .int D']) r5 = _ := upd_same
        have k6 := (Same.new (o := .tup [.int P', .int D']) hr5) _ _ hr10
        have b9 := b10.new (o := .tup [.int P', .int D']) hr5
        generalize upd H10 r5 (.tup [.int P', .int D']) = H12 at k5 k6 b9 ⊢
        k_extra "rd"
        exact ⟨_, rfl⟩
      · k_extra "rd"
        refine ⟨t, p, x, y, N, U, rfl, ht9, hp9, by omega, hU, x3.mono (by decide), x4.mono (by decide), zN.mono (by decide), zU.mono (by decide), fun r5 hr5 => ?_⟩
        rw [x5, x6]
        have k5 : upd H9 r5 (.tup [.int P', .int D']) r5 = _ := upd_same
        have k6 := (Same.new (o := .tup [.int P', .int D']) hr5) _ _ hr9
        have b9 := b9.new (o := .tup [.int P', .int D']) hr5
        generalize upd H9 r5 (.tup [.int P', .int D']) = H12 at k5 k6 b9 ⊢
        k_extra "rd"
        exact ⟨_, rfl⟩
    · k_extra "rd"
      refine ⟨B, L, rfl, b2, fun p n u H3 b3 t3 => ?_⟩
      have hp := t3.at_
      k_extra "rd"
      refine ⟨B, _, L, rfl, b3, by decide, by decide, fun y H4 y0 y1 b4 f4 => ?_⟩
      have npB : p ≠ B := fun e => by
        obtain ⟨_, _, _, _, z, _⟩ := b3
        rw [← e, hp] at z
        cases z
      have hp4 := f4 _ _ npB hp
      k_extra "rd"
      have hm : 0 ≤ (if n < 0 then -n else n) * (if y < 1 then y else 1) ∧ ((if n < 0 then -n else n) * (if y < 1 then y else 1)).natAbs ≤ n.natAbs ∧ ((if n < 0 then -n else n) * (if y < 1 then y else 1) = 0 ∨ (if n < 0 then -n else n) * (if y < 1 then y else 1) = (n.natAbs : Int)) := by
        have e1 : (if n < 0 then -n else n) = (n.natAbs : Int) := by split <;> omega
        rw [e1]
        by_cases hy : y < 1
        · rw [if_pos hy]
          have : y = 0 := by omega
          subst this
          omega
        · rw [if_neg hy]
          omega
      refine ⟨Sz.okR (k := 3) (Sz.of (by split <;> omega)) (by decide), ?_⟩
      generalize (if n < 0 then -n else n) * (if y < 1 then y else 1) = M at hm ⊢
      obtain ⟨hm0, hm1, hm2⟩ := hm
      refine fun q hq => brkD (fun h => ?_) (fun h => ?_)
      · k_extra "rd"
        exact fun r hr => key _ _ ⟨_, _, _, _, r, 0, 1, rfl, (b4.new hq).new hr, ⟨upd_same, by decide, by decide, by decide, by decide⟩, by decide⟩
      · k_extra "rd"
        have e2 : M = (n.natAbs : Int) := hm2.resolve_left h
        exact key _ _ ⟨_, _, _, _, q, M, u, rfl, b4.new hq, ⟨upd_same, t3.pos, by rw [e2, ← t3.cop, Int.gcd_eq_natAbs_gcd_natAbs, Int.gcd_eq_natAbs_gcd_natAbs]; rfl, (t3.zn.le hm1).mono (by decide), t3.zu⟩, hm0⟩
  · rintro σ H2 ⟨v2, v3, v4, v5, v6, rfl, b2⟩
    exact hQ H2
theorem all_mk {l : PySem.W.OpenLaw} {w : World} {K : PySem.W.Frag} {h : Heap} {mg : Str → Option Value} {fa f0 f1 f2 f3 f4 f5 f6 f7 f8 f9 f10 f11 f12 f13 c0 : Addr} (X : K.In h) (G : h.Ns mainGlobals mg) (hfa : mg "law" = some (.ref fa))
    {od0 an0 od1 an1 od2 an2 od3 an3 od4 an4 od5 an5 od6 an6 od7 an7 od8 an8 od9 an9 od10 an10 od11 an11 od12 an12 od13 an13 : Option Addr} {sl0 sl1 sl2 sl3 sl4 sl5 sl6 sl7 sl8 sl9 sl10 sl11 sl12 sl13 : Array (Option Value)} {oc0 kV0 dc0 pm0 cd0 ct0 oc1 kV1 dc1 pm1 cd1 ct1 oc2 kV2 dc2 pm2 cd2 ct2 oc3 kV3 dc3 pm3 cd3 ct3 oc4 kV4 dc4 pm4 cd4 ct4 oc5 kV5 dc5 pm5 cd5 ct5 oc6 kV6 dc6 pm6 cd6 ct6 oc7 kV7 dc7 pm7 cd7 ct7 oc8 kV8 dc8 pm8 cd8 ct8 oc9 kV9 dc9 pm9 cd9 ct9 oc10 kV10 dc10 pm10 cd10 ct10 oc11 kV11 dc11 pm11 cd11 ct11 oc12 kV12 dc12 pm12 cd12 ct12 oc13 kV13 dc13 pm13 cd13 ct13 : Value}
    (a0 : PySem.W.nsIn K mainGlobals "common_factor" = some (some (.ref f0))) (l0 : K.lookup f0 = some ⟨oc0, od0, .func (PySem.W.fnOf "common_factor" "common_factor" (defArgs s_common_factor) (defBody s_common_factor) (defScope s_common_factor) .none kV0 dc0 pm0 an0 cd0 ct0), sl0⟩) (c0' : PySem.W.codeIn K cd0 "common_factor" = true) (k0 : PySem.W.keepIn K (.ref f0) = true)
    (a1 : PySem.W.nsIn K mainGlobals "lowest" = some (some (.ref f1))) (l1 : K.lookup f1 = some ⟨oc1, od1, .func (PySem.W.fnOf "lowest" "lowest" (defArgs s_lowest) (defBody s_lowest) (defScope s_lowest) .none kV1 dc1 pm1 an1 cd1 ct1), sl1⟩) (c1' : PySem.W.codeIn K cd1 "lowest" = true) (k1 : PySem.W.keepIn K (.ref f1) = true)
    (a2 : PySem.W.nsIn K mainGlobals "over" = some (some (.ref f2))) (l2 : K.lookup f2 = some ⟨oc2, od2, .func (PySem.W.fnOf "over" "over" (defArgs s_over) (defBody s_over) (defScope s_over) .none kV2 dc2 pm2 an2 cd2 ct2), sl2⟩) (c2' : PySem.W.codeIn K cd2 "over" = true) (k2 : PySem.W.keepIn K (.ref f2) = true)
    (a3 : PySem.W.nsIn K mainGlobals "fill" = some (some (.ref f3))) (l3 : K.lookup f3 = some ⟨oc3, od3, .func (PySem.W.fnOf "fill" "fill" (defArgs s_fill) (defBody s_fill) (defScope s_fill) .none kV3 dc3 pm3 an3 cd3 ct3), sl3⟩) (c3' : PySem.W.codeIn K cd3 "fill" = true) (k3 : PySem.W.keepIn K (.ref f3) = true)
    (a4 : PySem.W.nsIn K mainGlobals "_law_bag" = some (some (.ref f4))) (l4 : K.lookup f4 = some ⟨oc4, od4, .func (PySem.W.fnOf "_law_bag" "_law_bag" (defArgs s__law_bag) (defBody s__law_bag) (defScope s__law_bag) .none kV4 dc4 pm4 an4 cd4 ct4), sl4⟩) (c4' : PySem.W.codeIn K cd4 "_law_bag" = true) (k4 : PySem.W.keepIn K (.ref f4) = true)
    (a5 : PySem.W.nsIn K mainGlobals "_law_pull" = some (some (.ref f5))) (l5 : K.lookup f5 = some ⟨oc5, od5, .func (PySem.W.fnOf "_law_pull" "_law_pull" (defArgs s__law_pull) (defBody s__law_pull) (defScope s__law_pull) .none kV5 dc5 pm5 an5 cd5 ct5), sl5⟩) (c5' : PySem.W.codeIn K cd5 "_law_pull" = true) (k5 : PySem.W.keepIn K (.ref f5) = true)
    (a6 : PySem.W.nsIn K mainGlobals "_law_gcd" = some (some (.ref f6))) (l6 : K.lookup f6 = some ⟨oc6, od6, .func (PySem.W.fnOf "_law_gcd" "_law_gcd" (defArgs s__law_gcd) (defBody s__law_gcd) (defScope s__law_gcd) .none kV6 dc6 pm6 an6 cd6 ct6), sl6⟩) (c6' : PySem.W.codeIn K cd6 "_law_gcd" = true) (k6 : PySem.W.keepIn K (.ref f6) = true)
    (a7 : PySem.W.nsIn K mainGlobals "_law_low" = some (some (.ref f7))) (l7 : K.lookup f7 = some ⟨oc7, od7, .func (PySem.W.fnOf "_law_low" "_law_low" (defArgs s__law_low) (defBody s__law_low) (defScope s__law_low) .none kV7 dc7 pm7 an7 cd7 ct7), sl7⟩) (c7' : PySem.W.codeIn K cd7 "_law_low" = true) (k7 : PySem.W.keepIn K (.ref f7) = true)
    (a8 : PySem.W.nsIn K mainGlobals "_law_times" = some (some (.ref f8))) (l8 : K.lookup f8 = some ⟨oc8, od8, .func (PySem.W.fnOf "_law_times" "_law_times" (defArgs s__law_times) (defBody s__law_times) (defScope s__law_times) .none kV8 dc8 pm8 an8 cd8 ct8), sl8⟩) (c8' : PySem.W.codeIn K cd8 "_law_times" = true) (k8 : PySem.W.keepIn K (.ref f8) = true)
    (a9 : PySem.W.nsIn K mainGlobals "_law_whole" = some (some (.ref f9))) (l9 : K.lookup f9 = some ⟨oc9, od9, .func (PySem.W.fnOf "_law_whole" "_law_whole" (defArgs s__law_whole) (defBody s__law_whole) (defScope s__law_whole) .none kV9 dc9 pm9 an9 cd9 ct9), sl9⟩) (c9' : PySem.W.codeIn K cd9 "_law_whole" = true) (k9 : PySem.W.keepIn K (.ref f9) = true)
    (a10 : PySem.W.nsIn K mainGlobals "_law_pair" = some (some (.ref f10))) (l10 : K.lookup f10 = some ⟨oc10, od10, .func (PySem.W.fnOf "_law_pair" "_law_pair" (defArgs s__law_pair) (defBody s__law_pair) (defScope s__law_pair) .none kV10 dc10 pm10 an10 cd10 ct10), sl10⟩) (c10' : PySem.W.codeIn K cd10 "_law_pair" = true) (k10 : PySem.W.keepIn K (.ref f10) = true)
    (a11 : PySem.W.nsIn K mainGlobals "_law_number" = some (some (.ref f11))) (l11 : K.lookup f11 = some ⟨oc11, od11, .func (PySem.W.fnOf "_law_number" "_law_number" (defArgs s__law_number) (defBody s__law_number) (defScope s__law_number) .none kV11 dc11 pm11 an11 cd11 ct11), sl11⟩) (c11' : PySem.W.codeIn K cd11 "_law_number" = true) (k11 : PySem.W.keepIn K (.ref f11) = true)
    (a12 : PySem.W.nsIn K mainGlobals "_law_fraction" = some (some (.ref f12))) (l12 : K.lookup f12 = some ⟨oc12, od12, .func (PySem.W.fnOf "_law_fraction" "_law_fraction" (defArgs s__law_fraction) (defBody s__law_fraction) (defScope s__law_fraction) .none kV12 dc12 pm12 an12 cd12 ct12), sl12⟩) (c12' : PySem.W.codeIn K cd12 "_law_fraction" = true) (k12 : PySem.W.keepIn K (.ref f12) = true)
    (a13 : PySem.W.nsIn K mainGlobals "law" = some (some (.ref f13))) (l13 : K.lookup f13 = some ⟨oc13, od13, .func (PySem.W.fnOf "law" "law" (defArgs s_law) (defBody s_law) (defScope s_law) .none kV13 dc13 pm13 an13 cd13 ct13), sl13⟩) (c13' : PySem.W.codeIn K cd13 "law" = true) (k13 : PySem.W.keepIn K (.ref f13) = true)
    (x0 : PySem.W.nsIn K mainGlobals "BadPart" = some (some (.ref c0))) (y0 : PySem.W.excIn K c0 veTail "ValueError.__new__" = true)
    (z0 : PySem.W.nsIn K mainGlobals "list" = some none)
    (z1 : PySem.W.nsIn K mainGlobals "len" = some none)
    (z2 : PySem.W.nsIn K mainGlobals "abs" = some none)
    (z3 : PySem.W.nsIn K mainGlobals "isinstance" = some none)
    (z4 : PySem.W.nsIn K mainGlobals "bool" = some none)
    (z5 : PySem.W.nsIn K mainGlobals "int" = some none)
    (z6 : PySem.W.nsIn K mainGlobals "tuple" = some none)
    (z7 : PySem.W.nsIn K mainGlobals "range" = some none)
    (z8 : PySem.W.nsIn K mainGlobals "min" = some none)
    : ∃ fd : FuncData, (∀ (s : Shared) (v : Value), BindsTo s fd ⟨[v], []⟩ [("_law_script", v)]) ∧ ∀ base : Heap, K.In base → base.Ns mainGlobals mg → FnOk l.prog w K mg base CX0 5 fa fd ["_law_script"] (sp_law K (fun _ => 0)) := by
  have e := hfa.symm.trans (PySem.W.mg_of X G a13)
  cases e
  have T : Txt K mg (fun x => if x = "BadPart" then c0 else 0) := ⟨PySem.W.mg_none_of X G z0, PySem.W.mg_none_of X G z1, PySem.W.mg_none_of X G z2, PySem.W.mg_none_of X G z3, PySem.W.mg_none_of X G z4, PySem.W.mg_none_of X G z5, PySem.W.mg_none_of X G z6, PySem.W.mg_none_of X G z7, PySem.W.mg_none_of X G z8, ⟨by simpa using PySem.W.mg_of X G x0, by simpa using y0⟩⟩
  have D0 : DefAt K mg "common_factor" s_common_factor _ _ := ⟨fun_mk (st := s_common_factor) l0 c0' k0, PySem.W.mg_of X G a0⟩
  have D1 : DefAt K mg "lowest" s_lowest _ _ := ⟨fun_mk (st := s_lowest) l1 c1' k1, PySem.W.mg_of X G a1⟩
  have D2 : DefAt K mg "over" s_over _ _ := ⟨fun_mk (st := s_over) l2 c2' k2, PySem.W.mg_of X G a2⟩
  have D3 : DefAt K mg "fill" s_fill _ _ := ⟨fun_mk (st := s_fill) l3 c3' k3, PySem.W.mg_of X G a3⟩
  have D4 : DefAt K mg "_law_bag" s__law_bag _ _ := ⟨fun_mk (st := s__law_bag) l4 c4' k4, PySem.W.mg_of X G a4⟩
  have D5 : DefAt K mg "_law_pull" s__law_pull _ _ := ⟨fun_mk (st := s__law_pull) l5 c5' k5, PySem.W.mg_of X G a5⟩
  have D6 : DefAt K mg "_law_gcd" s__law_gcd _ _ := ⟨fun_mk (st := s__law_gcd) l6 c6' k6, PySem.W.mg_of X G a6⟩
  have D7 : DefAt K mg "_law_low" s__law_low _ _ := ⟨fun_mk (st := s__law_low) l7 c7' k7, PySem.W.mg_of X G a7⟩
  have D8 : DefAt K mg "_law_times" s__law_times _ _ := ⟨fun_mk (st := s__law_times) l8 c8' k8, PySem.W.mg_of X G a8⟩
  have D9 : DefAt K mg "_law_whole" s__law_whole _ _ := ⟨fun_mk (st := s__law_whole) l9 c9' k9, PySem.W.mg_of X G a9⟩
  have D10 : DefAt K mg "_law_pair" s__law_pair _ _ := ⟨fun_mk (st := s__law_pair) l10 c10' k10, PySem.W.mg_of X G a10⟩
  have D11 : DefAt K mg "_law_number" s__law_number _ _ := ⟨fun_mk (st := s__law_number) l11 c11' k11, PySem.W.mg_of X G a11⟩
  have D12 : DefAt K mg "_law_fraction" s__law_fraction _ _ := ⟨fun_mk (st := s__law_fraction) l12 c12' k12, PySem.W.mg_of X G a12⟩
  have D13 : DefAt K mg "law" s_law _ _ := ⟨fun_mk (st := s_law) l13 c13' k13, PySem.W.mg_of X G a13⟩
  refine ⟨PySem.W.fnOf "law" "law" (defArgs s_law) (defBody s_law) (defScope s_law) .none kV13 dc13 pm13 an13 cd13 ct13, fun s v => .of_eq rfl, fun base _ _ => ?_⟩
  have d__law_bag := ok__law_bag (P := l.prog) (w := w) (base := base) D4 T 
  have d__law_gcd := ok__law_gcd (P := l.prog) (w := w) (base := base) D6 T 
  have d__law_low := ok__law_low (P := l.prog) (w := w) (base := base) D7 T d__law_gcd
  have d__law_pull := ok__law_pull (P := l.prog) (w := w) (base := base) D5 T 
  have d__law_number := ok__law_number (P := l.prog) (w := w) (base := base) D11 T d__law_pull
  have d__law_fraction := ok__law_fraction (P := l.prog) (w := w) (base := base) D12 T d__law_low d__law_number d__law_pull
  have d__law_times := ok__law_times (P := l.prog) (w := w) (base := base) D8 T d__law_low
  have d_common_factor := ok_common_factor (P := l.prog) (w := w) (base := base) D0 T 
  have d_lowest := ok_lowest (P := l.prog) (w := w) (base := base) D1 T d_common_factor
  have d_over := ok_over (P := l.prog) (w := w) (base := base) D2 T d_lowest
  have d_fill := ok_fill (P := l.prog) (w := w) (base := base) D3 T d_over
  have d__law_whole := ok__law_whole (P := l.prog) (w := w) (base := base) D9 T 
  have d__law_pair := ok__law_pair (P := l.prog) (w := w) (base := base) D10 T d__law_gcd d__law_whole
  have d_law := ok_law (P := l.prog) (w := w) (base := base) D13 T d__law_bag d__law_fraction d__law_times d_fill d__law_pull d__law_pair
  exact d_law
theorem walk {l : PySem.W.OpenLaw} {q : Program} {loose : List Str} {XP : (Str → Option Value) → Heap → Prop} {YP : World → Heap → Prop} {d : DefRec} {K : Params → PySem.W.Frag} (hn : l.most = some 63) (hdf : d.params.defaults = [])
    (hY : ∀ (w : World) (h : Heap), YP w h → (K w.params).In h)
    (F : ∀ (w : World) (mg : Str → Option Value) (fa : Addr) (h : Heap), (K w.params).In h → h.Ns mainGlobals mg → mg d.name = some (.ref fa) →
      ∃ fd : FuncData, (∀ (s : Shared) (u : Value), BindsTo s fd ⟨[u], []⟩ [("_law_script", u)]) ∧ ∀ base : Heap, (K w.params).In base → base.Ns mainGlobals mg → FnOk l.prog w (K w.params) mg base CX0 5 fa fd ["_law_script"] (sp_law (K w.params) (fun _ => 0))) :
    PySem.W.WalkO q loose XP YP l.row.toRowW d [] (fun f vs => PySem.call f vs) :=
  L2.walk_of (n := 63) (k := 5) (x := "_law_script") (CX := fun _ => CX0) (sp := fun w => sp_law (K w.params) (fun _ => 0)) hn (by decide) hdf ⟨rfl, by decide, by decide⟩ hY F (fun _ _ a ns hl _ hS => ⟨a, ns, rfl, hS, hl, fun _ => rfl⟩) fun _ _ _ _ _ z => z
end Toy
open PySem PySem.W PyProof.Rows
set_option maxRecDepth 100000 in
set_option maxHeartbeats 0 in
theorem PySem.Challenge.cw_keelbond_k10_fills_told_holds : PySem.Challenge.rw_keelbond_k10_fills_told.Holds := by
  w_on; o_law; k_head; (case hw => w_witness2)
  k_fill
  refine Toy.walk (l := PySem.Challenge.rw_keelbond_k10_fills_told) rfl rfl (fun w h Y => PySem.W.kIn_of Y) ?F
  case F =>
    intro w mg fa h KX G hmg
    refine' Toy.all_mk KX G hmg ?a0 ?l0 ?c0' ?k0 ?a1 ?l1 ?c1' ?k1 ?a2 ?l2 ?c2' ?k2 ?a3 ?l3 ?c3' ?k3 ?a4 ?l4 ?c4' ?k4 ?a5 ?l5 ?c5' ?k5 ?a6 ?l6 ?c6' ?k6 ?a7 ?l7 ?c7' ?k7 ?a8 ?l8 ?c8' ?k8 ?a9 ?l9 ?c9' ?k9 ?a10 ?l10 ?c10' ?k10 ?a11 ?l11 ?c11' ?k11 ?a12 ?l12 ?c12' ?k12 ?a13 ?l13 ?c13' ?k13 ?x0 ?y0 ?z0 ?z1 ?z2 ?z3 ?z4 ?z5 ?z6 ?z7 ?z8
    (case a0 => k_is); (case l0 => k_is); (case c0' => k_is); (case k0 => k_is); (case a1 => k_is); (case l1 => k_is); (case c1' => k_is); (case k1 => k_is); (case a2 => k_is); (case l2 => k_is); (case c2' => k_is); (case k2 => k_is); (case a3 => k_is); (case l3 => k_is); (case c3' => k_is); (case k3 => k_is); (case a4 => k_is); (case l4 => k_is); (case c4' => k_is); (case k4 => k_is); (case a5 => k_is); (case l5 => k_is); (case c5' => k_is); (case k5 => k_is); (case a6 => k_is); (case l6 => k_is); (case c6' => k_is); (case k6 => k_is); (case a7 => k_is); (case l7 => k_is); (case c7' => k_is); (case k7 => k_is); (case a8 => k_is); (case l8 => k_is); (case c8' => k_is); (case k8 => k_is); (case a9 => k_is); (case l9 => k_is); (case c9' => k_is); (case k9 => k_is); (case a10 => k_is); (case l10 => k_is); (case c10' => k_is); (case k10 => k_is); (case a11 => k_is); (case l11 => k_is); (case c11' => k_is); (case k11 => k_is); (case a12 => k_is); (case l12 => k_is); (case c12' => k_is); (case k12 => k_is); (case a13 => k_is); (case l13 => k_is); (case c13' => k_is); (case k13 => k_is); (case x0 => k_is); (case y0 => k_exc); (case z0 => k_is); (case z1 => k_is); (case z2 => k_is); (case z3 => k_is); (case z4 => k_is); (case z5 => k_is); (case z6 => k_is); (case z7 => k_is); (case z8 => k_is)
