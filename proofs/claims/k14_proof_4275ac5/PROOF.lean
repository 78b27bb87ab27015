import PyProof.Rows.All
import Wide.All
import OpenK.AllK
import Wide.FinOn
import Lean
import PyProof.EqAt
import PyProof.EqKinds
import PyProof.TupleCall
import KE.KTryMore
import PySem.Challenge.RW_truthtoll_k14_whole_pay_by_what_one_gets
set_option Elab.async false
set_option linter.all false
set_option maxRecDepth 100000
namespace L2
open PySem PySem.Spec PyProof.Rows
abbrev Key := Sum Int Str
def keyIs : Key → Value → Bool
  | .inl k, v => Value.isInt k v
  | .inr x, v => Value.isStrOf x v
def keyH (w : World) : Key → Int
  | .inl k => hashInt k
  | .inr x => hashStr w x
theorem keyIs_shape : ∀ {k : Key} {v : Value}, keyIs k v = true → (∃ i t, k = Sum.inl i ∧ v = Value.int i t) ∨ (∃ x t, k = Sum.inr x ∧ v = Value.str x t)
  | .inl i, v, h => by
    obtain ⟨t, e⟩ := Value.isInt_shape (k := i) (v := v) h
    exact .inl ⟨i, t, rfl, e⟩
  | .inr x, v, h => by
    obtain ⟨t, e⟩ := Value.isStrOf_shape (x := x) (v := v) h
    exact .inr ⟨x, t, rfl, e⟩
theorem key_ll (a b : Int) : decide ((Sum.inl a : Key) = Sum.inl b) = (a == b) := by
  by_cases e : a = b
  · subst e; simp
  · have h : ¬ (Sum.inl a : Key) = Sum.inl b := fun q => e (Sum.inl.inj q)
    rw [decide_eq_false h]
    exact (beq_eq_false_iff_ne.mpr e).symm
theorem key_rr (a b : Str) : decide ((Sum.inr a : Key) = Sum.inr b) = decide (a = b) := by
  by_cases e : a = b
  · subst e; simp
  · have h : ¬ (Sum.inr a : Key) = Sum.inr b := fun q => e (Sum.inr.inj q)
    rw [decide_eq_false h, decide_eq_false e]
theorem key_lr (a : Int) (b : Str) : decide ((Sum.inl a : Key) = Sum.inr b) = false := decide_eq_false (fun q => nomatch q)
theorem key_rl (a : Str) (b : Int) : decide ((Sum.inr a : Key) = Sum.inl b) = false := decide_eq_false (fun q => nomatch q)
def mixKind (prog : Program) (w : World) : PySem.KeyKind prog w Key where
  is := keyIs
  hash := keyH w
  inj := fun v a b ha hb => by
    rcases keyIs_shape ha with ⟨i, t, rfl, rfl⟩ | ⟨x, t, rfl, rfl⟩
    · rcases keyIs_shape hb with ⟨j, u, rfl, e⟩ | ⟨y, u, rfl, e⟩
      · injection e with e1 _; rw [e1]
      · exact nomatch e
    · rcases keyIs_shape hb with ⟨j, u, rfl, e⟩ | ⟨y, u, rfl, e⟩
      · exact nomatch e
      · injection e with e1 _; rw [e1]
  byValue := fun k v h => by
    rcases keyIs_shape h with ⟨i, t, rfl, rfl⟩ | ⟨x, t, rfl, rfl⟩ <;> rfl
  pyHash := fun hv h => by
    rcases keyIs_shape hv with ⟨i, t, rfl, rfl⟩ | ⟨x, t, rfl, rfl⟩
    · exact wpAny_pyHash_int h
    · exact wpAny_pyHash_str h
  eqBool := fun hu hv h => by
    rcases keyIs_shape hu with ⟨i, t, rfl, rfl⟩ | ⟨x, t, rfl, rfl⟩
    · rcases keyIs_shape hv with ⟨j, u, rfl, rfl⟩ | ⟨y, u, rfl, rfl⟩
      · rw [key_ll] at h; exact wpAny_eqBool_int h
      · rw [key_lr] at h; exact SeqAt.EqAt.int_str i t y u _ _ _ _ h
    · rcases keyIs_shape hv with ⟨j, u, rfl, rfl⟩ | ⟨y, u, rfl, rfl⟩
      · rw [key_rl] at h; exact SeqAt.EqAt.str_int x t j u _ _ _ _ h
      · rw [key_rr] at h; exact wpAny_eqBool_str h
  «strs» := fun k x t v h => by
    rcases keyIs_shape h with ⟨i, u, rfl, e⟩ | ⟨y, u, rfl, e⟩
    · exact nomatch e
    · injection e with e1 _
      subst e1
      cases v <;> rfl
end L2
namespace L2
open PySem PySem.Spec PyProof.Rows
inductive V where
  | non | bl (b : Bool) | int (i : Int) | str (x : Str) | byt (b : Array UInt8) | flt (b : UInt64) | ref (a : Addr) | ty (n : String)
  deriving DecidableEq
def RelV : V → Value → Prop
  | .non, u => u = Value.none
  | .bl b, u => u = Value.bool b
  | .int i, u => ∃ t, u = Value.int i t
  | .str x, u => ∃ t, u = Value.str x t
  | .byt b, u => ∃ t, u = Value.bytes b t
  | .flt b, u => ∃ t, u = Value.float b t
  | .ref a, u => u = Value.ref a
  | .ty n, u => u = Value.type n
abbrev Vals : List V → List Value → Prop := Paired RelV
theorem Vals.length {xs : List V} {us : List Value} (r : Vals xs us) : xs.length = us.length := Paired.length r
theorem Vals.get : ∀ {xs : List V} {us : List Value} {i : Nat} {x : V}, Vals xs us → xs[i]? = some x → ∃ u, us[i]? = some u ∧ RelV x u
  | _, _, _, _, .nil, e => by simp at e
  | _, _, 0, _, .cons r _, e => by simp at e; subst e; exact ⟨_, rfl, r⟩
  | _, _, i + 1, x, .cons _ t, e => by
    obtain ⟨u, h1, h2⟩ := Vals.get (i := i) (x := x) t (by simpa using e)
    exact ⟨u, by simpa using h1, h2⟩
theorem Vals.set {x : V} {u : Value} (r : RelV x u) : ∀ {xs : List V} {us : List Value} (i : Nat), Vals xs us → Vals (xs.set i x) (us.set i u)
  | _, _, _, .nil => .nil
  | _, _, 0, .cons _ t => .cons r t
  | _, _, i + 1, .cons q t => .cons q (Vals.set r i t)
theorem Vals.append : ∀ {xs ys : List V} {us ws : List Value}, Vals xs us → Vals ys ws → Vals (xs ++ ys) (us ++ ws)
  | _, _, _, _, .nil, s => s
  | _, _, _, _, .cons r t, s => .cons r (Vals.append t s)
theorem Vals.take : ∀ {xs : List V} {us : List Value} (n : Nat), Vals xs us → Vals (xs.take n) (us.take n)
  | _, _, 0, _ => .nil
  | _, _, _ + 1, .nil => .nil
  | _, _, n + 1, .cons r t => .cons r (Vals.take n t)
theorem Vals.drop : ∀ {xs : List V} {us : List Value} (n : Nat), Vals xs us → Vals (xs.drop n) (us.drop n)
  | _, _, 0, r => r
  | _, _, _ + 1, .nil => .nil
  | _, _, n + 1, .cons _ t => Vals.drop n t
def RelO : Option V → Option Value → Prop
  | some v, some u => RelV v u
  | none, none => True
  | _, _ => False
def KV {κ : Type} : List (κ × V) → List (κ × Value) → Prop := Paired fun (p : κ × V) (q : κ × Value) => p.1 = q.1 ∧ RelV p.2 q.2
def kV : Key → V
  | .inl i => .int i
  | .inr x => .str x
inductive HO where
  /-- a list -/
  | lst (xs : List V)
  /-- a tuple (never changes) -/
  | tup (xs : List V)
  /-- a dict whose keys are ints and texts; one whose keys are tuples of ints and texts (the empty one is both) -/
  | dK (kvs : List (Key × V)) | dT (kvs : List (List Key × V))
  /-- a set of ints: its members, its size -/
  | set (S : Int → Bool) (n : Nat)
  /-- an instance of the class at C, its dict at dx, its attributes -/
  | ins (C dx : Addr) (fs : List (Str × V))
  /-- the dict of the instance at x -/
  | own (x : Addr)
  /-- the dict of an exception -/
  | xd (fs : List (Str × V))
  /-- a bound method, f of x -/
  | met (f x : Addr)
  /-- a range object lo, lo + 1, .. below hi -/
  | rng (lo hi : Int)
  /-- a thing that is known to the object (the script; a dict while a loop walks it): read, never written while it is so -/
  | frz (o : Obj) (u : HO)
  /-- a code object's table -/
  | tbl (ps : Array Value)
  /-- any other thing, by what is true of its one object (a def of one's own: SetO a S n := HO.ext fun h => ..) -/
  | ext (φ : Heap → Prop)
abbrev Hp := Addr → Option HO
def upd (H : Hp) (a : Addr) (o : HO) : Hp := fun b => if b = a then some o else H b
theorem upd_same {H : Hp} {a : Addr} {o : HO} : upd H a o a = some o := by unfold upd; rw [if_pos rfl]
theorem upd_ne {H : Hp} {a b : Addr} {o : HO} (h : b ≠ a) : upd H a o b = H b := by unfold upd; rw [if_neg h]
theorem ne_of_none {H : Hp} {a b : Addr} {o : HO} (h : H a = some o) (h' : H b = none) : a ≠ b := by
  intro e; subst e; rw [h] at h'; cases h'
section
variable (P : Program) (w : World)
def ObjOk (H : Hp) (h : Heap) (a : Addr) : HO → Prop
  | .lst xs => xs.length ≤ sizeLine ∧ ∃ (its : List Value) (n : Nat), Vals xs its ∧ h.get? a = some { cls := .type "list", data := .seq its.toArray n }
  | .tup xs => xs.length ≤ sizeLine ∧ ∃ its : List Value, Vals xs its ∧ IsTup h a its.toArray
  | .dK kvs => kvs.length ≤ sizeLine ∧ (a == sysModules) = false ∧ ∃ vs, KV kvs vs ∧ h.DictOf (mixKind P w) a vs
  | .dT kvs => kvs.length ≤ sizeLine ∧ (a == sysModules) = false ∧ ∃ xs : List (List Key × Addr × Value),
      Paired (fun (p : List Key × V) (q : List Key × Addr × Value) => p.1 = q.1 ∧ H q.2.1 = some (.tup (p.1.map kV)) ∧ RelV p.2 q.2.2) kvs xs ∧
      ∃ o es ep, h.get? a = some o ∧ o.ExactDict ∧ o.data = .dict es ep ∧ es.toList = xs.map (entryOfKey (tupleKind (mixKind P w))) ∧ (xs.map (·.1)).Nodup
  | .set S n => h.SetOf (intKind P w) a S n
  | .ins C dx fs => H dx = some (.own a) ∧ fs.length ≤ 1000 ∧ dx ≠ a ∧ h.get? a = some (PySem.W.instObj C dx) ∧
      ∃ mA, h.Ns1 dx mA ∧ (∀ f, RelO (fs.lookup f) (mA f)) ∧ PySem.Within mA (fs.map (·.1))
  | .own _ => ∃ o, h.get? a = some o
  | .xd fs => ∃ mA, h.Ns1 a mA ∧ ∀ f, RelO (fs.lookup f) (mA f)
  | .rng lo hi => ∃ t u v, h.get? a = some { cls := .type "range", data := .fields #[.int lo t, .int hi u, .int 1 v] }
  | .frz o u => h.get? a = some o ∧ ObjOk H h a u
  | .tbl ps => h.get? a = some { cls := .none, data := .fields ps }
  | .met f x => h.get? a = some (PySem.W.methodObj (.ref f) (.ref x))
  | .ext φ => φ h ∧ (∃ o, h.get? a = some o) ∧ ∀ h1 h2 : Heap, φ h1 → (∀ o, h1.get? a = some o → h2.get? a = some o) → φ h2
def HOk (H : Hp) (h : Heap) : Prop := ∀ a o, H a = some o → ObjOk P w H h a o
end
section
variable {P : Program} {w : World} {H H' : Hp} {h h' : Heap} {a : Addr} {o : HO}
theorem ObjOk.lt (x : ObjOk P w H h a o) : a < h.objs.size := by
  cases o with
  | lst xs => obtain ⟨_, _, _, _, e⟩ := x; exact Heap.lt_size e
  | tup xs => obtain ⟨_, _, _, p⟩ := x; exact p.lt
  | dK kvs => obtain ⟨_, _, _, _, o, _, _, e, _⟩ := x; exact Heap.lt_size e
  | dT kvs => obtain ⟨_, _, _, _, o, _, _, e, _⟩ := x; exact Heap.lt_size e
  | set S n => obtain ⟨o, _, _, _, e, _⟩ := x; exact Heap.lt_size e
  | ins C dx fs => obtain ⟨_, _, _, e, _⟩ := x; exact Heap.lt_size e
  | own y => obtain ⟨_, e⟩ := x; exact Heap.lt_size e
  | xd fs => obtain ⟨_, ⟨_, _, _, e, _⟩, _⟩ := x; exact Heap.lt_size e
  | rng lo hi => obtain ⟨_, _, _, e⟩ := x; exact Heap.lt_size e
  | frz ob u => obtain ⟨e, _⟩ := x; exact Heap.lt_size e
  | tbl ps => exact Heap.lt_size (show h.get? a = some _ from x)
  | met f y => exact Heap.lt_size (show h.get? a = some _ from x)
  | ext φ => obtain ⟨_, ⟨_, e⟩, _⟩ := x; exact Heap.lt_size e
theorem Paired.mapP {α β : Type} {F G : α → β → Prop} : ∀ {l₁ : List α} {l₂ : List β}, Paired F l₁ l₂ → (∀ a b, F a b → G a b) → Paired G l₁ l₂
  | _, _, .nil, _ => .nil
  | _, _, .cons r t, f => .cons (f _ _ r) (Paired.mapP t f)
theorem ObjOk.stay (x : ObjOk P w H h a o) (k : ∀ b u, (b = a ∨ H b = some (.own a)) → h.get? b = some u → h'.get? b = some u)
    (ho : ∀ b, H b = some (.own a) → H' b = some (.own a)) (ht : ∀ b xs, H b = some (.tup xs) → H' b = some (.tup xs)) : ObjOk P w H' h' a o := by
  induction o with
  | lst xs => obtain ⟨z, its, n, r, e⟩ := x; exact ⟨z, its, n, r, k _ _ (.inl rfl) e⟩
  | tup xs => obtain ⟨z, its, r, ob, e, c⟩ := x; exact ⟨z, its, r, ob, k _ _ (.inl rfl) e, c⟩
  | dK kvs => obtain ⟨z, y, vs, r, ob, es, ep, e, c⟩ := x; exact ⟨z, y, vs, r, ob, es, ep, k _ _ (.inl rfl) e, c⟩
  | dT kvs =>
    obtain ⟨z, y, xs, r, ob, es, ep, e, c⟩ := x
    exact ⟨z, y, xs, Paired.mapP r fun p q z => ⟨z.1, ht _ _ z.2.1, z.2.2⟩, ob, es, ep, k _ _ (.inl rfl) e, c⟩
  | set S n => obtain ⟨ob, es, ep, t, e, c⟩ := x; exact ⟨ob, es, ep, t, k _ _ (.inl rfl) e, c⟩
  | ins C dx fs =>
    obtain ⟨d, z, ne, e, mA, ⟨od, es, ep, e2, c⟩, r⟩ := x
    exact ⟨ho _ d, z, ne, k _ _ (.inl rfl) e, mA, ⟨od, es, ep, k _ _ (.inr d) e2, c⟩, r⟩
  | own y => obtain ⟨ob, e⟩ := x; exact ⟨ob, k _ _ (.inl rfl) e⟩
  | xd fs => obtain ⟨mA, ⟨od, es, ep, e, c⟩, r⟩ := x; exact ⟨mA, ⟨od, es, ep, k _ _ (.inl rfl) e, c⟩, r⟩
  | rng lo hi => obtain ⟨t, u, v, e⟩ := x; exact ⟨t, u, v, k _ _ (.inl rfl) e⟩
  | frz ob u ih => obtain ⟨e, q⟩ := x; exact ⟨k _ _ (.inl rfl) e, ih q⟩
  | tbl ps =>
    have e : h.get? a = some { cls := .none, data := .fields ps } := x
    show h'.get? a = some { cls := .none, data := .fields ps }
    exact k a _ (.inl rfl) e
  | met f y =>
    have e : h.get? a = some (PySem.W.methodObj (.ref f) (.ref y)) := x
    show h'.get? a = some (PySem.W.methodObj (.ref f) (.ref y))
    exact k a _ (.inl rfl) e
  | ext φ => obtain ⟨p, ⟨o, e⟩, st⟩ := x; exact ⟨st _ _ p fun o q => k _ _ (.inl rfl) q, ⟨o, k _ _ (.inl rfl) e⟩, st⟩
theorem HOk.lt (x : HOk P w H h) (e : H a = some o) : a < h.objs.size := (x a o e).lt
theorem HOk.fresh (x : HOk P w H h) (e : h.objs.size ≤ a) : H a = none := by
  cases q : H a with
  | none => rfl
  | some u => exact absurd (Nat.lt_of_lt_of_le (x.lt q) e) (Nat.lt_irrefl _)
theorem HOk.kept (x : HOk P w H h) (k : ∀ b u, h.get? b = some u → h'.get? b = some u) : HOk P w H h' := fun a o e =>
  (x a o e).stay (fun b u _ q => k b u q) (fun _ q => q) fun _ _ q => q
theorem HOk.laid (x : HOk P w H h) (k : ∀ b u, h.get? b = some u → h'.get? b = some u) (hp : h.objs.size ≤ a) (new : ObjOk P w (upd H a o) h' a o) : HOk P w (upd H a o) h' := fun b u e => by
  have hn := x.fresh hp
  by_cases hb : b = a
  · subst hb; rw [upd_same] at e; cases e; exact new
  · rw [upd_ne hb] at e
    exact (x b u e).stay (fun c v _ q => k c v q) (fun c q => by rw [upd_ne (ne_of_none q hn)]; exact q) fun c xs q => by rw [upd_ne (ne_of_none q hn)]; exact q
end
def Rd (H : Hp) (a : Addr) (u : HO) : Prop := H a = some u ∨ ∃ o, H a = some (.frz o u)
theorem Rd.of {H : Hp} {a : Addr} {u : HO} (h : H a = some u) : Rd H a u := .inl h
theorem Rd.ok {P : Program} {w : World} {H : Hp} {h : Heap} {a : Addr} {u : HO} (r : Rd H a u) (x : HOk P w H h) : ObjOk P w H h a u := by
  rcases r with r | ⟨o, r⟩
  · exact x a u r
  · obtain ⟨_, q⟩ := x a _ r
    exact q
def Mut : Option HO → Prop
  | some (.lst _) => True
  | some (.dK _) => True
  | some (.dT _) => True
  | some (.set _ _) => True
  | some (.ins _ _ _) => True
  | some (.ext _) => True
  | _ => False
section
variable {P : Program} {w : World} {H : Hp} {h h' : Heap} {x e : Addr} {o' : HO}
theorem HOk.write (ok : HOk P w H h) (mu : Mut (H x)) (he : e = x ∨ H e = some (.own x)) (k : ∀ b u, b ≠ e → h.get? b = some u → h'.get? b = some u) (heo : ∃ u, h'.get? e = some u)
    (new : ObjOk P w (upd H x o') h' x o') : HOk P w (upd H x o') h' := fun b u q => by
  have nown : ∀ c y, H c = some (.own y) → c ≠ x := fun c y r z => by subst z; rw [r] at mu; exact mu
  have ntup : ∀ c xs, H c = some (.tup xs) → c ≠ x := fun c xs r z => by subst z; rw [r] at mu; exact mu
  by_cases hb : b = x
  · subst hb; rw [upd_same] at q; cases q; exact new
  · rw [upd_ne hb] at q
    by_cases hbe : b = e
    · have q' : H b = some (.own x) := by
        rcases he with z | z
        · exact absurd (hbe.trans z) hb
        · rw [hbe]; exact z
      rw [q] at q'; cases q'
      obtain ⟨v, hv⟩ := heo
      exact ⟨v, by rw [hbe]; exact hv⟩
    · refine (ok b u q).stay (fun c v hc r => k c v ?_ r) (fun c r => by rw [upd_ne (nown c b r)]; exact r) fun c xs r => by rw [upd_ne (ntup c xs r)]; exact r
      rcases hc with rfl | hc
      · exact hbe
      · rintro rfl
        rcases he with z | z
        · exact nown c b hc z
        · rw [hc] at z; cases z; exact hb rfl
end
structure Un (fs ex : List Addr) (H H' : Hp) (h h' : Heap) : Prop where
  keep : ∀ b o, h.get? b = some o → H b = none → b ∉ fs → b ∉ ex → h'.get? b = some o
  slot : ∀ b o, h.get? b = some o → H b = none → b ∈ fs → b ∉ ex → ∃ sl, h'.get? b = some { o with slots := sl }
  free : ∀ b o, h.get? b = some o → H b = none → b ∉ ex → H' b = none
  there : ∀ b o, h.get? b = some o → b ∉ ex → ∃ o', h'.get? b = some o'
  tups : ∀ b xs, H b = some (.tup xs) → H' b = some (.tup xs)
  frzs : ∀ b o u, H b = some (.frz o u) → H' b = some (.frz o u)
  tbls : ∀ b ps, H b = some (.tbl ps) → ∃ more, H' b = some (.tbl (ps ++ more))
section
variable {fs fs' ex ex' : List Addr} {H H1 H2 : Hp} {h h1 h2 h' : Heap} {a x e : Addr} {o : HO}
theorem Un.any (u : Un fs ex H H1 h h1) {b : Addr} {ob : Obj} (q : h.get? b = some ob) (n : H b = none) (hx : b ∉ ex) : ∃ sl, h1.get? b = some { ob with slots := sl } := by
  by_cases hb : b ∈ fs
  · exact u.slot b ob q n hb hx
  · exact ⟨ob.slots, u.keep b ob q n hb hx⟩
theorem Un.trans (a : Un fs ex H H1 h h1) (b : Un fs ex H1 H2 h1 h2) : Un fs ex H H2 h h2 where
  keep := fun c ob q n hc hx => b.keep c ob (a.keep c ob q n hc hx) (a.free c ob q n hx) hc hx
  slot := fun c ob q n hc hx => by
    obtain ⟨sl, e1⟩ := a.slot c ob q n hc hx
    obtain ⟨sl', e2⟩ := b.slot c _ e1 (a.free c ob q n hx) hc hx
    exact ⟨sl', e2⟩
  free := fun c ob q n hx => by
    obtain ⟨o', e1⟩ := a.there c ob q hx
    exact b.free c o' e1 (a.free c ob q n hx) hx
  there := fun c ob q hx => by
    obtain ⟨o', e1⟩ := a.there c ob q hx
    exact b.there c o' e1 hx
  tups := fun c xs q => b.tups c xs (a.tups c xs q)
  frzs := fun c ob xs q => b.frzs c ob xs (a.frzs c ob xs q)
  tbls := fun c ps q => by
    obtain ⟨m1, e1⟩ := a.tbls c ps q
    obtain ⟨m2, e2⟩ := b.tbls c _ e1
    exact ⟨m1 ++ m2, by rw [e2, Array.append_assoc]⟩
theorem Un.kept (k : ∀ b u, h.get? b = some u → h'.get? b = some u) : Un fs ex H H h h' :=
  ⟨fun b ob q _ _ _ => k b ob q, fun b ob q _ _ _ => ⟨ob.slots, k b ob q⟩, fun _ _ _ n _ => n, fun b ob q _ => ⟨ob, k b ob q⟩, fun _ _ q => q, fun _ _ _ q => q, fun _ ps q => ⟨#[], by rw [q]; simp⟩⟩
theorem Un.refl : Un fs ex H H h h := Un.kept fun _ _ q => q
theorem Un.laid (k : ∀ b u, h.get? b = some u → h'.get? b = some u) (hp : h.objs.size ≤ a) (hn : H a = none) : Un fs ex H (upd H a o) h h' where
  keep := fun b u q _ _ _ => k b u q
  slot := fun b u q _ _ _ => ⟨u.slots, k b u q⟩
  free := fun b u q n _ => by rw [upd_ne (Nat.ne_of_lt (Nat.lt_of_lt_of_le (Heap.lt_size q) hp))]; exact n
  there := fun b u q _ => ⟨u, k b u q⟩
  tups := fun b xs q => by rw [upd_ne (ne_of_none q hn)]; exact q
  frzs := fun b u xs q => by rw [upd_ne (ne_of_none q hn)]; exact q
  tbls := fun b ps q => ⟨#[], by rw [upd_ne (ne_of_none q hn), q]; simp⟩
theorem Un.write (mu : Mut (H x)) (he : e = x ∨ H e = some (.own x)) (k : ∀ b u, b ≠ e → h.get? b = some u → h'.get? b = some u) (heo : ∃ u, h'.get? e = some u) : Un fs ex H (upd H x o) h h' := by
  have hx : ∀ b, H b = none → b ≠ x := fun b n z => by subst z; rw [n] at mu; exact mu
  have hb : ∀ b, H b = none → b ≠ e := fun b n z => by
    subst z
    rcases he with r | r
    · exact hx b n r
    · rw [n] at r; cases r
  have hm : ∀ b u, H b = some u → ¬ Mut (some u) → b ≠ x := fun b u q nm z => by subst z; rw [q] at mu; exact nm mu
  refine ⟨fun b u q n _ _ => k b u (hb b n) q, fun b u q n _ _ => ⟨u.slots, k b u (hb b n) q⟩, fun b u q n _ => by rw [upd_ne (hx b n)]; exact n, fun b u q _ => ?_,
    fun b xs q => by rw [upd_ne (hm b _ q fun z => z)]; exact q, fun b u xs q => by rw [upd_ne (hm b _ q fun z => z)]; exact q, fun b ps q => ⟨#[], by rw [upd_ne (hm b _ q fun z => z), q]; simp⟩⟩
  by_cases hbe : b = e
  · subst hbe; exact heo
  · exact ⟨u, k b u hbe q⟩
theorem Un.mono (u : Un fs ex H H1 h h1) (hs : ∀ b ∈ fs, b ∈ fs') (hx : ∀ b ∈ ex, b ∈ ex') : Un fs' ex' H H1 h h1 :=
  ⟨fun b ob q n hb he => u.keep b ob q n (fun z => hb (hs b z)) fun z => he (hx b z), fun _ _ q n _ he => u.any q n fun z => he (hx _ z), fun b ob q n he => u.free b ob q n fun z => he (hx b z), fun b ob q he => u.there b ob q fun z => he (hx b z), u.tups, u.frzs, u.tbls⟩
end
def trk (h : Heap) (H : Hp) : List Addr := (List.range h.objs.size).filter fun a => (H a).isSome
def hidT (h : Heap) (H : Hp) : Heap := PySem.W.hideAll h (trk h H)
theorem hidT_size (h : Heap) (H : Hp) : (hidT h H).objs.size = h.objs.size := PySem.W.hideAll_size _ _
theorem hidT_get {h : Heap} {H : Hp} {b : Addr} {o : Obj} (e : h.get? b = some o) (n : H b = none) : (hidT h H).get? b = some o :=
  PySem.W.hideAll_get _ e fun hm => by
    have q : (H b).isSome = true := (List.mem_filter.mp hm).2
    rw [n] at q; simp at q
theorem of_hidT {h : Heap} {H : Hp} {b : Addr} {o : Obj} (e : (hidT h H).get? b = some o) : h.get? b = some o ∧ H b = none := by
  have e' : h.get? b = some o := PySem.W.of_hideAll (trk h H) e
  refine ⟨e', ?_⟩
  cases q : H b with
  | none => rfl
  | some x =>
    have hm : b ∈ trk h H := List.mem_filter.mpr ⟨List.mem_range.mpr (Heap.lt_size e'), by simp [q]⟩
    have z : (hidT h H).get? b = none := PySem.W.hideAll_none (trk h H) hm
    rw [z] at e; cases e
def allNews (g h : Heap) (L : Addr) : List (Addr × Obj) := (List.range h.objs.size).filterMap fun a => if a = L ∨ (g.get? a).isSome = true then none else (h.get? a).map fun o => (a, o)
def rest (g h : Heap) (L d : Addr) : List (Addr × Obj) := (allNews g h L).filter fun p => decide (p.1 ≠ d)
end L2
namespace L2
open PySem PySem.Spec PyProof.Rows
structure Mod (K : PySem.W.Frag) (mg : Str → Option Value) (base : Heap) : Prop where
  kin : K.In base
  glob : base.Ns mainGlobals mg
  blt : ∃ mb, base.Ns builtinsNs mb ∧ ∀ x : Str, x ≠ "__name__" → mb x = bootBuiltins x
  nolimit : base.NoLimit
structure Cx where
  prog : Program
  w : World
  K : PySem.W.Frag
  mg : Str → Option Value
  base : Heap
  A : Around
  N : List Str
  s₀ : Shared
  H₀ : Hp
  env : Env
  outer : List Env
  stack : List Env
  ex : List Addr
  fn : Str → Bool
  calm : Bool
  pn : List (Addr × Obj)
  xe : Value → Shared → Prop
def frs (l : List Env) : List Addr := l.filterMap (·.frame)
abbrev Cx.fs (X : Cx) : List Addr := frs X.outer
def Vis (sc : Scope) (x : Str) : Prop := sc.names.lookup x = some .local ∨ sc.names.lookup x = some .cell ∨ sc.names.lookup x = some .free
def Loc (sc : Scope) (x : Str) : Prop := sc.names.lookup x = some .local ∨ sc.names.lookup x = some .cell
def Look (env : Env) (h : Heap) (m : Str → Option Value) (x : Str) (u : Value) : Prop :=
  (env.kindOf x = some .local ∧ m x = some u) ∨ ((env.kindOf x = some .cell ∨ env.kindOf x = some .free) ∧ ∃ c, env.cells.lookup x = some c ∧ h.IsCell c (some u))
structure Cx.Ok (X : Cx) : Prop where
  mod : Mod X.K X.mg X.base
  kind : X.env.scope.kind = .function
  glob : X.env.globals = mainGlobals
  blt : X.env.builtins = builtinsNs
  above : X.s₀.heap.objs.size ≤ X.env.locals
  inj : ∀ x y c, X.env.cells.lookup x = some c → X.env.cells.lookup y = some c → x = y
  has : ∀ x, (X.env.kindOf x = some .cell ∨ X.env.kindOf x = some .free) → ∃ c, X.env.cells.lookup x = some c
  cab : ∀ x c, X.fn x = true → X.env.cells.lookup x = some c → X.s₀.heap.objs.size ≤ c
  hd : X.calm = true → X.A.handled = none
  frames : X.A.frames = some X.stack
  stk : X.stack = X.outer ∨ (X.stack = X.env :: X.outer ∧ X.env.frame = some X.env.locals)
  exf : ∀ b ∈ X.ex, b ≠ X.env.locals ∧ ∀ x c, X.env.cells.lookup x = some c → c ≠ b
  bs : ∀ b o, X.base.get? b = some o → X.s₀.heap.get? b = some o ∧ X.H₀ b = none
  bsz : X.base.objs.size ≤ X.s₀.heap.objs.size
  noex : ∀ b o, X.base.get? b = some o → b ∉ X.ex
  exfs : ∀ b ∈ X.ex, b ∉ X.fs
  funs : X.s₀.heap.FunFrames X.base X.outer
  frf : ∀ b ∈ X.fs, X.H₀ b = none
structure Inv (X : Cx) (pins : List (Addr × Obj)) (σ : List (Option V)) (H : Hp) (s : Shared) : Prop where
  ok : X.Ok
  os : s.os = X.s₀.os
  bare : AllBare s.gens
  base : Un X.fs X.ex X.H₀ H X.s₀.heap s.heap
  loc : ∃ m, s.heap.Ns X.env.locals m ∧ ∀ (i : Nat) (x : Str) (v : V), X.N[i]? = some x → σ[i]? = some (some v) → Vis X.env.scope x → ∃ u, RelV v u ∧ Look X.env s.heap m x u
  cell : ∀ x c, X.env.cells.lookup x = some c → ∃ v, s.heap.IsCell c v
  free : H X.env.locals = none
  freeC : ∀ x c, X.env.cells.lookup x = some c → H c = none
  pin : ∀ p ∈ X.pn ++ pins, s.heap.get? p.1 = some p.2 ∧ H p.1 = none ∧ p.1 ≠ X.env.locals ∧ p.1 ∉ X.fs ∧ ∀ v, p.2.data ≠ .cell v
  hok : HOk X.prog X.w H s.heap
  len : σ.length = X.N.length
section
variable {X : Cx} {pins : List (Addr × Obj)} {σ : List (Option V)} {H H' : Hp} {s : Shared} {h' : Heap}
theorem Cx.Ok.nofr (ok : X.Ok) {b : Addr} {o : Obj} (e : X.base.get? b = some o) : b ∉ X.fs := fun hb => by
  have := (ok.funs.mem hb).1
  rw [e] at this; cases this
theorem Inv.bs (I : Inv X pins σ H s) : ∀ b o, X.base.get? b = some o → s.heap.get? b = some o ∧ H b = none := fun b o e =>
  ⟨I.base.keep b o (I.ok.bs b o e).1 (I.ok.bs b o e).2 (I.ok.nofr e) (I.ok.noex b o e), I.base.free b o (I.ok.bs b o e).1 (I.ok.bs b o e).2 (I.ok.noex b o e)⟩
theorem Inv.bk (I : Inv X pins σ H s) : ∀ b o, X.base.get? b = some o → s.heap.get? b = some o := fun b o e => (I.bs b o e).1
theorem Inv.mod (I : Inv X pins σ H s) : Mod X.K X.mg X.base := I.ok.mod
theorem Inv.kIn (I : Inv X pins σ H s) : X.K.In s.heap := I.ok.mod.kin.keeps I.bk
theorem Inv.nolimit (I : Inv X pins σ H s) : s.heap.NoLimit := I.ok.mod.nolimit.keeps I.bk
theorem Inv.fr (I : Inv X pins σ H s) : ∃ m, Fr X.base X.env.locals s.heap m :=
  let ⟨m, hn, _⟩ := I.loc
  ⟨m, hn, I.bk, Nat.le_trans I.ok.bsz I.ok.above⟩
theorem Inv.lt (I : Inv X pins σ H s) : X.env.locals < s.heap.objs.size := let ⟨_, hn, _⟩ := I.loc; hn.lt
theorem Inv.sz (I : Inv X pins σ H s) : X.s₀.heap.objs.size ≤ s.heap.objs.size := Nat.le_trans I.ok.above (Nat.le_of_lt I.lt)
theorem Inv.nofs (I : Inv X pins σ H s) {a : Addr} (h : s.heap.objs.size ≤ a) : a ∉ X.fs := fun hb => by
  obtain ⟨_, o, ho, _⟩ := I.ok.funs.mem hb
  exact absurd (Nat.lt_of_lt_of_le (Heap.lt_size ho) (Nat.le_trans I.sz h)) (Nat.lt_irrefl _)
theorem Inv.cne (I : Inv X pins σ H s) : ∀ x c, X.env.cells.lookup x = some c → c ≠ X.env.locals := fun x c e z => by
  obtain ⟨v, o, ho, hd⟩ := I.cell x c e
  obtain ⟨m, ⟨o', es, ep, ho', hd', _⟩, _⟩ := I.loc
  rw [z, ho'] at ho; cases ho; rw [hd'] at hd; cases hd
theorem Inv.funs (I : Inv X pins σ H s) : s.heap.FunFrames X.base X.outer := by
  have all : ∀ (l : List Env), (∀ b ∈ frs l, b ∈ X.fs) → X.s₀.heap.FunFrames X.base l → s.heap.FunFrames X.base l := by
    intro l
    induction l with
    | nil => intro _ _; trivial
    | cons env r ih =>
      intro hs hl
      obtain ⟨hk, ⟨L, o, hf, hn, ho, hd⟩, hr⟩ := hl
      have hL : L ∈ X.fs := hs L (by unfold frs; rw [List.filterMap_cons, hf]; exact List.mem_cons_self)
      obtain ⟨sl, e⟩ := I.base.slot L o ho (I.ok.frf L hL) hL fun z => I.ok.exfs L z hL
      exact ⟨hk, ⟨L, _, hf, hn, e, hd⟩, ih (fun b hb => hs b (by unfold frs; rw [List.filterMap_cons, hf]; exact List.mem_cons_of_mem _ hb)) hr⟩
  exact all X.outer (fun _ hb => hb) I.ok.funs
theorem Inv.stack (I : Inv X pins σ H s) : s.heap.FunFrames X.base X.stack := by
  rcases I.ok.stk with e | ⟨e, hf⟩
  · rw [e]; exact I.funs
  · rw [e]
    obtain ⟨m, hn, _⟩ := I.loc
    refine .cons (by rw [I.ok.kind]; decide) hf hn ?_ I.funs
    exact Heap.get?_none_of_le (Nat.le_trans I.ok.bsz I.ok.above)
theorem Inv.stkSub (I : Inv X pins σ H s) : ∀ b ∈ frs X.stack, b ∈ X.env.locals :: X.fs := fun b hb => by
  rcases I.ok.stk with e | ⟨e, hf⟩
  · rw [e] at hb; exact List.mem_cons_of_mem _ hb
  · rw [e] at hb
    unfold frs at hb
    rw [List.filterMap_cons, hf] at hb
    exact hb
theorem Inv.stkFree (I : Inv X pins σ H s) : ∀ b ∈ frs X.stack, H b = none := fun b hb => by
  rcases List.mem_cons.mp (I.stkSub b hb) with e | hb
  · rw [e]; exact I.free
  · obtain ⟨_, o, ho, _⟩ := I.ok.funs.mem hb
    exact I.base.free b o ho (I.ok.frf b hb) fun z => I.ok.exfs b z hb
theorem Inv.step {g' : Array GenState} {t' : Nat} {d' : Drawn} {ch : List Addr} (I : Inv X pins σ H s)
    (hch : ∀ b ∈ ch, (b ∈ X.ex ∨ X.s₀.heap.objs.size ≤ b) ∧ b ≠ X.env.locals ∧ (∀ x c, X.env.cells.lookup x = some c → c ≠ b) ∧ ∀ p ∈ X.pn ++ pins, p.1 ≠ b)
    (keep : ∀ b o, b ≠ X.env.locals → b ∉ X.fs → b ∉ ch → s.heap.get? b = some o → H b = none → h'.get? b = some o)
    (slot : ∀ b o, b ≠ X.env.locals → b ∈ X.fs → b ∉ ch → s.heap.get? b = some o → H b = none → ∃ sl, h'.get? b = some { o with slots := sl }) (free : ∀ b o, b ∉ ch → s.heap.get? b = some o → H b = none → H' b = none)
    (there : ∀ b o, b ∉ ch → s.heap.get? b = some o → ∃ o', h'.get? b = some o')
    (tups : ∀ b xs, H b = some (.tup xs) → H' b = some (.tup xs)) (frzs : ∀ b o u, H b = some (.frz o u) → H' b = some (.frz o u)) (tbls : ∀ b ps, H b = some (.tbl ps) → ∃ more, H' b = some (.tbl (ps ++ more)))
    (ns : ∀ m, s.heap.Ns X.env.locals m → h'.Ns X.env.locals m) (hok : HOk X.prog X.w H' h') (hg : AllBare g') :
    Inv X pins σ H' { s with heap := h', gens := g', drawn := d', toks := t' } := by
  have neL : ∀ b o, X.s₀.heap.get? b = some o → b ≠ X.env.locals := fun b o e => Nat.ne_of_lt (Nat.lt_of_lt_of_le (Heap.lt_size e) I.ok.above)
  have neC : ∀ b o, X.s₀.heap.get? b = some o → b ∉ X.ex → b ∉ ch := fun b o e hx hb => by
    rcases (hch b hb).1 with z | z
    · exact hx z
    · exact absurd (Nat.lt_of_lt_of_le (Heap.lt_size e) z) (Nat.lt_irrefl _)
  have cellK : ∀ x c, X.env.cells.lookup x = some c → ∀ v, s.heap.IsCell c v → h'.IsCell c v := fun x c e v ⟨o, ho, hd⟩ => by
    have nch : c ∉ ch := fun z => (hch c z).2.2.1 x c e rfl
    by_cases hc : c ∈ X.fs
    · obtain ⟨sl, q⟩ := slot c o (I.cne x c e) hc nch ho (I.freeC x c e)
      exact ⟨_, q, hd⟩
    · exact ⟨o, keep c o (I.cne x c e) hc nch ho (I.freeC x c e), hd⟩
  refine ⟨I.ok, I.os, hg, ⟨fun b o e n hb hx => ?_, fun b o e n hb hx => ?_, fun b o e n hx => ?_, fun b o e hx => ?_, fun b xs e => tups b xs (I.base.tups b xs e), fun b o xs e => frzs b o xs (I.base.frzs b o xs e), fun b ps e => ?_⟩, ?_, fun x c e => ?_, ?_, fun x c e => ?_, fun p hp => ?_, hok, I.len⟩
  · exact keep b o (neL b o e) hb (neC b o e hx) (I.base.keep b o e n hb hx) (I.base.free b o e n hx)
  · obtain ⟨sl, e1⟩ := I.base.slot b o e n hb hx
    obtain ⟨sl', e2⟩ := slot b _ (neL b o e) hb (neC b o e hx) e1 (I.base.free b o e n hx)
    exact ⟨sl', e2⟩
  · obtain ⟨o', e1⟩ := I.base.there b o e hx
    exact free b o' (neC b o e hx) e1 (I.base.free b o e n hx)
  · obtain ⟨o', e1⟩ := I.base.there b o e hx
    exact there b o' (neC b o e hx) e1
  · obtain ⟨m1, e1⟩ := I.base.tbls b ps e
    obtain ⟨m2, e2⟩ := tbls b _ e1
    exact ⟨m1 ++ m2, by rw [e2, Array.append_assoc]⟩
  · obtain ⟨m, hn, hl⟩ := I.loc
    refine ⟨m, ns m hn, fun i x v e1 e2 e3 => ?_⟩
    obtain ⟨u, r, l⟩ := hl i x v e1 e2 e3
    refine ⟨u, r, ?_⟩
    rcases l with l | ⟨k, c, e, z⟩
    · exact .inl l
    · exact .inr ⟨k, c, e, cellK x c e _ z⟩
  · obtain ⟨v, z⟩ := I.cell x c e
    exact ⟨v, cellK x c e v z⟩
  · obtain ⟨m, ⟨o, _, _, ho, _⟩, _⟩ := I.loc
    exact free _ o (fun z => (hch _ z).2.1 rfl) ho I.free
  · obtain ⟨v, o, ho, hd⟩ := I.cell x c e
    exact free c o (fun z => (hch c z).2.2.1 x c e rfl) ho (I.freeC x c e)
  · obtain ⟨e, n, ne, nf, d⟩ := I.pin p hp
    have nch : p.1 ∉ ch := fun z => (hch p.1 z).2.2.2 p hp rfl
    exact ⟨keep p.1 p.2 ne nf nch e n, free p.1 p.2 nch e n, ne, nf, d⟩
theorem Inv.un {t' : Nat} (I : Inv X pins σ H s) (u : Un X.fs [] H H' s.heap h') (hok : HOk X.prog X.w H' h') : Inv X pins σ H' { s with heap := h', toks := t' } := by
  obtain ⟨m, ⟨o, es, ep, ho, r⟩, _⟩ := id I.loc
  obtain ⟨sl, hL⟩ := u.any ho I.free (by simp)
  exact I.step (g' := s.gens) (d' := s.drawn) (ch := []) (fun _ z => nomatch z) (fun b o _ hb _ e n => u.keep b o e n hb (by simp)) (fun b o _ hb _ e n => u.slot b o e n hb (by simp)) (fun b o _ e n => u.free b o e n (by simp)) (fun b o _ e => u.there b o e (by simp)) u.tups u.frzs u.tbls (fun m' hm => by
    obtain ⟨o', es', ep', ho', r'⟩ := hm
    rw [ho] at ho'; cases ho'
    exact ⟨_, es', ep', hL, r'⟩) hok I.bare
theorem Inv.call {g' : Array GenState} {t' : Nat} {d' : Drawn} {ch : List Addr} (I : Inv X pins σ H s) (u : Un (frs X.stack) ch H H' s.heap h') (hok : HOk X.prog X.w H' h') (hg : AllBare g')
    (hch : ∀ b ∈ ch, (b ∈ X.ex ∨ X.s₀.heap.objs.size ≤ b) ∧ b ≠ X.env.locals ∧ (∀ x c, X.env.cells.lookup x = some c → c ≠ b) ∧ ∀ p ∈ X.pn ++ pins, p.1 ≠ b) :
    Inv X pins σ H' { s with heap := h', gens := g', drawn := d', toks := t' } := by
  obtain ⟨m, ⟨o, es, ep, ho, r⟩, _⟩ := id I.loc
  obtain ⟨sl, hL⟩ := u.any ho I.free fun z => (hch _ z).2.1 rfl
  exact I.step (ch := ch) hch (fun b o hL hb hc e n => u.keep b o e n (fun z => (List.mem_cons.mp (I.stkSub b z)).elim hL hb) hc) (fun b o _ _ hc e n => u.any e n hc) (fun b o hc e n => u.free b o e n hc) (fun b o hc e => u.there b o e hc) u.tups u.frzs u.tbls (fun m' hm => by
    obtain ⟨o', es', ep', ho', r'⟩ := hm
    rw [ho] at ho'; cases ho'
    exact ⟨_, es', ep', hL, r'⟩) hok hg
theorem Inv.turned {t' : Nat} {it : Addr} (I : Inv X pins σ H s) (k : ∀ b o, b ≠ it → s.heap.get? b = some o → h'.get? b = some o) (hn : H it = none) (hL : it ≠ X.env.locals)
    (h1 : it ∈ X.ex ∨ X.s₀.heap.objs.size ≤ it) (h2 : ∀ x c, X.env.cells.lookup x = some c → c ≠ it) (h3 : ∀ p ∈ X.pn ++ pins, p.1 ≠ it) : Inv X pins σ H { s with heap := h', toks := t' } := by
  have nit : ∀ b u, H b = some u → b ≠ it := fun b u e z => by rw [z, hn] at e; cases e
  refine I.step (g' := s.gens) (d' := s.drawn) (ch := [it]) (fun b hb => ?_) (fun b o _ _ hc e _ => k b o (fun z => hc (by simp [z])) e) (fun b o _ _ hc e _ => ⟨o.slots, k b o (fun z => hc (by simp [z])) e⟩) (fun _ _ _ _ n => n)
    (fun b o hc e => ⟨o, k b o (fun z => hc (by simp [z])) e⟩) (fun _ _ e => e) (fun _ _ _ e => e) (fun b ps e => ⟨#[], by rw [e]; simp⟩) (fun m hm => ?_) (fun b u e => ?_) I.bare
  · have e : b = it := by simpa using hb
    subst e
    exact ⟨h1, hL, h2, h3⟩
  · obtain ⟨o, es, ep, ho, r⟩ := hm
    exact ⟨o, es, ep, k _ o (Ne.symm hL) ho, r⟩
  · refine (I.hok b u e).stay (fun c v hc q => k c v ?_ q) (fun _ q => q) fun _ _ q => q
    rcases hc with z | z
    · rw [z]; exact nit b u e
    · exact nit c _ z
theorem Inv.tok (I : Inv X pins σ H s) (t : Nat) : Inv X pins σ H { s with toks := t } := I.un (h' := s.heap) (t' := t) Un.refl I.hok
theorem Inv.kept {t' : Nat} (I : Inv X pins σ H s) (k : ∀ b u, s.heap.get? b = some u → h'.get? b = some u) : Inv X pins σ H { s with heap := h', toks := t' } := I.un (Un.kept k) (I.hok.kept k)
theorem Inv.laid {a : Addr} {o : HO} {t' : Nat} (I : Inv X pins σ H s) (k : ∀ b u, s.heap.get? b = some u → h'.get? b = some u) (hp : s.heap.objs.size ≤ a) (new : ObjOk X.prog X.w (upd H a o) h' a o) :
    Inv X pins σ (upd H a o) { s with heap := h', toks := t' } := I.un (Un.laid k hp (I.hok.fresh hp)) (I.hok.laid k hp new)
theorem Inv.write {x e : Addr} {o : HO} {t' : Nat} (I : Inv X pins σ H s) (mu : Mut (H x)) (he : e = x ∨ H e = some (.own x)) (k : ∀ b u, b ≠ e → s.heap.get? b = some u → h'.get? b = some u) (heo : ∃ u, h'.get? e = some u)
    (new : ObjOk X.prog X.w (upd H x o) h' x o) : Inv X pins σ (upd H x o) { s with heap := h', toks := t' } := I.un (Un.write mu he k heo) (I.hok.write mu he k heo new)
theorem Inv.weak {σ' : List (Option V)} (I : Inv X pins σ H s) (hl : σ'.length = σ.length) (w : ∀ (i : Nat) v, σ'[i]? = some (some v) → σ[i]? = some (some v)) : Inv X pins σ' H s :=
  ⟨I.ok, I.os, I.bare, I.base, let ⟨m, hn, hl'⟩ := I.loc; ⟨m, hn, fun i x v e1 e2 e3 => hl' i x v e1 (w i v e2) e3⟩, I.cell, I.free, I.freeC, I.pin, I.hok, hl.trans I.len⟩
theorem Inv.pins_of {pins' : List (Addr × Obj)} (I : Inv X pins σ H s) (h : ∀ p ∈ pins', s.heap.get? p.1 = some p.2 ∧ H p.1 = none ∧ p.1 ≠ X.env.locals ∧ p.1 ∉ X.fs ∧ ∀ v, p.2.data ≠ .cell v) : Inv X pins' σ H s :=
  ⟨I.ok, I.os, I.bare, I.base, I.loc, I.cell, I.free, I.freeC, fun p hp => (List.mem_append.mp hp).elim (fun z => I.pin p (List.mem_append_left _ z)) (h p), I.hok, I.len⟩
theorem nodup_ix {N : List Str} (hN : N.Nodup) {i j : Nat} {x : Str} (a : N[i]? = some x) (b : N[j]? = some x) : i = j := by
  obtain ⟨h1, e1⟩ := List.getElem?_eq_some_iff.mp a
  obtain ⟨h2, e2⟩ := List.getElem?_eq_some_iff.mp b
  exact (List.getElem_inj hN).mp (e1.trans e2.symm)
theorem store_ok2 {M : Model} {A : Around} {E : Value → Shared → Prop} {i : Nat} {x : Str} {v : V} {u : Value} {Q : Unit → Shared → Prop} (I : Inv X pins σ H s) (hN : X.N.Nodup) (hi : X.N[i]? = some x) (hx : Loc X.env.scope x) (r : RelV v u)
    (h : ∀ s', Inv X pins (σ.set i (some v)) H s' → (∃ a, Heap.SameBut a s.heap s'.heap ∧ (a = X.env.locals ∨ X.env.cells.lookup x = some a)) → Q () s') (hf : X.fn x = true ∨ X.env.scope.names.lookup x = some .local := by first | exact .inl rfl | exact .inr rfl | assumption) : wpAny M A (storeName X.env x u) Q E s := by
  obtain ⟨m, hn, hl⟩ := id I.loc
  have hcls : (X.env.scope.kind == .class || (X.env.scope.kind == .module && X.env.locals != X.env.globals)) = false := by rw [I.ok.kind]; rfl
  have hiσ : i < σ.length := by rw [I.len]; exact (List.getElem?_eq_some_iff.mp hi).1
  have cne := I.cne
  have tracked : ∀ {a : Addr} {h' : Heap}, (∃ o, s.heap.get? a = some o ∧ H a = none) → Heap.SameBut a s.heap h' → HOk X.prog X.w H h' := fun {a h'} ha hs b ob e => by
    obtain ⟨_, _, hfree⟩ := ha
    refine (I.hok b ob e).stay (fun c w' hc q => (hs.2 c ?_).trans q) (fun _ q => q) fun _ _ q => q
    rintro rfl
    rcases hc with rfl | hc
    · rw [hfree] at e; cases e
    · rw [hfree] at hc; cases hc
  rcases hx with hk | hk
  · refine wpAny_storeName_local hk hn (fun h' hn' hs => ?_) hcls
    obtain ⟨oL, _, _, hoL, _⟩ := id hn
    refine h _ ⟨I.ok, I.os, I.bare, ⟨fun b o e n hb hx => ?_, fun b o e n hb hx => ?_, I.base.free, fun b o e hx => ?_, I.base.tups, I.base.frzs, I.base.tbls⟩, ⟨_, hn', fun j y v' e1 e2 e3 => ?_⟩, fun y c e => ?_, I.free, I.freeC, fun p hp => ?_, tracked ⟨oL, hoL, I.free⟩ hs, by simpa using I.len⟩ ⟨_, hs, .inl rfl⟩
    · exact (hs.2 b (Nat.ne_of_lt (Nat.lt_of_lt_of_le (Heap.lt_size e) I.ok.above))).trans (I.base.keep b o e n hb hx)
    · obtain ⟨sl, e1⟩ := I.base.slot b o e n hb hx
      exact ⟨sl, (hs.2 b (Nat.ne_of_lt (Nat.lt_of_lt_of_le (Heap.lt_size e) I.ok.above))).trans e1⟩
    · obtain ⟨o', e1⟩ := I.base.there b o e hx
      exact ⟨o', (hs.2 b (Nat.ne_of_lt (Nat.lt_of_lt_of_le (Heap.lt_size e) I.ok.above))).trans e1⟩
    · by_cases hj : j = i
      · subst hj
        rw [hi] at e1; cases e1
        rw [List.getElem?_set_self hiσ] at e2
        cases e2
        exact ⟨u, r, .inl ⟨hk, by simp⟩⟩
      · rw [List.getElem?_set_ne (Ne.symm hj)] at e2
        obtain ⟨u', r', q⟩ := hl j y v' e1 e2 e3
        refine ⟨u', r', ?_⟩
        rcases q with ⟨k, e⟩ | ⟨k, c, e, z⟩
        · refine .inl ⟨k, ?_⟩
          have : y ≠ x := fun e => hj (nodup_ix hN e1 (e ▸ hi))
          simp [this, e]
        · exact .inr ⟨k, c, e, z.sameBut hs (cne y c e)⟩
    · obtain ⟨w', z⟩ := I.cell y c e
      exact ⟨w', z.sameBut hs (cne y c e)⟩
    · obtain ⟨e, n, ne, nf, d⟩ := I.pin p hp
      exact ⟨(hs.2 p.1 ne).trans e, n, ne, nf, d⟩
  · have hfn : X.fn x = true := by
      rcases hf with z | z
      · exact z
      · rw [z] at hk; cases hk
    obtain ⟨c, hc⟩ := I.ok.has x (.inl hk)
    obtain ⟨w', z⟩ := I.cell x c hc
    refine wpAny_storeName_cell I.ok.kind hk hc z (fun h' hc' hs => ?_)
    obtain ⟨oc, hoc, hocd⟩ := id z
    refine h { s with heap := h' } ⟨I.ok, I.os, I.bare, ⟨fun b o e n hb hx => ?_, fun b o e n hb hx => ?_, I.base.free, fun b o e hx => ?_, I.base.tups, I.base.frzs, I.base.tbls⟩, ⟨m, hn.sameBut hs (Ne.symm (cne x c hc)), fun j y v' e1 e2 e3 => ?_⟩, fun y c' e => ?_, I.free, I.freeC, fun p hp => ?_, tracked ⟨oc, hoc, I.freeC x c hc⟩ hs, by simpa using I.len⟩ ⟨c, hs, .inr hc⟩
    · exact (hs.2 b (Nat.ne_of_lt (Nat.lt_of_lt_of_le (Heap.lt_size e) (I.ok.cab x c hfn hc)))).trans (I.base.keep b o e n hb hx)
    · obtain ⟨sl, e1⟩ := I.base.slot b o e n hb hx
      exact ⟨sl, (hs.2 b (Nat.ne_of_lt (Nat.lt_of_lt_of_le (Heap.lt_size e) (I.ok.cab x c hfn hc)))).trans e1⟩
    · obtain ⟨o', e1⟩ := I.base.there b o e hx
      exact ⟨o', (hs.2 b (Nat.ne_of_lt (Nat.lt_of_lt_of_le (Heap.lt_size e) (I.ok.cab x c hfn hc)))).trans e1⟩
    · by_cases hj : j = i
      · subst hj
        rw [hi] at e1; cases e1
        rw [List.getElem?_set_self hiσ] at e2
        cases e2
        exact ⟨u, r, .inr ⟨.inl hk, c, hc, hc'⟩⟩
      · rw [List.getElem?_set_ne (Ne.symm hj)] at e2
        obtain ⟨u', r', q⟩ := hl j y v' e1 e2 e3
        refine ⟨u', r', ?_⟩
        rcases q with q | ⟨k, c', e, z'⟩
        · exact .inl q
        · refine .inr ⟨k, c', e, z'.sameBut hs ?_⟩
          rintro rfl
          exact hj (nodup_ix hN e1 (I.ok.inj _ _ _ e hc ▸ hi))
    · by_cases hcc : c' = c
      · subst hcc; exact ⟨_, hc'⟩
      · obtain ⟨w2, z2⟩ := I.cell y c' e
        exact ⟨w2, z2.sameBut hs hcc⟩
    · obtain ⟨e, n, ne, nf, d⟩ := I.pin p hp
      refine ⟨(hs.2 p.1 ?_).trans e, n, ne, nf, d⟩
      intro q
      rw [q, hoc] at e
      have q' : oc = p.2 := Option.some.inj e
      exact d w' (by rw [← q']; exact hocd)
theorem store_ok {M : Model} {A : Around} {E : Value → Shared → Prop} {i : Nat} {x : Str} {v : V} {u : Value} {Q : Unit → Shared → Prop} (I : Inv X pins σ H s) (hN : X.N.Nodup) (hi : X.N[i]? = some x) (hx : Loc X.env.scope x) (r : RelV v u)
    (h : ∀ s', Inv X pins (σ.set i (some v)) H s' → Q () s') (hf : X.fn x = true ∨ X.env.scope.names.lookup x = some .local := by first | exact .inl rfl | exact .inr rfl | assumption) : wpAny M A (storeName X.env x u) Q E s :=
  store_ok2 I hN hi hx r (fun s' I' _ => h s' I') hf
theorem Inv.call' {s' : Shared} {ch : List Addr} (I : Inv X pins σ H s) (ho : s'.os = s.os) (u : Un (frs X.stack) ch H H' s.heap s'.heap) (hok : HOk X.prog X.w H' s'.heap) (hg : AllBare s'.gens)
    (hch : ∀ b ∈ ch, (b ∈ X.ex ∨ X.s₀.heap.objs.size ≤ b) ∧ b ≠ X.env.locals ∧ (∀ x c, X.env.cells.lookup x = some c → c ≠ b) ∧ ∀ p ∈ X.pn ++ pins, p.1 ≠ b) : Inv X pins σ H' s' := by
  obtain ⟨h', g', d', t', o'⟩ := s'
  have e : o' = s.os := ho
  subst e
  exact I.call (g' := g') (t' := t') (d' := d') u hok hg hch
end
abbrev XK := Value → Option Addr → Hp → Prop
abbrev St := List (Option V)
abbrev VK := V → Hp → Prop
abbrev TE := St → Hp → VK → Prop
abbrev TT := St → Hp → (Bool → Hp → Prop) → Prop
abbrev TA := St → Hp → (List V → Hp → Prop) → Prop
structure Ends where
  nx : St → Hp → Prop
  rt : VK
  bk : St → Hp → Prop := fun _ _ => False
  ct : St → Hp → Prop := fun _ _ => False
abbrev TS := Ends → St → Hp → Prop
def EP (X : Cx) (pins : List (Addr × Obj)) (σ : St) (Q : VK) (u : Value) (s' : Shared) : Prop := ∃ v H', Inv X pins σ H' s' ∧ RelV v u ∧ Q v H'
def TP (X : Cx) (pins : List (Addr × Obj)) (σ : St) (Q : Bool → Hp → Prop) (b : Bool) (s' : Shared) : Prop := ∃ H', Inv X pins σ H' s' ∧ Q b H'
def AP (X : Cx) (pins : List (Addr × Obj)) (σ : St) (Q : List V → Hp → Prop) (us : List Value) (s' : Shared) : Prop := ∃ vs H', Inv X pins σ H' s' ∧ Vals vs us ∧ Q vs H'
def SP (X : Cx) (pins : List (Addr × Obj)) (D : Ends) (f : Flow) (s' : Shared) : Prop :=
  match f with
  | .next => ∃ σ' H', Inv X pins σ' H' s' ∧ D.nx σ' H'
  | .brk => ∃ σ' H', Inv X pins σ' H' s' ∧ D.bk σ' H'
  | .cont => ∃ σ' H', Inv X pins σ' H' s' ∧ D.ct σ' H'
  | .ret u => ∃ v σ' H', Inv X pins σ' H' s' ∧ RelV v u ∧ D.rt v H'
def PE (X : Cx) (e : Expr) (t : TE) : Prop :=
  ∀ (pins : List (Addr × Obj)) (s : Shared) (σ : St) (H : Hp) (Q : VK), Inv X pins σ H s → t σ H Q → wpAny (model X.prog X.w) X.A (eval e X.env) (EP X pins σ Q) X.xe s
def PT (X : Cx) (e : Expr) (t : TT) : Prop :=
  ∀ (pins : List (Addr × Obj)) (s : Shared) (σ : St) (H : Hp) (Q : Bool → Hp → Prop), Inv X pins σ H s → t σ H Q → wpAny (model X.prog X.w) X.A (isTrue e X.env (eval e X.env)) (TP X pins σ Q) X.xe s
def PW (X : Cx) (e : Expr) (t : TT) : Prop :=
  ∀ (whole : Sem Value) (pins : List (Addr × Obj)) (s : Shared) (σ : St) (H : Hp) (Q : Bool → Hp → Prop), Inv X pins σ H s → t σ H Q → wpAny (model X.prog X.w) X.A (isTrue e X.env whole) (TP X pins σ Q) X.xe s
theorem PW.pt {X : Cx} {e : Expr} {t : TT} (h : PW X e t) : PT X e t := h _
def PA (X : Cx) (es : List Expr) (t : TA) : Prop :=
  ∀ (pos : Pos) (pins : List (Addr × Obj)) (s : Shared) (σ : St) (H : Hp) (Q : List V → Hp → Prop), Inv X pins σ H s → t σ H Q → wpAny (model X.prog X.w) X.A (spliced (backTo pos (starEach es X.env))) (AP X pins σ Q) X.xe s
def PS (X : Cx) (st : Stmt) (t : TS) : Prop :=
  ∀ (pins : List (Addr × Obj)) (s : Shared) (σ : St) (H : Hp) (D : Ends), Inv X pins σ H s → t D σ H → wpAny (model X.prog X.w) X.A (exec st X.env) (SP X pins D) X.xe s
def PSs (X : Cx) (st : List Stmt) (t : TS) : Prop :=
  ∀ (pins : List (Addr × Obj)) (s : Shared) (σ : St) (H : Hp) (D : Ends), Inv X pins σ H s → t D σ H → wpAny (model X.prog X.w) X.A (execs st X.env) (SP X pins D) X.xe s
theorem thn {α : Type} {t : Sem α} {Q Q' : α → Shared → Prop} {M : Model} {A : Around} {E : Value → Shared → Prop} {s : Shared} (h : wpAny M A t Q E s) (hQ : ∀ a s, Q a s → Q' a s) : wpAny M A t Q' E s := wpAny_mono h hQ fun _ _ x => x
end L2
namespace L2
open PySem PySem.Spec PyProof.Rows
section
variable {X : Cx}
def tVar (i : Nat) : TE := fun σ H Q => ∃ v, σ[i]? = some (some v) ∧ Q v H
def tC (v : V) : TE := fun _ H Q => Q v H
theorem pe_var {i : Nat} {x : Str} {pos : Pos} (hN : X.N[i]? = some x) (hv : Vis X.env.scope x) (hd : (x == ("__debug__" : Str)) = false := by decide) (hcd : (x == ("__classdict__" : Str)) = false := by decide) : PE X (.Name x pos) (tVar i) := by
  intro pins s σ H Q I h
  obtain ⟨v, e, h⟩ := h
  obtain ⟨m, hn, hl⟩ := I.loc
  obtain ⟨u, r, l⟩ := hl i x v hN e hv
  have fin : EP X pins σ Q u s := ⟨v, H, I, r, h⟩
  rcases l with ⟨hk, hm⟩ | ⟨hk, c, hc, hcell⟩
  · exact wpAny_Name (wpAny_loadName_local I.ok.kind hk hn hm fin) hd
  · rcases hk with hk | hk
    · exact wpAny_Name (wpAny_loadName_cell I.ok.kind hk hc hcell fin) hd
    · exact wpAny_Name (wpAny_loadName_free I.ok.kind hk hc hcell fin hcd) hd
theorem pe_int {i j pos} : PE X (.Constant (.int i) j pos) (tC (.int i)) := fun _ _ _ H _ I h => wpAny_Constant_int ⟨.int i, H, I.tok _, ⟨_, rfl⟩, h⟩
theorem pe_bl {b j pos} : PE X (.Constant (.bool b) j pos) (tC (.bl b)) := fun _ _ _ H _ I h => Constant_bool ⟨.bl b, H, I, rfl, h⟩
theorem pe_non {j pos} : PE X (.Constant .none j pos) (tC .non) := fun _ _ _ H _ I h => Constant_none ⟨.non, H, I, rfl, h⟩
theorem pe_str {x j pos} : PE X (.Constant (.str x) j pos) (tC (.str x)) := fun _ _ _ H _ I h => Calls.Constant_str ⟨.str x, H, I.tok _, ⟨_, rfl⟩, h⟩
def Gl (X : Cx) (x : Str) : Prop := X.env.kindOf x = some .globalImplicit
theorem ld_glob {E : Value → Shared → Prop} {pins : List (Addr × Obj)} {s : Shared} {σ : St} {H : Hp} {x : Str} {u : Value} {pos : Pos} {Q : Value → Shared → Prop} (I : Inv X pins σ H s) (hg : Gl X x) (hm : X.mg x = some u) (h : Q u s)
    (hd : (x == ("__debug__" : Str)) = false := by decide) : wpAny (model X.prog X.w) X.A (eval (.Name x pos) X.env) Q E s :=
  Calls.Name_function_global I.ok.kind hg (Calls.loadGlobal_global (by rw [I.ok.glob]; exact I.mod.glob.keeps I.bk) hm h) hd
theorem ld_blt {E : Value → Shared → Prop} {pins : List (Addr × Obj)} {s : Shared} {σ : St} {H : Hp} {x : Str} {u : Value} {pos : Pos} {Q : Value → Shared → Prop} (I : Inv X pins σ H s) (hg : Gl X x) (hm : X.mg x = none) (hv : bootBuiltins x = some u) (h : Q u s)
    (hn : x ≠ "__name__" := by decide) (hd : (x == ("__debug__" : Str)) = false := by decide) : wpAny (model X.prog X.w) X.A (eval (.Name x pos) X.env) Q E s := by
  obtain ⟨mb, h1, h2⟩ := I.mod.blt
  exact Calls.Name_function_global I.ok.kind hg (Calls.loadGlobal_builtin (by rw [I.ok.glob]; exact I.mod.glob.keeps I.bk) hm (by rw [I.ok.blt]; exact h1.keeps I.bk) ((h2 x hn).trans hv) h) hd
theorem pe_glob {x : Str} {v : V} {u : Value} {pos : Pos} (hg : Gl X x) (hm : X.mg x = some u) (r : RelV v u) (hd : (x == ("__debug__" : Str)) = false := by decide) : PE X (.Name x pos) (tC v) :=
  fun _ _ _ H _ I h => ld_glob I hg hm ⟨v, H, I, r, h⟩ hd
variable {a b : Expr} {ta tb : TE} {pos : Pos}
def tB (t : TE) : TT := fun σ H Q => t σ H fun x H1 => ∃ c, x = .bl c ∧ Q c H1
theorem pt_val {e : Expr} {t : TE} (h : PE X e t) (he : ∀ whole, isTrue e X.env whole = (do let v ← whole; standAt e.pos; holding [v] (truthy v)) := by intro _; rfl) : PT X e (tB t) := by
  intro pins s σ H Q I hw
  refine isTrue_plain (thn (h pins s σ H _ I hw) fun v s1 ⟨x, H1, I1, r1, q1⟩ => ?_) (he _)
  obtain ⟨d, rfl, q⟩ := q1
  cases r1
  exact wpAny_truthy_bool ⟨H1, I1, q⟩
variable {tA tB' : TT} {rest : List Expr}
def tAnd (t u : TT) : TT := fun σ H Q => t σ H fun c H1 => if c = true then u σ H1 Q else Q false H1
def tOr (t u : TT) : TT := fun σ H Q => t σ H fun c H1 => if c = true then Q true H1 else u σ H1 Q
def tNot (t : TT) : TT := fun σ H Q => t σ H fun c H1 => Q (!c) H1
theorem pw_and1 (ha : PT X a tA) : PW X (.BoolOp .And [a] pos) tA := by
  intro wh pins s σ H Q I h
  refine isTrue_and (thn (ha pins s σ H Q I h) fun c s1 e => ?_)
  cases c with
  | true => exact isTrue_and_nil e
  | false => exact e
theorem pw_or1 (ha : PT X a tA) : PW X (.BoolOp .Or [a] pos) tA := by
  intro wh pins s σ H Q I h
  refine isTrue_or (thn (ha pins s σ H Q I h) fun c s1 e => ?_)
  cases c with
  | false => exact isTrue_or_nil e
  | true => exact e
theorem pw_and (ha : PT X a tA) (hb : PW X (.BoolOp .And (b :: rest) pos) tB') : PW X (.BoolOp .And (a :: b :: rest) pos) (tAnd tA tB') := by
  intro wh pins s σ H Q I h
  refine isTrue_and (thn (ha pins s σ H _ I h) fun c s1 ⟨H1, I1, q1⟩ => ?_)
  cases c with
  | true => exact hb wh pins s1 σ H1 Q I1 q1
  | false => exact ⟨H1, I1, q1⟩
theorem pw_or (ha : PT X a tA) (hb : PW X (.BoolOp .Or (b :: rest) pos) tB') : PW X (.BoolOp .Or (a :: b :: rest) pos) (tOr tA tB') := by
  intro wh pins s σ H Q I h
  refine isTrue_or (thn (ha pins s σ H _ I h) fun c s1 ⟨H1, I1, q1⟩ => ?_)
  cases c with
  | true => exact ⟨H1, I1, q1⟩
  | false => exact hb wh pins s1 σ H1 Q I1 q1
theorem pt_not (ha : PT X a tA) : PT X (.UnaryOp .Not a pos) (tNot tA) := by
  intro pins s σ H Q I h
  exact isTrue_not (ha pins s σ H (fun c H1 => Q (!c) H1) I h)
def tIf (t : TT) (ta tb : TE) : TE := fun σ H Q => t σ H fun c H1 => if c = true then ta σ H1 Q else tb σ H1 Q
theorem pe_ifExp {c : Expr} (hc : PT X c tA) (ha : PE X a ta) (hb : PE X b tb) : PE X (.IfExp c a b pos) (tIf tA ta tb) := by
  intro pins s σ H Q I h
  refine wpAny_IfExp (thn (hc pins s σ H _ I h) fun d s1 ⟨H1, I1, q1⟩ => ?_)
  cases d with
  | true => exact ha pins s1 σ H1 Q I1 q1
  | false => exact hb pins s1 σ H1 Q I1 q1
end
end L2
namespace L2
open PySem PySem.Spec PyProof.Rows
def SqL (K : PySem.W.Frag) (H : Hp) (a : Addr) (xs : List V) : Prop :=
  Rd H a (.lst xs) ∨
    ∃ (o : Obj) (its : Array Value) (n : Nat), K.lookup a = some o ∧ o.cls = .type "list" ∧ o.dict = none ∧ o.data = .seq its n ∧ its.size ≤ sizeLine ∧ Vals xs its.toList
def SqT (K : PySem.W.Frag) (H : Hp) (a : Addr) (xs : List V) : Prop :=
  Rd H a (.tup xs) ∨
    ∃ (o : Obj) (its : Array Value) (n : Nat), K.lookup a = some o ∧ o.cls = .type "tuple" ∧ o.data = .seq its n ∧ its.size ≤ sizeLine ∧ Vals xs its.toList
def absV : Value → Option V
  | .none => some .non
  | .bool b => some (.bl b)
  | .int i _ => some (.int i)
  | .str x _ => some (.str x)
  | .bytes b _ => some (.byt b)
  | .float b _ => some (.flt b)
  | .ref a => some (.ref a)
  | .type n => some (.ty n)
  | _ => none
theorem RelV.abs {x : V} {u : Value} (r : RelV x u) : absV u = some x := by
  cases x with
  | non => cases r; rfl
  | bl _ => cases r; rfl
  | int _ => obtain ⟨t, rfl⟩ := r; rfl
  | str _ => obtain ⟨t, rfl⟩ := r; rfl
  | byt _ => obtain ⟨t, rfl⟩ := r; rfl
  | flt _ => obtain ⟨t, rfl⟩ := r; rfl
  | ref _ => cases r; rfl
  | ty _ => cases r; rfl
theorem RelV.inj {x y : V} {u : Value} (r : RelV x u) (q : RelV y u) : x = y := Option.some.inj (r.abs.symm.trans q.abs)
theorem Vals.inj : ∀ {xs ys : List V} {us : List Value}, Vals xs us → Vals ys us → xs = ys
  | _, _, _, .nil, .nil => rfl
  | _, _, _, .cons r t, .cons r' t' => by rw [r.inj r', Vals.inj t t']
section
variable {X : Cx} {pins : List (Addr × Obj)} {σ : St} {H : Hp} {s : Shared} {a : Addr} {xs ys : List V}
theorem SqL.of {K : PySem.W.Frag} (h : H a = some (.lst xs)) : SqL K H a xs := .inl (.inl h)
theorem SqT.of {K : PySem.W.Frag} (h : H a = some (.tup xs)) : SqT K H a xs := .inl (.inl h)
theorem Inv.list (I : Inv X pins σ H s) (h : SqL X.K H a xs) : ∃ its : List Value, Vals xs its ∧ PlainL s.heap a its.toArray ∧ xs.length ≤ sizeLine := by
  rcases h with h | ⟨o, its, n, hk, hc, hd, hs, hz, r⟩
  · obtain ⟨z, its, n, r, e⟩ := h.ok I.hok
    exact ⟨its, r, ⟨_, n, e, rfl, rfl, rfl⟩, z⟩
  · refine ⟨its.toList, r, ⟨o, n, I.kIn a o hk, hc, hd, by simpa using hs⟩, ?_⟩
    have e := r.length
    simp only [Array.length_toList] at e
    omega
theorem Inv.tuple (I : Inv X pins σ H s) (h : SqT X.K H a xs) : ∃ its : List Value, Vals xs its ∧ IsTup s.heap a its.toArray ∧ xs.length ≤ sizeLine := by
  rcases h with h | ⟨o, its, n, hk, hc, hs, hz, r⟩
  · obtain ⟨z, its, r, p⟩ := h.ok I.hok
    exact ⟨its, r, p, z⟩
  · refine ⟨its.toList, r, ⟨o, I.kIn a o hk, hc, n, by simpa using hs⟩, ?_⟩
    have e := r.length
    simp only [Array.length_toList] at e
    omega
theorem Inv.list_inj (I : Inv X pins σ H s) (h : SqL X.K H a xs) (h' : SqL X.K H a ys) : xs = ys := by
  obtain ⟨its, r, ⟨o, n, e, _, _, d⟩, _⟩ := I.list h
  obtain ⟨its', r', ⟨o', n', e', _, _, d'⟩, _⟩ := I.list h'
  rw [e] at e'; cases e'
  rw [d] at d'
  injection d' with d1 _
  have : its = its' := by simpa using congrArg Array.toList d1
  subst this
  exact r.inj r'
theorem Inv.tuple_inj (I : Inv X pins σ H s) (h : SqT X.K H a xs) (h' : SqT X.K H a ys) : xs = ys := by
  obtain ⟨its, r, ⟨o, e, _, n, d⟩, _⟩ := I.tuple h
  obtain ⟨its', r', ⟨o', e', _, n', d'⟩, _⟩ := I.tuple h'
  rw [e] at e'; cases e'
  rw [d] at d'
  injection d' with d1 _
  have : its = its' := by simpa using congrArg Array.toList d1
  subst this
  exact r.inj r'
end
abbrev Cx.wish (X : Cx) (E : Value → Shared → Prop) : Cx := { X with xe := E }
abbrev Cx.nox (X : Cx) : Cx := X.wish fun _ _ => False
theorem Cx.Ok.wish {X : Cx} (ok : X.Ok) (E : Value → Shared → Prop) : (X.wish E).Ok :=
  ⟨ok.mod, ok.kind, ok.glob, ok.blt, ok.above, ok.inj, ok.has, ok.cab, ok.hd, ok.frames, ok.stk, ok.exf, ok.bs, ok.bsz, ok.noex, ok.exfs, ok.funs, ok.frf⟩
theorem Cx.Ok.unwish {X : Cx} {E : Value → Shared → Prop} (ok : (X.wish E).Ok) : X.Ok :=
  ⟨ok.mod, ok.kind, ok.glob, ok.blt, ok.above, ok.inj, ok.has, ok.cab, ok.hd, ok.frames, ok.stk, ok.exf, ok.bs, ok.bsz, ok.noex, ok.exfs, ok.funs, ok.frf⟩
section
variable {X : Cx} {pins : List (Addr × Obj)} {σ : St} {H : Hp} {s : Shared} {E : Value → Shared → Prop}
theorem Inv.wish (I : Inv X pins σ H s) (E : Value → Shared → Prop) : Inv (X.wish E) pins σ H s := ⟨I.ok.wish E, I.os, I.bare, I.base, I.loc, I.cell, I.free, I.freeC, I.pin, I.hok, I.len⟩
theorem Inv.unwish (I : Inv (X.wish E) pins σ H s) : Inv X pins σ H s := ⟨I.ok.unwish, I.os, I.bare, I.base, I.loc, I.cell, I.free, I.freeC, I.pin, I.hok, I.len⟩
theorem SP.unwish {D : Ends} {f : Flow} {s' : Shared} (h : SP (X.wish E) pins D f s') : SP X pins D f s' := by
  cases f with
  | next => obtain ⟨σ', H', I, q⟩ := h; exact ⟨σ', H', I.unwish, q⟩
  | brk => obtain ⟨σ', H', I, q⟩ := h; exact ⟨σ', H', I.unwish, q⟩
  | cont => obtain ⟨σ', H', I, q⟩ := h; exact ⟨σ', H', I.unwish, q⟩
  | ret u => obtain ⟨v, σ', H', I, r, q⟩ := h; exact ⟨v, σ', H', I.unwish, r, q⟩
theorem PE.nox {e : Expr} {t : TE} (h : PE X.nox e t) : PE X e t := fun pins s σ H Q I hw =>
  wpAny_mono (h pins s σ H Q (I.wish _) hw) (fun _ _ ⟨v, H', I', r, q⟩ => ⟨v, H', I'.unwish, r, q⟩) fun _ _ z => False.elim z
theorem PT.nox {e : Expr} {t : TT} (h : PT X.nox e t) : PT X e t := fun pins s σ H Q I hw =>
  wpAny_mono (h pins s σ H Q (I.wish _) hw) (fun _ _ ⟨H', I', q⟩ => ⟨H', I'.unwish, q⟩) fun _ _ z => False.elim z
theorem PSs.nox {st : List Stmt} {t : TS} (h : PSs X.nox st t) : PSs X st t := fun pins s σ H D I hw =>
  wpAny_mono (h pins s σ H D (I.wish _) hw) (fun _ _ q => q.unwish) fun _ _ z => False.elim z
end
section
variable {X : Cx} {st : Stmt} {rest : List Stmt} {t u : TS} {e : Expr} {te : TE} {pos : Pos}
def tNext : TS := fun D σ H => D.nx σ H
def tSeq (t u : TS) : TS := fun D σ H => t { D with nx := u D } σ H
theorem pss_nil : PSs X [] tNext := fun _ _ σ H _ I h => wpAny_execs_nil ⟨σ, H, I, h⟩
theorem pss_cons (h1 : PS X st t) (h2 : PSs X rest u) : PSs X (st :: rest) (tSeq t u) := by
  intro pins s σ H D I h
  refine wpAny_execs_cons (thn (h1 pins s σ H { D with nx := u D } I h) fun f s1 q => ?_)
  cases f with
  | next =>
    obtain ⟨σ', H', I', q⟩ := q
    exact h2 pins s1 σ' H' D I' q
  | ret v => exact q
  | brk => exact q
  | cont => exact q
theorem pss_one (h1 : PS X st t) : PSs X [st] t := by
  intro pins s σ H D I h
  refine wpAny_execs_cons (thn (h1 pins s σ H D I h) fun f s1 q => ?_)
  cases f with
  | next => exact wpAny_execs_nil q
  | ret v => exact q
  | brk => exact q
  | cont => exact q
theorem Inv.quiet {pins : List (Addr × Obj)} {σ : St} {H : Hp} {s : Shared} (I : Inv X pins σ H s) : interactive X.env = false := by simp [interactive, I.ok.kind]
def tDrop (te : TE) : TS := fun D σ H => te σ H fun _ H1 => D.nx σ H1
theorem ps_expr (he : PE X e te) (hs : swapsWith e none pos.line X.env = pure false := by rfl) : PS X (.Expr e pos) (tDrop te) := by
  intro pins s σ H D I h
  exact wpAny_Expr_any (thn (he pins s σ H _ I h) fun v s1 ⟨x, H1, I1, r1, q1⟩ => ⟨σ, H1, I1, q1⟩) I.quiet hs
def tRet (te : TE) : TS := fun D σ H => te σ H D.rt
theorem ps_ret (he : PE X e te) : PS X (.Return (some e) pos) (tRet te) := by
  intro pins s σ H D I h
  exact wpAny_Return_some (thn (he pins s σ H _ I h) fun v s1 ⟨x, H1, I1, r1, q1⟩ => ⟨x, σ, H1, I1, r1, q1⟩)
def tIfS (c : TT) (t u : TS) : TS := fun D σ H => c σ H fun b H1 => if b = true then t D σ H1 else u D σ H1
theorem ps_if {c : Expr} {a b : List Stmt} {tc : TT} (hc : PT X c tc) (ha : PSs X a t) (hb : PSs X b u) : PS X (.If c a b pos) (tIfS tc t u) := by
  intro pins s σ H D I h
  refine wpAny_If (thn (hc pins s σ H _ I h) fun d s1 ⟨H1, I1, q1⟩ => ?_)
  cases d with
  | true => exact ha pins s1 σ H1 D I1 q1
  | false => exact hb pins s1 σ H1 D I1 q1
def tNever : TS := fun _ _ _ => False
theorem pss_never {sts : List Stmt} : PSs X sts tNever := fun _ _ _ _ _ _ h => h.elim
end
abbrev TG := V → St → Hp → (St → Hp → Prop) → Prop
abbrev TGs := List V → St → Hp → (St → Hp → Prop) → Prop
def PG (X : Cx) (target : Expr) (t : TG) : Prop :=
  ∀ (pins : List (Addr × Obj)) (s : Shared) (σ : St) (H : Hp) (v : V) (u : Value) (Q : St → Hp → Prop), Inv X pins σ H s → RelV v u → t v σ H Q →
    wpAny (model X.prog X.w) X.A (assign target X.env u) (fun _ s' => ∃ σ' H', Inv X pins σ' H' s' ∧ Q σ' H') X.xe s
def PGs (X : Cx) (ts : List Expr) (t : TGs) : Prop :=
  ∀ (pins : List (Addr × Obj)) (s : Shared) (σ : St) (H : Hp) (vs : List V) (us : List Value) (Q : St → Hp → Prop), Inv X pins σ H s → Vals vs us → t vs σ H Q →
    wpAny (model X.prog X.w) X.A (assignInOrder ((assignEach ts X.env).map (·.2)) us) (fun _ s' => ∃ σ' H', Inv X pins σ' H' s' ∧ Q σ' H') X.xe s
abbrev TSet := V → V → V → Hp → (Hp → Prop) → Prop
def PSet (X : Cx) (t : TSet) : Prop :=
  ∀ (pins : List (Addr × Obj)) (s : Shared) (σ : St) (H : Hp) (o i v : V) (ov iv u : Value) (Q : Hp → Prop), Inv X pins σ H s → RelV o ov → RelV i iv → RelV v u → t o i v H Q →
    wpAny (model X.prog X.w) X.A (setItem ov iv u) (fun _ s' => ∃ H', Inv X pins σ H' s' ∧ Q H') X.xe s
section
variable {X : Cx} {pos : Pos}
def gName (i : Nat) : TG := fun v σ H Q => Q (σ.set i (some v)) H
theorem pg_name {i : Nat} {x : Str} (hN : X.N.Nodup) (hi : X.N[i]? = some x) (hx : Loc X.env.scope x) (hf : X.fn x = true ∨ X.env.scope.names.lookup x = some .local := by first | exact .inl rfl | exact .inr rfl | assumption) : PG X (.Name x pos) (gName i) := by
  intro pins s σ H v u Q I r h
  exact wpAny_assign_Name (store_ok I hN hi hx r (fun s' I' => ⟨_, H, I', h⟩) hf)
def gNil : TGs := fun vs σ H Q => vs = [] ∧ Q σ H
def gCons (t : TG) (u : TGs) : TGs := fun vs σ H Q => ∃ v r, vs = v :: r ∧ t v σ H fun σ' H' => u r σ' H' Q
theorem pgs_nil : PGs X [] gNil := by
  intro pins s σ H vs us Q I r h
  obtain ⟨e, h⟩ := h
  subst e
  cases r
  exact assignInOrder_nil ⟨σ, H, I, h⟩
theorem pgs_cons {e : Expr} {es : List Expr} {t : TG} {u : TGs} (h1 : PG X e t) (h2 : PGs X es u)
    (hs : (assignEach (e :: es) X.env).map (·.2) = assign e X.env :: (assignEach es X.env).map (·.2) := by rfl) : PGs X (e :: es) (gCons t u) := by
  intro pins s σ H vs us Q I r h
  obtain ⟨v, vr, e1, h⟩ := h
  subst e1
  cases r with
  | cons r rr =>
    rw [hs]
    refine assignInOrder_cons (thn (h1 pins s σ H _ _ _ I r h) fun _ s1 ⟨σ1, H1, I1, q1⟩ => ?_)
    exact h2 pins s1 σ1 H1 _ _ Q I1 rr q1
def gTup (K : PySem.W.Frag) (n : Nat) (t : TGs) : TG := fun v σ H Q => ∃ a xs, v = .ref a ∧ SqT K H a xs ∧ xs.length = n ∧ t xs σ H Q
theorem pg_tup {es : List Expr} {k : Nat} {t : TGs} {n : Nat} (hc : X.calm = true) (h : PGs X es t)
    (hn : (assignEach es X.env).length = n := by rfl) (hst : (assignEach es X.env).findIdx? (·.1) = none := by rfl) : PG X (.Tuple es k pos) (gTup X.K n t) := by
  intro pins s σ H v u Q I r hw
  obtain ⟨a, xs, e1, hq, hl, hw⟩ := hw
  subst e1
  cases r
  obtain ⟨its, rv, ht, hz⟩ := I.tuple hq
  refine assign_Tuple_tuple (I.ok.hd hc) ht (by simp [hn, ← hl, rv.length]) hst fun h' hx => ?_
  have I1 : Inv X pins σ H { s with heap := h' } := I.kept (t' := s.toks) fun b o e => hx b o (Nat.ne_of_lt (Heap.lt_size e)) e
  exact h pins _ σ H xs _ Q I1 (by simpa using rv) hw
def gSub (to ti : TE) (t : TSet) : TG := fun v σ H Q => to σ H fun o H1 => ti σ H1 fun i H2 => t o i v H2 fun H3 => Q σ H3
theorem pg_sub {o i : Expr} {to ti : TE} {t : TSet} (ho : PE X o to) (hi : PE X i ti) (hs : PSet X t)
    (ha : ∀ v, assign (.Subscript o i pos) X.env v = (do
      let ov ← holding [v] (eval o X.env)
      let iv ← holding [v, ov] (eval i X.env)
      standAt pos
      holding [v, ov, iv] (setItem ov iv v)
      release [v, ov, iv] []) := by intro _; rfl) : PG X (.Subscript o i pos) (gSub to ti t) := by
  intro pins s σ H v u Q I r h
  rw [ha]
  refine wpAny_bind (wpAny_holding (thn (ho pins s σ H _ I h) fun ov s1 ⟨x, H1, I1, r1, q1⟩ => ?_))
  refine wpAny_bind (wpAny_holding (thn (hi pins s1 σ H1 _ I1 q1) fun iv s2 ⟨y, H2, I2, r2, q2⟩ => ?_))
  refine wpAny_bind (wpAny_standAt (wpAny_bind (wpAny_holding (thn (hs pins s2 σ H2 x y v ov iv u _ I2 r1 r2 r q2) fun _ s3 ⟨H3, I3, q3⟩ => ?_))))
  exact wpAny_release ⟨σ, H3, I3, q3⟩
def tAsg (te : TE) (g : TG) : TS := fun D σ H => te σ H fun x H1 => g x σ H1 D.nx
theorem ps_asg {tg e : Expr} {te : TE} {g : TG} (he : PE X e te) (hg : PG X tg g) (hs : swapsWithSole [tg] e pos.line X.env = pure false := by rfl) (hw : swappedStores [tg] e X.env = pure none := by rfl)
    (h1 : (assignEach [tg] X.env).map (·.2) = [assign tg X.env] := by rfl) : PS X (.Assign [tg] e pos) (tAsg te g) := by
  intro pins s σ H D I h
  refine wpAny_Assign_stores (thn (he pins s σ H _ I h) fun v s1 ⟨x, H1, I1, r1, q1⟩ => ?_) hs hw
  rw [h1]
  exact thn (hg pins s1 σ H1 x v _ I1 r1 q1) fun _ s2 q => q
theorem ps_set {i : Nat} {x : Str} {e : Expr} {te : TE} {pos' : Pos} (hN : X.N.Nodup) (hi : X.N[i]? = some x) (hx : Loc X.env.scope x) (he : PE X e te) (hs : swapsWith e (some (.Name x pos')) pos.line X.env = pure false := by rfl) (hf : X.fn x = true ∨ X.env.scope.names.lookup x = some .local := by first | exact .inl rfl | exact .inr rfl | assumption) :
    PS X (.Assign [.Name x pos'] e pos) (tAsg te (gName i)) := by
  intro pins s σ H D I h
  refine wpAny_Assign_Name (thn (he pins s σ H _ I h) fun v s1 ⟨y, H1, I1, r1, q1⟩ => ?_) hs
  exact store_ok I1 hN hi hx r1 (fun s2 I2 => ⟨_, H1, I2, q1⟩) hf
end
section
variable {X : Cx} {pos : Pos}
end
structure It where
  go : Nat → Hp → Prop
  yld : Nat → Hp → V → Hp → Prop
  stop : Nat → Hp → Prop
def FpOk (X : Cx) (pins : List (Addr × Obj)) (H : Hp) (b : Addr) : Prop :=
  H b = none ∧ b ≠ X.env.locals ∧ b ∉ X.fs ∧ (b ∈ X.ex ∨ X.s₀.heap.objs.size ≤ b) ∧ (∀ x c, X.env.cells.lookup x = some c → c ≠ b) ∧ ∀ p ∈ X.pn ++ pins, p.1 ≠ b
theorem Inv.fpOk {X : Cx} {pins : List (Addr × Obj)} {σ : St} {H H' : Hp} {s : Shared} {b : Addr} (I : Inv X pins σ H s) (hb : s.heap.objs.size ≤ b) (hn : H' b = none) : FpOk X pins H' b := by
  refine ⟨hn, Nat.ne_of_gt (Nat.lt_of_lt_of_le I.lt hb), I.nofs hb, .inr (Nat.le_trans I.sz hb), fun x c e z => ?_, fun p hp z => ?_⟩
  · obtain ⟨v, q⟩ := I.cell x c e
    exact absurd (Nat.lt_of_lt_of_le q.lt (by rw [z]; exact hb)) (Nat.lt_irrefl _)
  · exact absurd (Nat.lt_of_lt_of_le (Heap.lt_size (I.pin p hp).1) (by rw [z]; exact hb)) (Nat.lt_irrefl _)
structure Turn (P : Program) (w : World) (K : PySem.W.Frag) (tg : Expr) (J : It) (fp : List Addr) (it : Addr) (tn : Nat → Heap → Prop) : Prop where
  mem : it ∈ fp
  obj : ∀ i h, tn i h → ∀ b ∈ fp, ∃ o, h.get? b = some o ∧ ∀ v, o.data ≠ .cell v
  keep : ∀ i h h', tn i h → (∀ b ∈ fp, ∀ o, h.get? b = some o → h'.get? b = some o) → tn i h'
  item : ∀ (X : Cx), X.prog = P → X.w = w → X.K = K → X.calm = true → ∀ (i : Nat) (pins : List (Addr × Obj)) (s : Shared) (σ : St) (H : Hp) (E : Value → Shared → Prop), Inv X pins σ H s → (∀ b ∈ fp, FpOk X pins H b) → tn i s.heap → J.go i H →
    wpAny (model P w) X.A (pyNext (.ref it)) (fun r s1 => ∃ u, r = some u ∧
      wpAny (model P w) X.A (letOwnedTupleGo tg (.ref it) u) (fun _ s2 => ∃ x H', Inv X pins σ H' s2 ∧ RelV x u ∧ J.yld i H x H' ∧ tn (i + 1) s2.heap ∧ ∀ b ∈ fp, H' b = none) E s1) E s
  done : ∀ (X : Cx), X.prog = P → X.w = w → X.K = K → X.calm = true → ∀ (i : Nat) (pins : List (Addr × Obj)) (s : Shared) (σ : St) (H : Hp) (E : Value → Shared → Prop), Inv X pins σ H s → (∀ b ∈ fp, FpOk X pins H b) → tn i s.heap → J.stop i H →
    wpAny (model P w) X.A (pyNext (.ref it)) (fun r s1 => r = none ∧ Inv X pins σ H s1) E s
  self : ∀ (A : Around) (i : Nat) (s : Shared) (Q : Value → Shared → Prop) (E : Value → Shared → Prop), tn i s.heap → Q (.ref it) s → wpAny (model P w) A (pyIter (.ref it)) Q E s
abbrev TI := St → Hp → (It → Hp → Prop) → Prop
def PIE (X : Cx) (pins : List (Addr × Obj)) (σ : St) (tg : Expr) (R : It → Hp → Prop) (itv : Value) (s2 : Shared) : Prop :=
  ∃ (it : Addr) (fp : List Addr) (tn : Nat → Heap → Prop) (J : It) (H' : Hp), itv = .ref it ∧ Inv X pins σ H' s2 ∧ Turn X.prog X.w X.K tg J fp it tn ∧ tn 0 s2.heap ∧ (∀ b ∈ fp, FpOk X pins H' b) ∧ R J H'
def PI (X : Cx) (tg iter : Expr) (wi : TI) : Prop :=
  ∀ (pins : List (Addr × Obj)) (s : Shared) (σ : St) (H : Hp) (R : It → Hp → Prop), Inv X pins σ H s → wi σ H R →
    wpAny (model X.prog X.w) X.A (eval iter X.env) (fun v s1 => wpAny (model X.prog X.w) X.A (pyIter v) (PIE X pins σ tg R) X.xe s1) X.xe s
theorem go_of {M : Model} {A : Around} {E : Value → Shared → Prop} {s : Shared} {tg : Expr} {it : Addr} {u : Value} {o : Obj} {n : String} {vs : Array Value} {Q : Unit → Shared → Prop} (ho : s.heap.get? it = some o) (hc : o.cls = .type n) (hd : o.data = .fields vs)
    (hn : ["enumerate", "zip", "dict_itemiterator", "dict_reverseitemiterator", "odict_iterator", "itertools.zip_longest", "itertools.pairwise"].contains n = false) (hQ : Q () s) : wpAny M A (letOwnedTupleGo tg (.ref it) u) Q E s := by
  unfold letOwnedTupleGo
  cases tg <;> first
    | exact wpAny_pure hQ
    | (cases u <;> first
        | exact wpAny_pure hQ
        | (refine wpAny_bind (wpAny_load ho ?_)
           rw [hc, hd]
           show wpAny M A (if (["enumerate", "zip", "dict_itemiterator", "dict_reverseitemiterator", "odict_iterator", "itertools.zip_longest", "itertools.pairwise"].contains n && vs[0]? == some (rawInt _)) = true then _ else _) Q E s
           rw [if_neg (by intro h; rw [hn, Bool.false_and] at h; cases h)]
           exact wpAny_pure hQ))
def Itl (K : PySem.W.Frag) (a : Addr) : It :=
  ⟨fun i H => ∃ xs x, SqL K H a xs ∧ xs[i]? = some x, fun i H x H' => H' = H ∧ ∀ xs, SqL K H a xs → xs[i]? = some x, fun i H => ∃ xs, SqL K H a xs ∧ xs.length ≤ i⟩
def Itt (K : PySem.W.Frag) (a : Addr) : It :=
  ⟨fun i H => ∃ xs x, SqT K H a xs ∧ xs[i]? = some x, fun i H x H' => H' = H ∧ ∀ xs, SqT K H a xs → xs[i]? = some x, fun i H => ∃ xs, SqT K H a xs ∧ xs.length ≤ i⟩
def Itr (lo : Int) (n : Nat) : It := ⟨fun i _ => i < n, fun i H x H' => H' = H ∧ x = .int (lo + i), fun i _ => n ≤ i⟩
theorem turn_list {P : Program} {w : World} {K : PySem.W.Frag} {tg : Expr} (a it : Addr) : Turn P w K tg (Itl K a) [it] it (fun i h => h.IsListIter it a i) where
  mem := by simp
  obj := fun i h st b hb => by
    have e : b = it := by simpa using hb
    subst e
    obtain ⟨o, e, c, d⟩ := st
    exact ⟨o, e, fun v z => by rw [d] at z; cases z⟩
  keep := fun i h h' st k => st.at fun o e => k it (by simp) o e
  item := by
    intro X hP hw hK hc i pins s σ H E I hf st hg
    subst hP hw hK
    obtain ⟨xs, x, hq, hx⟩ := hg
    obtain ⟨its, rv, p, hz⟩ := I.list hq
    obtain ⟨u, hu, ru⟩ := rv.get hx
    obtain ⟨f0, f1, f2, f3, f4, f5⟩ := hf it (by simp)
    refine wpAny_pyNext_list_item st p.isList (x := u) (by simpa using hu) fun h' st' sb => ?_
    have I1 : Inv X pins σ H { s with heap := h' } := I.turned (t' := s.toks) (fun b o hb e => (sb.2 b hb).trans e) f0 f1 f3 f4 f5
    obtain ⟨o, e, c, d⟩ := id st'
    exact ⟨u, rfl, go_of (s := { s with heap := h' }) e c d (by decide) ⟨x, H, I1, ru, ⟨rfl, fun ys hy => by rw [I.list_inj hy hq]; exact hx⟩, st', fun b hb => (hf b hb).1⟩⟩
  done := by
    intro X hP hw hK hc i pins s σ H E I hf st hg
    subst hP hw hK
    obtain ⟨xs, hq, hx⟩ := hg
    obtain ⟨its, rv, p, hz⟩ := I.list hq
    obtain ⟨f0, f1, f2, f3, f4, f5⟩ := hf it (by simp)
    have hl := rv.length
    exact wpAny_pyNext_list_end (I.ok.hd hc) st p.isList (by simp; omega) fun h' eb => ⟨rfl, I.turned (t' := s.toks) (fun b o hb e => eb b o hb e) f0 f1 f3 f4 f5⟩
  self := fun _ _ _ _ _ st h => wpAny_pyIter_listiter st h
theorem turn_tuple {P : Program} {w : World} {K : PySem.W.Frag} {tg : Expr} (a it : Addr) : Turn P w K tg (Itt K a) [it] it (fun i h => h.IsTupleIter it a i) where
  mem := by simp
  obj := fun i h st b hb => by
    have e : b = it := by simpa using hb
    subst e
    obtain ⟨o, e, c, d⟩ := st
    exact ⟨o, e, fun v z => by rw [d] at z; cases z⟩
  keep := fun i h h' st k => st.at fun o e => k it (by simp) o e
  item := by
    intro X hP hw hK hc i pins s σ H E I hf st hg
    subst hP hw hK
    obtain ⟨xs, x, hq, hx⟩ := hg
    obtain ⟨its, rv, p, hz⟩ := I.tuple hq
    obtain ⟨u, hu, ru⟩ := rv.get hx
    obtain ⟨f0, f1, f2, f3, f4, f5⟩ := hf it (by simp)
    refine wpAny_pyNext_tuple_item st (show s.heap.IsTuple a its.toArray from p) (x := u) (by simpa using hu) fun h' st' sb => ?_
    have I1 : Inv X pins σ H { s with heap := h' } := I.turned (t' := s.toks) (fun b o hb e => (sb.2 b hb).trans e) f0 f1 f3 f4 f5
    obtain ⟨o, e, c, d⟩ := id st'
    exact ⟨u, rfl, go_of (s := { s with heap := h' }) e c d (by decide) ⟨x, H, I1, ru, ⟨rfl, fun ys hy => by rw [I.tuple_inj hy hq]; exact hx⟩, st', fun b hb => (hf b hb).1⟩⟩
  done := by
    intro X hP hw hK hc i pins s σ H E I hf st hg
    subst hP hw hK
    obtain ⟨xs, hq, hx⟩ := hg
    obtain ⟨its, rv, p, hz⟩ := I.tuple hq
    obtain ⟨f0, f1, f2, f3, f4, f5⟩ := hf it (by simp)
    have hl := rv.length
    exact wpAny_pyNext_tuple_end (I.ok.hd hc) st (show s.heap.IsTuple a its.toArray from p) (by simp; omega) fun h' eb => ⟨rfl, I.turned (t' := s.toks) (fun b o hb e => eb b o hb e) f0 f1 f3 f4 f5⟩
  self := fun _ _ _ _ _ st h => wpAny_pyIter_tupleiter st h
theorem turn_range {P : Program} {w : World} {K : PySem.W.Frag} {tg : Expr} (it : Addr) (lo : Int) (n : Nat) : Turn P w K tg (Itr lo n) [it] it (fun i h => IsRangeIter h it (lo + (i : Nat) * 1) ((n : Int) - (i : Nat)) 1) where
  mem := by simp
  obj := fun i h st b hb => by
    have e : b = it := by simpa using hb
    subst e
    exact ⟨_, st, fun v z => by
      have z' : Data.fields _ = Data.cell v := z
      cases z'⟩
  keep := fun i h h' st k => k it (by simp) _ st
  item := by
    intro X hP hw hK hc i pins s σ H E I hf st hg
    subst hP hw hK
    obtain ⟨f0, f1, f2, f3, f4, f5⟩ := hf it (by simp)
    have W := Walks.range (prog := X.prog) (w := X.w) (I.ok.hd hc) it lo 1 n
    refine W.item i s _ _ hg st fun v h' tk hv st' kk => ?_
    obtain ⟨t, rfl⟩ := hv
    have I1 : Inv X pins σ H { s with heap := h', toks := tk } := I.turned (fun b o hb e => kk b o (by simpa using hb) e) f0 f1 f3 f4 f5
    refine ⟨_, rfl, go_of (s := { s with heap := h', toks := tk }) (n := "range_iterator") st' rfl rfl (by decide) ⟨.int (lo + i), H, I1, ⟨t, ?_⟩, ⟨rfl, rfl⟩, st', fun b hb => (hf b hb).1⟩⟩
    rw [Int.mul_one]
  done := by
    intro X hP hw hK hc i pins s σ H E I hf st hg
    subst hP hw hK
    obtain ⟨f0, f1, f2, f3, f4, f5⟩ := hf it (by simp)
    exact wpAny_pyNext_range_end (I.ok.hd hc) st (by have : n ≤ i := hg; omega) fun h' eb => ⟨rfl, I.turned (t' := s.toks) (fun b o hb e => eb b o hb e) f0 f1 f3 f4 f5⟩
  self := fun _ _ _ _ _ st h => wpAny_pyIter_rangeiter st h
end L2
namespace L2
open PySem PySem.Spec PyProof.Rows
section
variable {X : Cx} {tg : Expr}
def iList (K : PySem.W.Frag) (tl : TE) : TI := fun σ H R => tl σ H fun x H1 => ∃ a, x = .ref a ∧ (∃ xs, SqL K H1 a xs) ∧ R (Itl K a) H1
def iTup (K : PySem.W.Frag) (tl : TE) : TI := fun σ H R => tl σ H fun x H1 => ∃ a, x = .ref a ∧ (∃ xs, SqT K H1 a xs) ∧ R (Itt K a) H1
theorem pi_list {l : Expr} {tl : TE} (hl : PE X l tl) : PI X tg l (iList X.K tl) := by
  intro pins s σ H R I h
  refine thn (hl pins s σ H _ I h) fun v s1 ⟨x, H1, I1, r1, q1⟩ => ?_
  obtain ⟨a, e, ⟨xs, hq⟩, q⟩ := q1
  subst e
  cases r1
  obtain ⟨its, rv, p, hz⟩ := I1.list hq
  refine wpAny_pyIter_list p.isList ?_
  refine ⟨s1.heap.objs.size, [s1.heap.objs.size], _, _, H1, rfl, I1.kept (t' := s1.toks) fun b o e => Heap.get?_push_of_some _ e, turn_list a _, ⟨_, Heap.get?_push_size _ rfl, rfl, rfl⟩, fun b hb => ?_, q⟩
  have e : b = s1.heap.objs.size := by simpa using hb
  subst e
  exact I1.fpOk (Nat.le_refl _) (I1.hok.fresh (Nat.le_refl _))
theorem pi_tup {l : Expr} {tl : TE} (hl : PE X l tl) : PI X tg l (iTup X.K tl) := by
  intro pins s σ H R I h
  refine thn (hl pins s σ H _ I h) fun v s1 ⟨x, H1, I1, r1, q1⟩ => ?_
  obtain ⟨a, e, ⟨xs, hq⟩, q⟩ := q1
  subst e
  cases r1
  obtain ⟨its, rv, p, hz⟩ := I1.tuple hq
  refine wpAny_pyIter_tuple (show s1.heap.IsTuple a its.toArray from p) ?_
  refine ⟨s1.heap.objs.size, [s1.heap.objs.size], _, _, H1, rfl, I1.kept (t' := s1.toks) fun b o e => Heap.get?_push_of_some _ e, turn_tuple a _, ⟨_, Heap.get?_push_size _ rfl, rfl, rfl⟩, fun b hb => ?_, q⟩
  have e : b = s1.heap.objs.size := by simpa using hb
  subst e
  exact I1.fpOk (Nat.le_refl _) (I1.hok.fresh (Nat.le_refl _))
theorem range_it {pins : List (Addr × Obj)} {σ : St} {H : Hp} {s : Shared} {R : It → Hp → Prop} {E : Value → Shared → Prop} {lo hi : Int} {t u v : Tok} {tk : Nat} (I : Inv X pins σ H s) (h1 : -(2 ^ 62) ≤ lo) (h2 : lo < 2 ^ 62) (h3 : -(2 ^ 62) ≤ hi) (h4 : hi < 2 ^ 62)
    (q : R (Itr lo (hi - lo).toNat) H) : wpAny (model X.prog X.w) X.A (pyIter (.ref s.heap.objs.size)) (PIE X pins σ tg R) E { s with heap := s.heap.push { cls := .type "range", data := .fields #[.int lo t, .int hi u, .int 1 v] }, toks := tk } := by
  refine wpAny_pyIter_range (IsRange.new ..) (small_one h1 h2 h3 h4) ?_
  have I1 : Inv X pins σ H { s with heap := s.heap.push { cls := .type "range", data := .fields #[.int lo t, .int hi u, .int 1 v] }, toks := tk } := I.kept fun b o e => Heap.get?_push_of_some _ e
  refine ⟨(s.heap.push { cls := .type "range", data := .fields #[.int lo t, .int hi u, .int 1 v] }).objs.size, [(s.heap.push { cls := .type "range", data := .fields #[.int lo t, .int hi u, .int 1 v] }).objs.size], _, _, H, rfl,
    I1.kept (t' := tk) fun b o e => Heap.get?_push_of_some _ e, turn_range _ lo (hi - lo).toNat, ?_, fun b hb => ?_, q⟩
  · have e1 : lo + ((0 : Nat) : Int) * 1 = lo := by simp
    have e2 : (((hi - lo).toNat : Nat) : Int) - ((0 : Nat) : Int) = Builtin.Range.rangeSize lo hi 1 := by rw [rangeSize_one]; split <;> omega
    show IsRangeIter _ _ (lo + ((0 : Nat) : Int) * 1) ((((hi - lo).toNat : Nat) : Int) - ((0 : Nat) : Int)) 1
    rw [e1, e2]
    exact Heap.get?_push_size _ rfl
  · have e : b = (s.heap.push { cls := .type "range", data := .fields #[.int lo t, .int hi u, .int 1 v] }).objs.size := by simpa using hb
    subst e
    exact I1.fpOk (Nat.le_refl _) (I1.hok.fresh (Nat.le_refl _))
def iRng1 (ta : TA) : TI := fun σ H R => ta σ H fun vs H1 => ∃ j : Int, vs = [.int j] ∧ -(2 ^ 62) ≤ j ∧ j < 2 ^ 62 ∧ R (Itr 0 j.toNat) H1
theorem pi_range1 {a : Expr} {ta : TA} {p pos : Pos} (hg : Gl X "range") (hm : X.mg "range" = none) (ha : PA X [a] ta) (hs : starEach [a] X.env = [(false, eval a X.env)] := by rfl) : PI X tg (.Call (.Name "range" p) [a] [] pos) (iRng1 ta) := by
  intro pins s σ H R I h
  refine Call_ (ld_blt I hg hm boot_range (PyProof.Rows.callWith_type1 (thn (ha pos pins s σ H _ I h) fun us s1 ⟨vs, H1, I1, r1, q1⟩ => ?_) hs rfl))
  obtain ⟨j, e, q1, q2, q⟩ := q1
  subst e
  cases r1 with
  | cons r rr =>
    cases rr
    obtain ⟨t, rfl⟩ := r
    exact call_range_1 (range_it I1 (by omega) (by omega) q1 q2 (by simpa using q))
def tFor (wi : TI) (g : TG) (tb : TS) : TS := fun D σ H => wi σ H fun J H1 => ∃ W : Nat → Nat → St → Hp → Prop, (∃ m, W 0 m σ H1) ∧ ∀ i m σ H, W i m σ H →
  (J.stop i H ∧ D.nx σ H) ∨ (J.go i H ∧ ∃ N : St → Hp → Prop, (∀ σ' H', N σ' H' → ∃ m', m' < m ∧ W (i + 1) m' σ' H') ∧ ∀ x H', J.yld i H x H' → g x σ H' fun σ2 H2 => tb { D with nx := N, ct := N, bk := D.nx } σ2 H2)
def pinsAt (fp : List Addr) (h : Heap) : List (Addr × Obj) := fp.filterMap fun b => (h.get? b).map fun o => (b, o)
theorem mem_pinsAt {fp : List Addr} {h : Heap} {b : Addr} {o : Obj} (hb : b ∈ fp) (e : h.get? b = some o) : (b, o) ∈ pinsAt fp h := List.mem_filterMap.mpr ⟨b, hb, by rw [e]; rfl⟩
theorem of_pinsAt {fp : List Addr} {h : Heap} {p : Addr × Obj} (hp : p ∈ pinsAt fp h) : p.1 ∈ fp ∧ h.get? p.1 = some p.2 := by
  obtain ⟨b, hb, e⟩ := List.mem_filterMap.mp hp
  cases q : h.get? b with
  | none => rw [q] at e; cases e
  | some o =>
    rw [q] at e
    have e' : (b, o) = p := Option.some.inj e
    subst e'
    exact ⟨hb, q⟩
theorem Inv.pinned {pins : List (Addr × Obj)} {σ : St} {H : Hp} {s : Shared} {fp : List Addr} (I : Inv X pins σ H s) (hf : ∀ b ∈ fp, FpOk X pins H b) (ho : ∀ b ∈ fp, ∃ o, s.heap.get? b = some o ∧ ∀ v, o.data ≠ .cell v) : Inv X (pins ++ pinsAt fp s.heap) σ H s :=
  I.pins_of fun p hp => (List.mem_append.mp hp).elim (fun z => I.pin p (List.mem_append_right _ z)) fun z => by
    obtain ⟨hb, e⟩ := of_pinsAt z
    obtain ⟨f0, f1, f2, _⟩ := hf p.1 hb
    obtain ⟨o, e', d⟩ := ho p.1 hb
    rw [e] at e'; cases e'
    exact ⟨e, f0, f1, f2, d⟩
theorem Inv.unpinned {pins pl : List (Addr × Obj)} {σ : St} {H : Hp} {s : Shared} (I : Inv X (pins ++ pl) σ H s) : Inv X pins σ H s := I.pins_of fun p hp => I.pin p (List.mem_append_right _ (List.mem_append_left _ hp))
theorem ps_for {iter : Expr} {body : List Stmt} {wi : TI} {g : TG} {tb : TS} {pos : Pos} (hp : PassesOwn (model X.prog X.w) X.A X.env X.xe) (hc : X.calm = true) (hi : PI X tg iter wi) (hg : PG X tg g) (hb : PSs X body tb)
    (hs : ∀ x, foldedSetIterable iter X.env x = pure x := by intro _; rfl) : PS X (.For tg iter body [] pos) (tFor wi g tb) := by
  intro pins s σ H D I h
  refine wpAny_For (thn (hi pins s σ H _ I h) fun v s1 h1 => thn h1 fun itv s2 h2 => ?_) hs
  obtain ⟨it, fp, tn, J, H2, e, I2, T, st2, f2, W, ⟨m0, w0⟩, turn⟩ := h2
  subst e
  -- what stays true of the iterator's objects through the loop
  have stat : ∀ {H' : Hp}, (∀ b ∈ fp, H' b = none) → ∀ b ∈ fp, FpOk X pins H' b := fun hn b hb => ⟨hn b hb, (f2 b hb).2⟩
  refine codeAny_forLoop_any (fun n s' => ∃ i σ' H', Inv X pins σ' H' s' ∧ tn i s'.heap ∧ (∀ b ∈ fp, H' b = none) ∧ W i n σ' H') ?_ m0 ⟨0, σ, H2, I2, st2, fun b hb => (f2 b hb).1, w0⟩
  rintro n s3 ⟨i, σ3, H3, I3, st3, fr3, w3⟩
  rcases turn i n σ3 H3 w3 with ⟨stop, qn⟩ | ⟨go, N, hN, step⟩
  · refine wpAny_passesOwn hp (thn (T.done X rfl rfl rfl hc i pins s3 σ3 H3 X.xe I3 (stat fr3) st3 stop) fun r s4 ⟨hr, I4⟩ => ?_)
    subst hr
    exact wpAny_execs_nil ⟨σ3, H3, I4, qn⟩
  · refine wpAny_passesOwn hp (thn (T.item X rfl rfl rfl hc i pins s3 σ3 H3 X.xe I3 (stat fr3) st3 go) fun r s4 ⟨u, hr, h4⟩ => ?_)
    subst hr
    refine wpAny_passesOwn hp (thn h4 fun _ s5 ⟨x, H5, I5, r5, y5, st5, fr5⟩ => ?_)
    have I5' := I5.pinned (stat fr5) (T.obj _ _ st5)
    refine wpAny_passesOwn hp (thn (hg _ s5 σ3 H5 x u _ I5' r5 (step x H5 y5)) fun _ s6 ⟨σ6, H6, I6, q6⟩ => ?_)
    refine wpAny_passesOwn hp (thn (hb _ s6 σ6 H6 _ I6 q6) fun f s7 q7 => ?_)
    have again : ∀ {σ7 : St} {H7 : Hp}, Inv X (pins ++ pinsAt fp s5.heap) σ7 H7 s7 → N σ7 H7 → ∃ m, m < n ∧ ∃ i σ' H', Inv X pins σ' H' s7 ∧ tn i s7.heap ∧ (∀ b ∈ fp, H' b = none) ∧ W i m σ' H' := fun {σ7 H7} I7 n7 => by
      obtain ⟨m', hm, w7⟩ := hN σ7 H7 n7
      refine ⟨m', hm, i + 1, σ7, H7, I7.unpinned, T.keep _ _ _ st5 fun b hb o e => (I7.pin (b, o) (List.mem_append_right _ (List.mem_append_right _ (mem_pinsAt hb e)))).1, fun b hb => ?_, w7⟩
      obtain ⟨o, e, d⟩ := T.obj _ _ st5 b hb
      exact (I7.pin (b, o) (List.mem_append_right _ (List.mem_append_right _ (mem_pinsAt hb e)))).2.1
    cases f with
    | next => obtain ⟨σ7, H7, I7, n7⟩ := q7; exact again I7 n7
    | cont => obtain ⟨σ7, H7, I7, n7⟩ := q7; exact again I7 n7
    | brk => obtain ⟨σ7, H7, I7, q7⟩ := q7; exact ⟨σ7, H7, I7.unpinned, q7⟩
    | ret v => obtain ⟨x7, σ7, H7, I7, r7, q7⟩ := q7; exact ⟨x7, σ7, H7, I7.unpinned, r7, q7⟩
end
theorem for_list {K : PySem.W.Frag} {a : Addr} {xs : List V} {g : TG} {tb : TS} {D : Ends} {σ : St} {H : Hp} (Pv : Nat → St → Hp → Prop) (h0 : Pv 0 σ H) (hl : ∀ i σ H, i ≤ xs.length → Pv i σ H → SqL K H a xs)
    (hs : ∀ i x σ H, xs[i]? = some x → Pv i σ H → g x σ H fun σ2 H2 => tb { D with nx := Pv (i + 1), ct := Pv (i + 1), bk := D.nx } σ2 H2) (hd : ∀ σ H, Pv xs.length σ H → D.nx σ H) :
    ∃ W : Nat → Nat → St → Hp → Prop, (∃ m, W 0 m σ H) ∧ ∀ i m σ H, W i m σ H →
      ((Itl K a).stop i H ∧ D.nx σ H) ∨ ((Itl K a).go i H ∧ ∃ N : St → Hp → Prop, (∀ σ' H', N σ' H' → ∃ m', m' < m ∧ W (i + 1) m' σ' H') ∧ ∀ x H', (Itl K a).yld i H x H' → g x σ H' fun σ2 H2 => tb { D with nx := N, ct := N, bk := D.nx } σ2 H2) := by
  refine ⟨fun i m σ H => m = xs.length - i ∧ i ≤ xs.length ∧ Pv i σ H, ⟨xs.length, by simp, Nat.zero_le _, h0⟩, ?_⟩
  rintro i m σ H ⟨rfl, hi, p⟩
  have q := hl i σ H hi p
  by_cases hlt : i < xs.length
  · refine .inr ⟨⟨xs, xs[i], q, by simp [hlt]⟩, Pv (i + 1), fun σ' H' p' => ⟨xs.length - (i + 1), by omega, rfl, hlt, p'⟩, fun x H' y => ?_⟩
    obtain ⟨e, y⟩ := y
    subst e
    exact hs i x σ _ (y xs q) p
  · have e : i = xs.length := by omega
    subst e
    exact .inl ⟨⟨xs, q, Nat.le_refl _⟩, hd σ H p⟩
theorem for_tup {K : PySem.W.Frag} {a : Addr} {xs : List V} {g : TG} {tb : TS} {D : Ends} {σ : St} {H : Hp} (Pv : Nat → St → Hp → Prop) (h0 : Pv 0 σ H) (hl : ∀ i σ H, i ≤ xs.length → Pv i σ H → SqT K H a xs)
    (hs : ∀ i x σ H, xs[i]? = some x → Pv i σ H → g x σ H fun σ2 H2 => tb { D with nx := Pv (i + 1), ct := Pv (i + 1), bk := D.nx } σ2 H2) (hd : ∀ σ H, Pv xs.length σ H → D.nx σ H) :
    ∃ W : Nat → Nat → St → Hp → Prop, (∃ m, W 0 m σ H) ∧ ∀ i m σ H, W i m σ H →
      ((Itt K a).stop i H ∧ D.nx σ H) ∨ ((Itt K a).go i H ∧ ∃ N : St → Hp → Prop, (∀ σ' H', N σ' H' → ∃ m', m' < m ∧ W (i + 1) m' σ' H') ∧ ∀ x H', (Itt K a).yld i H x H' → g x σ H' fun σ2 H2 => tb { D with nx := N, ct := N, bk := D.nx } σ2 H2) := by
  refine ⟨fun i m σ H => m = xs.length - i ∧ i ≤ xs.length ∧ Pv i σ H, ⟨xs.length, by simp, Nat.zero_le _, h0⟩, ?_⟩
  rintro i m σ H ⟨rfl, hi, p⟩
  have q := hl i σ H hi p
  by_cases hlt : i < xs.length
  · refine .inr ⟨⟨xs, xs[i], q, by simp [hlt]⟩, Pv (i + 1), fun σ' H' p' => ⟨xs.length - (i + 1), by omega, rfl, hlt, p'⟩, fun x H' y => ?_⟩
    obtain ⟨e, y⟩ := y
    subst e
    exact hs i x σ _ (y xs q) p
  · have e : i = xs.length := by omega
    subst e
    exact .inl ⟨⟨xs, q, Nat.le_refl _⟩, hd σ H p⟩
theorem for_range {lo : Int} {n : Nat} {g : TG} {tb : TS} {D : Ends} {σ : St} {H : Hp} (Pv : Nat → St → Hp → Prop) (h0 : Pv 0 σ H)
    (hs : ∀ i σ H, i < n → Pv i σ H → g (.int (lo + i)) σ H fun σ2 H2 => tb { D with nx := Pv (i + 1), ct := Pv (i + 1), bk := D.nx } σ2 H2) (hd : ∀ σ H, Pv n σ H → D.nx σ H) :
    ∃ W : Nat → Nat → St → Hp → Prop, (∃ m, W 0 m σ H) ∧ ∀ i m σ H, W i m σ H →
      ((Itr lo n).stop i H ∧ D.nx σ H) ∨ ((Itr lo n).go i H ∧ ∃ N : St → Hp → Prop, (∀ σ' H', N σ' H' → ∃ m', m' < m ∧ W (i + 1) m' σ' H') ∧ ∀ x H', (Itr lo n).yld i H x H' → g x σ H' fun σ2 H2 => tb { D with nx := N, ct := N, bk := D.nx } σ2 H2) := by
  refine ⟨fun i m σ H => m = n - i ∧ i ≤ n ∧ Pv i σ H, ⟨n, by simp, Nat.zero_le _, h0⟩, ?_⟩
  rintro i m σ H ⟨rfl, hi, p⟩
  by_cases hlt : i < n
  · refine .inr ⟨hlt, Pv (i + 1), fun σ' H' p' => ⟨n - (i + 1), by omega, rfl, hlt, p'⟩, fun x H' y => ?_⟩
    obtain ⟨e, y⟩ := y
    subst e y
    exact hs i σ _ hlt p
  · have e : i = n := by omega
    subst e
    exact .inl ⟨Nat.le_refl _, hd σ H p⟩
end L2
namespace L2
open PySem PySem.Spec PyProof.Rows
abbrev R2 := V → V → Hp → VK → Prop
def OpR (X : Cx) (f : Value → Value → Sem Value) (r : R2) : Prop :=
  ∀ (pins : List (Addr × Obj)) (s : Shared) (σ : St) (H : Hp) (x y : V) (v u : Value) (Q : VK), Inv X pins σ H s → RelV x v → RelV y u → r x y H Q →
    wpAny (model X.prog X.w) X.A (f v u) (EP X pins σ Q) X.xe s
def UnR (X : Cx) (f : Value → Sem Value) (r : V → Hp → VK → Prop) : Prop :=
  ∀ (pins : List (Addr × Obj)) (s : Shared) (σ : St) (H : Hp) (x : V) (v : Value) (Q : VK), Inv X pins σ H s → RelV x v → r x H Q →
    wpAny (model X.prog X.w) X.A (f v) (EP X pins σ Q) X.xe s
def CallR (X : Cx) (f : Value) (r : List V → Hp → VK → Prop) : Prop :=
  ∀ (pins : List (Addr × Obj)) (s : Shared) (σ : St) (H : Hp) (xs : List V) (us : List Value) (Q : VK), Inv X pins σ H s → Vals xs us → r xs H Q →
    wpAny (model X.prog X.w) X.A (call f us) (EP X pins σ Q) X.xe s
def tOp (r : R2) (ta tb : TE) : TE := fun σ H Q => ta σ H fun x H1 => tb σ H1 fun y H2 => r x y H2 Q
def tUn (r : V → Hp → VK → Prop) (ta : TE) : TE := fun σ H Q => ta σ H fun x H1 => r x H1 Q
def rI (C : Int → Int → Prop) (g : Int → Int → V) : R2 := fun x y H Q => ∃ i j, x = .int i ∧ y = .int j ∧ C i j ∧ Q (g i j) H
def rI0 (g : Int → Int → V) : R2 := fun x y H Q => ∃ i j, x = .int i ∧ y = .int j ∧ Q (g i j) H
def rU (g : Int → V) : V → Hp → VK → Prop := fun x H Q => ∃ i, x = .int i ∧ Q (g i) H
section
variable {X : Cx} {a b c : Expr} {ta tb tc : TE} {pos : Pos}
theorem binT (ha : PE X a ta) (hb : PE X b tb) {pins : List (Addr × Obj)} {s : Shared} {σ : St} {H : Hp} {R : V → V → Hp → Prop} (I : Inv X pins σ H s)
    (h : ta σ H fun x H1 => tb σ H1 fun y H2 => R x y H2) {Q : Value → Shared → Prop} {f : Value → Value → Sem Value}
    (hf : ∀ v u s2 x y H2, Inv X pins σ H2 s2 → RelV x v → RelV y u → R x y H2 → wpAny (model X.prog X.w) X.A (f v u) Q X.xe s2) :
    wpAny (model X.prog X.w) X.A (eval a X.env) (fun v s₁ => wpAny (model X.prog X.w) X.A (eval b X.env) (fun u s₂ => wpAny (model X.prog X.w) X.A (f v u) Q X.xe s₂) X.xe s₁) X.xe s := by
  refine thn (ha pins s σ H _ I h) fun v s1 ⟨x, H1, I1, r1, q1⟩ => ?_
  refine thn (hb pins s1 σ H1 _ I1 q1) fun u s2 ⟨y, H2, I2, r2, q2⟩ => ?_
  exact hf v u s2 x y H2 I2 r1 r2 q2
theorem pe_op {op : Operator} {r : R2} (ho : OpR X (binaryOp op) r) (ha : PE X a ta) (hb : PE X b tb) : PE X (.BinOp a op b pos) (tOp r ta tb) := by
  intro pins s σ H Q I h
  exact wpAny_BinOp (binT ha hb I h fun v u s2 x y H2 I2 rx ry q => ho pins s2 σ H2 x y v u Q I2 rx ry q)
theorem pe_un {op : UnaryOp} {r : V → Hp → VK → Prop} (ho : UnR X (unaryOp op) r) (ha : PE X a ta) : PE X (.UnaryOp op a pos) (tUn r ta) := by
  intro pins s σ H Q I h
  exact UnaryOp_ (thn (ha pins s σ H _ I h) fun v s1 ⟨x, H1, I1, r1, q1⟩ => ho pins s1 σ H1 x v Q I1 r1 q1)
theorem opI {f : Value → Value → Sem Value} {C : Int → Int → Prop} {g : Int → Int → Int}
    (rule : ∀ (i j : Int) (t u : Tok) (s : Shared) (Q : Value → Shared → Prop) (E : Value → Shared → Prop), C i j → Q (.int (g i j) s.toks) { s with toks := s.toks + 1 } → wpAny (model X.prog X.w) X.A (f (.int i t) (.int j u)) Q E s) :
    OpR X f (rI C fun i j => .int (g i j)) := by
  intro pins s σ H x y v u Q I rx ry h
  obtain ⟨i, j, rfl, rfl, hc, q⟩ := h
  obtain ⟨t, rfl⟩ := rx
  obtain ⟨t', rfl⟩ := ry
  exact rule i j t t' s _ _ hc ⟨.int (g i j), H, I.tok _, ⟨_, rfl⟩, q⟩
theorem opI0 {f : Value → Value → Sem Value} {g : Int → Int → Int}
    (rule : ∀ (i j : Int) (t u : Tok) (s : Shared) (Q : Value → Shared → Prop) (E : Value → Shared → Prop), Q (.int (g i j) s.toks) { s with toks := s.toks + 1 } → wpAny (model X.prog X.w) X.A (f (.int i t) (.int j u)) Q E s) :
    OpR X f (rI0 fun i j => .int (g i j)) := by
  intro pins s σ H x y v u Q I rx ry h
  obtain ⟨i, j, rfl, rfl, q⟩ := h
  obtain ⟨t, rfl⟩ := rx
  obtain ⟨t', rfl⟩ := ry
  exact rule i j t t' s _ _ ⟨.int (g i j), H, I.tok _, ⟨_, rfl⟩, q⟩
theorem opB0 {f : Value → Value → Sem Value} {g : Int → Int → Bool}
    (rule : ∀ (i j : Int) (t u : Tok) (s : Shared) (Q : Value → Shared → Prop) (E : Value → Shared → Prop), Q (.bool (g i j)) s → wpAny (model X.prog X.w) X.A (f (.int i t) (.int j u)) Q E s) :
    OpR X f (rI0 fun i j => .bl (g i j)) := by
  intro pins s σ H x y v u Q I rx ry h
  obtain ⟨i, j, rfl, rfl, q⟩ := h
  obtain ⟨t, rfl⟩ := rx
  obtain ⟨t', rfl⟩ := ry
  exact rule i j t t' s _ _ ⟨.bl (g i j), H, I, rfl, q⟩
def CDiv (i j : Int) : Prop := 0 < j ∧ j < 1073741824
def CMul (i j : Int) : Prop := (-(2 ^ 64) < i ∧ i < 2 ^ 64) ∨ (-(2 ^ 64) < j ∧ j < 2 ^ 64)
theorem CMul.ok {i j : Int} (h : CMul i j) : IntMulOk i j := by
  rcases h with ⟨h1, h2⟩ | ⟨h1, h2⟩
  · exact .of_left (intBits_le_64 h1 h2)
  · exact .of_right (intBits_le_64 h1 h2)
theorem op_add : OpR X (binaryOp .Add) (rI0 fun i j => .int (i + j)) := opI0 fun _ _ _ _ _ _ _ q => add_int q
theorem op_sub : OpR X (binaryOp .Sub) (rI0 fun i j => .int (i - j)) := opI0 fun _ _ _ _ _ _ _ q => sub_int q
theorem op_mul : OpR X (binaryOp .Mult) (rI CMul fun i j => .int (i * j)) := opI fun _ _ _ _ _ _ _ hc q => mul_int q hc.ok
theorem op_fdiv : OpR X (binaryOp .FloorDiv) (rI CDiv fun i j => .int (i / j)) := opI fun i j _ _ _ _ _ hc q => by
  have h1 : (0 : Int) < j := hc.1
  have h2 : j < 1073741824 := hc.2
  exact floordiv_int (by omega) (by rw [Int.fdiv_eq_ediv_of_nonneg i (by omega)]; exact q) (.inl (PyProof.noPylong_small (by omega)))
theorem op_mod : OpR X (binaryOp .Mod) (rI (fun _ j => 0 < j) fun i j => .int (i % j)) := opI fun i j _ _ _ _ _ hc q => by
  have h1 : (0 : Int) < j := hc
  exact mod_int' (by omega) (by rw [Int.fmod_eq_emod_of_nonneg i (by omega)]; exact q)
theorem unI {f : Value → Sem Value} {g : Int → Int}
    (rule : ∀ (i : Int) (t : Tok) (s : Shared) (Q : Value → Shared → Prop) (E : Value → Shared → Prop), Q (.int (g i) s.toks) { s with toks := s.toks + 1 } → wpAny (model X.prog X.w) X.A (f (.int i t)) Q E s) :
    UnR X f (rU fun i => .int (g i)) := by
  intro pins s σ H x v Q I rx h
  obtain ⟨i, rfl, q⟩ := h
  obtain ⟨t, rfl⟩ := rx
  exact rule i t s _ _ ⟨.int (g i), H, I.tok _, ⟨_, rfl⟩, q⟩
theorem un_neg : UnR X (unaryOp .USub) (rU fun i => .int (-i)) := unI fun _ _ _ _ _ q => neg_int q
end
def scal : V → V → Bool
  | .non, .non => true | .non, .int _ => true | .int _, .non => true | .non, .bl _ => true | .bl _, .non => true | .non, .str _ => true | .str _, .non => true
  | .int _, .int _ => true | .bl _, .bl _ => true | .str _, .str _ => true | .byt _, .byt _ => true
  | .int _, .str _ => true | .str _, .int _ => true | .bl _, .str _ => true | .str _, .bl _ => true
  | _, _ => false
def rEq : R2 := fun x y H Q => scal x y = true ∧ Q (.bl (decide (x = y))) H
def rNe : R2 := fun x y H Q => scal x y = true ∧ Q (.bl (!decide (x = y))) H
theorem dec_int {i j : Int} : decide (V.int i = V.int j) = (i == j) := by
  rw [Bool.eq_iff_iff]
  simp
theorem dec_bl {i j : Bool} : decide (V.bl i = V.bl j) = (i == j) := by
  rw [Bool.eq_iff_iff]
  simp
theorem dec_str {i j : Str} : decide (V.str i = V.str j) = (i == j) := by
  rw [Bool.eq_iff_iff]
  simp
theorem dec_byt {i j : Array UInt8} : decide (V.byt i = V.byt j) = (i.toList == j.toList) := by
  rw [Bool.eq_iff_iff]
  cases i
  cases j
  simp
section
variable {X : Cx} {a b c : Expr} {ta tb tc : TE} {pos : Pos}
theorem fin_bl {pins : List (Addr × Obj)} {σ : St} {H : Hp} {s : Shared} {Q : VK} {k k' : Bool} (I : Inv X pins σ H s) (q : Q (.bl k) H) (e : k = k') : EP X pins σ Q (.bool k') s := by
  subst e
  exact ⟨.bl k, H, I, rfl, q⟩
theorem op_eq : OpR X (compareOp .Eq) rEq := by
  intro pins s σ H x y v u Q I rx ry h
  obtain ⟨hs, q⟩ := h
  cases x with
  | non =>
    cases rx
    cases y with
    | non => cases ry; exact PySem.EqNone.eq_none_none (fin_bl I q (by simp))
    | bl j => cases ry; exact PySem.EqNone.eq_none_bool (fin_bl I q (by simp))
    | int j => obtain ⟨t', rfl⟩ := ry; exact PySem.EqNone.eq_none_int (fin_bl I q (by simp))
    | str j => obtain ⟨t', rfl⟩ := ry; exact PySem.EqNone.eq_none_str (fin_bl I q (by simp))
    | _ => exact absurd (show false = true from hs) Bool.false_ne_true
  | bl i =>
    cases rx
    cases y with
    | non => cases ry; exact PySem.EqNone.eq_bool_none (fin_bl I q (by simp))
    | bl j => cases ry; exact eq_bool (fin_bl I q dec_bl)
    | str j => obtain ⟨t', rfl⟩ := ry; exact PySem.EqMixed.eq_bool_str (fin_bl I q (by simp))
    | _ => exact absurd (show false = true from hs) Bool.false_ne_true
  | int i =>
    obtain ⟨t, rfl⟩ := rx
    cases y with
    | non => cases ry; exact PySem.EqNone.eq_int_none (fin_bl I q (by simp))
    | int j => obtain ⟨t', rfl⟩ := ry; exact eq_int (fin_bl I q dec_int)
    | str j => obtain ⟨t', rfl⟩ := ry; exact PySem.EqMixed.eq_int_str (fin_bl I q (by simp))
    | _ => exact absurd (show false = true from hs) Bool.false_ne_true
  | str i =>
    obtain ⟨t, rfl⟩ := rx
    cases y with
    | non => cases ry; exact PySem.EqNone.eq_str_none (fin_bl I q (by simp))
    | bl j => cases ry; exact PySem.EqMixed.eq_str_bool (fin_bl I q (by simp))
    | int j => obtain ⟨t', rfl⟩ := ry; exact PySem.EqMixed.eq_str_int (fin_bl I q (by simp))
    | str j => obtain ⟨t', rfl⟩ := ry; exact eq_str (fin_bl I q dec_str)
    | _ => exact absurd (show false = true from hs) Bool.false_ne_true
  | byt i =>
    obtain ⟨t, rfl⟩ := rx
    cases y with
    | byt j => obtain ⟨t', rfl⟩ := ry; exact PySem.W.eq_bytes (fin_bl I q dec_byt)
    | _ => exact absurd (show false = true from hs) Bool.false_ne_true
  | _ => cases y <;> exact absurd (show false = true from hs) Bool.false_ne_true
theorem op_ne : OpR X (compareOp .NotEq) rNe := by
  intro pins s σ H x y v u Q I rx ry h
  obtain ⟨hs, q⟩ := h
  cases x with
  | non =>
    cases rx
    cases y with
    | non => cases ry; exact PySem.EqNone.ne_none_none (fin_bl I q (by simp))
    | bl j => cases ry; exact PySem.EqNone.ne_none_bool (fin_bl I q (by simp))
    | int j => obtain ⟨t', rfl⟩ := ry; exact PySem.EqNone.ne_none_int (fin_bl I q (by simp))
    | str j => obtain ⟨t', rfl⟩ := ry; exact PySem.EqNone.ne_none_str (fin_bl I q (by simp))
    | _ => exact absurd (show false = true from hs) Bool.false_ne_true
  | bl i =>
    cases rx
    cases y with
    | non => cases ry; exact PySem.EqNone.ne_bool_none (fin_bl I q (by simp))
    | bl j => cases ry; exact ne_bool (fin_bl I q (congrArg not dec_bl))
    | str j => obtain ⟨t', rfl⟩ := ry; exact PySem.EqMixed.ne_bool_str (fin_bl I q (by simp))
    | _ => exact absurd (show false = true from hs) Bool.false_ne_true
  | int i =>
    obtain ⟨t, rfl⟩ := rx
    cases y with
    | non => cases ry; exact PySem.EqNone.ne_int_none (fin_bl I q (by simp))
    | int j => obtain ⟨t', rfl⟩ := ry; exact ne_int (fin_bl I q (congrArg not dec_int))
    | str j => obtain ⟨t', rfl⟩ := ry; exact PySem.EqMixed.ne_int_str (fin_bl I q (by simp))
    | _ => exact absurd (show false = true from hs) Bool.false_ne_true
  | str i =>
    obtain ⟨t, rfl⟩ := rx
    cases y with
    | non => cases ry; exact PySem.EqNone.ne_str_none (fin_bl I q (by simp))
    | bl j => cases ry; exact PySem.EqMixed.ne_str_bool (fin_bl I q (by simp))
    | int j => obtain ⟨t', rfl⟩ := ry; exact PySem.EqMixed.ne_str_int (fin_bl I q (by simp))
    | str j => obtain ⟨t', rfl⟩ := ry; exact ne_str (fin_bl I q (congrArg not dec_str))
    | _ => exact absurd (show false = true from hs) Bool.false_ne_true
  | byt i =>
    obtain ⟨t, rfl⟩ := rx
    cases y with
    | byt j => obtain ⟨t', rfl⟩ := ry; exact PySem.W.ne_bytes (fin_bl I q (congrArg not dec_byt))
    | _ => exact absurd (show false = true from hs) Bool.false_ne_true
  | _ => cases y <;> exact absurd (show false = true from hs) Bool.false_ne_true
theorem op_lt : OpR X (compareOp .Lt) (rI0 fun i j => .bl (decide (i < j))) := opB0 fun _ _ _ _ _ _ _ q => lt_int q
theorem op_le : OpR X (compareOp .LtE) (rI0 fun i j => .bl (decide (i ≤ j))) := opB0 fun _ _ _ _ _ _ _ q => le_int q
theorem op_gt : OpR X (compareOp .Gt) (rI0 fun i j => .bl (decide (j < i))) := opB0 fun _ _ _ _ _ _ _ q => gt_int q
theorem op_ge : OpR X (compareOp .GtE) (rI0 fun i j => .bl (decide (j ≤ i))) := opB0 fun _ _ _ _ _ _ _ q => ge_int q
theorem op_isN : OpR X (compareOp .Is) (fun x y H Q => y = .non ∧ Q (.bl (decide (x = .non))) H) := by
  intro pins s σ H x y v u Q I rx ry h
  obtain ⟨rfl, q⟩ := h
  cases ry
  refine is_none_gen (fin_bl I q ?_)
  cases x <;> first
    | (cases rx; rfl)
    | (obtain ⟨t, rfl⟩ := rx; rfl)
theorem op_notN : OpR X (compareOp .IsNot) (fun x y H Q => y = .non ∧ Q (.bl (!decide (x = .non))) H) := by
  intro pins s σ H x y v u Q I rx ry h
  obtain ⟨rfl, q⟩ := h
  cases ry
  refine isnot_none_gen (fin_bl I q ?_)
  cases x <;> first
    | (cases rx; rfl)
    | (obtain ⟨t, rfl⟩ := rx; rfl)
theorem nomark (b : Expr) {op : CmpOp} (h : op ≠ .In := by decide) (h2 : op ≠ .NotIn := by decide) : behindInMarks op b = false := by
  have e1 : (op == CmpOp.In) = false := by cases op <;> first | rfl | exact absurd rfl h
  have e2 : (op == CmpOp.NotIn) = false := by cases op <;> first | rfl | exact absurd rfl h2
  cases b <;> simp [behindInMarks, e1, e2]
theorem pe_cmpR {op : CmpOp} {r : R2} (ho : OpR X (compareOp op) r) (ha : PE X a ta) (hb : PE X b tb) (hm : behindInMarks op b = false) : PE X (.Compare a [op] [b] pos) (tOp r ta tb) := by
  intro pins s σ H Q I h
  exact wpAny_Compare1 (binT ha hb I h fun v u s2 x y H2 I2 rx ry q => ho pins s2 σ H2 x y v u Q I2 rx ry q) hm
def tTest (t : TE) : TT := fun σ H Q => t σ H fun x H' => ∃ k, x = .bl k ∧ Q k H'
theorem pt_cmpR {op : CmpOp} {r : R2} (ho : OpR X (compareOp op) r) (ha : PE X a ta) (hb : PE X b tb) (hm : behindInMarks op b = false) : PT X (.Compare a [op] [b] pos) (tTest (tOp r ta tb)) := by
  intro pins s σ H Q I h
  refine wpAny_isTrue_Compare1 (thn (ha pins s σ H _ I h) fun v s1 ⟨x, H1, I1, r1, q1⟩ => thn (hb pins s1 σ H1 _ I1 q1) fun u s2 ⟨y, H2, I2, r2, q2⟩ =>
    thn (ho pins s2 σ H2 x y v u _ I2 r1 r2 q2) fun c s3 ⟨z, H3, I3, r3, k, e, q3⟩ => ?_) hm
  subst e
  cases r3
  exact wpAny_truthy_bool ⟨H3, I3, q3⟩
def tChain (r r' : R2) (ta tb tc : TE) : TE := fun σ H Q => ta σ H fun x H1 => tb σ H1 fun y H2 => r x y H2 fun z H3 => ∃ k, z = .bl k ∧
  (if k = true then tc σ H3 fun w' H4 => r' y w' H4 Q else Q (.bl false) H3)
theorem pe_chain {op op' : CmpOp} {r r' : R2} (ho : OpR X (compareOp op) r) (ho' : OpR X (compareOp op') r') (ha : PE X a ta) (hb : PE X b tb) (hc : PE X c tc)
    (hm : lastMarks [op, op'] [b, c] = false := by with_unfolding_all rfl) : PE X (.Compare a [op, op'] [b, c] pos) (tChain r r' ta tb tc) := by
  intro pins s σ H Q I h
  refine Compare_chain (thn (ha pins s σ H _ I h) fun v s1 ⟨x, H1, I1, r1, q1⟩ => chain_link (thn (hb pins s1 σ H1 _ I1 q1) fun u s2 ⟨y, H2, I2, r2, q2⟩ =>
    thn (ho pins s2 σ H2 x y v u _ I2 r1 r2 q2) fun d s3 ⟨z, H3, I3, r3, k, e, q3⟩ => ?_)) hm
  subst e
  cases r3
  refine wpAny_truthy_bool ?_
  cases k with
  | false => exact ite_ff ⟨.bl false, H3, I3, rfl, q3⟩
  | true => exact ite_tt (chain_last (thn (hc pins s3 σ H3 _ I3 q3) fun w' s4 ⟨z', H4, I4, r4, q4⟩ => ho' pins s4 σ H4 y z' u w' Q I4 r2 r4 q4))
theorem pt_chain {op op' : CmpOp} {r r' : R2} (ho : OpR X (compareOp op) r) (ho' : OpR X (compareOp op') r') (ha : PE X a ta) (hb : PE X b tb) (hc : PE X c tc)
    (hm : lastMarks [op, op'] [b, c] = false := by with_unfolding_all rfl) : PT X (.Compare a [op, op'] [b, c] pos) (tTest (tChain r r' ta tb tc)) := by
  intro pins s σ H Q I h
  refine isTrue_chain (thn (ha pins s σ H _ I h) fun v s1 ⟨x, H1, I1, r1, q1⟩ => test_link (thn (hb pins s1 σ H1 _ I1 q1) fun u s2 ⟨y, H2, I2, r2, q2⟩ =>
    thn (ho pins s2 σ H2 x y v u _ I2 r1 r2 q2) fun d s3 ⟨z, H3, I3, r3, k, e, q3⟩ => ?_)) hm
  subst e
  cases r3
  refine wpAny_truthy_bool ?_
  cases k with
  | false =>
    obtain ⟨k', e', q'⟩ := q3
    cases e'
    exact ite_ff ⟨H3, I3, q'⟩
  | true =>
    refine ite_tt (test_last (thn (hc pins s3 σ H3 _ I3 q3) fun w' s4 ⟨z', H4, I4, r4, q4⟩ => thn (ho' pins s4 σ H4 y z' u w' _ I4 r2 r4 q4) fun d' s5 ⟨z2, H5, I5, r5, k2, e2, q5⟩ => ?_))
    subst e2
    cases r5
    exact wpAny_truthy_bool ⟨H5, I5, q5⟩
theorem line63 : (sizeLine : Nat) < 2 ^ 63 := by rw [sizeLine_eq]; decide
theorem vals1 {x : V} {us : List Value} (r : Vals [x] us) : ∃ u, us = [u] ∧ RelV x u := by
  cases r with
  | cons r1 r2 => cases r2; exact ⟨_, rfl, r1⟩
theorem vals2 {x y : V} {us : List Value} (r : Vals [x, y] us) : ∃ u w', us = [u, w'] ∧ RelV x u ∧ RelV y w' := by
  cases r with
  | cons r1 r2 =>
    cases r2 with
    | cons r3 r4 => cases r4; exact ⟨_, _, rfl, r1, r3⟩
theorem call_min2 (hc : X.calm = true) : CallR X (.builtin "min") (fun xs H Q => ∃ i j, xs = [.int i, .int j] ∧ Q (.int (if j < i then j else i)) H) := by
  intro pins s σ H xs us Q I r h
  obtain ⟨i, j, rfl, q⟩ := h
  obtain ⟨u, w', rfl, ⟨t, rfl⟩, ⟨t', rfl⟩⟩ := vals2 r
  refine min_two_ints (I.ok.hd hc) fun h' tk k => ⟨_, H, I.kept k, ?_, q⟩
  by_cases hj : j < i
  · rw [if_pos hj, if_pos hj]; exact ⟨_, rfl⟩
  · rw [if_neg hj, if_neg hj]; exact ⟨_, rfl⟩
theorem call_int1 : CallR X (.type "int") (fun xs H Q => (∃ i, xs = [.int i] ∧ Q (.int i) H) ∨ ∃ k, xs = [.bl k] ∧ Q (.int (if k then 1 else 0)) H) := by
  intro pins s σ H xs us Q I r h
  rcases h with ⟨i, rfl, q⟩ | ⟨k, rfl, q⟩
  · obtain ⟨u, rfl, t, rfl⟩ := vals1 r
    exact call_int_int ⟨.int i, H, I, ⟨_, rfl⟩, q⟩
  · obtain ⟨u, rfl, r1⟩ := vals1 r
    cases r1
    exact call_int_bool ⟨.int (if k then 1 else 0), H, I.tok _, ⟨_, rfl⟩, q⟩
end
end L2
namespace L2
open PySem PySem.Spec PyProof.Rows
structure ObjM (h : Heap) (x dx C : Addr) (mA : Str → Option Value) : Prop where
  obj : h.get? x = some (PySem.W.instObj C dx)
  ns : h.Ns1 dx mA
  ne : dx ≠ x
theorem lookIn_ns {h : Heap} {dx : Addr} {mA : Str → Option Value} (n : h.Ns1 dx mA) : ∃ od, h.get? dx = some od ∧ ∀ name, PySem.W.lookIn name od = some (mA name) := by
  obtain ⟨o, es, ep, ho, hd, hk, _, hm⟩ := n
  refine ⟨o, ho, fun name => ?_⟩
  have e := hm name
  unfold nsFind findBy at e
  rw [← Array.find?_toList] at e
  unfold PySem.W.lookIn
  rw [hd]
  dsimp only
  split
  · rename_i y q
    rw [q] at e
    exact congrArg some e
  · rename_i q
    rw [q] at e
    have a : es.toList.any (·.refKey) = false := by
      rw [List.any_eq_false]
      intro y hy
      obtain ⟨z, t, hkey⟩ := hk y (Array.mem_toList_iff.mp hy)
      simp [DictEntry.refKey, hkey]
    have a' : ¬ es.toList.any (·.refKey) = true := by rw [a]; exact Bool.false_ne_true
    rw [if_neg a']
    exact congrArg some e
theorem ObjM.look {h : Heap} {x dx C : Addr} {mA : Str → Option Value} (I : ObjM h x dx C mA) : ∃ od, PySem.W.InstAt h x (PySem.W.instObj C dx) C (some od) ∧ ∀ name, PySem.W.lookIn name od = some (mA name) :=
  let ⟨od, ho, hl⟩ := lookIn_ns I.ns
  ⟨od, ⟨I.obj, rfl, rfl, ho⟩, hl⟩
section
variable {prog : Program} {w : World} {A : Around} {E : Value → Shared → Prop} {s : Shared} {K : PySem.W.Frag} {x dx C f : Addr} {mA : Str → Option Value} {name : Str} {v : Value}
theorem get_map {expr : Bool} {Q : Value → Shared → Prop} (X : K.In s.heap) (I : ObjM s.heap x dx C mA) (hg : PySem.W.plainGet K C name = true) (hh : PySem.W.hasDictIn K C = true)
    (ha : PySem.W.findIn K (.ref C) name = some none) (hv : mA name = some v) (hv' : PySem.W.handedIn v = true) (h : Q v { s with toks := s.toks + 1 }) :
    wpAny (model prog w) A (getAttr (.ref x) name expr) Q E s := by
  obtain ⟨od, J, hl⟩ := I.look
  exact PySem.W.get_value X J (PySem.W.plainGet_of hg).1 (PySem.W.findObj_own hh ha rfl (by rw [hl, hv])) hv' h
theorem set_map {ns : List Str} {Q : Unit → Shared → Prop} (X : K.In s.heap) (I : ObjM s.heap x dx C mA)
    (hs : PySem.W.findIn K (.ref C) "__setattr__" = some (some (.builtin "object.__setattr__"))) (hp : PySem.W.plainOver K C = true) (ht : PySem.W.takerIn K C name = some none) (hh : PySem.W.hasDictIn K C = true)
    (hw : PySem.Within mA ns) (hsz : ns.length ≤ sizeLine)
    (h : ∀ h', ObjM h' x dx C (fun y => if y = name then some v else mA y) → Heap.SameBut dx s.heap h' → Q () { s with heap := h', toks := s.toks + 2 }) :
    wpAny (model prog w) A (setAttr (.ref x) name v) Q E s := by
  obtain ⟨od, J, hl⟩ := I.look
  refine PySem.W.set_plain X J hs (PySem.W.osa_open (s := { s with toks := s.toks + 1 }) (r := none) X J hp ht fun b => ?_)
  obtain ⟨cd, hc, hd'⟩ := PySem.W.any_some hh
  have hx : s.heap.get? x = some ⟨.ref C, some dx, .plain, #[]⟩ := I.obj
  refine wpAny_bind (wpAny_pure (wpAny_bind (wpAny_bind (wpAny_loadPart hx (wpAny_bind (PySem.W.Looks.here (s := { s with toks := s.toks + 1 }) (PySem.W.looks_clsIn X hc) ?_))))))
  rw [hd']
  refine wpAny_pure (a := some dx) (wpAny_bind (wpAny_pure (wpAny_bind ?_)))
  refine wpAny_nsSet1 (s := { s with toks := s.toks + 1 }) I.ns fun h' hn2 hs2 => ?_
  obtain ⟨oD, esD, epD, hoD, hdD, hcD⟩ := hn2.count (PySem.Within.cons name v hw)
  refine wpAny_bind (wpAny_lookBehind hoD (by rw [hdD]; exact pastItsLine_dict (Nat.le_trans hcD (by rw [List.length_cons]; omega))) ?_)
  exact wpAny_pure (h _ ⟨(hs2.2 _ (Ne.symm I.ne)).trans I.obj, hn2, I.ne⟩ hs2)
theorem make_map {R : Result → Shared → Prop} {vs : List Value} {kw : List (Str × Value)} (X : K.In s.heap) (hm : PySem.W.makesIn K C = true)
    (hi : PySem.W.findIn K (.ref C) "__init__" = some (some (.ref f))) (hf : PySem.W.typeIn K (.ref f) = some (.type "function"))
    (h : codeAny (model prog w) (A.under (.builtin "type.__call__" ⟨.ref C :: vs, kw⟩)) (.call (.ref f) ⟨.ref (s.heap.objs.size + 1) :: vs, kw⟩) (PySem.W.InitBack (s.heap.objs.size + 1) R)
      { s with heap := (s.heap.push PySem.W.emptyDict).push (PySem.W.instObj C s.heap.objs.size) }) :
    codeAny (model prog w) A (.call (.ref C) ⟨vs, kw⟩) R s := by
  obtain ⟨hh, g, d, t, os⟩ := s
  exact PySem.W.make_core (PySem.W.makes_of X hm) (PySem.W.looks_findIn X hi) (fun self => PySem.W.bind_fn X self hf) (.inl rfl) h
end
def putF (f : Str) (v : V) : List (Str × V) → List (Str × V)
  | [] => [(f, v)]
  | (g, x) :: r => if g = f then (g, v) :: r else (g, x) :: putF f v r
theorem lookup_putF (f g : Str) (v : V) : ∀ fs : List (Str × V), (putF f v fs).lookup g = if g = f then some v else fs.lookup g
  | [] => by
    show List.lookup g [(f, v)] = _
    by_cases h : g = f
    · have hb : (g == f) = true := beq_iff_eq.mpr h
      simp only [List.lookup, hb, if_pos h]
    · have hb : (g == f) = false := beq_eq_false_iff_ne.mpr h
      simp only [List.lookup, hb, if_neg h]
  | (k, x) :: r => by
    have ih := lookup_putF f g v r
    rw [show putF f v ((k, x) :: r) = (if k = f then (k, v) :: r else (k, x) :: putF f v r) from rfl]
    by_cases hk : k = f
    · rw [if_pos hk]
      by_cases h : g = k
      · have hb : (g == k) = true := beq_iff_eq.mpr h
        simp only [List.lookup, hb, if_pos (h.trans hk)]
      · have hb : (g == k) = false := beq_eq_false_iff_ne.mpr h
        simp only [List.lookup, hb, if_neg (fun e : g = f => h (e.trans hk.symm))]
    · rw [if_neg hk]
      by_cases h : g = k
      · have hb : (g == k) = true := beq_iff_eq.mpr h
        simp only [List.lookup, hb, if_neg (fun e : g = f => hk (h.symm.trans e))]
      · have hb : (g == k) = false := beq_eq_false_iff_ne.mpr h
        simp only [List.lookup, hb]
        exact ih
theorem keys_putF (f : Str) (v : V) : ∀ fs : List (Str × V), f ∈ (putF f v fs).map (·.1) ∧ ∀ g, g ∈ fs.map (·.1) → g ∈ (putF f v fs).map (·.1)
  | [] => ⟨by simp [putF], fun g h => by simp at h⟩
  | (k, x) :: r => by
    obtain ⟨i1, i2⟩ := keys_putF f v r
    rw [show putF f v ((k, x) :: r) = (if k = f then (k, v) :: r else (k, x) :: putF f v r) from rfl]
    by_cases hk : k = f
    · rw [if_pos hk]
      subst hk
      exact ⟨by simp, fun g h => by simpa using h⟩
    · rw [if_neg hk]
      refine ⟨?_, fun g h => ?_⟩
      · rw [List.map_cons]
        exact List.mem_cons_of_mem _ i1
      · rw [List.map_cons] at h ⊢
        rcases List.mem_cons.mp h with e | e
        · exact List.mem_cons.mpr (.inl e)
        · exact List.mem_cons_of_mem _ (i2 g e)
theorem length_putF (f : Str) (v : V) : ∀ fs : List (Str × V), (putF f v fs).length ≤ fs.length + 1
  | [] => by simp [putF]
  | (k, x) :: r => by
    have ih := length_putF f v r
    rw [show putF f v ((k, x) :: r) = (if k = f then (k, v) :: r else (k, x) :: putF f v r) from rfl]
    by_cases hk : k = f
    · rw [if_pos hk, List.length_cons, List.length_cons]; omega
    · rw [if_neg hk, List.length_cons, List.length_cons]; omega
theorem RelO.some_of {v : V} {o : Option Value} (r : RelO (some v) o) : ∃ u, o = some u ∧ RelV v u := by
  cases o with
  | none => exact (show False from r).elim
  | some u => exact ⟨u, rfl, r⟩
theorem handed_of {v : V} {u : Value} (r : RelV v u) : PySem.W.handedIn u = true := by
  cases v with
  | non => cases (show u = Value.none from r); rfl
  | bl b => cases (show u = Value.bool b from r); rfl
  | int i => obtain ⟨t, e⟩ := (show ∃ t, u = Value.int i t from r); cases e; rfl
  | str x => obtain ⟨t, e⟩ := (show ∃ t, u = Value.str x t from r); cases e; rfl
  | byt b => obtain ⟨t, e⟩ := (show ∃ t, u = Value.bytes b t from r); cases e; rfl
  | flt b => obtain ⟨t, e⟩ := (show ∃ t, u = Value.float b t from r); cases e; rfl
  | ref a => cases (show u = Value.ref a from r); rfl
  | ty n => cases (show u = Value.type n from r); rfl
section
variable {P : Program} {w : World} {H H' : Hp} {h h' : Heap} {a C dx : Addr} {fs fs' : List (Str × V)}
theorem ins_get (hok : HOk P w H h) (e : H a = some (.ins C dx fs)) : ∃ mA, ObjM h a dx C mA ∧ (∀ f, RelO (fs.lookup f) (mA f)) ∧ PySem.Within mA (fs.map (·.1)) ∧ fs.length ≤ 1000 ∧ H dx = some (.own a) := by
  obtain ⟨d, z, ne, ob, mA, n, r, q⟩ := (show ObjOk P w H h a (.ins C dx fs) from hok a _ e)
  exact ⟨mA, ⟨ob, n, ne⟩, r, q, z, d⟩
end
structure Cls (K : PySem.W.Frag) (C : Addr) : Prop where
  pg : PySem.W.plainGet K C Str.empty = true
  hd : PySem.W.hasDictIn K C = true
  po : PySem.W.plainOver K C = true
  sa : PySem.W.findIn K (.ref C) "__setattr__" = some (some (.builtin "object.__setattr__"))
theorem Cls.get {K : PySem.W.Frag} {C : Addr} (c : Cls K C) (f : Str) : PySem.W.plainGet K C f = true := c.pg
def NoAttr (K : PySem.W.Frag) (C : Addr) (f : Str) : Prop := PySem.W.findIn K (.ref C) f = some none
theorem NoAttr.taker {K : PySem.W.Frag} {C : Addr} {f : Str} (n : NoAttr K C f) : PySem.W.takerIn K C f = some none := by
  unfold PySem.W.takerIn
  rw [show PySem.W.findIn K (.ref C) f = some none from n]
  rfl
structure Con (K : PySem.W.Frag) (C : Addr) (f : Str) (v : V) (u : Value) : Prop where
  at_ : PySem.W.findIn K (.ref C) f = some (some u)
  rel : RelV v u
  get : PySem.W.specialIn K u "__get__" = some none
  cp : PySem.W.copiedNames.contains f = false
structure Meth (K : PySem.W.Frag) (C : Addr) (m : Str) (f : Addr) : Prop where
  at_ : PySem.W.findIn K (.ref C) m = some (some (.ref f))
  fn : PySem.W.isFn K (.ref f) = true
  kp : PySem.W.keepIn K (.ref f) = true
section
variable {X : Cx} {pins : List (Addr × Obj)} {σ : St} {H : Hp} {s : Shared} {a C dx : Addr} {fs : List (Str × V)} {f : Str} {v : V} {A : Around} {E : Value → Shared → Prop}
theorem getattr_ok {b : Bool} {Q : Value → Shared → Prop} (I : Inv X pins σ H s) (e : H a = some (.ins C dx fs)) (c : Cls X.K C) (n : NoAttr X.K C f) (l : fs.lookup f = some v)
    (h : ∀ u s', Inv X pins σ H s' → RelV v u → Q u s') : wpAny (model X.prog X.w) A (getAttr (.ref a) f b) Q E s := by
  obtain ⟨mA, O, r, _, _, _⟩ := ins_get I.hok e
  obtain ⟨u, hu, ru⟩ := RelO.some_of (v := v) (o := mA f) (by rw [← l]; exact r f)
  exact get_map I.kIn O (c.get f) c.hd n hu (handed_of ru) (h u _ (I.tok _) ru)
theorem setattr_ok {y : V} {u : Value} {Q : Unit → Shared → Prop} (I : Inv X pins σ H s) (e : H a = some (.ins C dx fs)) (c : Cls X.K C) (n : NoAttr X.K C f) (hl : fs.length < 1000) (ry : RelV y u)
    (h : ∀ s', Inv X pins σ (upd H a (.ins C dx (putF f y fs))) s' → Q () s') : wpAny (model X.prog X.w) A (setAttr (.ref a) f u) Q E s := by
  obtain ⟨mA, O, r, wi, _, ho⟩ := ins_get I.hok e
  have hz : (fs.map (·.1)).length ≤ sizeLine := by rw [List.length_map, sizeLine_eq]; omega
  refine set_map I.kIn O c.sa c.po n.taker c.hd wi hz fun h' O' sb => h _ ?_
  have hd : ∃ o, h'.get? dx = some o := let ⟨o, _, _, e', _⟩ := O'.ns; ⟨o, e'⟩
  refine I.write (x := a) (e := dx) (by rw [e]; exact True.intro) (.inr ho) (fun b q hb z => (sb.2 b hb).trans z) hd ?_
  refine ⟨by rw [upd_ne O.ne]; exact ho, ?_, O.ne, O'.obj, _, O'.ns, fun g => ?_, fun g hg => ?_⟩
  · have := length_putF f y fs; omega
  · show RelO ((putF f y fs).lookup g) (if g = f then some u else mA g)
    rw [lookup_putF]
    by_cases q : g = f
    · rw [if_pos q, if_pos q]; exact ry
    · rw [if_neg q, if_neg q]; exact r g
  · by_cases q : g = f
    · rw [q]; exact (keys_putF f y fs).1
    · refine (keys_putF f y fs).2 g (wi g fun z => hg ?_)
      show (if g = f then some u else mA g) = none
      rw [if_neg q]; exact z
theorem Inv.made (I : Inv X pins σ H s) : Inv X pins σ (upd (upd H s.heap.objs.size (.own (s.heap.objs.size + 1))) (s.heap.objs.size + 1) (.ins C s.heap.objs.size []))
    { s with heap := (s.heap.push PySem.W.emptyDict).push (PySem.W.instObj C s.heap.objs.size) } := by
  have e1 : (s.heap.push PySem.W.emptyDict).get? s.heap.objs.size = some PySem.W.emptyDict := Heap.get?_push_size s.heap rfl
  have e2 : ((s.heap.push PySem.W.emptyDict).push (PySem.W.instObj C s.heap.objs.size)).get? (s.heap.objs.size + 1) = some (PySem.W.instObj C s.heap.objs.size) := by
    have := Heap.get?_push_size (s.heap.push PySem.W.emptyDict) (o := PySem.W.instObj C s.heap.objs.size) rfl
    rwa [Heap.size_push] at this
  have e3 : (s.heap.push PySem.W.emptyDict).Ns s.heap.objs.size (fun _ => none) := ⟨PySem.W.emptyDict, #[], _, e1, rfl, (fun e he => absurd he (by simp)), fun _ => rfl⟩
  have I1 := I.laid (a := s.heap.objs.size) (o := .own (s.heap.objs.size + 1)) (h' := s.heap.push PySem.W.emptyDict) (t' := s.toks) (fun b u q => Heap.get?_push_of_some _ q) (Nat.le_refl _) ⟨_, e1⟩
  refine I1.laid (a := s.heap.objs.size + 1) (o := .ins C s.heap.objs.size []) (t' := s.toks) (fun b u q => Heap.get?_push_of_some _ q) (Nat.le_of_eq (Heap.size_push _ _)) ?_
  have ne : s.heap.objs.size ≠ s.heap.objs.size + 1 := Nat.ne_of_lt (Nat.lt_succ_self _)
  refine ⟨by rw [upd_ne ne, upd_same], Nat.zero_le _, ne, e2, fun _ => none, (Heap.Ns1.of_empty e3).at fun o q => Heap.get?_push_of_some _ q, fun _ => True.intro, fun y hy => absurd rfl hy⟩
theorem attr_of {prog : Program} {w : World} {env : Env} {e : Expr} {f : Str} {pos : Pos} {s : Shared} {Q : Value → Shared → Prop} (hb : attributeBase e f env (eval e env) = eval e env)
    (h : wpAny (model prog w) A (eval e env) (fun o s₁ => wpAny (model prog w) A (getAttr o f true) Q E s₁) E s) : wpAny (model prog w) A (eval (.Attribute e f pos) env) Q E s :=
  Attribute_any_ h (by rw [arm_eval_Attribute, hb])
end
def tFld (K : PySem.W.Frag) (ta : TE) (f : Str) : TE := fun σ H Q => ta σ H fun x H1 => ∃ a C dx fs v, x = .ref a ∧ H1 a = some (.ins C dx fs) ∧ Cls K C ∧ NoAttr K C f ∧ fs.lookup f = some v ∧ Q v H1
def sFld (K : PySem.W.Frag) (ta tv : TE) (f : Str) : TS := fun D σ H => tv σ H fun y H1 => ta σ H1 fun x H2 => ∃ a C dx fs, x = .ref a ∧ H2 a = some (.ins C dx fs) ∧ Cls K C ∧ NoAttr K C f ∧ fs.length < 1000 ∧
  D.nx σ (upd H2 a (.ins C dx (putF f y fs)))
section
variable {X : Cx} {o e value : Expr} {f : Str} {pos pos' tpos : Pos} {ta tv : TE}
theorem pe_fld (he : PE X e ta) (hb : attributeBase e f X.env (eval e X.env) = eval e X.env) : PE X (.Attribute e f pos) (tFld X.K ta f) := by
  intro pins s σ H Q I h
  refine attr_of hb (thn (he pins s σ H _ I h) fun u s1 ⟨x, H1, I1, rx, a, C, dx, fs, v, ex, ea, c, n, l, q⟩ => ?_)
  subst ex
  obtain rfl : u = Value.ref a := rx
  exact getattr_ok I1 ea c n l fun u' s2 I2 ru => ⟨v, H1, I2, ru, q⟩
theorem ps_fld (ha : PE X o ta) (hv : PE X value tv) (hs : swapsWith value (some (.Attribute o f pos')) pos.line X.env = pure false) : PS X (.Assign [.Attribute o f pos'] value pos) (sFld X.K ta tv f) := by
  intro pins s σ H D I h
  refine plainObj_wpAny_Assign_Attribute (thn (hv pins s σ H _ I h) fun u s1 ⟨y, H1, I1, ry, q⟩ => thn (ha pins s1 σ H1 _ I1 q) fun ov s2 ⟨x, H2, I2, rx, a, C, dx, fs, ex, ea, c, n, l, q2⟩ => ?_) hs
  subst ex
  obtain rfl : ov = Value.ref a := rx
  exact setattr_ok I2 ea c n l ry fun s3 I3 => ⟨σ, _, I3, q2⟩
end
section
variable {X : Cx} {pins : List (Addr × Obj)} {σ : St} {H : Hp} {s : Shared} {A : Around} {E : Value → Shared → Prop} {Q : Value → Shared → Prop} {c : Value} {b : Bool}
inductive TyOf (K : PySem.W.Frag) (H : Hp) : V → Value → Prop where
  | non : TyOf K H .non (.type "NoneType")
  | bl (x : Bool) : TyOf K H (.bl x) (.type "bool")
  | int (i : Int) : TyOf K H (.int i) (.type "int")
  | str (x : Str) : TyOf K H (.str x) (.type "str")
  | flt (x : UInt64) : TyOf K H (.flt x) (.type "float")
  | lst {a : Addr} {xs : List V} (e : H a = some (.lst xs)) : TyOf K H (.ref a) (.type "list")
  | frz {a : Addr} {o : Obj} {xs : List V} (e : H a = some (.frz o (.lst xs))) : TyOf K H (.ref a) (.type "list")
  | tup {a : Addr} {xs : List V} (e : H a = some (.tup xs)) : TyOf K H (.ref a) (.type "tuple")
  | dK {a : Addr} {kvs : List (Key × V)} (e : H a = some (.dK kvs)) : TyOf K H (.ref a) (.type "dict")
  | dT {a : Addr} {kvs : List (List Key × V)} (e : H a = some (.dT kvs)) : TyOf K H (.ref a) (.type "dict")
  | ins {a C dx : Addr} {fs : List (Str × V)} (e : H a = some (.ins C dx fs)) (cl : Cls K C) (ha : PySem.W.findIn K (.ref C) "__class__" = some (some (.builtin "object.__class__")))
      (hn : PySem.W.specialIn K (.builtin "object.__class__") "__get__" = some (some (.builtin "getset_descriptor.__get__"))) (htk : PySem.W.takesIn K (.builtin "object.__class__") = some true)
      (hm : PySem.W.mroIn K C (.type "object") = some true) : TyOf K H (.ref a) (.ref C)
end
end L2
namespace L2
open PySem PySem.Spec PyProof.Rows
structure Room (k : Nat) (A : Around) : Prop where
  hd : A.handled = none
  dp : A.depth + 3 * k + 5 < recursionLimit
  un : A.units + 16 * k + 200 < cLine
theorem Room.mono {j k : Nat} {A : Around} (r : Room k A) (h : j ≤ k) : Room j A := ⟨r.hd, by have := r.dp; omega, by have := r.un; omega⟩
theorem Room.deeper {k : Nat} {A : Around} (r : Room (k + 1) A) (env : Env) : Room k (A.deeper env) :=
  ⟨r.hd, by have := r.dp; show A.depth + 1 + 3 * k + 5 < _; omega, by have := r.un; show A.units + 3 + 16 * k + 200 < _; omega⟩
theorem Room.in1 {k : Nat} {A : Around} (r : Room (k + 1) A) : Room k A.in1 :=
  ⟨r.hd, by have := r.dp; show A.depth + 3 * k + 5 < _; omega, by have := r.un; show A.units + 1 + 16 * k + 200 < _; omega⟩
theorem make_depth {A : Around} {C : Addr} {us : List Value} {kw : List (Str × Value)} : (A.under (.builtin "type.__call__" ⟨.ref C :: us, kw⟩)).depth = A.depth + 1 := by
  first | rfl | simp [Around.under, Code.weight, Code.isCreation, Code.isGuard, Code.isCaller, Code.frames, Code.isFrame, guardIds]
theorem make_units {A : Around} {C : Addr} {us : List Value} {kw : List (Str × Value)} : (A.under (.builtin "type.__call__" ⟨.ref C :: us, kw⟩)).units = A.units + 1 := by
  first | rfl | simp [Around.under, Code.cUnits, Code.frames, Code.isFrame]
theorem Room.make {k : Nat} {A : Around} (r : Room (k + 1) A) (C : Addr) (us : List Value) (kw : List (Str × Value)) : Room k (A.under (.builtin "type.__call__" ⟨.ref C :: us, kw⟩)) :=
  ⟨r.hd, by have := r.dp; rw [make_depth]; omega, by have := r.un; rw [make_units]; omega⟩
theorem Room.depth {k : Nat} {A : Around} (r : Room k A) : A.depth < recursionLimit := by have := r.dp; omega
theorem Room.units {k : Nat} {A : Around} (r : Room k A) : A.units + 64 < cLine := by have := r.un; omega
def tNil : TA := fun _ H Q => Q [] H
def tCons (ta : TE) (tr : TA) : TA := fun σ H Q => ta σ H fun x H1 => tr σ H1 fun xs H2 => Q (x :: xs) H2
section
variable {X : Cx} {e : Expr} {es : List Expr} {te : TE} {t : TA} {pos : Pos}
theorem pa_nil : PA X [] tNil := fun _ _ _ _ H Q I h => Calls.spliced_nil ⟨[], H, I, .nil, h⟩
theorem pa_cons (ha : PE X e te) (hr : PA X es t) (hs : starEach (e :: es) X.env = (false, eval e X.env) :: starEach es X.env := by rfl) : PA X (e :: es) (tCons te t) := by
  intro pos pins s σ H Q I h
  rw [hs]
  show wpAny _ _ (spliced ((false, eval e X.env) :: backTo pos (starEach es X.env))) _ _ s
  refine Calls.spliced_cons (thn (ha pins s σ H _ I h) fun u s1 ⟨x, H1, I1, r1, q1⟩ => ?_)
  exact thn (hr pos pins s1 σ H1 _ I1 q1) fun us s2 ⟨xs, H2, I2, r2, q2⟩ => ⟨x :: xs, H2, I2, .cons r1 r2, q2⟩
def tTup (t : TA) : TE := fun σ H Q => t σ H fun xs H1 => xs.length ≤ sizeLine ∧ ∀ p, H1 p = none → Q (.ref p) (upd H1 p (.tup xs))
def tLst (t : TA) : TE := fun σ H Q => t σ H fun xs H1 => xs.length ≤ sizeLine ∧ ∀ p, H1 p = none → Q (.ref p) (upd H1 p (.lst xs))
theorem pe_tup {x1} (h : PA X es t) : PE X (.Tuple es x1 pos) (tTup t) := by
  intro pins s σ H Q I hq
  refine wpAny_Tuple_spliced (thn (h pos pins s σ H _ I hq) fun us s1 ⟨xs, H1, I1, r, z, q⟩ => ⟨by rw [← r.length]; exact z, ?_⟩)
  have hf : H1 s1.heap.objs.size = none := I1.hok.fresh (Nat.le_refl _)
  refine ⟨.ref s1.heap.objs.size, upd H1 s1.heap.objs.size (.tup xs), I1.laid (t' := s1.toks) (fun b u e => Heap.get?_push_of_some _ e) (Nat.le_refl _) ?_, rfl, q _ hf⟩
  exact ⟨z, us, r, ⟨_, Heap.get?_push_size _ rfl, rfl, _, rfl⟩⟩
theorem pe_lst (h : PA X es t) : PE X (.List es pos) (tLst t) := by
  intro pins s σ H Q I hq
  refine wpAny_List_spliced (thn (h pos pins s σ H _ I hq) fun us s1 ⟨xs, H1, I1, r, z, q⟩ => ⟨by rw [← r.length]; exact z, ?_⟩)
  have hf : H1 s1.heap.objs.size = none := I1.hok.fresh (Nat.le_refl _)
  refine ⟨.ref s1.heap.objs.size, upd H1 s1.heap.objs.size (.lst xs), I1.laid (t' := s1.toks) (fun b u e => Heap.get?_push_of_some _ e) (Nat.le_refl _) ?_, rfl, q _ hf⟩
  exact ⟨z, us, 0, r, Heap.get?_push_size _ rfl⟩
end
abbrev Sp := List V → Hp → VK → XK → Prop
abbrev CXT := List Env → Hp → Shared → XK → Value → Shared → Prop
structure Env0 (P : Program) (w : World) (K : PySem.W.Frag) (mg : Str → Option Value) (base : Heap) (A : Around) (outer : List Env) (s : Shared) (H : Hp) : Prop where
  frames : A.frames = some outer
  mod : Mod K mg base
  bs : ∀ b o, base.get? b = some o → s.heap.get? b = some o ∧ H b = none
  bsz : base.objs.size ≤ s.heap.objs.size
  funs : s.heap.FunFrames base outer
  frf : ∀ b ∈ frs outer, H b = none
  hok : HOk P w H s.heap
  bare : AllBare s.gens
def CE (outer : List Env) (P : Program) (w : World) (H : Hp) (s : Shared) (Q : VK) (u : Value) (s' : Shared) : Prop :=
  ∃ v H', s'.os = s.os ∧ AllBare s'.gens ∧ Un (frs outer) [] H H' s.heap s'.heap ∧ HOk P w H' s'.heap ∧ RelV v u ∧ Q v H'
def CR (CX : CXT) (outer : List Env) (P : Program) (w : World) (H : Hp) (s : Shared) (Q : VK) (E : XK) (r : Result) (s' : Shared) : Prop :=
  match r with
  | .ok (.ret u) => CE outer P w H s Q u s'
  | .ok _ => False
  | .error e => CX outer H s E e s'
structure FnOk (P : Program) (w : World) (K : PySem.W.Frag) (mg : Str → Option Value) (base : Heap) (CX : CXT) (k : Nat) (f : Addr) (fd : FuncData) (ps : List Str) (sp : Sp) : Prop where
  len : ∀ vs H Q E, sp vs H Q E → vs.length = ps.length
  run : ∀ (A : Around) (outer : List Env) (s : Shared) (H : Hp) (args : Args) (us : List Value) (vs : List V) (Q : VK) (E : XK), Room k A → Env0 P w K mg base A outer s H → BindsTo s fd args (ps.zip us) → Vals vs us → sp vs H Q E →
    codeAny (model P w) A (.call (.ref f) args) (CR CX outer P w H s Q E) s
theorem FnOk.mono {P : Program} {w : World} {K : PySem.W.Frag} {mg : Str → Option Value} {base : Heap} {CX : CXT} {j k : Nat} {f : Addr} {fd : FuncData} {ps : List Str} {sp : Sp} (F : FnOk P w K mg base CX j f fd ps sp) (h : j ≤ k) :
    FnOk P w K mg base CX k f fd ps sp := ⟨F.len, fun A outer s H args us vs Q E hr => F.run A outer s H args us vs Q E (hr.mono h)⟩
theorem FnOk.imp {P : Program} {w : World} {K : PySem.W.Frag} {mg : Str → Option Value} {base : Heap} {CX : CXT} {k : Nat} {f : Addr} {fd : FuncData} {ps : List Str} {sp sp' : Sp} (F : FnOk P w K mg base CX k f fd ps sp)
    (h : ∀ vs H Q E, sp' vs H Q E → sp vs H Q E) : FnOk P w K mg base CX k f fd ps sp' :=
  ⟨fun vs H Q E q => F.len vs H Q E (h _ _ _ _ q), fun A outer s H args us vs Q E hr he hb hv hs => F.run A outer s H args us vs Q E hr he hb hv (h _ _ _ _ hs)⟩
theorem Env0.make {P : Program} {w : World} {K : PySem.W.Frag} {mg : Str → Option Value} {base : Heap} {A : Around} {outer : List Env} {s : Shared} {H : Hp} (e : Env0 P w K mg base A outer s H) (C : Addr) (us : List Value) (kw : List (Str × Value)) :
    Env0 P w K mg base (A.under (.builtin "type.__call__" ⟨.ref C :: us, kw⟩)) outer s H := ⟨by first | exact e.frames | (simpa [Around.under, Code.envs, Code.isFrame, pushEnvs] using e.frames), e.mod, e.bs, e.bsz, e.funs, e.frf, e.hok, e.bare⟩
theorem Env0.in1 {P : Program} {w : World} {K : PySem.W.Frag} {mg : Str → Option Value} {base : Heap} {A : Around} {outer : List Env} {s : Shared} {H : Hp} (e : Env0 P w K mg base A outer s H) :
    Env0 P w K mg base A.in1 outer s H := ⟨e.frames, e.mod, e.bs, e.bsz, e.funs, e.frf, e.hok, e.bare⟩
section
variable {X : Cx} {pins : List (Addr × Obj)} {σ : St} {H : Hp} {s s' : Shared}
theorem Inv.env0 (I : Inv X pins σ H s) : Env0 X.prog X.w X.K X.mg X.base X.A X.stack s H :=
  ⟨I.ok.frames, I.ok.mod, I.bs, Nat.le_trans I.ok.bsz I.sz, I.stack, I.stkFree, I.hok, I.bare⟩
theorem Inv.after {Q : VK} {u : Value} (I : Inv X pins σ H s) (h : CE X.stack X.prog X.w H s Q u s') : EP X pins σ Q u s' := by
  obtain ⟨v, H', os, bare, un, hok, r, q⟩ := h
  obtain ⟨hh, g, d, t, os'⟩ := s'
  obtain rfl : os' = s.os := os
  exact ⟨v, H', I.call (h' := hh) (g' := g) (d' := d) (t' := t) (ch := []) un hok bare (fun b z => absurd z (by simp)), r, q⟩
end
def tCall (sp : Sp) (dvs : List V) (E : XK) (t : TA) : TE := fun σ H Q => t σ H fun vs H1 => sp (vs ++ dvs) H1 Q E
def Binds (K : PySem.W.Frag) (fd : FuncData) (ps : List Str) (ds : List Value) : Prop :=
  ∀ (s : Shared) (us : List Value), K.In s.heap → (us ++ ds).length = ps.length → BindsTo s fd ⟨us, []⟩ (ps.zip (us ++ ds))
theorem Binds.all {K : PySem.W.Frag} {fd : FuncData} {ps : List Str} (h : ∀ us : List Value, us.length = ps.length → bindArgs fd ⟨us, []⟩ = pure (ps.zip us)) : Binds K fd ps [] := fun s us _ hl => by
  rw [List.append_nil] at hl ⊢
  exact .of_eq (h us hl)
def Passes (CX : CXT) (X : Cx) (E : XK) : Prop := ∀ (pins : List (Addr × Obj)) (σ : St) (H : Hp) (s : Shared) (e : Value) (s' : Shared), Inv X pins σ H s → CX X.stack H s E e s' → X.xe e s'
section
variable {X : Cx} {CX : CXT} {k : Nat} {f C : Addr} {fd : FuncData} {ps : List Str} {sp : Sp} {dvs : List V} {ds : List Value} {E : XK} {x m : Str} {p pos apos : Pos} {e o : Expr} {es : List Expr} {ta : TE} {t : TA}
theorem run_fn {pins : List (Addr × Obj)} {σ : St} {H : Hp} {s : Shared} {Q : VK} {us : List Value} {vs : List V} (F : FnOk X.prog X.w X.K X.mg X.base CX k f fd ps sp) (hr : Room k X.A) (hb : Binds X.K fd ps ds) (hd : Vals dvs ds) (hx : Passes CX X E)
    (I : Inv X pins σ H s) (r : Vals vs us) (h : sp (vs ++ dvs) H Q E) : wpAny (model X.prog X.w) X.A (call (.ref f) us) (EP X pins σ Q) X.xe s := by
  have r2 : Vals (vs ++ dvs) (us ++ ds) := r.append hd
  have hl : (us ++ ds).length = ps.length := by rw [← r2.length]; exact F.len _ _ _ _ h
  refine wpAny_call (codeAny_mono (F.run X.A X.stack s H ⟨us, []⟩ (us ++ ds) (vs ++ dvs) Q E hr I.env0 (hb s us I.kIn hl) r2 h) fun r s' hq => ?_)
  cases r with
  | error e => exact hx pins σ H s e s' I hq
  | ok fl =>
    cases fl with
    | ret u => exact I.after hq
    | next => exact False.elim hq
    | brk => exact False.elim hq
    | cont => exact False.elim hq
theorem pe_call (F : FnOk X.prog X.w X.K X.mg X.base CX k f fd ps sp) (hr : Room k X.A) (hg : Gl X x) (hm : X.mg x = some (.ref f)) (hk : PySem.W.keepIn X.K (.ref f) = true) (hb : Binds X.K fd ps ds) (hd : Vals dvs ds) (hx : Passes CX X E)
    (ha : PA X (e :: es) t) (hdb : (x == ("__debug__" : Str)) = false := by decide) (he : starEach (e :: es) X.env = (false, eval e X.env) :: starEach es X.env := by rfl) (hpl : (backTo pos (starEach es X.env)).any (·.1) = false := by rfl) :
    PE X (.Call (.Name x p) (e :: es) [] pos) (tCall sp dvs E t) := by
  intro pins s σ H Q I h
  refine wpAny_Call_Name_kw (ld_glob I hg hm ?_ hdb)
  refine PySem.W.callWith_K (h₀ := X.base) I.ok.mod.kin hk (thn (ha pos pins s σ H _ I h) fun us s1 ⟨vs, H1, I1, r, q⟩ => ⟨I1.kIn, ?_⟩) he hpl
  exact run_fn F hr hb hd hx I1 r q
structure Mk (K : PySem.W.Frag) (C f : Addr) : Prop where
  makes : PySem.W.makesIn K C = true
  init : PySem.W.findIn K (.ref C) "__init__" = some (some (.ref f))
  fn : PySem.W.isFn K (.ref f) = true
  kp : PySem.W.keepIn K (.ref C) = true
end
section
variable {X : Cx} {CX : CXT} {k : Nat} {f C : Addr} {fd : FuncData} {ps ks : List Str} {sp : Sp} {E : XK} {x m : Str} {p pos apos kpos : Pos} {e o : Expr} {es : List Expr} {kws : List Keyword} {te ta : TE} {t tk : TA} {nm : Option Str}
structure KBinds (K : PySem.W.Frag) (fd : FuncData) (ps ks : List Str) (g : List Value → List Value → List Value) (gV : List V → List V → List V) : Prop where
  to : ∀ (s : Shared) (us ws : List Value), K.In s.heap → (g us ws).length = ps.length → BindsTo s fd ⟨us, ks.zip ws⟩ (ps.zip (g us ws))
  rel : ∀ {vs : List V} {us : List Value} {zs : List V} {ws : List Value}, Vals vs us → Vals zs ws → Vals (gV vs zs) (g us ws)
variable {g : List Value → List Value → List Value} {gV : List V → List V → List V}
end
structure FnScope (N P : List Str) (sc : Scope) : Prop where
  kind : sc.kind = .function
  co : sc.isCoroutine = false
  gen : sc.isGenerator = false
  nd : N.Nodup
  pre : N.take P.length = P
  par : ∀ x ∈ P, sc.names.lookup x = some .local ∨ sc.names.lookup x = some .cell
  nofree : ∀ y ∈ sc.names, y.2 ≠ .free
theorem bindL_out {kindOf : Str → Option NameKind} {x : Str} : ∀ {binds : List (Str × Value)} {m : Str → Option Value}, (∀ v, (x, v) ∉ binds) → bindL kindOf binds m x = m x
  | [], _, _ => rfl
  | (n, v) :: r, m, h => by
    unfold bindL
    rw [bindL_out fun w hw => h w (List.mem_cons_of_mem _ hw)]
    split
    · have : x ≠ n := by rintro rfl; exact h v List.mem_cons_self
      simp [this]
    · rfl
theorem bindC_out {kindOf : Str → Option NameKind} {x : Str} : ∀ {binds : List (Str × Value)} {m : Str → Option Value}, (∀ v, (x, v) ∉ binds) → bindC kindOf binds m x = m x
  | [], _, _ => rfl
  | (n, v) :: r, m, h => by
    unfold bindC
    rw [bindC_out fun w hw => h w (List.mem_cons_of_mem _ hw)]
    split
    · rfl
    · have : x ≠ n := by rintro rfl; exact h v List.mem_cons_self
      simp [this]
theorem bindL_get {kindOf : Str → Option NameKind} {x : Str} {v : Value} : ∀ {P : List Str} {vs : List Value} {i : Nat} {m : Str → Option Value}, P.Nodup → P[i]? = some x → vs[i]? = some v → kindOf x = some .local →
    bindL kindOf (P.zip vs) m x = some v
  | [], _, _, _, _, h, _, _ => by simp at h
  | _ :: _, [], _, _, _, _, h, _ => by simp at h
  | p :: P, w :: vs, 0, m, nd, h1, h2, hk => by
    simp at h1 h2; subst h1; subst h2
    show bindL kindOf ((p, w) :: P.zip vs) m p = _
    unfold bindL
    rw [bindL_out fun v hv => (List.nodup_cons.mp nd).1 (List.of_mem_zip hv).1, if_pos hk]
    simp
  | p :: P, w :: vs, i + 1, m, nd, h1, h2, hk => by
    show bindL kindOf ((p, w) :: P.zip vs) m x = _
    unfold bindL
    exact bindL_get (i := i) (List.nodup_cons.mp nd).2 (by simpa using h1) (by simpa using h2) hk
theorem bindC_get {kindOf : Str → Option NameKind} {x : Str} {v : Value} : ∀ {P : List Str} {vs : List Value} {i : Nat} {m : Str → Option Value}, P.Nodup → P[i]? = some x → vs[i]? = some v → kindOf x ≠ some .local →
    bindC kindOf (P.zip vs) m x = some v
  | [], _, _, _, _, h, _, _ => by simp at h
  | _ :: _, [], _, _, _, _, h, _ => by simp at h
  | p :: P, w :: vs, 0, m, nd, h1, h2, hk => by
    simp at h1 h2; subst h1; subst h2
    show bindC kindOf ((p, w) :: P.zip vs) m p = _
    unfold bindC
    rw [bindC_out fun v hv => (List.nodup_cons.mp nd).1 (List.of_mem_zip hv).1, if_neg hk]
    simp
  | p :: P, w :: vs, i + 1, m, nd, h1, h2, hk => by
    show bindC kindOf ((p, w) :: P.zip vs) m x = _
    unfold bindC
    exact bindC_get (i := i) (List.nodup_cons.mp nd).2 (by simpa using h1) (by simpa using h2) hk
def start (N : List Str) (vs : List V) : St := vs.map some ++ List.replicate (N.length - vs.length) none
def cxOf (CX : CXT) (P : Program) (w : World) (K : PySem.W.Frag) (mg : Str → Option Value) (base : Heap) (N : List Str) (qual : Str) (scope : Scope) (f : Addr) (cd : Value) (A : Around) (outer : List Env) (s : Shared) (H : Hp) (E : XK) : Cx where
  prog := P
  w := w
  K := K
  mg := mg
  base := base
  A := A.deeper (envOfC qual scope s.heap.objs.size f cd)
  N := N
  s₀ := s
  H₀ := H
  env := envOfC qual scope s.heap.objs.size f cd
  outer := outer
  stack := envOfC qual scope s.heap.objs.size f cd :: outer
  ex := []
  calm := true
  fn := fun _ => true
  pn := []
  xe := fun e s' => wpAny (model P w) (A.deeper (envOfC qual scope s.heap.objs.size f cd)) (leaving (envOfC qual scope s.heap.objs.size f cd) e) (fun _ s'' => CX outer H s E e s'') (fun e' s'' => CX outer H s E e' s'') s'
theorem cell_has {sc : Scope} {n : Nat} {x : Str} (h : sc.names.lookup x = some .cell) : ∃ c, (cellsFrom n sc.names []).lookup x = some c := by
  have q := PySem.W.cellsFrom_some sc.names n [] (.inl h)
  exact Option.isSome_iff_exists.mp q
theorem inv_start {CX : CXT} {P : Program} {w : World} {K : PySem.W.Frag} {mg : Str → Option Value} {base : Heap} {N ps : List Str} {qual : Str} {scope : Scope} {f : Addr} {cd : Value} {A : Around} {outer : List Env} {s s1 : Shared} {H : Hp} {E : XK} {us : List Value} {vs : List V}
    (S : FnScope N ps scope) (hd : A.handled = none) (e0 : Env0 P w K mg base A outer s H) (hl : vs.length = ps.length) (r : Vals vs us)
    (x : InCallC s s.heap.objs.size (bindL (envOfC qual scope s.heap.objs.size f cd).kindOf (ps.zip us) fun _ => none) (cellsFrom (s.heap.objs.size + 1) scope.names []) (bindC (envOfC qual scope s.heap.objs.size f cd).kindOf (ps.zip us) fun _ => none) s1) :
    Inv (cxOf CX P w K mg base N qual scope f cd A outer s H E) [] (start N vs) H s1 := by
  have hpl : ps.length ≤ N.length := by have := congrArg List.length S.pre; rw [List.length_take] at this; omega
  obtain ⟨h1, tk, rfl, hk⟩ := x.done
  have noA : ∀ b : Addr, b ∉ (cxOf CX P w K mg base N qual scope f cd A outer s H E).ex := fun b z => absurd (show b ∈ ([] : List Addr) from z) (by simp)
  refine ⟨⟨e0.mod, S.kind, rfl, rfl, Nat.le_refl _, fun y z c h1 h2 => ?_, fun y hy => ?_, fun y c _ h => ?_, fun _ => hd, Around.frames_deeper e0.frames, .inr ⟨rfl, rfl⟩, fun b z => absurd z (noA b), e0.bs, e0.bsz, fun b _ _ => noA b, fun b z => absurd z (noA b), e0.funs, e0.frf⟩,
    rfl, e0.bare, Un.kept hk, ⟨_, x.toInCall.ns, fun i y v h1 h2 h3 => ?_⟩, fun y c h => ⟨_, x.cell y c h⟩, e0.hok.fresh (Nat.le_refl _), fun y c h => ?_, fun p hp => absurd (show p ∈ ([] : List (Addr × Obj)) from hp) (by simp), e0.hok.kept hk, ?_⟩
  · exact name_of_addr x.apart (PySem.mem_of_lookup h1) (PySem.mem_of_lookup h2)
  · have hy : scope.names.lookup y = some .cell ∨ scope.names.lookup y = some .free := hy
    rcases hy with hy | hy
    · exact cell_has hy
    · exact absurd rfl (S.nofree _ (PySem.mem_of_lookup hy))
  · exact Nat.le_of_lt (x.above y c (PySem.mem_of_lookup h))
  · have hi : i < vs.length := by
      unfold start at h2
      by_cases hi : i < vs.length
      · exact hi
      · rw [List.getElem?_append_right (by simpa using hi)] at h2
        rw [List.getElem?_replicate] at h2
        split at h2 <;> cases h2
    have ha : vs[i]? = some v := by
      unfold start at h2
      rw [List.getElem?_append_left (by simpa using hi), List.getElem?_map] at h2
      cases e : vs[i]? with
      | none => rw [e] at h2; cases h2
      | some a => rw [e] at h2; cases h2; rfl
    obtain ⟨u, hu, rv⟩ := r.get ha
    have hp : ps[i]? = some y := by
      rw [← S.pre, List.getElem?_take_of_lt (by omega)]; exact h1
    have ndP : ps.Nodup := by rw [← S.pre]; exact S.nd.sublist (List.take_sublist _ _)
    refine ⟨u, rv, ?_⟩
    rcases S.par y (List.mem_of_getElem? hp) with k | k
    · exact .inl ⟨k, bindL_get ndP hp hu k⟩
    · obtain ⟨c, e⟩ := cell_has (n := s.heap.objs.size + 1) k
      refine .inr ⟨.inl k, c, e, ?_⟩
      have q := x.cell y c e
      rw [bindC_get ndP hp hu (by show scope.names.lookup y ≠ _; rw [k]; decide)] at q
      exact q
  · exact e0.hok.fresh (Nat.le_of_lt (x.above y c (PySem.mem_of_lookup h)))
  · unfold start
    show _ = N.length
    rw [List.length_append, List.length_map, List.length_replicate]
    omega
theorem fn_of {CX : CXT} {P : Program} {w : World} {K : PySem.W.Frag} {mg : Str → Option Value} {base : Heap} {k : Nat} {f : Addr} {name qual : Str} {params : Arguments} {body : List Stmt} {scope : Scope} {dV kV doc pm cdv ct oc : Value} {an od : Option Addr}
    {osl : Array (Option Value)} {N ps : List Str} {sp : Sp} (lk : K.lookup f = some ⟨oc, od, .func (PySem.W.fnOf name qual params body scope dV kV doc pm an cdv ct), osl⟩) (hcd : PySem.W.codeIn K cdv qual = true) (S : FnScope N ps scope)
    (len : ∀ vs H Q E, sp vs H Q E → vs.length = ps.length)
    (hbody : ∀ (A : Around) (outer : List Env) (s : Shared) (H : Hp) (vs : List V) (Q : VK) (E : XK), Room k (A.deeper (envOfC qual scope s.heap.objs.size f cdv)) → sp vs H Q E →
      ∃ t, PSs (cxOf CX P w K mg base N qual scope f cdv A outer s H E) body t ∧ t { nx := fun _ H' => Q .non H', rt := Q } (start N vs) H) :
    FnOk P w K mg base CX (k + 1) f (PySem.W.fnOf name qual params body scope dV kV doc pm an cdv ct) ps sp := by
  refine ⟨len, fun A outer s H args us vs Q E hr e0 hb r hsp => ?_⟩
  have hl := len _ _ _ _ hsp
  have KX : K.In s.heap := e0.mod.kin.keeps fun b o e => (e0.bs b o e).1
  have lim : s.heap.NoLimit := e0.mod.nolimit.keeps fun b o e => (e0.bs b o e).1
  have hkind : ∀ y ∈ ps.zip us, scope.names.lookup y.1 = some .local ∨ (scope.names.lookup y.1 = some .cell ∧ ((cellsFrom (s.heap.objs.size + 1) scope.names []).lookup y.1).isSome = true) := fun ⟨n, v⟩ hy => by
    rcases S.par n (List.of_mem_zip hy).1 with q | q
    · exact .inl q
    · exact .inr ⟨q, PySem.W.cellsFrom_some _ _ _ (.inl q)⟩
  refine codeAny_call_function hr.depth (KX _ _ lk) rfl S.co S.gen rfl (PySem.W.codeRec_of KX hcd) (hb _ _ _ _ ?_)
  refine wpAny_newFunctionEnv_cells S.kind hkind fun env he s1 x => ?_
  subst he
  refine ⟨lim.keeps x.toInCall.keep, codeAny_func ?_⟩
  obtain ⟨t, ht, hq⟩ := hbody A outer s H vs Q E (hr.deeper _) hsp
  have I : Inv (cxOf CX P w K mg base N qual scope f cdv A outer s H E) [] (start N vs) H s1 := inv_start S hr.hd e0 hl r x
  refine wpAny_mono (ht [] s1 (start N vs) H _ I hq) (fun fl s' hs => ?_) fun e s' hs => hs
  have fin : ∀ {σ' : St} {H' : Hp} {v : V} {u : Value}, Inv (cxOf CX P w K mg base N qual scope f cdv A outer s H E) [] σ' H' s' → RelV v u → Q v H' → CE outer P w H s Q u s' :=
    fun {σ' H' v u} J rv q => ⟨v, H', J.os, J.bare, J.base, J.hok, rv, q⟩
  cases fl with
  | ret u =>
    obtain ⟨v, σ', H', J, rv, q⟩ := hs
    exact fin J rv q
  | next =>
    obtain ⟨σ', H', J, q⟩ := hs
    exact fin (v := V.non) (u := Value.none) J rfl q
  | brk =>
    obtain ⟨_, _, _, q⟩ := hs
    exact False.elim q
  | cont =>
    obtain ⟨_, _, _, q⟩ := hs
    exact False.elim q
end L2
namespace L2
open PySem PySem.Spec PyProof.Rows
section
variable {X : Cx} {x : Str} {p pos : Pos} {e : Expr} {es : List Expr} {t : TA} {id T : String} {r : List V → Hp → VK → Prop}
def tCB (r : List V → Hp → VK → Prop) (t : TA) : TE := fun σ H Q => t σ H fun vs H1 => r vs H1 Q
theorem pe_callB (hc : CallR X (.builtin id) r) (hg : Gl X x) (hm : X.mg x = none) (hv : bootBuiltins x = some (.builtin id)) (ha : PA X (e :: es) t) (hn : x ≠ "__name__" := by decide) (hdb : (x == ("__debug__" : Str)) = false := by decide)
    (he : starEach (e :: es) X.env = (false, eval e X.env) :: starEach es X.env := by rfl) (hpl : (backTo pos (starEach es X.env)).any (·.1) = false := by rfl) : PE X (.Call (.Name x p) (e :: es) [] pos) (tCB r t) := by
  intro pins s σ H Q I h
  refine wpAny_Call_Name_kw (ld_blt I hg hm hv ?_ hn hdb)
  exact PyProof.Rows.callWith_builtin1 (thn (ha pos pins s σ H _ I h) fun us s1 ⟨vs, H1, I1, r1, q1⟩ => hc pins s1 σ H1 vs us Q I1 r1 q1) he hpl
theorem pe_callTy (hc : CallR X (.type T) r) (hg : Gl X x) (hm : X.mg x = none) (hv : bootBuiltins x = some (.type T)) (ha : PA X (e :: es) t) (hn : x ≠ "__name__" := by decide) (hdb : (x == ("__debug__" : Str)) = false := by decide)
    (he : starEach (e :: es) X.env = (false, eval e X.env) :: starEach es X.env := by rfl) (hpl : (backTo pos (starEach es X.env)).any (·.1) = false := by rfl) : PE X (.Call (.Name x p) (e :: es) [] pos) (tCB r t) := by
  intro pins s σ H Q I h
  refine wpAny_Call_Name_kw (ld_blt I hg hm hv ?_ hn hdb)
  exact PyProof.Rows.callWith_type1 (thn (ha pos pins s σ H _ I h) fun us s1 ⟨vs, H1, I1, r1, q1⟩ => hc pins s1 σ H1 vs us Q I1 r1 q1) he hpl
end
end L2
namespace HT
open PySem PyProof.Rows
def lexLt : List Int → List Int → Bool
  | [], [] => false
  | [], _ :: _ => true
  | _ :: _, [] => false
  | x :: xs, y :: ys => if x = y then lexLt xs ys else decide (x < y)
theorem lexLt_cons (x y : Int) (xs ys : List Int) : lexLt (x :: xs) (y :: ys) = if x = y then lexLt xs ys else decide (x < y) := rfl
theorem lexLt_nil_nil : lexLt [] [] = false := rfl
theorem lexLt_nil_cons (y : Int) (ys : List Int) : lexLt [] (y :: ys) = true := rfl
theorem lexLt_cons_nil (x : Int) (xs : List Int) : lexLt (x :: xs) [] = false := rfl
theorem eqAt_int (A : Around) (s : Shared) (a : Int) (t : Tok) (c : Int) (u : Tok) : ∃ e, SeqAt.EqAt A s (.int a t) (.int c u) e ∧ (e = true ↔ a = c) :=
  ⟨(a == c), SeqAt.EqAt.int_int a t c u, by simp⟩
theorem rcLt_int (A : Around) (s : Shared) (a : Int) (t : Tok) (c : Int) (u : Tok) (prog : Program) (w : World) (E : Value → Shared → Prop) (Q : Value → Shared → Prop) (h : Q (.bool (decide (a < c))) s) :
    wpAny (model prog w) A (richCompare .Lt (.int a t) (.int c u)) Q E s :=
  (PyProof.Rows.lt_int h : wpAny (model prog w) A (compareOp .Lt (.int a t) (.int c u)) Q E s)
section
open PySem.SeqAt
open PySem.AutoSeq1 (wpAny_loadPart')
open PySem.MeetsSeq PySem.MeetsSeq2 PySem.MeetsSeq3
end
section
variable {prog : Program} {w : World} {A : Around} {E : Value → Shared → Prop} {s : Shared}
def sIx (n d : Nat) : Option Int → Nat
  | none => d
  | some v => if v < 0 then (v + (n : Int)).toNat else min v.toNat n
theorem sIx_none (n d : Nat) : sIx n d none = d := rfl
theorem sIx_nat (n d k : Nat) : sIx n d (some (k : Int)) = min k n := by
  show (if (k : Int) < 0 then ((k : Int) + (n : Int)).toNat else min (k : Int).toNat n) = min k n
  rw [if_neg (by omega), Int.toNat_natCast]
end
end HT
namespace L2
open PySem PySem.Spec PyProof.Rows
abbrev TO := St → Hp → (Option Int → Hp → Prop) → Prop
def PO (X : Cx) (e : Option Expr) (t : TO) : Prop :=
  ∀ (pins : List (Addr × Obj)) (s : Shared) (σ : St) (H : Hp) (Q : Option Int → Hp → Prop), Inv X pins σ H s → t σ H Q →
    wpAny (model X.prog X.w) X.A (evalPart e X.env) (fun u s' => ∃ o H', Inv X pins σ H' s' ∧ IsPart u o ∧ Q o H') X.xe s
def tNoPart : TO := fun _ H Q => Q none H
def tPart (t : TE) : TO := fun σ H Q => t σ H fun x H1 => ∃ i, x = .int i ∧ Q (some i) H1
section
variable {X : Cx} {e : Expr} {te : TE} {lo hi : Option Expr} {tl th : TO} {pos p2 : Pos}
theorem po_none : PO X none tNoPart := by
  intro pins s σ H Q I h
  rw [evalPart_none]
  exact wpAny_pure ⟨none, H, I, .none, h⟩
theorem po_some (h : PE X e te) : PO X (some e) (tPart te) := by
  intro pins s σ H Q I hw
  rw [evalPart_some]
  refine thn (h pins s σ H _ I hw) fun u s1 ⟨x, H1, I1, r1, q1⟩ => ?_
  obtain ⟨i, rfl, q⟩ := q1
  obtain ⟨t, rfl⟩ := r1
  exact ⟨some i, H1, I1, .int i t, q⟩
def SlR (X : Cx) (r : V → Option Int → Option Int → Hp → VK → Prop) : Prop :=
  ∀ (pins : List (Addr × Obj)) (s : Shared) (σ : St) (H : Hp) (x : V) (v vl vu : Value) (lo hi : Option Int) (sl : Addr) (Q : VK), Inv X pins σ H s → RelV x v → s.heap.IsSliceOf sl vl vu .none → IsPart vl lo → IsPart vu hi → r x lo hi H Q →
    ∃ T id, typeLookup (.type T) "__getitem__" = pure (some (.builtin id)) ∧ s.TypeIs v T ∧ wpAny (model X.prog X.w) X.A (getItem v (.ref sl)) (EP X pins σ Q) X.xe s
def tSl (r : V → Option Int → Option Int → Hp → VK → Prop) (te : TE) (tl th : TO) : TE := fun σ H Q => te σ H fun x H1 => tl σ H1 fun l H2 => th σ H2 fun u H3 => r x l u H3 Q
theorem pe_slice {r : V → Option Int → Option Int → Hp → VK → Prop} (hr : SlR X r) (he : PE X e te) (hl : PO X lo tl) (hu : PO X hi th) : PE X (.Subscript e (.Slice lo hi none p2) pos) (tSl r te tl th) := by
  intro pins s σ H Q I h
  refine Subscript_ (thn (he pins s σ H _ I h) fun v s1 ⟨x, H1, I1, r1, q1⟩ => ?_)
  refine wpAny_Slice (thn (hl pins s1 σ H1 _ I1 q1) fun vl s2 ⟨l, H2, I2, pl, q2⟩ => thn (hu pins s2 σ H2 _ I2 q2) fun vu s3 ⟨u, H3, I3, pu, q3⟩ => ?_)
  rw [evalPart_none]
  refine wpAny_pure ?_
  have I4 : Inv X pins σ H3 { s3 with heap := s3.heap.push { cls := .type "slice", data := .fields #[vl, vu, .none] } } := I3.kept (t' := s3.toks) fun b ob q => Heap.get?_push_of_some _ q
  obtain ⟨T, id, hT, ht, hg⟩ := hr pins { s3 with heap := s3.heap.push { cls := .type "slice", data := .fields #[vl, vu, .none] } } σ H3 x v vl vu l u s3.heap.objs.size Q I4 r1 (Heap.IsSliceOf.new ..) pl pu q3
  show wpAny (model X.prog X.w) X.A (subscriptTail e (.Slice lo hi none p2) v (.ref s3.heap.objs.size)) (EP X pins σ Q) X.xe { s3 with heap := s3.heap.push { cls := .type "slice", data := .fields #[vl, vu, .none] } }
  exact tail_any (ops := [.ref s3.heap.objs.size, v]) ht hT hg (by with_unfolding_all rfl)
def cutV (xs : List V) (lo hi : Option Int) : List V := (xs.drop (HT.sIx xs.length 0 lo)).take (HT.sIx xs.length xs.length hi - HT.sIx xs.length 0 lo)
theorem cutV_length (xs : List V) (lo hi : Option Int) : (cutV xs lo hi).length ≤ xs.length := by
  unfold cutV
  rw [List.length_take, List.length_drop]
  omega
end
end L2
namespace L2
open PySem PySem.Spec PyProof.Rows
def ixN (n : Nat) (i : Int) : Option Nat := if 0 ≤ i then (if i < n then some i.toNat else none) else if -(n : Int) ≤ i then some (i + n).toNat else none
def atI {α : Type} (xs : List α) (i : Int) : Option α := (ixN xs.length i).bind fun j => xs[j]?
theorem ixN_seq {n : Nat} {i : Int} {j : Nat} (h : ixN n i = some j) : seqIndex? i n = some j ∧ j < n ∧ -(n : Int) ≤ i ∧ i < n := by
  unfold ixN at h
  by_cases h0 : 0 ≤ i
  · rw [if_pos h0] at h
    by_cases h1 : i < n
    · rw [if_pos h1] at h
      have e : i.toNat = j := Option.some.inj h
      exact ⟨by rw [seqIndex_of h0 h1, e], by omega, by omega, h1⟩
    · rw [if_neg h1] at h; cases h
  · rw [if_neg h0] at h
    by_cases h1 : -(n : Int) ≤ i
    · rw [if_pos h1] at h
      have e : (i + n).toNat = j := Option.some.inj h
      exact ⟨by rw [seqIndex_neg (by omega) h1, e], by omega, h1, by omega⟩
    · rw [if_neg h1] at h; cases h
theorem atI_get {α : Type} {xs : List α} {i : Int} {v : α} (h : atI xs i = some v) : ∃ j, seqIndex? i xs.length = some j ∧ xs[j]? = some v ∧ j < xs.length ∧ -(xs.length : Int) ≤ i ∧ i < xs.length := by
  unfold atI at h
  cases e : ixN xs.length i with
  | none => rw [e] at h; cases h
  | some j =>
    rw [e] at h
    obtain ⟨h1, h2, h3, h4⟩ := ixN_seq e
    exact ⟨j, h1, h, h2, h3, h4⟩
theorem atI_nat {α : Type} {xs : List α} {j : Nat} {v : α} (h : xs[j]? = some v) : atI xs (j : Int) = some v := by
  have hj : j < xs.length := (List.getElem?_eq_some_iff.mp h).1
  have e : ixN xs.length (j : Int) = some j := by
    unfold ixN
    rw [if_pos (by omega), if_pos (by omega)]; simp
  unfold atI; rw [e]; exact h
def PlainIx (b : Expr) : Prop := ∀ o i, subscripted b false o i = operate [o, i] (getItem o i)
def IxR (X : Cx) (r : R2) : Prop :=
  ∀ (value slice : Expr) (pins : List (Addr × Obj)) (s : Shared) (σ : St) (H : Hp) (x y : V) (v u : Value) (Q : VK), Inv X pins σ H s → RelV x v → RelV y u → r x y H Q →
    subscripted slice false v u = operate [v, u] (getItem v u) → wpAny (model X.prog X.w) X.A (subscriptTail value slice v u) (EP X pins σ Q) X.xe s
def MtR (X : Cx) (id : String) (r : V → List V → Hp → VK → Prop) : Prop :=
  ∀ (pins : List (Addr × Obj)) (s : Shared) (σ : St) (H : Hp) (x : V) (xs : List V) (v : Value) (us : List Value) (Q : VK), Inv X pins σ H s → RelV x v → Vals xs us → r x xs H Q →
    wpAny (model X.prog X.w) X.A (call (.builtin id) (v :: us)) (EP X pins σ Q) X.xe s
section
variable {X : Cx} {a b : Expr} {ta tb : TE} {pos : Pos}
theorem pe_ix {r : R2} (hr : IxR X r) (ha : PE X a ta) (hb : PE X b tb) (hs : PlainIx b) : PE X (.Subscript a b pos) (tOp r ta tb) := by
  intro pins s σ H Q I h
  exact Subscript_ (binT ha hb I h fun v u s2 x y H2 I2 rx ry q => hr a b pins s2 σ H2 x y v u Q I2 rx ry q (hs _ _))
def rIxL (K : PySem.W.Frag) : R2 := fun x y H Q => ∃ p xs i v, x = .ref p ∧ y = .int i ∧ SqL K H p xs ∧ atI xs i = some v ∧ Q v H
def rIxT (K : PySem.W.Frag) : R2 := fun x y H Q => ∃ p xs i v, x = .ref p ∧ y = .int i ∧ SqT K H p xs ∧ atI xs i = some v ∧ Q v H
theorem ix_list : IxR X (rIxL X.K) := by
  intro value slice pins s σ H x y v u Q I rx ry h hs
  obtain ⟨p, xs, i, z, rfl, rfl, hq, he, q⟩ := h
  cases rx
  obtain ⟨t, rfl⟩ := ry
  obtain ⟨its, r, pl, hz⟩ := I.list hq
  obtain ⟨j, h1, h2, h3, h4, h5⟩ := atI_get he
  obtain ⟨w, ew, rw'⟩ := r.get h2
  have hl := r.length
  have hn := line63
  have fin : EP X pins σ Q w s := ⟨z, H, I, rw', q⟩
  by_cases h0 : 0 ≤ i
  · have hj : i.toNat = j := by
      rw [seqIndex_of h0 h5] at h1
      exact Option.some.inj h1
    exact item_listR pl.isList h0 (by omega) (by rw [hj]; simpa using ew) fin hs
  · have hj : (i + (its.toArray.size : Int)).toNat = j := by
      rw [seqIndex_neg (by omega) h4] at h1
      rw [List.size_toArray, ← hl]
      exact Option.some.inj h1
    exact subscriptTail_builtinR (x := w) pl.isList.typeIs slot_list_getitem.lookup
      (wpAny_getItem_list_neg (Q := fun r s' => r = w ∧ EP X pins σ Q r s') pl.isList (by omega) (by rw [List.size_toArray] <;> omega) (by omega) (by rw [hj]; simpa using ew) ⟨rfl, fin⟩) hs
theorem ix_tup : IxR X (rIxT X.K) := by
  intro value slice pins s σ H x y v u Q I rx ry h hs
  obtain ⟨p, xs, i, z, rfl, rfl, hq, he, q⟩ := h
  cases rx
  obtain ⟨t, rfl⟩ := ry
  obtain ⟨its, r, pl, hz⟩ := I.tuple hq
  obtain ⟨j, h1, h2, h3, h4, h5⟩ := atI_get he
  obtain ⟨w, ew, rw'⟩ := r.get h2
  have hl := r.length
  have hn := line63
  have fin : EP X pins σ Q w s := ⟨z, H, I, rw', q⟩
  exact subscriptTail_builtinR (x := w) pl.typeIs slot_tuple_getitem.lookup
    (getItem_tuple (j := j) (Q := fun r s' => r = w ∧ EP X pins σ Q r s') pl (by omega) (by omega) (by rw [List.size_toArray, ← hl]; exact h1) (by simpa using ew) ⟨rfl, fin⟩) hs
theorem mapSeq_set (its : List Value) (n j : Nat) (u : Value) : Obj.mapSeq (·.setIfInBounds j u) { cls := .type "list", data := .seq its.toArray n } = { cls := .type "list", data := .seq (its.set j u).toArray n } := by
  simp [Obj.mapSeq]
theorem Inv.lst {pins : List (Addr × Obj)} {σ : St} {H : Hp} {s : Shared} {p : Addr} {xs : List V} (I : Inv X pins σ H s) (h : H p = some (.lst xs)) :
    ∃ (its : List Value) (n : Nat), Vals xs its ∧ s.heap.get? p = some { cls := .type "list", data := .seq its.toArray n } ∧ xs.length ≤ sizeLine := by
  obtain ⟨z, its, n, r, e⟩ := I.hok p _ h
  exact ⟨its, n, r, e, z⟩
theorem Inv.lstUpd {pins : List (Addr × Obj)} {σ : St} {H : Hp} {s : Shared} {p : Addr} {xs ys : List V} {its its' : List Value} {n n' : Nat} {f : Obj → Obj} (I : Inv X pins σ H s) (h : H p = some (.lst xs))
    (ho : s.heap.get? p = some { cls := .type "list", data := .seq its.toArray n }) (hf : f { cls := .type "list", data := .seq its.toArray n } = { cls := .type "list", data := .seq its'.toArray n' }) (r : Vals ys its') (hz : ys.length ≤ sizeLine) (t : Nat) :
    Inv X pins σ (upd H p (.lst ys)) { s with heap := s.heap.update p f, toks := t } := by
  have e : (s.heap.update p f).get? p = some { cls := .type "list", data := .seq its'.toArray n' } := by
    rw [Heap.get?_update_self f ho (by rw [hf] <;> rfl), hf]
  refine I.write (x := p) (e := p) (by rw [h]; trivial) (.inl rfl) (fun b u hb q => (Heap.get?_update_other _ _ (Ne.symm hb)).trans q) ⟨_, e⟩ ?_
  exact ⟨hz, its', n', r, e⟩
def rSetL : V → V → V → Hp → (Hp → Prop) → Prop := fun o i v H Q => ∃ p xs k j, o = .ref p ∧ i = .int k ∧ H p = some (.lst xs) ∧ ixN xs.length k = some j ∧ Q (upd H p (.lst (xs.set j v)))
theorem set_list : PSet X rSetL := by
  intro pins s σ H o i v ov iv u Q I ro ri rv h
  obtain ⟨p, xs, k, j, rfl, rfl, hp, hj, q⟩ := h
  cases ro
  obtain ⟨t, rfl⟩ := ri
  obtain ⟨its, n, r, ho, hz⟩ := I.lst hp
  obtain ⟨h1, h2, h3, h4⟩ := ixN_seq hj
  have hl := r.length
  have hn := line63
  have I' : Inv X pins σ (upd H p (.lst (xs.set j v))) { s with heap := s.heap.update p (Obj.mapSeq (·.setIfInBounds j u)) } :=
    I.lstUpd hp ho (mapSeq_set its n j u) (r.set rv j) (by rw [List.length_set]; exact hz) s.toks
  by_cases h0 : 0 ≤ k
  · have hk : k.toNat = j := by
      rw [seqIndex_of h0 h4] at h1
      exact Option.some.inj h1
    exact PySem.W.ki_setAt ho h0 (by omega) (by rw [List.size_toArray, ← hl]; exact h4) (by rw [hk]; exact ⟨_, I', q⟩)
  · have hk : (k + (its.toArray.size : Int)).toNat = j := by
      rw [seqIndex_neg (by omega) h3] at h1
      rw [List.size_toArray, ← hl]
      exact Option.some.inj h1
    exact PySem.W.ki_setBack ho (by omega) (by rw [List.size_toArray, ← hl]; exact h3) (by omega) (by rw [hk]; exact ⟨_, I', q⟩)
theorem slice_bounds (lo hi : Option Int) (n : Nat) : (sliceBounds lo hi none n).1 = ((HT.sIx n 0 lo : Nat) : Int) ∧ (sliceBounds lo hi none n).2.1 = ((HT.sIx n n hi : Nat) : Int) ∧ (sliceBounds lo hi none n).2.2 = 1 := by
  refine ⟨?_, ?_, rfl⟩
  · cases lo with
    | none => simp [sliceBounds, HT.sIx]
    | some i =>
      simp only [sliceBounds, HT.sIx, Option.getD_none, show (1 : Int) > 0 by decide, if_true]
      by_cases h : i < 0
      · simp only [h, if_true] <;> omega
      · simp only [h, if_false] <;> omega
  · cases hi with
    | none => simp [sliceBounds, HT.sIx]
    | some i =>
      simp only [sliceBounds, HT.sIx, Option.getD_none, show (1 : Int) > 0 by decide, if_true]
      by_cases h : i < 0
      · simp only [h, if_true] <;> omega
      · simp only [h, if_false] <;> omega
theorem slicePick_cut (its : List Value) (lo hi : Option Int) : slicePick its.toArray lo hi none = ((its.drop (HT.sIx its.length 0 lo)).take (HT.sIx its.length its.length hi - HT.sIx its.length 0 lo)).toArray := by
  obtain ⟨h1, h2, h3⟩ := slice_bounds lo hi its.toArray.size
  unfold slicePick
  rw [h1, h2, h3]
  simp only [sliceRange_one, pick_run, List.size_toArray] <;> rfl
def rSlL (K : PySem.W.Frag) : V → Option Int → Option Int → Hp → VK → Prop := fun x lo hi H Q => ∃ a xs, x = .ref a ∧ SqL K H a xs ∧ ∀ p, H p = none → Q (.ref p) (upd H p (.lst (cutV xs lo hi)))
theorem sl_list : SlR X (rSlL X.K) := by
  intro pins s σ H x v vl vu lo hi sl Q I rx hs pl pu h
  obtain ⟨a, xs, rfl, hx, q⟩ := h
  cases rx
  obtain ⟨its, r, ht, hz⟩ := I.list hx
  have hlen := r.length
  refine ⟨"list", _, slot_list_getitem.lookup, ht.isList.typeIs, ?_⟩
  refine wpAny_getItem_list_slice ht.isList hs pl pu .none (by simp) ?_ (by rw [List.size_toArray] <;> omega)
  rw [slicePick_cut, ← hlen]
  refine ⟨.ref s.heap.objs.size, _, I.laid (t' := s.toks) (o := .lst (cutV xs lo hi)) (fun b ob q => Heap.get?_push_of_some _ q) (Nat.le_refl _) ?_, rfl, q _ (I.hok.fresh (Nat.le_refl _))⟩
  exact ⟨Nat.le_trans (cutV_length xs lo hi) hz, _, 0, (r.drop (HT.sIx xs.length 0 lo)).take (HT.sIx xs.length xs.length hi - HT.sIx xs.length 0 lo), Heap.get?_push_size _ rfl⟩
def flatV : V → Bool
  | .non => true
  | .bl _ => true
  | .int _ => true
  | .str _ => true
  | _ => false
def eqV : V → V → Bool
  | .non, .non => true
  | .bl a, .bl b => a == b
  | .bl a, .int b => (if a then 1 else 0) == b
  | .int a, .bl b => a == (if b then 1 else 0)
  | .int a, .int b => a == b
  | .str a, .str b => a == b
  | _, _ => false
theorem eqAt_V {A : Around} {s : Shared} {y x : V} {u v : Value} (ry : RelV y u) (rx : RelV x v) (fy : flatV y = true) (fx : flatV x = true) : SeqAt.EqAt A s u v (eqV y x) := by
  cases y with
  | non =>
    cases ry
    cases x with
    | non => cases rx; exact SeqAt.EqAt.same _
    | bl b => cases rx; exact SeqAt.EqAt.none_bool b
    | int b => obtain ⟨t, rfl⟩ := rx; exact SeqAt.EqAt.none_int b t
    | str b => obtain ⟨t, rfl⟩ := rx; exact SeqAt.EqAt.none_str b t
    | _ => exact absurd (show false = true from fx) Bool.false_ne_true
  | bl a =>
    cases ry
    cases x with
    | non => cases rx; exact SeqAt.EqAt.bool_none a
    | bl b => cases rx; exact SeqAt.EqAt.bool_bool a b
    | int b => obtain ⟨t, rfl⟩ := rx; exact SeqAt.EqAt.bool_int a b t
    | str b => obtain ⟨t, rfl⟩ := rx; exact SeqAt.EqAt.bool_str a b t
    | _ => exact absurd (show false = true from fx) Bool.false_ne_true
  | int a =>
    obtain ⟨t', rfl⟩ := ry
    cases x with
    | non => cases rx; exact SeqAt.EqAt.int_none a t'
    | bl b => cases rx; exact SeqAt.EqAt.int_bool a t' b
    | int b => obtain ⟨t, rfl⟩ := rx; exact SeqAt.EqAt.int_int a t' b t
    | str b => obtain ⟨t, rfl⟩ := rx; exact SeqAt.EqAt.int_str a t' b t
    | _ => exact absurd (show false = true from fx) Bool.false_ne_true
  | str a =>
    obtain ⟨t', rfl⟩ := ry
    cases x with
    | non => cases rx; exact SeqAt.EqAt.str_none a t'
    | bl b => cases rx; exact SeqAt.EqAt.str_bool a t' b
    | int b => obtain ⟨t, rfl⟩ := rx; exact SeqAt.EqAt.str_int a t' b t
    | str b => obtain ⟨t, rfl⟩ := rx; exact SeqAt.EqAt.str_str a t' b t
    | _ => exact absurd (show false = true from fx) Bool.false_ne_true
  | _ => exact absurd (show false = true from fy) Bool.false_ne_true
def eqU (x : V) (u : Value) : Bool := match u with
  | .none => eqV .non x
  | .bool b => eqV (.bl b) x
  | .int i _ => eqV (.int i) x
  | .str z _ => eqV (.str z) x
  | _ => false
theorem eqU_of {x y : V} {u : Value} (r : RelV y u) (f : flatV y = true) : eqU x u = eqV y x := by
  cases y with
  | non => cases r; rfl
  | bl b => cases r; rfl
  | int i => obtain ⟨t, rfl⟩ := r; rfl
  | str z => obtain ⟨t, rfl⟩ := r; rfl
  | _ => exact absurd (show false = true from f) Bool.false_ne_true
theorem any_eqU {x : V} : ∀ {xs : List V} {us : List Value}, Vals xs us → xs.all flatV = true → us.any (eqU x) = xs.any fun y => eqV y x
  | _, _, .nil, _ => rfl
  | y :: xs, u :: us, .cons r t, f => by
    rw [List.all_cons, Bool.and_eq_true] at f
    rw [List.any_cons, List.any_cons, eqU_of r f.1, any_eqU t f.2]
theorem mem_eqAt {A : Around} {s : Shared} {x : V} {v : Value} (rx : RelV x v) (fx : flatV x = true) : ∀ {xs : List V} {us : List Value}, Vals xs us → xs.all flatV = true → ∀ u ∈ us, SeqAt.EqAt A s u v (eqU x u)
  | _, _, .nil, _ => fun u hu => by cases hu
  | y :: xs, u :: us, .cons r t, f => fun u' hu => by
    rw [List.all_cons, Bool.and_eq_true] at f
    rcases List.mem_cons.mp hu with rfl | hu
    · rw [eqU_of r f.1]; exact eqAt_V r rx f.1 fx
    · exact mem_eqAt rx fx t f.2 u' hu
def inV (x : V) (xs : List V) : Bool := xs.any fun y => eqV y x
def rIn (K : PySem.W.Frag) (neg : Bool) : R2 := fun x y H Q => ∃ p xs, y = .ref p ∧ (SqL K H p xs ∨ SqT K H p xs) ∧ flatV x = true ∧ xs.all flatV = true ∧ Q (.bl (if neg then !inV x xs else inV x xs)) H
theorem op_in_seq : OpR X (compareOp .In) (rIn X.K false) := by
  intro pins s σ H x y v u Q I rx ry h
  obtain ⟨p, xs, rfl, hq, fx, fs, q⟩ := h
  cases ry
  rcases hq with hq | hq
  · obtain ⟨its, r, pl, hz⟩ := I.list hq
    refine SeqAt.in_listAt (eqU x) pl.isList (fun w hw => mem_eqAt rx fx r fs w (by simpa using hw)) ⟨.bl _, H, I, rfl, ?_⟩
    rw [show its.toArray.any (eqU x) = its.any (eqU x) by simp, any_eqU r fs]
    exact q
  · obtain ⟨its, r, pl, hz⟩ := I.tuple hq
    refine SeqAt.in_tupleAt (eqU x) pl (fun w hw => mem_eqAt rx fx r fs w (by simpa using hw)) ⟨.bl _, H, I, rfl, ?_⟩
    rw [show its.toArray.any (eqU x) = its.any (eqU x) by simp, any_eqU r fs]
    exact q
theorem op_notIn_seq : OpR X (compareOp .NotIn) (rIn X.K true) := by
  intro pins s σ H x y v u Q I rx ry h
  obtain ⟨p, xs, rfl, hq, fx, fs, q⟩ := h
  cases ry
  rcases hq with hq | hq
  · obtain ⟨its, r, pl, hz⟩ := I.list hq
    refine SeqAt.notIn_listAt (eqU x) pl.isList (fun w hw => mem_eqAt rx fx r fs w (by simpa using hw)) ⟨.bl _, H, I, rfl, ?_⟩
    rw [show its.toArray.any (eqU x) = its.any (eqU x) by simp, any_eqU r fs]
    exact q
  · obtain ⟨its, r, pl, hz⟩ := I.tuple hq
    refine SeqAt.notIn_tupleAt (eqU x) pl (fun w hw => mem_eqAt rx fx r fs w (by simpa using hw)) ⟨.bl _, H, I, rfl, ?_⟩
    rw [show its.toArray.any (eqU x) = its.any (eqU x) by simp, any_eqU r fs]
    exact q
theorem call_len_seq : CallR X (.builtin "len") (fun xs H Q => ∃ p ys, xs = [.ref p] ∧ (SqL X.K H p ys ∨ SqT X.K H p ys) ∧ Q (.int ys.length) H) := by
  intro pins s σ H xs us Q I r h
  obtain ⟨p, ys, rfl, hq, q⟩ := h
  obtain ⟨u, rfl, rx⟩ := vals1 r
  cases rx
  have hn := line63
  rcases hq with hq | hq
  · obtain ⟨its, r', pl, hz⟩ := I.list hq
    have hlen := r'.length
    exact Calls.call_len_list pl.isList (by simp only [List.size_toArray] <;> omega) ⟨.int ys.length, H, I.tok _, ⟨s.toks + 1, by rw [List.size_toArray, hlen]⟩, q⟩
  · obtain ⟨its, r', pl, hz⟩ := I.tuple hq
    have hlen := r'.length
    exact len_tuple pl (by simp only [List.size_toArray] <;> omega) ⟨.int ys.length, H, I.tok _, ⟨s.toks + 1, by rw [List.size_toArray, hlen]⟩, q⟩
theorem call_list_of : CallR X (.type "list") (fun xs H Q => ∃ p ys, xs = [.ref p] ∧ (SqL X.K H p ys ∨ SqT X.K H p ys) ∧ ∀ l, H l = none → Q (.ref l) (upd H l (.lst ys))) := by
  intro pins s σ H xs us Q I r h
  obtain ⟨p, ys, rfl, hq, q⟩ := h
  obtain ⟨u, rfl, rx⟩ := vals1 r
  cases rx
  have fin : ∀ (its : List Value), Vals ys its → ys.length ≤ sizeLine → ∀ (h' : Heap) (c' : Nat), (∀ b o', s.heap.get? b = some o' → h'.get? b = some o') →
      h'.get? s.heap.objs.size = some { cls := .type "list", dict := none, data := .seq its.toArray c', slots := #[] } → EP X pins σ Q (.ref s.heap.objs.size) { s with heap := h' } := fun its r' hz h' c' kp e =>
    ⟨.ref s.heap.objs.size, _, I.laid (t' := s.toks) kp (Nat.le_refl _) (show ObjOk X.prog X.w _ h' _ (.lst ys) from ⟨hz, its, c', r', e⟩), rfl, q _ (I.hok.fresh (Nat.le_refl _))⟩
  rcases hq with hq | hq
  · obtain ⟨its, r', pl, hz⟩ := I.list hq
    have hlen := r'.length
    obtain ⟨o, ho, hc, n, hd⟩ := pl.isList
    exact call_list_seq p (.inl rfl) ho hc hd (fun h' c' kp e => fin its r' hz h' c' kp e) (by simp only [List.size_toArray] <;> omega)
  · obtain ⟨its, r', pl, hz⟩ := I.tuple hq
    have hlen := r'.length
    obtain ⟨o, ho, hc, n, hd⟩ := pl
    exact call_list_seq p (.inr rfl) ho hc hd (fun h' c' kp e => fin its r' hz h' c' kp e) (by simp only [List.size_toArray] <;> omega)
def tyV (K : PySem.W.Frag) (T : String) (x : V) (H : Hp) : Prop := match x with
  | .str _ => T = "str"
  | .int _ => T = "int"
  | .ref p => (T = "list" ∧ ∃ xs, SqL K H p xs) ∨ (T = "tuple" ∧ ∃ o, K.lookup p = some o ∧ o.cls = .type "tuple" ∧ o.dict = none) ∨
      (T = "dict" ∧ ((∃ kvs, H p = some (.dK kvs)) ∨ ∃ kvs, H p = some (.dT kvs))) ∨ (T = "set" ∧ ∃ S n, H p = some (.set S n))
  | _ => False
theorem tyV_is {pins : List (Addr × Obj)} {σ : St} {H : Hp} {s : Shared} {T : String} {x : V} {v : Value} (I : Inv X pins σ H s) (r : RelV x v) (ty : tyV X.K T x H) :
    s.TypeIs v T ∧ ∀ a, v = .ref a → ∃ ob, s.heap.get? a = some ob ∧ ob.dict = none := by
  cases x with
  | str z =>
    obtain ⟨t, rfl⟩ := r
    cases (show T = "str" from ty)
    exact ⟨typeIs_str s z t, fun _ e => nomatch e⟩
  | int i =>
    obtain ⟨t, rfl⟩ := r
    cases (show T = "int" from ty)
    exact ⟨typeIs_int s i t, fun _ e => nomatch e⟩
  | ref p =>
    cases r
    rcases ty with ⟨rfl, xs, hq⟩ | ⟨rfl, o, hk, hc, hd⟩ | ⟨rfl, hk⟩ | ⟨rfl, S, n, hk⟩
    · obtain ⟨its, _, pl, _⟩ := I.list hq
      refine ⟨pl.isList.typeIs, fun a e => ?_⟩
      cases e
      obtain ⟨o, n, e, c, hd, _⟩ := pl
      exact ⟨o, e, hd⟩
    · refine ⟨⟨o, I.kIn p o hk, hc⟩, fun a e => ?_⟩
      cases e
      exact ⟨o, I.kIn _ o hk, hd⟩
    · have z : ∃ o, s.heap.get? p = some o ∧ o.ExactDict := by
        rcases hk with ⟨kvs, hk⟩ | ⟨kvs, hk⟩
        · obtain ⟨_, _, _, _, o, _, _, e, ex, _⟩ := I.hok p _ hk
          exact ⟨o, e, ex⟩
        · obtain ⟨_, _, _, _, o, _, _, e, ex, _⟩ := I.hok p _ hk
          exact ⟨o, e, ex⟩
      obtain ⟨o, e, ex⟩ := z
      refine ⟨⟨o, e, ex.1⟩, fun a e2 => ?_⟩
      cases e2
      exact ⟨o, e, ex.2.1⟩
    · obtain ⟨o, _, _, _, e, ex, _⟩ := I.hok p _ hk
      refine ⟨⟨o, e, ex.1⟩, fun a e2 => ?_⟩
      cases e2
      exact ⟨o, e, ex.2.1⟩
  | _ => exact False.elim ty
def tBM (K : PySem.W.Frag) (T : String) (r : V → List V → Hp → VK → Prop) (to : TE) (t : TA) : TE := fun σ H Q => to σ H fun x H1 => tyV K T x H1 ∧ t σ H1 fun xs H2 => r x xs H2 Q
variable {o e : Expr} {es : List Expr} {to : TE} {t : TA} {name : Str} {apos cpos : Pos} {T id : String} {r : V → List V → Hp → VK → Prop}
theorem pe_bm (pa : PlainAttrs T) (slot : Slot T name id) (hty : typeOf (.builtin id) = pure (.type "method_descriptor")) (hm : MtR X id r) (ho : PE X o to) (ha : PA X (e :: es) t)
    (hbase : attributeBase o name X.env (eval o X.env) = eval o X.env := by rfl)
    (hfew : ((backTo cpos (starEach (e :: es) X.env)).all (fun x => !x.1) && (backToKw cpos (keywordEach [] X.env)).all (fun x => x.1.isSome)
      && decide ((e :: es).length + ([] : List Keyword).length + (if ([] : List Keyword).isEmpty then 0 else 1) < 30)) = true := by rfl)
    (hline : (apos.endLine == cpos.line) = true := by rfl) (hs : starEach (e :: es) X.env = (false, eval e X.env) :: starEach es X.env := by rfl) (hplain : (backTo cpos (starEach es X.env)).any (·.1) = false := by rfl) :
    PE X (.Call (.Attribute o name apos) (e :: es) [] cpos) (tBM X.K T r to t) := by
  intro pins s σ H Q I h
  refine wpAny_Call_method_late hbase hfew hline rfl (thn (ho pins s σ H _ I h) fun v s1 ⟨x, H1, I1, r1, ty, q1⟩ => ?_)
  obtain ⟨h1, h2⟩ := tyV_is I1 r1 ty
  refine ⟨T, id, pa, slot, hty, h1, h2, ?_⟩
  have hA := ha cpos pins s1 σ H1 _ I1 q1
  rw [hs] at hA ⊢
  refine Calls.callWith_builtin (by show (false || (backTo cpos (starEach es X.env)).any (·.1)) = false; rw [hplain] <;> rfl) (Calls.evalArgs_plain ?_)
  exact thn hA fun us s2 ⟨vs, H2, I2, r2, q2⟩ => hm pins s2 σ H2 x vs v us Q I2 r1 r2 q2
end
end L2
namespace L2
open PySem PySem.Spec PyProof.Rows
def MtM (X : Cx) (id : String) (r : V → List V → Hp → VK → Prop) : Prop :=
  ∀ (pins : List (Addr × Obj)) (s : Shared) (σ : St) (H : Hp) (x : V) (xs : List V) (v : Value) (us : List Value) (Q : VK), Inv X pins σ H s → RelV x v → Vals xs us → r x xs H Q →
    wpAny (model X.prog X.w) X.A (call (.builtin id) (v :: us)) (EP X pins σ Q) X.xe s
theorem Vals.one : ∀ {x : V} {us : List Value}, Vals [x] us → ∃ u, us = [u] ∧ RelV x u
  | _, _, .cons r .nil => ⟨_, rfl, r⟩
theorem Vals.two : ∀ {x y : V} {us : List Value}, Vals [x, y] us → ∃ u v, us = [u, v] ∧ RelV x u ∧ RelV y v
  | _, _, _, .cons r (.cons q .nil) => ⟨_, _, rfl, r, q⟩
theorem Vals.zero : ∀ {us : List Value}, Vals [] us → us = []
  | _, .nil => rfl
theorem Vals.dropLast {xs : List V} {us : List Value} (h : Vals xs us) : Vals xs.dropLast us.dropLast := by
  induction h with
  | nil => exact .nil
  | cons r t ih =>
    cases t with
    | nil => exact .nil
    | cons q t' => exact .cons r ih
theorem Vals.eraseIdx : ∀ {xs : List V} {us : List Value} (i : Nat), Vals xs us → Vals (xs.eraseIdx i) (us.eraseIdx i)
  | _, _, _, .nil => .nil
  | _, _, 0, .cons _ t => t
  | _, _, i + 1, .cons r t => .cons r (Vals.eraseIdx i t)
theorem Vals.reverse {xs : List V} {us : List Value} (h : Vals xs us) : Vals xs.reverse us.reverse := by
  induction h with
  | nil => exact .nil
  | cons r t ih => rw [List.reverse_cons, List.reverse_cons]; exact Vals.append ih (.cons r .nil)
theorem Vals.rep {xs : List V} {us : List Value} (h : Vals xs us) : ∀ k : Nat, Vals (List.replicate k xs).flatten (List.replicate k us).flatten
  | 0 => .nil
  | k + 1 => by
    rw [List.replicate_succ, List.replicate_succ, List.flatten_cons, List.flatten_cons]
    exact Vals.append h (Vals.rep h k)
theorem foldl_rep (its : List Value) : ∀ (k : Nat) (acc : List Value),
    List.foldl (fun x1 x2 => x1 ++ x2) acc.toArray (List.replicate k its.toArray) = (acc ++ (List.replicate k its).flatten).toArray
  | 0, acc => by simp
  | k + 1, acc => by
    have e : acc.toArray ++ its.toArray = (acc ++ its).toArray := by simp
    have e2 : (acc ++ its) ++ (List.replicate k its).flatten = acc ++ (List.replicate (k + 1) its).flatten := by
      rw [List.replicate_succ, List.flatten_cons, List.append_assoc]
    rw [← e2, ← foldl_rep its k (acc ++ its), ← e, List.replicate_succ, List.foldl_cons]
section
variable {X : Cx} {pins : List (Addr × Obj)} {σ : St} {H : Hp} {s : Shared} {l b : Addr} {xs ys zs : List V}
theorem Inv.lset {its its' : List Value} {n : Nat} {f : Array Value → Array Value} {t' : Nat} (I : Inv X pins σ H s) (hH : H l = some (.lst xs))
    (e : s.heap.get? l = some { cls := .type "list", data := .seq its.toArray n }) (hf : f its.toArray = its'.toArray) (hv : Vals ys its') (hz : ys.length ≤ sizeLine) :
    Inv X pins σ (upd H l (.lst ys)) { s with heap := s.heap.update l (Obj.mapSeq f), toks := t' } := by
  have q := PySem.IsL.update e f
  rw [hf] at q
  refine I.write (x := l) (e := l) (by rw [hH]; exact trivial) (.inl rfl) (fun b' u hb hu => (Heap.get?_update_other s.heap (Obj.mapSeq f) (Ne.symm hb)).trans hu) ⟨_, q⟩ ?_
  exact ⟨hz, its', _, hv, q⟩
theorem Inv.lnew {its : List Value} {t' : Nat} (I : Inv X pins σ H s) (hv : Vals ys its) (hz : ys.length ≤ sizeLine) :
    Inv X pins σ (upd H s.heap.objs.size (.lst ys)) { s with heap := s.heap.push { cls := .type "list", data := .seq its.toArray }, toks := t' } :=
  I.laid (fun _ _ q => Heap.get?_push_of_some _ q) (Nat.le_refl _) ⟨hz, its, 0, hv, Heap.get?_push_size _ rfl⟩
theorem Inv.fresh (I : Inv X pins σ H s) : H s.heap.objs.size = none := I.hok.fresh (Nat.le_refl _)
theorem Inv.lstM (I : Inv X pins σ H s) (hH : H l = some (.lst xs)) : xs.length ≤ sizeLine ∧ ∃ (its : List Value) (n : Nat), Vals xs its ∧ xs.length = its.length ∧ s.heap.get? l = some { cls := .type "list", data := .seq its.toArray n } := by
  obtain ⟨z, its, n, r, e⟩ := I.hok l _ hH
  exact ⟨z, its, n, r, r.length, e⟩
theorem notLongL {n : Nat} (h : n ≤ sizeLine) : Builtin.List.listTooLong n = false := by
  unfold Builtin.List.listTooLong
  exact decide_eq_false (by omega)
end
section
variable {X : Cx}
def rAppend : V → List V → Hp → VK → Prop := fun x vs H Q => ∃ l xs y, x = .ref l ∧ vs = [y] ∧ H l = some (.lst xs) ∧ xs.length < sizeLine ∧ Q .non (upd H l (.lst (xs ++ [y])))
theorem mt_append : MtM X "list.append" rAppend := by
  intro pins s σ H x vs v us Q I rx rv h
  obtain ⟨l, xs, y, rfl, rfl, hH, hz, q⟩ := h
  cases rx
  obtain ⟨u, rfl, ru⟩ := rv.one
  obtain ⟨z, its, n, r, hl, e⟩ := I.lstM hH
  refine call_meets F.slot_list_append ⟨_, e, rfl⟩ F.entry_list_append (F.args_list_append_2 _ _) (PySem.list_append l its.toArray n u (by rw [List.size_toArray]; omega)) ⟨e, ?_⟩
  refine ⟨.non, _, I.lset (its' := its ++ [u]) hH e (by simp) (r.append (.cons ru .nil)) ?_, rfl, q⟩
  rw [List.length_append, List.length_singleton]
  omega
def rExtend : V → List V → Hp → VK → Prop := fun x vs H Q => ∃ l b xs zs, x = .ref l ∧ vs = [.ref b] ∧ H l = some (.lst xs) ∧ H b = some (.lst zs) ∧ xs.length + zs.length ≤ sizeLine ∧ Q .non (upd H l (.lst (xs ++ zs)))
theorem mt_extend : MtM X "list.extend" rExtend := by
  intro pins s σ H x vs v us Q I rx rv h
  obtain ⟨l, b, xs, zs, rfl, rfl, hH, hB, hz, q⟩ := h
  cases rx
  obtain ⟨u, rfl, ru⟩ := rv.one
  cases ru
  obtain ⟨z, its, n, r, hl, e⟩ := I.lstM hH
  obtain ⟨z2, its2, n2, r2, hl2, e2⟩ := I.lstM hB
  have hsz : its.toArray.size + its2.toArray.size ≤ sizeLine := by rw [List.size_toArray, List.size_toArray]; omega
  have hlong : ¬ (!its.toArray.isEmpty && Builtin.List.listTooLong (its.toArray.size + its2.toArray.size)) = true := by
    rw [notLongL hsz, Bool.and_false]
    exact Bool.false_ne_true
  refine call_meets F.slot_list_extend ⟨_, e, rfl⟩ F.entry_list_extend (F.args_list_extend_2 _ _)
    (AutoSeq1.list_extend_list_list_0 l its.toArray n b its2.toArray n2 hlong (by rw [List.size_toArray]; omega) (by omega)) ⟨e, e2, ?_⟩
  refine ⟨.non, _, I.lset (its' := its ++ its2) hH e (by simp) (r.append r2) ?_, rfl, q⟩
  rw [List.length_append]
  omega
def rCat : R2 := fun x y H Q => ∃ l b xs zs, x = .ref l ∧ y = .ref b ∧ H l = some (.lst xs) ∧ H b = some (.lst zs) ∧ xs.length + zs.length ≤ sizeLine ∧ ∀ p, H p = none → Q (.ref p) (upd H p (.lst (xs ++ zs)))
theorem op_cat : OpR X (binaryOp .Add) rCat := by
  intro pins s σ H x y v u Q I rx ry h
  obtain ⟨l, b, xs, zs, rfl, rfl, hH, hB, hz, q⟩ := h
  cases rx
  cases ry
  obtain ⟨z, its, n, r, hl, e⟩ := I.lstM hH
  obtain ⟨z2, its2, n2, r2, hl2, e2⟩ := I.lstM hB
  refine PySem.P.add_list e e2 ?_ (by rw [List.size_toArray, List.size_toArray]; omega)
  have ea : its.toArray ++ its2.toArray = (its ++ its2).toArray := by simp
  rw [ea]
  exact ⟨.ref _, _, I.lnew (t' := s.toks) (r.append r2) (by rw [List.length_append]; omega), rfl, q _ I.fresh⟩
def rRep : R2 := fun x y H Q => ∃ l k xs, x = .ref l ∧ y = .int k ∧ H l = some (.lst xs) ∧ -(2 ^ 63) ≤ k ∧ k < 2 ^ 63 ∧ xs.length * k.toNat ≤ sizeLine ∧
  ∀ p, H p = none → Q (.ref p) (upd H p (.lst (List.replicate k.toNat xs).flatten))
theorem len_rep {α : Type} (xs : List α) (k : Nat) : (List.replicate k xs).flatten.length = k * xs.length := by
  induction k with
  | zero => simp
  | succ k ih => rw [List.replicate_succ, List.flatten_cons, List.length_append, ih, Nat.succ_mul, Nat.add_comm]
theorem op_rep : OpR X (binaryOp .Mult) rRep := by
  intro pins s σ H x y v u Q I rx ry h
  obtain ⟨l, k, xs, rfl, rfl, hH, h1, h2, hz, q⟩ := h
  cases rx
  obtain ⟨t, rfl⟩ := ry
  obtain ⟨z, its, n, r, hl, e⟩ := I.lstM hH
  have hlen : its.toArray.size * k.toNat ≤ sizeLine := by rw [List.size_toArray, ← hl]; exact hz
  have hcap : ¬ its.toArray.size * k.toNat > (2 ^ 63 - 1) / 8 := by
    have : (sizeLine : Nat) ≤ (2 ^ 63 - 1) / 8 := by decide
    omega
  have hfit : ¬ (!Builtin.List.listFitsIndex k) = true := by
    rw [fitsIndex_both h1 h2]
    exact Bool.false_ne_true
  have hlong : ¬ Builtin.List.listTooLong (its.toArray.size * k.toNat) = true := by
    rw [notLongL hlen]
    exact Bool.false_ne_true
  have hnew : List.foldl (fun x1 x2 => x1 ++ x2) #[] (List.replicate (if its.toArray.isEmpty = true then 0 else k.toNat) its.toArray) = (List.replicate k.toNat its).flatten.toArray := by
    have f0 : ∀ m : Nat, List.foldl (fun x1 x2 => x1 ++ x2) #[] (List.replicate m its.toArray) = (List.replicate m its).flatten.toArray := fun m => by
      have := foldl_rep its m []
      rw [List.nil_append] at this
      exact this
    rw [f0]
    cases its with
    | nil => simp
    | cons a r' => rw [if_neg (by simp)]
  refine wpAny_binaryOp_repeat_ref (T := "list") (U := "int") (by decide) ⟨_, e, rfl⟩ (fun s' => typeIs_int s' k t) noFill_list_mul F.fills_int_mul F.slot_int_rmul repeat_list F.slot_int_index.lookup
    (call_meets F.slot_int_rmul (typeIs_int s k t) F.entry_int_rmul (F.args_int_rmul_2 _ _) (int___rmul___int_list k t l its.toArray n)
      ⟨e, rfl, ⟨_, e, rfl⟩, call_meets F.slot_list_mul ⟨_, e, rfl⟩ F.entry_list_mul (F.args_list_mul_2 _ _) (AutoListH.list___mul___list_int_3 l its.toArray n k t hfit hcap hlong) ⟨e, ?_⟩⟩)
  rw [hnew]
  exact ⟨.ref _, _, I.lnew (t' := s.toks) (r.rep k.toNat) (by rw [len_rep, Nat.mul_comm]; exact hz), rfl, q _ I.fresh⟩
end
section
variable {prog : Program} {w : World} {A : Around} {E : Value → Shared → Prop} {s : Shared}
set_option maxRecDepth 100000 in
end
section
variable {X : Cx}
end
end L2
namespace Att
open PySem PySem.W PySem.Calls PyProof.Rows
theorem ints_of_wellAll {P : Params} {h : Heap} : ∀ (ns : List Int) (vs : List Value), WellAll P h vs (ns.map WData.int) → IntsAre vs ns := by
  intro ns
  induction ns with
  | nil =>
    intro vs w
    rw [List.map_nil] at w
    cases w
    exact .nil
  | cons n ns ih =>
    intro vs w
    rw [List.map_cons] at w
    cases w with
    | cons a b =>
      cases a
      exact .cons _ _ (ih _ b)
theorem script_of {l : OpenLaw} {n : Nat} (hn : l.most = some n) {P : Params} {h : Heap} {args : List WData} {vals : List Value}
    (hpre : l.row.toRowW.claim.pre args = true) (hwl : WellAll P h vals args) :
    ∃ a vs ns, vals = [Value.ref a] ∧ args = [WData.list (ns.map WData.int)] ∧ h.get? a = some { cls := .type "list", data := .seq vs.toArray } ∧ IntsAre vs ns ∧ ns.length ≤ n := by
  have hsh : WShape.hasAll [] args [.list .int] = true := (pre_splitW hpre).1
  have hc : l.pre.holds [] { args := args } = true := (pre_splitW hpre).2
  obtain ⟨d, r, rfl, h1, h2⟩ := hasAllW_cons hsh
  obtain rfl := hasAllW_nil h2
  obtain ⟨xs, rfl, h3⟩ := hasW_list h1
  obtain ⟨ns, rfl⟩ := items_int h3
  have hlen : ns.length ≤ n := by
    unfold OpenLaw.pre at hc
    have h4 : (WTm.not (.lt (.lit (.int (n : Int))) (.len (.arg 0)))).holds [] { args := [.list (ns.map .int)] } = true := by
      have h4 := (holds_andW hc).1
      rw [hn] at h4
      exact h4
    have h5 := condW_of h4 (w_not (w_lt w_lit (w_len_list (w_arg rfl))))
    rw [List.length_map] at h5
    refine Nat.le_of_not_lt fun q => ?_
    have q' : (n : Int) < ((ns.length : Nat) : Int) := by omega
    first
      | (rw [decide_eq_true q'] at h5; exact absurd h5 (by decide))
      | (simp at h5; omega)
  cases hwl with
  | cons w1 w2 =>
    cases w2
    cases w1 with
    | list ho hall => exact ⟨_, _, ns, rfl, rfl, ho, ints_of_wellAll ns _ hall, hlen⟩
theorem post_true (l : OpenLaw) (args : List WData) : l.row.toRowW.claim.post args (.bool true) args = true :=
  postW_of (r := l.row.toRowW) (X := (true == true))
    (show WShape.has [] (.bool true) .bool = true by first | rfl | decide | simp [WShape.has, WShape.arms, WShape.armsAll])
    (show (WTm.eq .res (.lit (.bool true))).value [] { args := args, res := some (.bool true), after := args } = some (.bool (true == true)) from w_eq_bool (w_res rfl) w_lit) rfl
theorem attach_call {l : OpenLaw} {n : Nat} {q : Program} {loose : List Str} {XP : (Str → Option Value) → Heap → Prop} {YP : World → Heap → Prop} {d : DefRec}
    (hn : l.most = some n) (hdf : d.params.defaults = [])
    (call : ∀ (w : World) (s₀ s₁ : Shared) (mg mb : Str → Option Value) (fa : Addr) (o : Obj) (pm cd doc : Value) (a : Addr) (vs : List Value) (ns : List Int),
      Ground q loose [] XP w s₀ mg mb s₁.heap → YP w s₁.heap →
      s₁.heap.get? fa = some o → o.data = .func (docDef d.name d.params d.body d.scope pm cd doc) → s₁.heap.CodeRec cd d.name → mg d.name = some (.ref fa) →
      s₁.heap.get? a = some { cls := .type "list", data := .seq vs.toArray } → IntsAre vs ns → ns.length ≤ n → s₁.gens = #[] →
      codeAny (model l.prog w) callerA (.call (.ref fa) ⟨[.ref a], []⟩) (fun r s' => r = .ok (.ret (.bool true)) ∧ OldK s₁.heap s'.heap ∧ s'.os = s₁.os ∧ AllBare s'.gens) s₁) :
    WalkO q loose XP YP l.row.toRowW d [] (fun f vs => PySem.call f vs) := by
  intro w s₀ s₁ mg mb G Y fa o pm cd doc dV kV ho hd hcd hD hmg hg args vals as hpre hlay hrd hwl hlo
  obtain rfl : dV = .none := Dflts.none hD hdf
  obtain rfl : kV = .none := Dflts.noKw hD
  obtain ⟨a, vs, ns, rfl, rfl, hobj, hints, hlen⟩ := script_of hn hpre hwl
  refine enter_call (codeAny_mono (call w s₀ s₁ mg mb fa o pm cd doc a vs ns G Y ho (fd_plain hd) hcd hmg hobj hints hlen hg) fun r s' hq => ?_)
  obtain ⟨rfl, h2, h3, h4⟩ := hq
  exact ⟨.inl ⟨.bool true, .bool true, [], rfl, fun _ => rfl, .bool true, post_true l _, fun _ => ⟨List.Pairwise.nil, fun _ hm => (nomatch hm)⟩⟩, h2, h3, h4⟩
section
variable {prog : Program} {w : World} {A : Around} {E : Value → Shared → Prop} {s : Shared} {K : Frag}
end
end Att
namespace L2
open PySem PySem.Spec PyProof.Rows
theorem vals_ints : ∀ {vs : List Value} {ns : List Int}, IntsAre vs ns → Vals (ns.map V.int) vs
  | _, _, .nil => .nil
  | _, _, .cons n t h => .cons ⟨t, rfl⟩ (vals_ints h)
def Only (H : Hp) : Prop := ∀ b, H b = none ∨ ∃ o xs, H b = some (.frz o (.lst xs))
theorem law_call {P : Program} {w : World} {K : PySem.W.Frag} {mg mb : Str → Option Value} {CX : CXT} {k : Nat} {fa a : Addr} {fd : FuncData} {x : Str} {sp : Sp} {s₁ : Shared} {vs : List Value} {ns : List Int}
    (KX : K.In s₁.heap) (hns : s₁.heap.Ns mainGlobals mg) (hb : s₁.heap.Ns builtinsNs mb) (hbb : ∀ x : Str, x ≠ "__name__" → mb x = bootBuiltins x) (hlim : s₁.heap.NoLimit) (hg : s₁.gens = #[])
    (ha : s₁.heap.get? a = some { cls := .type "list", data := .seq vs.toArray }) (hi : IntsAre vs ns) (hl : ns.length ≤ sizeLine) (hr : Room k callerA)
    (F : ∀ base : Heap, K.In base → base.Ns mainGlobals mg → FnOk P w K mg base CX k fa fd [x] sp) (hbind : ∀ (s : Shared) (u : Value), BindsTo s fd ⟨[u], []⟩ [(x, u)])
    (hsp : ∀ H : Hp, Only H → SqL K H a (ns.map V.int) → sp [.ref a] H (fun v _ => v = .bl true) fun _ _ _ => False)
    (hCX : ∀ H e s', CX [] H s₁ (fun _ _ _ => False) e s' → False) :
    codeAny (model P w) callerA (.call (.ref fa) ⟨[.ref a], []⟩) (fun r s' => r = .ok (.ret (.bool true)) ∧ OldK s₁.heap s'.heap ∧ s'.os = s₁.os ∧ AllBare s'.gens) s₁ := by
  have rv := vals_ints hi
  have lenV := hi.length
  -- from an abstract heap in which nothing but the script may be tracked
  have core : ∀ H : Hp, Only H → SqL K H a (ns.map V.int) → HOk P w H s₁.heap → (∀ b, H b ≠ none → b = a) → (H a ≠ none → K.lookup a = none) →
      codeAny (model P w) callerA (.call (.ref fa) ⟨[.ref a], []⟩) (fun r s' => r = .ok (.ret (.bool true)) ∧ OldK s₁.heap s'.heap ∧ s'.os = s₁.os ∧ AllBare s'.gens) s₁ := by
    intro H hO hS hok hA hK
    have base_of : ∀ {b : Addr} {o : Obj}, s₁.heap.get? b = some o → H b = none → (hidT s₁.heap H).get? b = some o := fun e n => hidT_get e n
    have noA : ∀ {b : Addr} {o : Obj} {es : Array DictEntry} {ep : Nat}, s₁.heap.get? b = some o → o.data = .dict es ep → H b = none := fun {b o es ep} e d => by
      cases q : H b with
      | none => rfl
      | some u =>
        have e' : b = a := hA b (by rw [q]; simp)
        subst e'
        rw [ha] at e; cases e
        have d' : Data.seq vs.toArray _ = Data.dict es ep := d
        cases d'
    have nsK : ∀ {b : Addr} {m : Str → Option Value}, s₁.heap.Ns b m → (hidT s₁.heap H).Ns b m := fun {b m} ⟨o, es, ep, e, d, r⟩ => ⟨o, es, ep, base_of e (noA e d), d, r⟩
    have hKb : K.In (hidT s₁.heap H) := fun b o e => base_of (KX b o e) (by
      cases q : H b with
      | none => rfl
      | some u =>
        have e' : b = a := hA b (by rw [q]; simp)
        subst e'
        rw [hK (by rw [q]; simp)] at e; cases e)
    have hM : Mod K mg (hidT s₁.heap H) := ⟨hKb, nsK hns, ⟨mb, nsK hb, hbb⟩, let ⟨mc, h1, h2⟩ := hlim; ⟨mc, nsK h1, h2⟩⟩
    have e0 : Env0 P w K mg (hidT s₁.heap H) callerA [] s₁ H := ⟨rfl, hM, fun b o e => of_hidT e, Nat.le_of_eq (hidT_size _ _), trivial, fun b hb => absurd (show b ∈ ([] : List Addr) from hb) (by simp), hok, .of_eq hg⟩
    refine codeAny_mono ((F _ hKb (nsK hns)).run callerA [] s₁ H ⟨[.ref a], []⟩ [.ref a] [.ref a] _ _ hr e0 (hbind s₁ (.ref a)) (.cons rfl .nil) (hsp H hO hS)) fun r s' h => ?_
    cases r with
    | error e => exact (hCX H e s' h).elim
    | ok fl =>
      cases fl with
      | next => exact False.elim h
      | brk => exact False.elim h
      | cont => exact False.elim h
      | ret u =>
        obtain ⟨v, H', os, bare, un, hok', r', q⟩ := h
        have q' : v = .bl true := q
        subst q'
        obtain rfl : u = Value.bool true := r'
        refine ⟨rfl, OldK.of_keep fun b o e => ?_, os, bare⟩
        cases q : H b with
        | none => exact un.keep b o e q (by intro z; exact absurd (show b ∈ ([] : List Addr) from z) (by simp)) (by simp)
        | some u =>
          rcases hO b with z | ⟨ob, xs, z⟩
          · rw [q] at z; cases z
          · have z2 := un.frzs b ob _ z
            obtain ⟨e1, _⟩ := hok b _ z
            obtain ⟨e2, _⟩ := hok' b _ z2
            rw [e] at e1; cases e1
            exact e2
  cases hk : K.lookup a with
  | some o =>
    -- the script is one of the module's own objects
    have e := KX a o hk
    rw [ha] at e
    cases e
    refine core (fun _ => none) (fun _ => .inl rfl) (.inr ⟨_, vs.toArray, _, hk, rfl, rfl, rfl, by rw [List.size_toArray, lenV]; exact hl, by simpa using rv⟩) (fun b u z => by have z' : (none : Option HO) = some u := z; cases z') (fun b z => absurd rfl z) fun z => absurd rfl z
  | none =>
    refine core (fun b => if b = a then some (.frz { cls := .type "list", data := .seq vs.toArray } (.lst (ns.map V.int))) else none) (fun b => ?_) (.inl (.inr ⟨{ cls := .type "list", data := .seq vs.toArray }, if_pos rfl⟩)) (fun b u z => ?_) (fun b z => ?_) fun _ => hk
    · by_cases hb : b = a
      · exact .inr ⟨_, _, if_pos hb⟩
      · exact .inl (if_neg hb)
    · by_cases hb : b = a
      · have z' := (if_pos hb).symm.trans z
        cases z'
        subst hb
        exact ⟨ha, by rw [List.length_map]; exact hl, vs, _, rv, ha⟩
      · have z' := (if_neg hb).symm.trans z
        cases z'
    · by_cases hb : b = a
      · exact hb
      · exact absurd (if_neg hb) z
end L2
namespace L2
open PySem PySem.Spec PyProof.Rows
theorem walk_of {l : PySem.W.OpenLaw} {n k : Nat} {q : Program} {loose : List Str} {XP : (Str → Option Value) → Heap → Prop} {YP : World → Heap → Prop} {d : DefRec} {K : Params → PySem.W.Frag} {CX : World → CXT} {sp : World → Sp} {x : Str}
    (hn : l.most = some n) (hn2 : n ≤ sizeLine) (hdf : d.params.defaults = []) (hr : Room k callerA)
    (hY : ∀ (w : World) (h : Heap), YP w h → (K w.params).In h)
    (F : ∀ (w : World) (mg : Str → Option Value) (fa : Addr) (h : Heap), (K w.params).In h → h.Ns mainGlobals mg → mg d.name = some (.ref fa) →
      ∃ fd : FuncData, (∀ (s : Shared) (u : Value), BindsTo s fd ⟨[u], []⟩ [(x, u)]) ∧
        ∀ base : Heap, (K w.params).In base → base.Ns mainGlobals mg → FnOk l.prog w (K w.params) mg base (CX w) k fa fd [x] (sp w))
    (hsp : ∀ (w : World) (H : Hp) (a : Addr) (ns : List Int), ns.length ≤ n → Only H → SqL (K w.params) H a (ns.map V.int) → sp w [.ref a] H (fun v _ => v = .bl true) fun _ _ _ => False)
    (hCX : ∀ (w : World) (H : Hp) (s : Shared) (e : Value) (s' : Shared), CX w [] H s (fun _ _ _ => False) e s' → False) :
    PySem.W.WalkO q loose XP YP l.row.toRowW d [] (fun f vs => PySem.call f vs) := by
  refine Att.attach_call hn hdf fun w s₀ s₁ mg mb fa o pm cd doc a vs ns G Y ho hd hcd hmg hobj hints hlen hg => ?_
  have KX := hY w _ Y
  obtain ⟨fd, hb, hF⟩ := F w mg fa _ KX G.T.g hmg
  exact law_call KX G.T.g G.T.b G.T.builtins G.T.nolimit hg hobj hints (Nat.le_trans hlen hn2) hr hF hb (fun H hO hS => hsp w H a ns hlen hO hS) fun H e s' => hCX w H s₁ e s'
end L2
namespace L2
open PySem PySem.Spec PyProof.Rows
def defArgs (s : Stmt) : Arguments := match s with
  | .FunctionDef _ a _ _ _ _ _ _ _ _ => a
  | _ => { posonlyargs := [], args := [], vararg := none, kwonlyargs := [], kw_defaults := [], kwarg := none, defaults := [] }
def defBody (s : Stmt) : List Stmt := match s with
  | .FunctionDef _ _ b _ _ _ _ _ _ _ => b
  | _ => []
def defScope (s : Stmt) : Scope := match s with
  | .FunctionDef _ _ _ _ _ _ sc _ _ _ => sc
  | _ => { kind := .function, names := [], isGenerator := false, isCoroutine := false }
abbrev CX0 : CXT := fun _ _ _ _ _ _ => False
abbrev E0 : XK := fun _ _ _ => False
theorem pass0 {X : Cx} : Passes CX0 X E0 := fun _ _ _ _ _ _ _ h => h.elim
structure Fun (K : PySem.W.Frag) (x qual : Str) (st : Stmt) (f : Addr) (fd : FuncData) : Prop where
  ex : ∃ (oc : Value) (od : Option Addr) (kV doc pm : Value) (an : Option Addr) (cdv ct : Value) (osl : Array (Option Value)),
    fd = PySem.W.fnOf x qual (defArgs st) (defBody st) (defScope st) .none kV doc pm an cdv ct ∧ K.lookup f = some ⟨oc, od, .func fd, osl⟩ ∧ PySem.W.codeIn K cdv qual = true
  kp : PySem.W.keepIn K (.ref f) = true
section
variable {P : Program} {w : World} {K : PySem.W.Frag} {mg : Str → Option Value} {base : Heap}
theorem Fun.ok {x qual : Str} {st : Stmt} {f : Addr} {fd : FuncData} {N ps : List Str} {k : Nat} {sp : Sp} (F : Fun K x qual st f fd) (S : FnScope N ps (defScope st)) (len : ∀ vs H Q E, sp vs H Q E → vs.length = ps.length)
    (hbody : ∀ (cdv : Value) (A : Around) (outer : List Env) (s : Shared) (H : Hp) (vs : List V) (Q : VK) (E : XK), Room k (A.deeper (envOfC qual (defScope st) s.heap.objs.size f cdv)) → sp vs H Q E →
      ∃ t, PSs (cxOf CX0 P w K mg base N qual (defScope st) f cdv A outer s H E).nox (defBody st) t ∧ t { nx := fun _ H' => Q .non H', rt := Q } (start N vs) H) : FnOk P w K mg base CX0 (k + 1) f fd ps sp := by
  obtain ⟨oc, od, kV, doc, pm, an, cdv, ct, osl, rfl, lk, hcd⟩ := F.ex
  refine fn_of lk hcd S len fun A outer s H vs Q E hr hsp => ?_
  obtain ⟨t, h, q⟩ := hbody cdv A outer s H vs Q E hr hsp
  exact ⟨t, h.nox, q⟩
theorem Fun.binds {x qual : Str} {st : Stmt} {f : Addr} {fd : FuncData} {ps : List Str} (F : Fun K x qual st f fd)
    (h : ∀ (kV doc pm : Value) (an : Option Addr) (cdv ct : Value) (us : List Value), us.length = ps.length → bindArgs (PySem.W.fnOf x qual (defArgs st) (defBody st) (defScope st) .none kV doc pm an cdv ct) ⟨us, []⟩ = pure (ps.zip us)) : Binds K fd ps [] := by
  obtain ⟨oc, od, kV, doc, pm, an, cdv, ct, osl, rfl, lk, hcd⟩ := F.ex
  exact .all (h kV doc pm an cdv ct)
theorem fun_mk {x qual : Str} {st : Stmt} {f : Addr} {oc : Value} {od an : Option Addr} {osl : Array (Option Value)} {kV doc pm cdv ct : Value} (l : K.lookup f = some ⟨oc, od, .func (PySem.W.fnOf x qual (defArgs st) (defBody st) (defScope st) .none kV doc pm an cdv ct), osl⟩)
    (c : PySem.W.codeIn K cdv qual = true) (k : PySem.W.keepIn K (.ref f) = true) : Fun K x qual st f (PySem.W.fnOf x qual (defArgs st) (defBody st) (defScope st) .none kV doc pm an cdv ct) := ⟨⟨oc, od, kV, doc, pm, an, cdv, ct, osl, rfl, l, c⟩, k⟩
end
theorem small1000 {n : Nat} (h : n ≤ 1000) : n < sizeLine := Nat.lt_of_le_of_lt h (by decide)
section
variable {X : Cx}
theorem pv (i : Nat) {x : Str} {pos : Pos} (hN : X.N[i]? = some x := by rfl) (hv : Vis X.env.scope x := by first | exact Or.inl rfl | exact Or.inr (Or.inl rfl) | exact Or.inr (Or.inr rfl)) (hd : (x == ("__debug__" : Str)) = false := by decide)
    (hcd : (x == ("__classdict__" : Str)) = false := by decide) : PE X (.Name x pos) (tVar i) := pe_var hN hv hd hcd
end
theorem iteF {A B : Prop} (h : B) : if false = true then A else B := by
  rw [if_neg Bool.false_ne_true]
  exact h
theorem iteT {A B : Prop} (h : A) : if true = true then A else B := by
  rw [if_pos rfl]
  exact h
theorem ite2 {c A B : Prop} [Decidable c] (h1 : c → A) (h2 : ¬ c → B) : if c then A else B := by
  by_cases h : c
  · rw [if_pos h]
    exact h1 h
  · rw [if_neg h]
    exact h2 h
def Same (H H' : Hp) : Prop := ∀ b o, H b = some o → H' b = some o
theorem Same.refl (H : Hp) : Same H H := fun _ _ h => h
theorem Same.trans {H H1 H2 : Hp} (a : Same H H1) (b : Same H1 H2) : Same H H2 := fun c o h => b c o (a c o h)
theorem Same.free {H H' : Hp} (e : Same H H') {l : Addr} (h : H' l = Option.none) : H l = Option.none := by
  cases q : H l with
  | none => rfl
  | some o =>
    rw [e l o q] at h
    cases h
theorem Same.seq {K : PySem.W.Frag} {H H' : Hp} {a : Addr} {xs : List V} (e : Same H H') (h : SqL K H a xs) : SqL K H' a xs := by
  rcases h with (h | ⟨o, h⟩) | h
  · exact .inl (.inl (e _ _ h))
  · exact .inl (.inr ⟨o, e _ _ h⟩)
  · exact .inr h
end L2
set_option Elab.async false
set_option linter.all false
set_option maxRecDepth 100000
namespace L2
open PySem PySem.Spec PyProof.Rows
theorem forIn_step {α β : Type} {f : α → β → Sem (ForInStep β)} (g : β → α → β) : ∀ (l : List α) (c : β), (∀ x ∈ l, ∀ c, f x c = pure (.yield (g c x))) → forIn l c f = pure (l.foldl g c)
  | [], _, _ => rfl
  | x :: l, c, h => by
    rw [List.forIn_cons, h x List.mem_cons_self, pure_bind]
    exact forIn_step g l (g c x) fun y hy => h y (List.mem_cons_of_mem _ hy)
def closStep (env : Env) (c : List (Str × Addr)) (x : Str × NameKind) : List (Str × Addr) := if x.2 == NameKind.free then (x.1, (env.cells.lookup x.1).getD 0) :: c else c
def closOf (env : Env) (l : List (Str × NameKind)) : List (Str × Addr) := l.foldl (closStep env) []
theorem closureFor_own {env : Env} {sc : Scope} (h : ∀ y ∈ sc.names, y.2 = .free → ∃ c, env.cells.lookup y.1 = some c) : closureFor sc env = pure (closOf env sc.names) := by
  simp only [closureFor]
  rw [forIn_step (closStep env) sc.names [] (fun x hx c => by
    obtain ⟨n, k⟩ := x
    by_cases hk : k = .free
    · subst hk
      obtain ⟨a, ea⟩ := h _ hx rfl
      have ea' : env.cells.lookup n = some a := ea
      simp [closStep, cellOf, ea']
    · have hb : (k == NameKind.free) = false := by simpa using hk
      simp [closStep, hb])]
  rfl
theorem mem_closF {env : Env} {x : Str} {a : Addr} : ∀ (l : List (Str × NameKind)) (acc : List (Str × Addr)), (x, a) ∈ l.foldl (closStep env) acc → (x, a) ∈ acc ∨ (∃ y ∈ l, y.2 = .free ∧ y.1 = x ∧ a = (env.cells.lookup x).getD 0)
  | [], _, h => .inl h
  | y :: l, acc, h => by
    rcases mem_closF l _ h with h1 | ⟨z, hz, e⟩
    · unfold closStep at h1
      by_cases hy : y.2 == NameKind.free
      · rw [if_pos hy] at h1
        rcases List.mem_cons.mp h1 with e | h1
        · have e1 : x = y.1 := congrArg Prod.fst e
          have e2 : a = (env.cells.lookup y.1).getD 0 := congrArg Prod.snd e
          exact .inr ⟨y, List.mem_cons_self, eq_of_beq hy, e1.symm, by rw [e2, e1]⟩
        · exact .inl h1
      · rw [if_neg hy] at h1
        exact .inl h1
    · exact .inr ⟨z, List.mem_cons_of_mem _ hz, e⟩
theorem keep_closF {env : Env} {p : Str × Addr} : ∀ (l : List (Str × NameKind)) (acc : List (Str × Addr)), p ∈ acc → p ∈ l.foldl (closStep env) acc
  | [], _, h => h
  | y :: l, acc, h => keep_closF l _ (by unfold closStep; split; exact List.mem_cons_of_mem _ h; exact h)
theorem has_closF {env : Env} {y : Str × NameKind} (hy : y.2 = .free) : ∀ (l : List (Str × NameKind)) (acc : List (Str × Addr)), y ∈ l → (y.1, (env.cells.lookup y.1).getD 0) ∈ l.foldl (closStep env) acc
  | [], _, h => nomatch h
  | z :: l, acc, h => by
    rcases List.mem_cons.mp h with e | h
    · subst e
      refine keep_closF l _ ?_
      unfold closStep
      rw [if_pos (by rw [hy]; rfl)]
      exact List.mem_cons_self
    · exact has_closF hy l _ h
theorem lookup_of_mem {x : Str} {a : Addr} : ∀ {l : List (Str × Addr)}, (x, a) ∈ l → ∃ b, l.lookup x = some b
  | [], h => nomatch h
  | (n, c) :: l, h => by
    cases e : x == n with
    | true => exact ⟨c, by simp [List.lookup_cons, e]⟩
    | false =>
      rcases List.mem_cons.mp h with q | h
      · have : x = n := congrArg Prod.fst q
        rw [this, beq_self_eq_true] at e
        cases e
      · obtain ⟨b, hb⟩ := lookup_of_mem h
        exact ⟨b, by simp [List.lookup_cons, e, hb]⟩
abbrev relF (env : Env) : Str × NameKind → Str × NameKind := fun (n, k) => if (k == NameKind.free && env.scope.kind == .function && env.kindOf n == some .cell) then (n, NameKind.cell) else (n, k)
theorem relF_fst (env : Env) (y : Str × NameKind) : (relF env y).1 = y.1 := by
  obtain ⟨n, k⟩ := y
  show (if (k == NameKind.free && env.scope.kind == .function && env.kindOf n == some .cell) = true then (n, NameKind.cell) else (n, k)).1 = n
  split <;> rfl
theorem relF_snd (env : Env) (y : Str × NameKind) : ((relF env y).2 = y.2 ∧ True) ∨ (y.2 = .free ∧ (relF env y).2 = .cell) := by
  obtain ⟨n, k⟩ := y
  by_cases h : (k == NameKind.free && env.scope.kind == .function && env.kindOf n == some .cell) = true
  · refine .inr ⟨?_, ?_⟩
    · simp only [Bool.and_eq_true] at h
      exact eq_of_beq h.1.1
    · show (if (k == NameKind.free && env.scope.kind == .function && env.kindOf n == some .cell) = true then (n, NameKind.cell) else (n, k)).2 = _
      rw [if_pos h]
  · refine .inl ⟨?_, trivial⟩
    show (if (k == NameKind.free && env.scope.kind == .function && env.kindOf n == some .cell) = true then (n, NameKind.cell) else (n, k)).2 = _
    rw [if_neg h]
theorem lookup_relF {env : Env} {x : Str} : ∀ (l : List (Str × NameKind)), (l.map (relF env)).lookup x = none ∧ l.lookup x = none ∨ ∃ y ∈ l, l.lookup x = some y.2 ∧ (l.map (relF env)).lookup x = some (relF env y).2
  | [] => .inl ⟨rfl, rfl⟩
  | y :: l => by
    have e1 : ((y :: l).map (relF env)).lookup x = if x == y.1 then some (relF env y).2 else (l.map (relF env)).lookup x := by
      rw [List.map_cons]
      have : relF env y = (y.1, (relF env y).2) := Prod.ext (relF_fst env y) rfl
      rw [this, List.lookup_cons]
      cases x == y.1 <;> rfl
    have e2 : (y :: l).lookup x = if x == y.1 then some y.2 else l.lookup x := by
      obtain ⟨n, k⟩ := y
      rw [List.lookup_cons]
      cases h : x == n <;> simp [h]
    cases h : x == y.1 with
    | true => exact .inr ⟨y, List.mem_cons_self, by rw [e2, h]; rfl, by rw [e1, h]; rfl⟩
    | false =>
      rw [e1, e2, h]
      rcases lookup_relF (env := env) (x := x) l with ⟨q1, q2⟩ | ⟨z, hz, q1, q2⟩
      · exact .inl ⟨by simpa using q1, by simpa using q2⟩
      · exact .inr ⟨z, List.mem_cons_of_mem _ hz, by simpa using q1, by simpa using q2⟩
def cxC (X : Cx) (sc : Scope) (N : List Str) (cl : List (Str × Addr)) (s₀ : Shared) (H₀ : Hp) (ex : List Addr) : Cx where
  prog := X.prog
  w := X.w
  K := X.K
  mg := X.mg
  base := X.base
  A := X.A
  N := N
  s₀ := s₀
  H₀ := H₀
  env := compEnvC sc cl s₀.heap.objs.size X.env
  outer := X.stack
  stack := X.stack
  ex := ex
  fn := fun _ => false
  calm := X.calm
  pn := []
  xe := fun _ _ => False
structure CompOk (X : Cx) (sc : Scope) (N : List Str) (cap : List (Option Nat)) : Prop where
  kind : sc.kind = .function
  ncell : ∀ y ∈ sc.names, y.2 ≠ .cell
  names : ∀ y ∈ sc.names, y.2 = .local → sc.names.lookup y.1 = some .local
  frees : ∀ y ∈ sc.names, y.2 = .free → X.env.kindOf y.1 = some .cell ∨ X.env.kindOf y.1 = some .free
  capN : cap.length = N.length
  capt : ∀ (i j : Nat), cap[i]? = some (some j) → ∃ x, N[i]? = some x ∧ X.N[j]? = some x ∧ sc.names.lookup x = some .free
def isFree (k : Option NameKind) : Bool := k == some .cell || k == some .free
def compOkB (sx : Scope) (NX : List Str) (sc : Scope) (N : List Str) (cap : List (Option Nat)) : Bool :=
  sc.kind == .function && sc.names.all (fun y => y.2 != .cell) && sc.names.all (fun y => y.2 != .local || sc.names.lookup y.1 == some .local)
    && sc.names.all (fun y => y.2 != .free || isFree (sx.names.lookup y.1)) && (cap.length == N.length)
    && (List.range cap.length).all (fun i => match cap[i]? with
      | some (some j) => (match N[i]? with
        | some x => NX[j]? == some x && sc.names.lookup x == some .free
        | none => false)
      | _ => true)
theorem compOk_of {X : Cx} {sc : Scope} {N : List Str} {cap : List (Option Nat)} (h : compOkB X.env.scope X.N sc N cap = true) : CompOk X sc N cap := by
  unfold compOkB at h
  simp only [Bool.and_eq_true] at h
  obtain ⟨⟨⟨⟨⟨h1, h2⟩, h3⟩, h4⟩, h5⟩, h6⟩ := h
  refine ⟨eq_of_beq h1, fun y hy e => ?_, fun y hy e => ?_, fun y hy e => ?_, eq_of_beq h5, fun i j e => ?_⟩
  · have q := List.all_eq_true.mp h2 y hy
    rw [e] at q
    exact absurd q (by decide)
  · have q := List.all_eq_true.mp h3 y hy
    rw [e] at q
    simpa using q
  · have q := List.all_eq_true.mp h4 y hy
    rw [e] at q
    have q' : isFree (X.env.scope.names.lookup y.1) = true := by simpa using q
    unfold isFree at q'
    rcases Bool.or_eq_true _ _ ▸ q' with z | z
    · exact .inl (eq_of_beq z)
    · exact .inr (eq_of_beq z)
  · have hi : i < cap.length := (List.getElem?_eq_some_iff.mp e).1
    have q := List.all_eq_true.mp h6 i (List.mem_range.mpr hi)
    rw [e] at q
    cases hx : N[i]? with
    | none => rw [hx] at q; cases q
    | some x =>
      rw [hx] at q
      have q' : (X.N[j]? == some x && sc.names.lookup x == some .free) = true := q
      simp only [Bool.and_eq_true] at q'
      exact ⟨x, rfl, eq_of_beq q'.1, eq_of_beq q'.2⟩
def capt (cap : List (Option Nat)) (σ : St) : St := cap.map fun o => match o with
  | some i => (σ[i]?).join
  | none => none
section
variable {X : Cx} {pins : List (Addr × Obj)} {σ : St} {H H' : Hp} {s : Shared} {h' : Heap}
theorem HOk.track {P : Program} {w : World} {H : Hp} {h : Heap} {a : Addr} {o : HO} (x : HOk P w H h) (hn : H a = none) (new : ObjOk P w (upd H a o) h a o) : HOk P w (upd H a o) h := fun b u e => by
  by_cases hb : b = a
  · subst hb; rw [upd_same] at e; cases e; exact new
  · rw [upd_ne hb] at e
    exact (x b u e).stay (fun c v _ q => q) (fun c q => by rw [upd_ne (ne_of_none q hn)]; exact q) fun c xs q => by rw [upd_ne (ne_of_none q hn)]; exact q
theorem Inv.turnedL {t' : Nat} (ch : List Addr) (I : Inv X pins σ H s) (hf : ∀ b ∈ ch, FpOk X pins H b) (k : ∀ b o, b ∉ ch → s.heap.get? b = some o → h'.get? b = some o) : Inv X pins σ H { s with heap := h', toks := t' } := by
  have nit : ∀ b u, H b = some u → b ∉ ch := fun b u e z => by rw [(hf b z).1] at e; cases e
  refine I.step (g' := s.gens) (d' := s.drawn) (ch := ch) (fun b hb => ⟨(hf b hb).2.2.2.1, (hf b hb).2.1, (hf b hb).2.2.2.2.1, (hf b hb).2.2.2.2.2⟩) (fun b o _ _ hc e _ => k b o hc e) (fun b o _ _ hc e _ => ⟨o.slots, k b o hc e⟩) (fun _ _ _ _ n => n)
    (fun b o hc e => ⟨o, k b o hc e⟩) (fun _ _ e => e) (fun _ _ _ e => e) (fun b ps e => ⟨#[], by rw [e]; simp⟩) (fun m hm => ?_) (fun b u e => ?_) I.bare
  · obtain ⟨o, es, ep, ho, r⟩ := hm
    exact ⟨o, es, ep, k _ o (fun z => (hf _ z).2.1 rfl) ho, r⟩
  · refine (I.hok b u e).stay (fun c v hc q => k c v ?_ q) (fun _ q => q) fun _ _ q => q
    rcases hc with z | z
    · rw [z]; exact nit b u e
    · exact nit c _ z
theorem Inv.track {a : Addr} {o : HO} (I : Inv X pins σ H s) (hf : FpOk X pins H a) (new : ObjOk X.prog X.w (upd H a o) s.heap a o) : Inv X pins σ (upd H a o) s := by
  have hn := hf.1
  have q := I.step (g' := s.gens) (d' := s.drawn) (h' := s.heap) (t' := s.toks) (H' := upd H a o) (ch := [a]) (fun b hb => ?_) (fun b o _ _ _ e _ => e) (fun b o _ _ _ e _ => ⟨o.slots, e⟩) (fun b u hc e n => ?_) (fun b u _ e => ⟨u, e⟩)
    (fun b xs e => by rw [upd_ne (ne_of_none e hn)]; exact e) (fun b u xs e => by rw [upd_ne (ne_of_none e hn)]; exact e) (fun b ps e => ⟨#[], by rw [upd_ne (ne_of_none e hn), e]; simp⟩) (fun m hm => hm) (I.hok.track hn new) I.bare
  · exact q
  · have e : b = a := by simpa using hb
    subst e
    exact ⟨hf.2.2.2.1, hf.2.1, hf.2.2.2.2.1, hf.2.2.2.2.2⟩
  · rw [upd_ne (by simpa using hc)]
    exact n
theorem FpOk.nobase {b : Addr} (I : Inv X pins σ H s) (h : FpOk X pins H b) : X.base.get? b = none := by
  cases e : X.base.get? b with
  | none => rfl
  | some o =>
    rcases h.2.2.2.1 with z | z
    · exact absurd z (I.ok.noex b o e)
    · exact absurd (Nat.lt_of_lt_of_le (Nat.lt_of_lt_of_le (Heap.lt_size e) I.ok.bsz) z) (Nat.lt_irrefl _)
theorem clos_of (I : Inv X pins σ H s) {sc : Scope} {N : List Str} {cap : List (Option Nat)} (C : CompOk X sc N cap) : ∀ y ∈ sc.names, y.2 = .free → ∃ c, X.env.cells.lookup y.1 = some c := fun y hy e => I.ok.has _ (C.frees y hy e)
theorem clos_sub (I : Inv X pins σ H s) {sc : Scope} {N : List Str} {cap : List (Option Nat)} (C : CompOk X sc N cap) {x : Str} {c : Addr} (h : (closOf X.env sc.names).lookup x = some c) : X.env.cells.lookup x = some c := by
  rcases mem_closF _ _ (PySem.mem_of_lookup h) with z | ⟨y, hy, hk, e, ea⟩
  · cases z
  · obtain ⟨a, e2⟩ := clos_of I C y hy hk
    rw [e] at e2
    rw [ea, e2]
    rfl
theorem clos_has (I : Inv X pins σ H s) {sc : Scope} {N : List Str} {cap : List (Option Nat)} (C : CompOk X sc N cap) {x : Str} (h : sc.names.lookup x = some .free) : ∃ c, (closOf X.env sc.names).lookup x = some c :=
  lookup_of_mem (has_closF (y := (x, .free)) rfl _ _ (PySem.mem_of_lookup h))
theorem Inv.comp0 {sc : Scope} {N : List Str} {cap : List (Option Nat)} {ex : List Addr} {h1 : Heap} {tk : Nat} {m0 : Str → Option Value} {od : Obj} (I : Inv X pins σ H s) (C : CompOk X sc N cap)
    (hex : ∀ b ∈ ex, b < s.heap.objs.size ∧ (∀ x c, X.env.cells.lookup x = some c → c ≠ b) ∧ X.base.get? b = none ∧ b ≠ X.env.locals ∧ b ∉ X.fs)
    (hns : h1.Ns s.heap.objs.size m0) (hsb : Heap.SameBut s.heap.objs.size (s.heap.push od) h1) :
    Inv (cxC X sc N (closOf X.env sc.names) s H ex) [] (capt cap σ) H { s with heap := h1, toks := tk } := by
  have keep : ∀ b o, s.heap.get? b = some o → h1.get? b = some o := fun b o e => hsb.extBut b o (Nat.ne_of_lt (Heap.lt_size e)) (Heap.get?_push_of_some _ e)
  have cellK : ∀ {c v}, s.heap.IsCell c v → h1.IsCell c v := fun {c v} ⟨o, e, d⟩ => ⟨o, keep _ _ e, d⟩
  have kf : ∀ x, ((cxC X sc N (closOf X.env sc.names) s H ex).env.kindOf x = some .cell ∨ (cxC X sc N (closOf X.env sc.names) s H ex).env.kindOf x = some .free) → sc.names.lookup x = some .free := fun x hx => by
    have hx' : (sc.names.map (relF X.env)).lookup x = some .cell ∨ (sc.names.map (relF X.env)).lookup x = some .free := hx
    rcases lookup_relF (env := X.env) (x := x) sc.names with ⟨q1, q2⟩ | ⟨y, hy, q1, q2⟩
    · rw [q1] at hx'
      rcases hx' with z | z <;> cases z
    · rw [q2] at hx'
      rw [q1]
      rcases relF_snd X.env y with ⟨z, _⟩ | ⟨z, _⟩
      · rw [z] at hx'
        rcases hx' with w | w
        · exact absurd (Option.some.inj w) (C.ncell y hy)
        · exact w
      · rw [z]
  have fk : ∀ x, sc.names.lookup x = some .free → (cxC X sc N (closOf X.env sc.names) s H ex).env.kindOf x = some .cell ∨ (cxC X sc N (closOf X.env sc.names) s H ex).env.kindOf x = some .free := fun x hx => by
    show (sc.names.map (relF X.env)).lookup x = some .cell ∨ (sc.names.map (relF X.env)).lookup x = some .free
    rcases lookup_relF (env := X.env) (x := x) sc.names with ⟨q1, q2⟩ | ⟨y, hy, q1, q2⟩
    · rw [q2] at hx; cases hx
    · rw [q1] at hx
      have hx' : y.2 = .free := Option.some.inj hx
      rw [q2]
      rcases relF_snd X.env y with ⟨z, _⟩ | ⟨_, z⟩
      · exact .inr (by rw [z, hx'])
      · exact .inl (by rw [z])
  refine ⟨⟨I.ok.mod, C.kind, I.ok.glob, I.ok.blt, Nat.le_refl _, fun x y c e1 e2 => I.ok.inj x y c (clos_sub I C e1) (clos_sub I C e2), fun x hx => clos_has I C (kf x hx), fun x c hf => Bool.noConfusion hf, I.ok.hd, I.ok.frames, .inl rfl, fun b hb => ⟨Nat.ne_of_lt (hex b hb).1, fun x c e => (hex b hb).2.1 x c (clos_sub I C e)⟩,
      I.bs, Nat.le_trans I.ok.bsz I.sz, fun b o e hb => absurd ((hex b hb).2.2.1.symm.trans e) (by simp), fun b hb z => ?_, I.stack, I.stkFree⟩,
    rfl, I.bare, Un.kept keep, ⟨m0, hns, fun i x v e1 e2 e3 => ?_⟩, fun x c e => ?_, I.hok.fresh (Nat.le_refl _), fun x c e => I.freeC x c (clos_sub I C e), fun p hp => absurd (show p ∈ ([] : List (Addr × Obj)) from hp) (by simp), I.hok.kept keep, ?_⟩
  · rcases List.mem_cons.mp (I.stkSub b z) with e | e
    · exact (hex b hb).2.2.2.1 e
    · exact (hex b hb).2.2.2.2 e
  · have e2' : (capt cap σ)[i]? = some (some v) := e2
    unfold capt at e2'
    rw [List.getElem?_map] at e2'
    cases hc : cap[i]? with
    | none => rw [hc] at e2'; cases e2'
    | some o =>
      rw [hc] at e2'
      cases o with
      | none => cases e2'
      | some j =>
        obtain ⟨x', h1', h2', h3'⟩ := C.capt i j hc
        have ex : x' = x := Option.some.inj (h1'.symm.trans e1)
        subst ex
        have e4 : (σ[j]?).join = some v := Option.some.inj e2'
        have e5 : σ[j]? = some (some v) := by
          cases q : σ[j]? with
          | none => rw [q] at e4; cases e4
          | some z => rw [q] at e4; exact congrArg some e4
        have hfr := C.frees _ (PySem.mem_of_lookup h3') rfl
        obtain ⟨m, hn, hl⟩ := I.loc
        obtain ⟨u, r, l⟩ := hl j x' v h2' e5 (.inr hfr)
        refine ⟨u, r, ?_⟩
        rcases l with ⟨k, _⟩ | ⟨_, c, hc', z⟩
        · rcases hfr with w | w
          · exact absurd (k.symm.trans w) (by decide)
          · exact absurd (k.symm.trans w) (by decide)
        · obtain ⟨c', hc2⟩ := clos_has I C h3'
          have ec : c = c' := Option.some.inj (hc'.symm.trans (clos_sub I C hc2))
          subst ec
          exact .inr ⟨fk x' h3', c, hc2, cellK z⟩
  · obtain ⟨v, z⟩ := I.cell x c (clos_sub I C e)
    exact ⟨v, cellK z⟩
  · show (capt cap σ).length = N.length
    unfold capt
    rw [List.length_map]
    exact C.capN
def PTs (X : Cx) (ifs : List Expr) (t : TT) : Prop :=
  ∀ (pins : List (Addr × Obj)) (s : Shared) (σ : St) (H : Hp) (Q : Bool → Hp → Prop), Inv X pins σ H s → t σ H Q →
    wpAny (model X.prog X.w) X.A (forIn ifs true fun c r => if r = true then do let ok ← isTrue c X.env (eval c X.env); pure (ForInStep.yield ok) else pure (ForInStep.yield r)) (TP X pins σ Q) X.xe s
def tYes : TT := fun _ H Q => Q true H
theorem pts_nil : PTs X [] tYes := fun _ _ _ H _ I h => wpAny_tests_nil ⟨H, I, h⟩
theorem pts_one {c : Expr} {t : TT} (h : PT X c t) : PTs X [c] t := fun pins s σ H Q I hq => wpAny_tests_one (h pins s σ H Q I hq)
theorem compLoop_any {prog : Program} {w : World} {A : Around} {R : Result → Shared → Prop} {s : Shared} {elt target iter : Expr} {ifs : List Expr} {scope : Scope} {pos : Pos} {it acc : Value} {env : Env} (I : Nat → Shared → Prop)
    (turn : ∀ n s, I n s → wpAny (model prog w) A (pyNext it) (fun r s₁ => match r with
      | none => R (.ok .next) s₁
      | some v => wpAny (model prog w) A (letOwnedTupleGo target it v) (fun _ s₀ => wpAny (model prog w) A (assign target env v) (fun _ s₂ =>
          wpAny (model prog w) A (forIn ifs true fun c r => if r = true then do let ok ← isTrue c env (eval c env); pure (ForInStep.yield ok) else pure (ForInStep.yield r)) (fun ok s₃ =>
            if ok = true then wpAny (model prog w) A (eval elt env) (fun x s₄ =>
              wpAny (model prog w) A (call (.builtin "list.append") [acc, x]) (fun _ s₅ => ∃ m, m < n ∧ I m s₅) (fun _ _ => False) s₄) (fun _ _ => False) s₃
            else ∃ m, m < n ∧ I m s₃) (fun _ _ => False) s₂) (fun _ _ => False) s₀) (fun _ _ => False) s₁) (fun _ _ => False) s)
    (n : Nat) (h : I n s) : codeAny (model prog w) A (.compLoop (.ListComp elt [⟨target, iter, ifs, 0⟩] scope pos) 0 it acc env) R s := by
  refine codeAny_loop rfl I (fun n s hI => ?_) n h
  show wpAny _ A ((compTurn (.ListComp elt [⟨target, iter, ifs, 0⟩] scope pos) 0 it acc env).onRaise (fun x => do noteFrame x env; theTreesLotGoes x)) _ _ s
  refine wpAny_noted ?_
  rw [compTurn_list]
  refine wpAny_bind (wpAny_standAt (wpAny_bind (wpAny_mono (turn n s hI) (fun r s₁ h₁ => ?_) fun _ _ h' => False.elim h')))
  cases r with
  | none => exact wpAny_pure h₁
  | some v =>
    refine wpAny_bind (wpAny_mono h₁ (fun _ s₀ h₀ => ?_) fun _ _ h' => False.elim h')
    refine wpAny_bind (wpAny_mono h₀ (fun _ s₂ h₂ => wpAny_bind (wpAny_mono h₂ (fun ok s₃ h₃ => ?_) fun _ _ h' => False.elim h')) fun _ _ h' => False.elim h')
    cases ok with
    | false => exact wpAny_pure ⟨rfl, h₃⟩
    | true =>
      exact wpAny_bind (wpAny_bind (wpAny_mono h₃ (fun x s₄ h₄ => wpAny_bind (wpAny_mono h₄ (fun _ s₅ h₅ => wpAny_pure (wpAny_pure ⟨rfl, h₅⟩)) fun _ _ h' => False.elim h')) fun _ _ h' => False.elim h'))
def kst : St → St → Prop
  | [], [] => True
  | a :: r, b :: r' => (a = none ∨ a = b) ∧ kst r r'
  | _, _ => False
theorem kst_len : ∀ {a b : St}, kst a b → a.length = b.length
  | [], [], _ => rfl
  | _ :: _, _ :: _, h => congrArg (· + 1) (kst_len h.2)
  | [], _ :: _, h => h.elim
  | _ :: _, [], h => h.elim
theorem kst_get : ∀ {a b : St} (i : Nat) (v : V), kst a b → a[i]? = some (some v) → b[i]? = some (some v)
  | [], [], _, _, _, e => e
  | x :: _, y :: _, 0, v, h, e => by
    have e' : x = some v := by simpa using e
    rcases h.1 with z | z
    · rw [e'] at z; cases z
    · rw [← z, e']; rfl
  | _ :: _, _ :: _, i + 1, v, h, e => by
    have q := kst_get i v h.2 (by simpa using e)
    simpa using q
  | [], _ :: _, _, _, h, _ => h.elim
  | _ :: _, [], _, _, h, _ => h.elim
def CompW (J : It) (cap : List (Option Nat)) (g : TG) (tt : TT) (te : TE) (σ : St) (Q : VK) (H1 : Hp) : Prop := ∃ (W : Nat → List V → Hp → Prop) (n : Nat), W 0 [] H1 ∧ ∀ i ys H, W i ys H →
  (J.stop i H ∧ ∀ p, H p = none → Q (.ref p) (upd H p (.lst ys))) ∨
  (J.go i H ∧ i < n ∧ ys.length < sizeLine ∧ ∀ x H', J.yld i H x H' → g x (capt cap σ) H' fun σ2 H2 => kst (capt cap σ) σ2 ∧ tt σ2 H2 fun b H3 => if b = true then te σ2 H3 fun y H4 => W (i + 1) (ys ++ [y]) H4 else W (i + 1) ys H3)
def tComp (cap : List (Option Nat)) (wi : TI) (g : TG) (tt : TT) (te : TE) : TE := fun σ H Q => wi σ H fun J H1 => CompW J cap g tt te σ Q H1
theorem comp_run {tg iter elt : Expr} {ifs : List Expr} {sc : Scope} {pos : Pos} {N : List Str} {cap : List (Option Nat)} {g : TG} {tt : TT} {te : TE} {Q : VK} {it : Addr} {fp : List Addr} {tn : Nat → Heap → Prop} {J : It}
    (I2 : Inv X pins σ H s) (T : Turn X.prog X.w X.K tg J fp it tn) (st2 : tn 0 s.heap) (f2 : ∀ b ∈ fp, FpOk X pins H b) (hc : X.calm = true) (C : CompOk X sc N cap)
    (hg : ∀ cl s₀ H₀ ex, PG (cxC X sc N cl s₀ H₀ ex) tg g) (ht : ∀ cl s₀ H₀ ex, PTs (cxC X sc N cl s₀ H₀ ex) ifs tt) (he : ∀ cl s₀ H₀ ex, PE (cxC X sc N cl s₀ H₀ ex) elt te)
    (W : Nat → List V → Hp → Prop) (n : Nat) (w0 : W 0 [] H) (turn : ∀ i ys H, W i ys H →
      (J.stop i H ∧ ∀ p, H p = none → Q (.ref p) (upd H p (.lst ys))) ∨
      (J.go i H ∧ i < n ∧ ys.length < sizeLine ∧ ∀ x H', J.yld i H x H' → g x (capt cap σ) H' fun σ2 H2 => kst (capt cap σ) σ2 ∧ tt σ2 H2 fun b H3 => if b = true then te σ2 H3 fun y H4 => W (i + 1) (ys ++ [y]) H4 else W (i + 1) ys H3))
    {RR : Value → Addr → Result → Shared → Prop} (hRR : ∀ D Ca s' H' m, Inv X pins σ H' s' → s'.heap.Ns Ca m → FpOk X pins H' Ca → Q (.ref D) H' → RR (.ref D) Ca (.ok .next) s') {E : Value → Shared → Prop} :
    wpAny (model X.prog X.w) X.A (newList []) (fun acc s₃ => wpAny (model X.prog X.w) X.A (newFunctionEnv sc X.env.globals (closOf X.env sc.names) [] X.env.qual none .none (some X.env)) (fun cenv s₄ =>
      codeAny (model X.prog X.w) X.A (.compStart (.ListComp elt [⟨tg, iter, ifs, 0⟩] sc pos) 0 (.ref it) acc { cenv with scope := relabel sc X.env }) (RR acc cenv.locals) s₄) E s₃) E s := by
  refine wpAny_newObj_type (wpAny_newFunctionEnv C.ncell (by intro y hy; simp at hy) (fun h₁ hns₁ hsb₁ => ?_) C.kind)
  dsimp only at hns₁ hsb₁ ⊢
  have hD0 : (s.heap.push { cls := .type "list", dict := none, data := .seq ([] : List Value).toArray }).get? s.heap.objs.size = some { cls := .type "list", data := .seq ([] : List Value).toArray 0 } := Heap.get?_push_size _ rfl
  have up : ∀ b o, s.heap.get? b = some o → (s.heap.push { cls := .type "list", dict := none, data := .seq ([] : List Value).toArray }).get? b = some o := fun b o e => Heap.get?_push_of_some _ e
  have I3 : Inv X pins σ H { s with heap := s.heap.push { cls := .type "list", dict := none, data := .seq ([] : List Value).toArray } } := I2.kept (t' := s.toks) up
  have hsz : (s.heap.push { cls := .type "list", dict := none, data := .seq ([] : List Value).toArray }).objs.size = s.heap.objs.size + 1 := Heap.size_push ..
  generalize hH2 : s.heap.push { cls := .type "list", dict := none, data := .seq ([] : List Value).toArray } = G2 at hns₁ hsb₁ hD0 up I3 hsz ⊢
  generalize hDe : s.heap.objs.size = D at hD0 hsz
  have hDfresh : s.heap.objs.size ≤ D := Nat.le_of_eq hDe
  have fpD : FpOk X pins H D := I2.fpOk hDfresh (I2.hok.fresh hDfresh)
  have fplt : ∀ b ∈ fp, b < D := fun b hb => by
    obtain ⟨o, e, _⟩ := T.obj _ _ st2 b hb
    rw [← hDe]; exact Heap.lt_size e
  have hDfp : D ∉ fp := fun z => Nat.lt_irrefl _ (fplt D z)
  have hexF : ∀ b ∈ D :: fp, FpOk X pins H b := fun b hb => (List.mem_cons.mp hb).elim (fun e => e ▸ fpD) (f2 b)
  have hlt : ∀ b ∈ D :: fp, b < G2.objs.size := fun b hb => by
    rw [hsz]
    rcases List.mem_cons.mp hb with e | hb
    · rw [e]; exact Nat.lt_succ_self _
    · exact Nat.lt_succ_of_lt (fplt b hb)
  have I0 := I3.comp0 (tk := s.toks + ([] : List (Str × Value)).length) C (ex := D :: fp) (fun b hb => ⟨hlt b hb, (hexF b hb).2.2.2.2.1, (hexF b hb).nobase I2, (hexF b hb).2.1, (hexF b hb).2.2.1⟩) hns₁ hsb₁
  have keep1 : ∀ b o, G2.get? b = some o → h₁.get? b = some o := fun b o e => hsb₁.extBut b o (Nat.ne_of_lt (Heap.lt_size e)) (Heap.get?_push_of_some _ e)
  -- the records stay the block's own
  have fpY : ∀ {H' : Hp}, (∀ b ∈ D :: fp, H' b = none) → ∀ b ∈ D :: fp, FpOk (cxC X sc N (closOf X.env sc.names) { s with heap := G2 } H (D :: fp)) [] H' b := fun hn b hb =>
    ⟨hn b hb, Nat.ne_of_lt (hlt b hb), fun z => (List.mem_cons.mp (I2.stkSub b z)).elim (hexF b hb).2.1 (hexF b hb).2.2.1, .inl hb, fun x c e => (hexF b hb).2.2.2.2.1 x c (clos_sub I2 C e), fun p hp => absurd (show p ∈ ([] : List (Addr × Obj)) from hp) (by simp)⟩
  have loop : codeAny (model X.prog X.w) X.A (.compLoop (.ListComp elt [⟨tg, iter, ifs, 0⟩] sc pos) 0 (.ref it) (.ref D) (compEnvC sc (closOf X.env sc.names) G2.objs.size X.env)) (RR (.ref D) G2.objs.size) { s with heap := h₁, toks := s.toks + ([] : List (Str × Value)).length } := by
    refine compLoop_any (fun k s' => ∃ i ys its c H', k = n - i ∧ Inv (cxC X sc N (closOf X.env sc.names) { s with heap := G2 } H (D :: fp)) [] (capt cap σ) H' s' ∧ tn i s'.heap ∧ (∀ b ∈ D :: fp, H' b = none) ∧
      s'.heap.get? D = some { cls := .type "list", data := .seq (List.toArray its) c } ∧ Vals ys its ∧ ys.length ≤ sizeLine ∧ W i ys H') ?_ (n - 0)
      ⟨0, [], [], 0, H, rfl, I0, T.keep _ _ _ st2 (fun b _ o e => keep1 b o (up b o e)), fun b hb => (hexF b hb).1, keep1 _ _ hD0, .nil, Nat.zero_le _, w0⟩
    rintro k s' ⟨i, ys, its, c, H', rfl, I', st', fr', hD', rv, hyl, w'⟩
    have Ip : Inv (cxC X sc N (closOf X.env sc.names) { s with heap := G2 } H (D :: fp)) [(D, { cls := .type "list", data := .seq (List.toArray its) c })] (capt cap σ) H' s' := I'.pins_of fun p hp => by
      have e : p = (D, { cls := .type "list", data := .seq (List.toArray its) c }) := by simpa using hp
      subst e
      have z := fpY fr' D List.mem_cons_self
      exact ⟨hD', z.1, z.2.1, z.2.2.1, fun v q => by cases q⟩
    have fpP : ∀ {H'' : Hp}, (∀ b ∈ fp, H'' b = none) → ∀ b ∈ fp, FpOk (cxC X sc N (closOf X.env sc.names) { s with heap := G2 } H (D :: fp)) [(D, { cls := .type "list", data := .seq (List.toArray its) c })] H'' b := fun {H''} hn b hb => by
      have z := fpY fr' b (List.mem_cons_of_mem _ hb)
      refine ⟨hn b hb, z.2.1, z.2.2.1, z.2.2.2.1, z.2.2.2.2.1, fun p hp q => ?_⟩
      have e : p = (D, { cls := .type "list", data := .seq (List.toArray its) c }) := by
        have hp' : p ∈ ([] : List (Addr × Obj)) ++ [(D, { cls := .type "list", data := .seq (List.toArray its) c })] := hp
        simpa using hp'
      subst e
      have q' : D = b := q
      exact hDfp (by rw [q']; exact hb)
    have frF : ∀ b ∈ fp, H' b = none := fun b hb => fr' b (List.mem_cons_of_mem _ hb)
    rcases turn i ys H' w' with ⟨stop, q⟩ | ⟨go, hin, hys, step⟩
    · refine thn (T.done (cxC X sc N (closOf X.env sc.names) { s with heap := G2 } H (D :: fp)) rfl rfl rfl hc i _ s' (capt cap σ) H' (fun _ _ => False) Ip (fpP frF) st' stop) fun r s1 ⟨hr, I1⟩ => ?_
      subst hr
      have hDs : s1.heap.get? D = some { cls := .type "list", data := .seq (List.toArray its) c } := (I1.pin (D, { cls := .type "list", data := .seq (List.toArray its) c }) (List.mem_append_right _ List.mem_cons_self)).1
      obtain ⟨m1, hn1, _⟩ := id I1.loc
      have un : Un (frs X.stack) fp H H' s.heap s1.heap := by
        have b0 := I1.base
        have nD : ∀ b o, s.heap.get? b = some o → b ∉ fp → b ∉ D :: fp := fun b o e hx z => (List.mem_cons.mp z).elim (fun q => absurd (Heap.lt_size e) (by rw [q, hDe]; exact Nat.lt_irrefl _)) hx
        exact ⟨fun b o e hn hb hx => b0.keep b o (up b o e) hn hb (nD b o e hx), fun b o e hn hb hx => b0.slot b o (up b o e) hn hb (nD b o e hx), fun b o e hn hx => b0.free b o (up b o e) hn (nD b o e hx), fun b o e hx => b0.there b o (up b o e) (nD b o e hx), b0.tups, b0.frzs, b0.tbls⟩
      have IX : Inv X pins σ H' s1 := I2.call' (ch := fp) I1.os un I1.hok I1.bare fun b hb => ⟨(f2 b hb).2.2.2.1, (f2 b hb).2.1, (f2 b hb).2.2.2.2.1, (f2 b hb).2.2.2.2.2⟩
      have fD : FpOk X pins H' D := I2.fpOk hDfresh (fr' D List.mem_cons_self)
      have IT : Inv X pins σ (upd H' D (.lst ys)) s1 := IX.track fD ⟨hyl, its, c, rv, hDs⟩
      have hCD : G2.objs.size ≠ D := by rw [hsz]; exact Nat.succ_ne_self D
      have fC : FpOk X pins (upd H' D (.lst ys)) G2.objs.size := I2.fpOk (by rw [hsz, hDe]; exact Nat.le_succ _) (by rw [upd_ne hCD]; exact I1.free)
      exact hRR D G2.objs.size s1 _ m1 IT hn1 fC (q D (fr' D List.mem_cons_self))
    · refine thn (T.item (cxC X sc N (closOf X.env sc.names) { s with heap := G2 } H (D :: fp)) rfl rfl rfl hc i _ s' (capt cap σ) H' (fun _ _ => False) Ip (fpP frF) st' go) fun r s1 ⟨u, hr, h4⟩ => ?_
      subst hr
      refine thn h4 fun _ s2 ⟨x, H5, I5, r5, y5, st5, fr5⟩ => ?_
      have I5' := I5.pinned (fpP fr5) (T.obj _ _ st5)
      have back : ∀ {s8 : Shared} {σ6 : St} {H8 : Hp}, Inv (cxC X sc N (closOf X.env sc.names) { s with heap := G2 } H (D :: fp)) ([(D, { cls := .type "list", data := .seq (List.toArray its) c })] ++ pinsAt fp s2.heap) σ6 H8 s8 → kst (capt cap σ) σ6 →
          Inv (cxC X sc N (closOf X.env sc.names) { s with heap := G2 } H (D :: fp)) [] (capt cap σ) H8 s8 ∧ tn (i + 1) s8.heap ∧ (∀ b ∈ D :: fp, H8 b = none) ∧ s8.heap.get? D = some { cls := .type "list", data := .seq (List.toArray its) c } := fun {s8 σ6 H8} I8 ks => by
        have pD := I8.pin (D, { cls := .type "list", data := .seq (List.toArray its) c }) (List.mem_append_right _ (List.mem_append_left _ List.mem_cons_self))
        have pF : ∀ b ∈ fp, ∀ o, s2.heap.get? b = some o → s8.heap.get? b = some o ∧ H8 b = none := fun b hb o e => by
          have z := I8.pin (b, o) (List.mem_append_right _ (List.mem_append_right _ (mem_pinsAt hb e)))
          exact ⟨z.1, z.2.1⟩
        refine ⟨(I8.pins_of fun p hp => absurd hp (by simp)).weak (kst_len ks) fun j v e => kst_get j v ks e, T.keep _ _ _ st5 fun b hb o e => (pF b hb o e).1, fun b hb => ?_, pD.1⟩
        rcases List.mem_cons.mp hb with e | hb
        · rw [e]; exact pD.2.1
        · obtain ⟨o, e, _⟩ := T.obj _ _ st5 b hb
          exact (pF b hb o e).2
      refine thn (hg _ _ _ _ _ s2 (capt cap σ) H5 x u _ I5' r5 (step x H5 y5)) fun _ s6 ⟨σ6, H6, I6, ks, q6⟩ => ?_
      refine thn (ht _ _ _ _ _ s6 σ6 H6 _ I6 q6) fun ok s7 ⟨H7, I7, q7⟩ => ?_
      cases ok with
      | false =>
        rw [if_neg Bool.false_ne_true] at q7 ⊢
        obtain ⟨J8, st8, fr8, hD8⟩ := back I7 ks
        exact ⟨n - (i + 1), by omega, i + 1, ys, its, c, H7, rfl, J8, st8, fr8, hD8, rv, hyl, q7⟩
      | true =>
        rw [if_pos rfl] at q7 ⊢
        refine thn (he _ _ _ _ _ s7 σ6 H7 _ I7 q7) fun v s8 ⟨y, H8, I8, r8, q8⟩ => ?_
        obtain ⟨J8, st8, fr8, hD8⟩ := back I8 ks
        have lenV := rv.length
        refine append_at hD8 (fun h9 hs9 hD9 => ?_) (by rw [List.size_toArray]; omega)
        have fY := fpY fr8
        have J9 := J8.turnedL (t' := s8.toks) (h' := h9) [D] (fun b hb => by
          have e : b = D := by simpa using hb
          rw [e]
          exact fY D List.mem_cons_self) fun b o hb e => hs9.extBut b o (by simpa using hb) e
        refine ⟨n - (i + 1), by omega, i + 1, ys ++ [y], its ++ [v], c + 1, H8, rfl, J9, T.keep _ _ _ st8 fun b hb o e => hs9.extBut b o (fun q => hDfp (q ▸ hb)) e, fr8, by rw [hD9, List.push_toArray], rv.append (.cons r8 .nil), ?_, q8⟩
        rw [List.length_append, List.length_singleton]
        omega
  exact codeAny_compStart_list loop (T.self X.A 0 _ _ _ (T.keep _ _ _ st2 (fun b _ o e => keep1 b o (up b o e))) loop)
theorem pe_comp {tg iter elt : Expr} {ifs : List Expr} {sc : Scope} {pos : Pos} {N : List Str} {cap : List (Option Nat)} {wi : TI} {g : TG} {tt : TT} {te : TE} (hc : X.calm = true) (C : CompOk X sc N cap) (hi : PI X tg iter wi)
    (hg : ∀ cl s₀ H₀ ex, PG (cxC X sc N cl s₀ H₀ ex) tg g) (ht : ∀ cl s₀ H₀ ex, PTs (cxC X sc N cl s₀ H₀ ex) ifs tt) (he : ∀ cl s₀ H₀ ex, PE (cxC X sc N cl s₀ H₀ ex) elt te)
    (hs : ∀ x, foldedSetIterable iter X.env x = pure x := by intro _; rfl) : PE X (.ListComp elt [⟨tg, iter, ifs, 0⟩] sc pos) (tComp cap wi g tt te) := by
  intro pins s σ H Q I h
  rw [eval_ListComp]
  refine wpAny_comprehension_free (use := none) rfl hs (closureFor_own (clos_of I C)) C.kind C.names (thn (hi pins s σ H _ I h) fun xv s1 h1 => thn h1 fun itv s2 h2 => ?_)
  obtain ⟨it, fp, tn, J, H2, e, I2, T, st2, f2, W, n, w0, turn⟩ := h2
  subst e
  refine comp_run (Q := Q) (RR := fun acc Ca => compPost (model X.prog X.w) X.A X.xe none (EP X pins σ Q) acc Ca) I2 T st2 f2 hc C hg ht he W n w0 turn ?_
  intro D Ca s' H' m I' hn fC q
  exact ⟨m, hn, fun h' hs' => ⟨.ref D, H', I'.turnedL (t' := s'.toks) [Ca] (fun b hb => by rw [show b = Ca by simpa using hb]; exact fC) (fun b o hb e => hs'.extBut b o (by simpa using hb) e), rfl, q⟩⟩
theorem ps_setC {i : Nat} {y : Str} {tg iter elt : Expr} {ifs : List Expr} {sc : Scope} {pos spos py : Pos} {N : List Str} {cap : List (Option Nat)} {wi : TI} {g : TG} {tt : TT} {te : TE} (hN : X.N.Nodup) (hy : X.N[i]? = some y) (hx : Loc X.env.scope y) (hc : X.calm = true) (C : CompOk X sc N cap) (hi : PI X tg iter wi)
    (hg : ∀ cl s₀ H₀ ex, PG (cxC X sc N cl s₀ H₀ ex) tg g) (ht : ∀ cl s₀ H₀ ex, PTs (cxC X sc N cl s₀ H₀ ex) ifs tt) (he : ∀ cl s₀ H₀ ex, PE (cxC X sc N cl s₀ H₀ ex) elt te)
    (hsw : swapsWith (.ListComp elt [⟨tg, iter, ifs, 0⟩] sc pos) (some (.Name y py)) spos.line X.env = pure true := by rfl)
    (hs : ∀ x, foldedSetIterable iter X.env x = pure x := by intro _; rfl) (hf : X.fn y = true ∨ X.env.scope.names.lookup y = some .local := by first | exact .inl rfl | exact .inr rfl | assumption) :
    PS X (.Assign [.Name y py] (.ListComp elt [⟨tg, iter, ifs, 0⟩] sc pos) spos) (tAsg (tComp cap wi g tt te) (gName i)) := by
  intro pins s σ H Dd I h
  rw [exec_Assign_Name_used _ _ _ _ hsw]
  refine wpAny_bind (wpAny_standAt (wpAny_bind ?_))
  show wpAny _ X.A (do let _ ← comprehension (.ListComp elt [⟨tg, iter, ifs, 0⟩] sc pos) sc X.env _ (newList []) false (eval iter X.env) (some (assign (.Name y py) X.env))) _ _ s
  refine wpAny_bind (wpAny_mono (wpAny_comprehension_free (use := some (assign (.Name y py) X.env)) (Q := fun _ s' => SP X pins Dd .next s') rfl hs (closureFor_own (clos_of I C)) C.kind C.names
    (thn (hi pins s σ H _ I h) fun xv s1 h1 => thn h1 fun itv s2 h2 => ?_)) (fun _ s' hq => wpAny_pure (wpAny_pure hq)) fun _ _ e => e)
  obtain ⟨it, fp, tn, J, H2, e, I2, T, st2, f2, W, n, w0, turn⟩ := h2
  subst e
  refine comp_run (Q := fun x H1 => gName i x σ H1 Dd.nx) (RR := fun acc Ca => compPost (model X.prog X.w) X.A X.xe (some (assign (.Name y py) X.env)) (fun _ s' => SP X pins Dd .next s') acc Ca) I2 T st2 f2 hc C hg ht he W n w0 turn ?_
  intro D Ca s' H' m I' hn fC q
  show wpAny _ X.A (assign (.Name y py) X.env (.ref D)) _ _ _
  refine wpAny_assign_Name (store_ok2 I' hN hy hx (v := .ref D) rfl (fun s3 I3 ⟨a, hsb, ha⟩ => ?_) hf)
  have hCa : Ca ≠ a := by
    rcases ha with e | e
    · rw [e]; exact fC.2.1
    · exact fun z => fC.2.2.2.2.1 _ _ e z.symm
  refine ⟨m, hn.sameBut hsb hCa, fun h' hs' => ?_⟩
  exact ⟨_, H', I3.turnedL (t' := s3.toks) [Ca] (fun b hb => by rw [show b = Ca by simpa using hb]; exact fC) (fun b o hb e => hs'.extBut b o (by simpa using hb) e), q⟩
end
end L2
set_option Elab.async false
set_option linter.all false
set_option maxRecDepth 100000
namespace L2
open PySem PySem.Spec PyProof.Rows
theorem ints_of : ∀ {ns : List Int} {us : List Value}, Vals (ns.map V.int) us → IntsAre us ns
  | [], _, r => by cases r; exact .nil
  | n :: ns, _, r => by
    cases r with
    | cons r rr =>
      obtain ⟨t, rfl⟩ := r
      exact .cons n t (ints_of rr)
def Itz (K : PySem.W.Frag) (a b : Addr) : It :=
  ⟨fun i H => ∃ xs ys x y, SqL K H a xs ∧ SqL K H b ys ∧ xs[i]? = some x ∧ ys[i]? = some y,
   fun i H v H' => ∃ p x y, v = .ref p ∧ H p = none ∧ H' = upd H p (.tup [x, y]) ∧ (∀ xs, SqL K H a xs → xs[i]? = some x) ∧ (∀ ys, SqL K H b ys → ys[i]? = some y),
   fun i H => ∃ xs ys, SqL K H a xs ∧ SqL K H b ys ∧ (xs.length ≤ i ∨ ys.length ≤ i)⟩
theorem turn_zip {P : Program} {w : World} {K : PySem.W.Frag} {elts : List Expr} {kt : Nat} {pt : Pos} (z TI TO i1 i2 a b : Addr) (D : ZipApart z TI TO i1 i2 a b) :
    Turn P w K (.Tuple elts kt pt) (Itz K a b) [z, TI, TO, i1, i2] z (fun i h => IsZip h z TI TO .none ∧ IsPair h TI (.ref i1) (.ref i2) ∧ (∃ c d, IsPair h TO c d) ∧ h.IsListIter i1 a i ∧ h.IsListIter i2 b i) where
  mem := by simp
  obj := fun i h st c hc => by
    obtain ⟨hz, hTI, ⟨_, _, hTO⟩, ⟨o1, e1, c1, d1⟩, ⟨o2, e2, c2, d2⟩⟩ := st
    simp only [List.mem_cons, List.not_mem_nil, or_false] at hc
    rcases hc with rfl | rfl | rfl | rfl | rfl
    · exact ⟨_, hz, fun v q => by
        have q' : Data.fields _ = Data.cell v := q
        cases q'⟩
    · exact ⟨_, hTI, fun v q => by
        have q' : Data.seq _ _ = Data.cell v := q
        cases q'⟩
    · exact ⟨_, hTO, fun v q => by
        have q' : Data.seq _ _ = Data.cell v := q
        cases q'⟩
    · exact ⟨_, e1, fun v q => by rw [d1] at q; cases q⟩
    · exact ⟨_, e2, fun v q => by rw [d2] at q; cases q⟩
  keep := fun i h h' st k => by
    obtain ⟨hz, hTI, ⟨c, d, hTO⟩, h1, h2⟩ := st
    exact ⟨k z (by simp) _ hz, k TI (by simp) _ hTI, ⟨c, d, k TO (by simp) _ hTO⟩, h1.at fun o e => k i1 (by simp) o e, h2.at fun o e => k i2 (by simp) o e⟩
  item := by
    intro X hP hw hK hc i pins s σ H E I hf st hg
    subst hP hw hK
    obtain ⟨xs, ys, x, y, hxs, hys, hx, hy⟩ := hg
    obtain ⟨its, rv, p, hz⟩ := I.list hxs
    obtain ⟨its', rv', p', hz'⟩ := I.list hys
    obtain ⟨u, hu, ru⟩ := rv.get hx
    obtain ⟨u', hu', ru'⟩ := rv'.get hy
    obtain ⟨q1, q2, ⟨c, d, q3⟩, q4, q5⟩ := st
    refine wpAny_pyNext_zip_item D q1 q2 q3 q4 q5 p.isList p'.isList (x := u) (y := u') (by simpa using hu) (by simpa using hu') fun h' a1 a2 a3 a4 a5 a6 hk => ?_
    refine ⟨_, rfl, wpAny_letOwnedTupleGo_zip a1 fun h'' b1 hs' => ?_⟩
    have lt : ∀ {c o}, s.heap.get? c = some o → s.heap.objs.size ≠ c := fun e => Nat.ne_of_gt (Heap.lt_size e)
    have keep : ∀ b o, b ∉ [z, TI, TO, i1, i2] → s.heap.get? b = some o → h''.get? b = some o := fun b o hb e => by
      simp only [List.mem_cons, List.not_mem_nil, or_false, not_or] at hb
      exact hs'.extBut b o hb.1 (hk b o hb.1 hb.2.2.1 hb.2.2.2.1 hb.2.2.2.2 e)
    have I1 : Inv X pins σ H { s with heap := h'' } := I.turnedL (t' := s.toks) _ hf keep
    have Tn : H s.heap.objs.size = none := I.hok.fresh (Nat.le_refl _)
    have fT : FpOk X pins H s.heap.objs.size := I.fpOk (Nat.le_refl _) Tn
    have eT : h''.get? s.heap.objs.size = some { cls := .type "tuple", data := .seq #[u, u'] } := hs'.extBut _ _ (lt q1) a5
    have I2 : Inv X pins σ (upd H s.heap.objs.size (.tup [x, y])) { s with heap := h'' } := I1.track fT ⟨by show 2 ≤ sizeLine; decide, [u, u'], .cons ru (.cons ru' .nil), ⟨_, eT, rfl, _, rfl⟩⟩
    refine ⟨.ref s.heap.objs.size, _, I2, rfl, ⟨_, x, y, rfl, Tn, rfl, fun zs hz => by rw [I.list_inj hz hxs]; exact hx, fun zs hz => by rw [I.list_inj hz hys]; exact hy⟩,
      ⟨b1, hs'.extBut _ _ D.TIz (hk _ _ D.TIz D.TITO D.TIi1 D.TIi2 q2), ⟨_, _, hs'.extBut _ _ D.TOz a2⟩, a3.extBut hs'.extBut D.i1z, a4.extBut hs'.extBut D.i2z⟩, fun b hb => ?_⟩
    have e : b ≠ s.heap.objs.size := fun e => by
      simp only [List.mem_cons, List.not_mem_nil, or_false] at hb
      rcases hb with r | r | r | r | r
      · exact lt q1 (e.symm.trans r)
      · exact lt q2 (e.symm.trans r)
      · exact lt q3 (e.symm.trans r)
      · obtain ⟨_, e1, _⟩ := q4; exact lt e1 (e.symm.trans r)
      · obtain ⟨_, e1, _⟩ := q5; exact lt e1 (e.symm.trans r)
    rw [upd_ne e]
    exact (hf b hb).1
  done := by
    intro X hP hw hK hc i pins s σ H E I hf st hg
    subst hP hw hK
    obtain ⟨xs, ys, hxs, hys, hl⟩ := hg
    obtain ⟨its, rv, p, hz⟩ := I.list hxs
    obtain ⟨its', rv', p', hz'⟩ := I.list hys
    obtain ⟨q1, q2, ⟨c, d, q3⟩, q4, q5⟩ := st
    have l1 := rv.length
    have l2 := rv'.length
    have hend : its.toArray[i]? = none ∨ its'.toArray[i]? = none := by
      rcases hl with r | r
      · exact .inl (by simp; omega)
      · exact .inr (by simp; omega)
    refine wpAny_pyNext_zip_end (I.ok.hd hc) D q1 q2 q3 q4 q5 p.isList p'.isList hend fun h' hk => ⟨rfl, I.turnedL (t' := s.toks) _ hf fun b o hb e => ?_⟩
    simp only [List.mem_cons, List.not_mem_nil, or_false, not_or] at hb
    exact hk b o hb.1 hb.2.2.1 hb.2.2.2.1 hb.2.2.2.2 e
  self := fun _ _ _ _ _ st h => wpAny_pyIter_zip st.1 h
section
variable {X : Cx}
def iZip (K : PySem.W.Frag) (ta : TA) : TI := fun σ H R => ta σ H fun vs H1 => ∃ a b, vs = [.ref a, .ref b] ∧ (∃ xs, SqL K H1 a xs) ∧ (∃ ys, SqL K H1 b ys) ∧ R (Itz K a b) H1
theorem pi_zip {a b : Expr} {elts : List Expr} {kt : Nat} {pt : Pos} {ta : TA} {p pos : Pos} (hg : Gl X "zip") (hm : X.mg "zip" = none) (ha : PA X [a, b] ta) (hs : starEach [a, b] X.env = [(false, eval a X.env), (false, eval b X.env)] := by rfl) (hs2 : starEach [b] X.env = [(false, eval b X.env)] := by rfl) :
    PI X (.Tuple elts kt pt) (.Call (.Name "zip" p) [a, b] [] pos) (iZip X.K ta) := by
  intro pins s σ H R I h
  refine Call_ (ld_blt I hg hm boot_zip (PyProof.Rows.callWith_type1 (thn (ha pos pins s σ H _ I h) fun us s1 ⟨vs, H1, I1, r1, q1⟩ => ?_) (by rw [hs, hs2]) (by rw [hs2]; rfl)))
  obtain ⟨la, lb, e, ⟨xs, hxs⟩, ⟨ys, hys⟩, q⟩ := q1
  subst e
  cases r1 with
  | cons r rr =>
    cases rr with
    | cons r' rr =>
      cases rr
      cases r
      cases r'
      obtain ⟨its, rv, pl, hz⟩ := I1.list hxs
      obtain ⟨its', rv', pl', hz'⟩ := I1.list hys
      have lt1 : la < s1.heap.objs.size := by obtain ⟨_, e, _⟩ := pl.isList; exact Heap.lt_size e
      have lt2 : lb < s1.heap.objs.size := by obtain ⟨_, e, _⟩ := pl'.isList; exact Heap.lt_size e
      refine call_zip_2 pl.isList pl'.isList fun h' z1 z2 z3 z4 z5 z6 hk => wpAny_pyIter_zip z1 ?_
      refine ⟨s1.heap.objs.size + 4, [s1.heap.objs.size + 4, s1.heap.objs.size + 2, s1.heap.objs.size + 3, s1.heap.objs.size, s1.heap.objs.size + 1], _, _, H1, rfl, I1.kept (t' := s1.toks) hk, turn_zip _ _ _ _ _ la lb (zipApart_new lt1 lt2), ⟨z1, z2, ⟨_, _, z3⟩, z4, z5⟩, fun b hb => ?_, q⟩
      have hle : s1.heap.objs.size ≤ b := by
        simp only [List.mem_cons, List.not_mem_nil, or_false] at hb
        rcases hb with r | r | r | r | r <;> rw [r] <;> omega
      exact I1.fpOk hle (I1.hok.fresh hle)
theorem call_sum (hc : X.calm = true) : CallR X (.builtin "sum") (fun xs H Q => ∃ (p : Addr) (ns : List Int), xs = [.ref p] ∧ SqL X.K H p (ns.map V.int) ∧ Q (.int ns.sum) H) := by
  intro pins s σ H xs us Q I r h
  obtain ⟨p, ns, e, hq, q⟩ := h
  subst e
  cases r with
  | cons r rr =>
    cases rr
    cases r
    obtain ⟨its, rv, pl, hz⟩ := I.list hq
    have hi := ints_of rv
    obtain ⟨xs, e⟩ := hi.allInts.items
    have hns : ns = xs.toList.map (·.1) := by rw [← hi.numsOf, ← nums_intItems, ← e]
    have hl := pl.isList
    rw [e] at hl
    refine sum_intListG (I.ok.hd hc) hl fun h' tk t' hk => ⟨.int ns.sum, H, I.kept hk, ⟨t', ?_⟩, q⟩
    rw [preSum_eq, hns]
    congr 1
    rw [List.take_of_length_le (by rw [List.length_map, Array.length_toList]; exact Nat.le_refl _)]
def EqD (K : PySem.W.Frag) (H : Hp) : Nat → V → V → Prop
  | 0, x, y => x = y ∧ flatV x = true
  | n + 1, x, y => (x = y ∧ flatV x = true) ∨ ∃ (a b : Addr) (xs ys : List V), x = .ref a ∧ y = .ref b ∧ xs.length = ys.length ∧ (∀ (i : Nat) p q, xs[i]? = some p → ys[i]? = some q → EqD K H n p q) ∧ ((SqL K H a xs ∧ SqL K H b ys) ∨ (SqT K H a xs ∧ SqT K H b ys))
theorem eqV_self {x : V} (h : flatV x = true) : eqV x x = true := by
  cases x with
  | non => rfl
  | bl b => simp [eqV]
  | int b => simp [eqV]
  | str b => simp [eqV]
  | byt b => cases h
  | flt b => cases h
  | ref b => cases h
  | ty b => cases h
theorem EqD.at {pins : List (Addr × Obj)} {σ : St} {H : Hp} {s : Shared} (I : Inv X pins σ H s) : ∀ (n : Nat) {A : Around} {x y : V} {u v : Value}, A.units + n < cLine → RelV x u → RelV y v → EqD X.K H n x y → SeqAt.EqAt A s u v true
  | 0, A, x, y, u, v, _, rx, ry, h => by
    obtain ⟨rfl, f⟩ := h
    have q := eqAt_V (A := A) (s := s) rx ry f f
    rwa [eqV_self f] at q
  | n + 1, A, x, y, u, v, hu, rx, ry, h => by
    rcases h with ⟨rfl, f⟩ | ⟨a, b, xs, ys, rfl, rfl, hl, he, hs⟩
    · have q := eqAt_V (A := A) (s := s) rx ry f f
      rwa [eqV_self f] at q
    · cases rx
      cases ry
      by_cases hab : a = b
      · subst hab; exact SeqAt.EqAt.same _
      refine SeqAt.EqAt.of_refs hab ?_
      have uin : A.in1.units + n < cLine := by show A.units + 1 + n < cLine; omega
      have sub : ∀ {its its' : List Value}, Vals xs its → Vals ys its' → ∀ (j : Nat) (h1 : j < its.toArray.size) (h2 : j < its'.toArray.size), SeqAt.EqAt A.in1 s its.toArray[j] its'.toArray[j] true := fun {its its'} r r' j h1 h2 => by
        have l1 := r.length
        have l2 := r'.length
        rw [List.size_toArray] at h1 h2
        obtain ⟨p, hp⟩ : ∃ p, xs[j]? = some p := ⟨_, List.getElem?_eq_getElem (by omega)⟩
        obtain ⟨q, hq⟩ : ∃ q, ys[j]? = some q := ⟨_, List.getElem?_eq_getElem (by omega)⟩
        obtain ⟨u1, e1, r1⟩ := r.get hp
        obtain ⟨u2, e2, r2⟩ := r'.get hq
        have z1 : its.toArray[j] = u1 := by
          have := List.getElem?_eq_getElem h1
          rw [this] at e1
          simpa using e1
        have z2 : its'.toArray[j] = u2 := by
          have := List.getElem?_eq_getElem h2
          rw [this] at e2
          simpa using e2
        rw [z1, z2]
        exact EqD.at I n uin r1 r2 (he j p q hp hq)
      have all1 : ∀ k : Nat, (List.range k).all (fun _ => true) = true := fun k => by simp
      rcases hs with ⟨ha, hb⟩ | ⟨ha, hb⟩
      · obtain ⟨its, rv, pl, hz⟩ := I.list ha
        obtain ⟨its', rv', pl', hz'⟩ := I.list hb
        have l1 := rv.length
        have l2 := rv'.length
        have q := SeqAt.RcAt.lists (A := A) (e := fun _ => true) pl.isList pl'.isList (by rw [List.size_toArray, List.size_toArray]; omega) (by omega) (sub rv rv')
        rwa [all1] at q
      · obtain ⟨its, rv, pl, hz⟩ := I.tuple ha
        obtain ⟨its', rv', pl', hz'⟩ := I.tuple hb
        have l1 := rv.length
        have l2 := rv'.length
        have q := SeqAt.RcAt.tuples (A := A) (e := fun _ => true) (show s.heap.IsTuple a its.toArray from pl) (show s.heap.IsTuple b its'.toArray from pl') (by omega) (sub rv rv')
        rw [all1] at q
        have e : (its.toArray.size == its'.toArray.size) = true := by rw [List.size_toArray, List.size_toArray]; simp; omega
        rwa [e] at q
end
end L2
set_option linter.all false
namespace My
def goodW (row : List Int) (g : Int) : Int := if g = -1 then 0 else row.getD g.toNat 0
def okG (row : List Int) (g : Int) : Prop := g = -1 ∨ (0 ≤ g ∧ g < (row.length : Int))
def dealW (ws : List (List Int)) (d : List Int) : Int := ((ws.zip d).map fun p => goodW p.1 p.2).sum
def rangeI (lo : Int) (n : Nat) : List Int := (List.range n).map fun (i : Nat) => lo + (i : Int)
def freeG (d : List Int) (goods : Int) : List Int := -1 :: (rangeI 0 goods.toNat).filter (fun g => !decide (g ∈ d))
def moreD (goods : Int) (d : List Int) : List (List Int) := (freeG d goods).map fun g => d ++ [g]
def allD (goods : Int) : Nat → List (List Int)
  | 0 => [[]]
  | n + 1 => (allD goods n).flatMap (moreD goods)
def stepB (ws : List (List Int)) (b : Int × List Int) (d : List Int) : Int × List Int := if dealW ws d > b.1 then (dealW ws d, d) else b
def best (ws : List (List Int)) (goods : Int) : Int × List Int := (allD goods ws.length).foldl (stepB ws) (-1, [])
def okW (goods : Int) (ws : List (List Int)) : Prop := ∀ row ∈ ws, (row.length : Int) = goods ∧ ∀ v ∈ row, 0 ≤ v ∧ v ≤ 1000
def okD (goods : Int) (d : List Int) : Prop := ∀ g ∈ d, g = -1 ∨ (0 ≤ g ∧ g < goods)
theorem mem_rangeI {lo : Int} {n : Nat} {g : Int} : g ∈ rangeI lo n ↔ lo ≤ g ∧ g < lo + (n : Int) := by
  unfold rangeI
  rw [List.mem_map]
  constructor
  · rintro ⟨i, hi, rfl⟩
    have := List.mem_range.mp hi
    omega
  · rintro ⟨h1, h2⟩
    exact ⟨(g - lo).toNat, List.mem_range.mpr (by omega), by omega⟩
theorem rangeI_len (lo : Int) (n : Nat) : (rangeI lo n).length = n := by simp [rangeI]
theorem rangeI_get {lo : Int} {n i : Nat} (h : i < n) : (rangeI lo n)[i]? = some (lo + (i : Int)) := by
  unfold rangeI
  rw [List.getElem?_map, List.getElem?_range h]
  rfl
theorem rangeI_succ (lo : Int) (n : Nat) : rangeI lo (n + 1) = rangeI lo n ++ [lo + (n : Int)] := by
  simp [rangeI, List.range_succ]
theorem mem_freeG {d : List Int} {goods g : Int} : g ∈ freeG d goods ↔ g = -1 ∨ (0 ≤ g ∧ g < goods ∧ g ∉ d) := by
  unfold freeG
  rw [List.mem_cons, List.mem_filter, mem_rangeI]
  constructor
  · rintro (h | ⟨⟨h1, h2⟩, h3⟩)
    · exact .inl h
    · exact .inr ⟨h1, by omega, by simpa using h3⟩
  · rintro (h | ⟨h1, h2, h3⟩)
    · exact .inl h
    · exact .inr ⟨⟨h1, by omega⟩, by simpa using h3⟩
def Deal (goods : Int) (d : List Int) : Prop := okD goods d ∧ (d.filter (fun g => decide (0 ≤ g))).Nodup
theorem mem_moreD {goods : Int} {d e : List Int} : e ∈ moreD goods d ↔ ∃ g, g ∈ freeG d goods ∧ e = d ++ [g] := by
  unfold moreD
  rw [List.mem_map]
  constructor
  · rintro ⟨g, h, rfl⟩; exact ⟨g, h, rfl⟩
  · rintro ⟨g, h, rfl⟩; exact ⟨g, h, rfl⟩
theorem mem_allD {goods : Int} : ∀ {n : Nat} {d : List Int}, d ∈ allD goods n ↔ d.length = n ∧ Deal goods d
  | 0, d => by
    show d ∈ [[]] ↔ _
    rw [List.mem_singleton]
    constructor
    · rintro rfl; exact ⟨rfl, fun g h => (nomatch h), List.nodup_nil⟩
    · rintro ⟨h, _⟩; exact List.length_eq_zero_iff.mp h
  | n + 1, d => by
    show d ∈ (allD goods n).flatMap (moreD goods) ↔ _
    rw [List.mem_flatMap]
    constructor
    · rintro ⟨e, he, hd⟩
      obtain ⟨g, hg, rfl⟩ := mem_moreD.mp hd
      obtain ⟨hl, ho, hn⟩ := mem_allD.mp he
      refine ⟨by simp [hl], fun x hx => ?_, ?_⟩
      · rcases List.mem_append.mp hx with hx | hx
        · exact ho x hx
        · rw [List.mem_singleton.mp hx]
          rcases mem_freeG.mp hg with z | ⟨z1, z2, _⟩
          · exact .inl z
          · exact .inr ⟨z1, z2⟩
      · rw [List.filter_append]
        rcases mem_freeG.mp hg with z | ⟨z1, z2, z3⟩
        · subst z
          simpa using hn
        · have e1 : [g].filter (fun g => decide (0 ≤ g)) = [g] := by simp [z1]
          rw [e1, List.nodup_append]
          refine ⟨hn, by simp, fun a ha b hb e => ?_⟩
          rw [List.mem_singleton.mp hb] at e
          rw [e] at ha
          exact z3 (List.mem_filter.mp ha).1
    · rintro ⟨hl, ho, hn⟩
      obtain ⟨e, g, rfl⟩ : ∃ e g, d = e ++ [g] := by
        have hne : d ≠ [] := by intro h; rw [h] at hl; simp at hl
        exact ⟨d.dropLast, d.getLast hne, (List.dropLast_concat_getLast hne).symm⟩
      have hle : e.length = n := by simpa using hl
      rw [List.filter_append, List.nodup_append] at hn
      refine ⟨e, mem_allD.mpr ⟨hle, fun x hx => ho x (List.mem_append_left _ hx), hn.1⟩, mem_moreD.mpr ⟨g, mem_freeG.mpr ?_, rfl⟩⟩
      rcases ho g (List.mem_append_right _ List.mem_cons_self) with z | ⟨z1, z2⟩
      · exact .inl z
      · refine .inr ⟨z1, z2, fun hge => ?_⟩
        have a1 : g ∈ e.filter (fun g => decide (0 ≤ g)) := List.mem_filter.mpr ⟨hge, by simpa using z1⟩
        exact hn.2.2 g a1 g (by simp [z1]) rfl
theorem len_freeG (d : List Int) (goods : Int) : (freeG d goods).length ≤ goods.toNat + 1 := by
  unfold freeG
  rw [List.length_cons]
  have := List.length_filter_le (fun g => !decide (g ∈ d)) (rangeI 0 goods.toNat)
  rw [rangeI_len] at this
  omega
theorem len_flatMap {α β : Type} (f : α → List β) (k : Nat) (h : ∀ a, (f a).length ≤ k) : ∀ l : List α, (l.flatMap f).length ≤ l.length * k
  | [] => by simp
  | a :: l => by
    rw [List.flatMap_cons, List.length_append, List.length_cons, Nat.succ_mul]
    have := len_flatMap f k h l
    have := h a
    omega
theorem len_moreD (goods : Int) (d : List Int) : (moreD goods d).length ≤ goods.toNat + 1 := by
  unfold moreD
  rw [List.length_map]
  exact len_freeG d goods
theorem len_allD {goods : Int} (hg : goods ≤ 4) : ∀ n : Nat, (allD goods n).length ≤ 5 ^ n
  | 0 => by simp [allD]
  | n + 1 => by
    show ((allD goods n).flatMap (moreD goods)).length ≤ _
    have h1 := len_flatMap (moreD goods) 5 (fun a => by have := len_moreD goods a; omega) (allD goods n)
    have h2 := len_allD hg n
    rw [Nat.pow_succ]
    exact Nat.le_trans h1 (Nat.mul_le_mul_right 5 h2)
theorem allD_ne {goods : Int} {n : Nat} : allD goods n ≠ [] := by
  intro h
  have : List.replicate n (-1 : Int) ∈ allD goods n := mem_allD.mpr ⟨by simp, fun g hg => .inl (List.eq_of_mem_replicate hg), by
    have : (List.replicate n (-1 : Int)).filter (fun g => decide (0 ≤ g)) = [] := by
      rw [List.filter_eq_nil_iff]
      intro a ha
      rw [List.eq_of_mem_replicate ha]
      decide
    rw [this]
    exact List.nodup_nil⟩
  rw [h] at this
  cases this
theorem goodW_nn {goods : Int} {row : List Int} {g : Int} (h : ∀ v ∈ row, 0 ≤ v) : 0 ≤ goodW row g := by
  unfold goodW
  split
  · omega
  · by_cases hg : g.toNat < row.length
    · rw [List.getD_eq_getElem?_getD, List.getElem?_eq_getElem hg]
      exact h _ (List.getElem_mem hg)
    · rw [List.getD_eq_getElem?_getD, List.getElem?_eq_none (by omega)]
      exact Int.le_refl _
theorem sum_nn : ∀ {l : List Int}, (∀ v ∈ l, 0 ≤ v) → 0 ≤ l.sum
  | [], _ => by simp
  | a :: l, h => by
    rw [List.sum_cons]
    have h1 := h a List.mem_cons_self
    have h2 := sum_nn (l := l) fun v hv => h v (List.mem_cons_of_mem _ hv)
    omega
theorem dealW_nn {goods : Int} {ws : List (List Int)} (h : okW goods ws) (d : List Int) : 0 ≤ dealW ws d := by
  unfold dealW
  refine sum_nn fun v hv => ?_
  obtain ⟨p, hp, rfl⟩ := List.mem_map.mp hv
  have hp1 := (List.of_mem_zip (a := p.1) (b := p.2) hp).1
  exact goodW_nn (goods := goods) fun v hv => ((h p.1 hp1).2 v hv).1
theorem fold_best {α : Type} (f : α → Int) : ∀ (l : List α) (b : Int × α),
    ((l.foldl (fun (b : Int × α) d => if f d > b.1 then (f d, d) else b) b) = b ∧ ∀ a ∈ l, f a ≤ b.1) ∨
    (∃ M x, l.foldl (fun (b : Int × α) d => if f d > b.1 then (f d, d) else b) b = (M, x) ∧ b.1 < M ∧ f x = M ∧ (∀ a ∈ l, f a ≤ M) ∧ ∃ l1 l2, l = l1 ++ x :: l2 ∧ ∀ a ∈ l1, f a < M)
  | [], b => .inl ⟨rfl, fun a h => nomatch h⟩
  | d :: l, b => by
    rw [List.foldl_cons]
    by_cases h : f d > b.1
    · rw [if_pos h]
      rcases fold_best f l (f d, d) with ⟨e, q⟩ | ⟨M, x, e, h1, h2, h3, l1, l2, e2, h4⟩
      · refine .inr ⟨f d, d, e, h, rfl, fun a ha => ?_, [], l, rfl, fun a ha => nomatch ha⟩
        rcases List.mem_cons.mp ha with rfl | ha
        · exact Int.le_refl _
        · exact q a ha
      · refine .inr ⟨M, x, e, Int.lt_trans h h1, h2, fun a ha => ?_, d :: l1, l2, by rw [e2]; rfl, fun a ha => ?_⟩
        · rcases List.mem_cons.mp ha with rfl | ha
          · exact Int.le_of_lt h1
          · exact h3 a ha
        · rcases List.mem_cons.mp ha with rfl | ha
          · exact h1
          · exact h4 a ha
    · rw [if_neg h]
      rcases fold_best f l b with ⟨e, q⟩ | ⟨M, x, e, h1, h2, h3, l1, l2, e2, h4⟩
      · refine .inl ⟨e, fun a ha => ?_⟩
        rcases List.mem_cons.mp ha with rfl | ha
        · omega
        · exact q a ha
      · refine .inr ⟨M, x, e, h1, h2, fun a ha => ?_, d :: l1, l2, by rw [e2]; rfl, fun a ha => ?_⟩
        · rcases List.mem_cons.mp ha with rfl | ha
          · omega
          · exact h3 a ha
        · rcases List.mem_cons.mp ha with rfl | ha
          · omega
          · exact h4 a ha
theorem best_spec {goods : Int} {ws : List (List Int)} (h : okW goods ws) : (best ws goods).2 ∈ allD goods ws.length ∧ dealW ws (best ws goods).2 = (best ws goods).1 ∧ (∀ d ∈ allD goods ws.length, dealW ws d ≤ (best ws goods).1) ∧
    ((allD goods ws.length).filter (fun d => decide (dealW ws d = (best ws goods).1))).head? = some (best ws goods).2 := by
  have e : best ws goods = (allD goods ws.length).foldl (fun (b : Int × List Int) d => if dealW ws d > b.1 then (dealW ws d, d) else b) (-1, []) := rfl
  rcases fold_best (dealW ws) (allD goods ws.length) (-1, []) with ⟨_, q⟩ | ⟨M, x, e1, h1, h2, h3, l1, l2, e2, h4⟩
  · obtain ⟨a, ha⟩ := List.exists_mem_of_ne_nil _ (allD_ne (goods := goods) (n := ws.length))
    have z1 := q a ha
    have z2 := dealW_nn h a
    have z3 : dealW ws a ≤ -1 := z1
    omega
  · rw [← e] at e1
    rw [e1]
    refine ⟨by rw [e2]; exact List.mem_append_right _ List.mem_cons_self, h2, h3, ?_⟩
    show ((allD goods ws.length).filter (fun d => decide (dealW ws d = M))).head? = some x
    rw [e2, List.filter_append]
    have z : l1.filter (fun d => decide (dealW ws d = M)) = [] := by
      rw [List.filter_eq_nil_iff]
      intro a ha
      have := h4 a ha
      simp
      omega
    rw [z, List.nil_append, List.filter_cons, if_pos (by simpa using h2)]
    rfl
end My
set_option linter.all false
namespace My
def payZ (ws : List (List Int)) (goods : Int) (k : Nat) : Int := (best (ws.eraseIdx k) goods).1 - dealW (ws.eraseIdx k) ((best ws goods).2.eraseIdx k)
theorem dealW_cons (r : List Int) (ws : List (List Int)) (g : Int) (d : List Int) : dealW (r :: ws) (g :: d) = goodW r g + dealW ws d := by
  unfold dealW
  rw [List.zip_cons_cons, List.map_cons, List.sum_cons]
theorem dealW_split : ∀ (ws : List (List Int)) (d : List Int) (k : Nat) (r : List Int) (g : Int), ws[k]? = some r → d[k]? = some g → dealW ws d = goodW r g + dealW (ws.eraseIdx k) (d.eraseIdx k)
  | [], _, _, _, _, h, _ => by simp at h
  | _ :: _, [], _, _, _, _, h => by simp at h
  | a :: ws, b :: d, 0, r, g, h1, h2 => by
    simp at h1 h2
    subst h1 h2
    rw [dealW_cons]
    rfl
  | a :: ws, b :: d, k + 1, r, g, h1, h2 => by
    have ih := dealW_split ws d k r g (by simpa using h1) (by simpa using h2)
    rw [dealW_cons, ih, List.eraseIdx_cons_succ, List.eraseIdx_cons_succ, dealW_cons]
    omega
theorem okW_erase {goods : Int} {ws : List (List Int)} (h : okW goods ws) (k : Nat) : okW goods (ws.eraseIdx k) := fun r hr => h r (List.mem_of_mem_eraseIdx hr)
theorem okW_set {goods : Int} {ws : List (List Int)} {t : List Int} (h : okW goods ws) (ht : (t.length : Int) = goods ∧ ∀ v ∈ t, 0 ≤ v ∧ v ≤ 1000) (k : Nat) : okW goods (ws.set k t) := fun r hr => by
  rcases List.mem_or_eq_of_mem_set hr with h1 | h1
  · exact h r h1
  · rw [h1]; exact ht
theorem erase_set {α : Type} : ∀ (ws : List α) (k : Nat) (t : α), (ws.set k t).eraseIdx k = ws.eraseIdx k
  | [], _, _ => rfl
  | _ :: _, 0, _ => rfl
  | _ :: ws, k + 1, t => by
    rw [List.set_cons_succ, List.eraseIdx_cons_succ, List.eraseIdx_cons_succ, erase_set ws k t]
theorem best_mem {goods : Int} {ws : List (List Int)} (h : okW goods ws) : (best ws goods).2 ∈ allD goods ws.length := (best_spec h).1
theorem best_len {goods : Int} {ws : List (List Int)} (h : okW goods ws) : (best ws goods).2.length = ws.length := (mem_allD.mp (best_mem h)).1
end My
set_option linter.all false
namespace My
theorem nd1 {α : Type} {a : α} : ([a] : List α).Nodup := by simp
theorem nd2 {α : Type} {a b : α} (h : a ≠ b) : ([a, b] : List α).Nodup := by simp [h]
theorem nd3 {α : Type} {a b c : α} (h1 : a ≠ b) (h2 : a ≠ c) (h3 : b ≠ c) : ([a, b, c] : List α).Nodup := by simp [h1, h2, h3]
theorem nd4 {α : Type} {a b c d : α} (h1 : a ≠ b) (h2 : a ≠ c) (h3 : a ≠ d) (h4 : b ≠ c) (h5 : b ≠ d) (h6 : c ≠ d) : ([a, b, c, d] : List α).Nodup := by simp [h1, h2, h3, h4, h5, h6]
def lexLt : List Int → List Int → Prop
  | [], [] => False
  | [], _ :: _ => True
  | _ :: _, [] => False
  | a :: as, b :: bs => a < b ∨ (a = b ∧ lexLt as bs)
theorem lex_irr : ∀ a : List Int, ¬ lexLt a a
  | [], h => h
  | a :: as, h => by
    rcases h with h | ⟨_, h⟩
    · omega
    · exact lex_irr as h
theorem lex_asymm : ∀ {a b : List Int}, lexLt a b → lexLt b a → False
  | [], [], h, _ => h
  | [], _ :: _, _, h => h
  | _ :: _, [], h, _ => h
  | a :: as, b :: bs, h1, h2 => by
    rcases h1 with h1 | ⟨e, h1⟩ <;> rcases h2 with h2 | ⟨e2, h2⟩
    · omega
    · omega
    · omega
    · exact lex_asymm h1 h2
theorem lex_trans : ∀ {a b c : List Int}, lexLt a b → lexLt b c → lexLt a c
  | [], [], _, h, _ => h.elim
  | [], _ :: _, [], _, h => h.elim
  | [], _ :: _, _ :: _, _, _ => trivial
  | _ :: _, [], _, h, _ => h.elim
  | _ :: _, _ :: _, [], _, h => h.elim
  | a :: as, b :: bs, c :: cs, h1, h2 => by
    rcases h1 with h1 | ⟨e, h1⟩ <;> rcases h2 with h2 | ⟨e2, h2⟩
    · exact .inl (by omega)
    · exact .inl (by omega)
    · exact .inl (by omega)
    · exact .inr ⟨by omega, lex_trans h1 h2⟩
theorem lex_total : ∀ (a b : List Int), a = b ∨ lexLt a b ∨ lexLt b a
  | [], [] => .inl rfl
  | [], _ :: _ => .inr (.inl trivial)
  | _ :: _, [] => .inr (.inr trivial)
  | a :: as, b :: bs => by
    by_cases h1 : a < b
    · exact .inr (.inl (.inl h1))
    · by_cases h2 : b < a
      · exact .inr (.inr (.inl h2))
      · have e : a = b := by omega
        subst e
        rcases lex_total as bs with h | h | h
        · exact .inl (by rw [h])
        · exact .inr (.inl (.inr ⟨rfl, h⟩))
        · exact .inr (.inr (.inr ⟨rfl, h⟩))
theorem lex_app : ∀ {a b : List Int} (x y : List Int), a.length = b.length → lexLt a b → lexLt (a ++ x) (b ++ y)
  | [], [], _, _, _, h => h.elim
  | [], _ :: _, _, _, h, _ => by simp at h
  | _ :: _, [], _, _, h, _ => by simp at h
  | a :: as, b :: bs, x, y, hl, h => by
    rcases h with h | ⟨e, h⟩
    · exact .inl h
    · exact .inr ⟨e, lex_app x y (by simpa using hl) h⟩
theorem lex_tail : ∀ (a : List Int) {x y : List Int}, lexLt x y → lexLt (a ++ x) (a ++ y)
  | [], _, _, h => h
  | a :: as, _, _, h => .inr ⟨rfl, lex_tail as h⟩
theorem first_of {l : List (List Int)} (hp : l.Pairwise lexLt) {f : List Int → Bool} {d : List Int} (hd : (l.filter f).head? = some d) : d ∈ l ∧ f d = true ∧ ∀ e ∈ l, f e = true → e = d ∨ lexLt d e := by
  have hp2 := hp.filter f
  have hm := List.mem_of_mem_head? hd
  obtain ⟨h1, h2⟩ := List.mem_filter.mp hm
  refine ⟨h1, h2, fun e he hf => ?_⟩
  have hme : e ∈ l.filter f := List.mem_filter.mpr ⟨he, hf⟩
  revert hp2 hd hme
  generalize l.filter f = l2
  intro hd hp2 hme
  cases l2 with
  | nil => cases hme
  | cons a l2 =>
    simp at hd
    subst hd
    rcases List.mem_cons.mp hme with z | z
    · exact .inl z
    · exact .inr ((List.pairwise_cons.mp hp2).1 e z)
def pieW (row : List Int) (c : Int) : Int := (row.take c.toNat).sum
def totP (ws : List (List Int)) (d : List Int) : Int := ((ws.zip d).map fun p => pieW p.1 p.2).sum
def Feas : Int → List (List Int) → List Int → Prop
  | p, [], [] => 0 ≤ p
  | p, w :: ws, c :: d => 0 ≤ c ∧ c ≤ (w.length : Int) ∧ Feas (p - c) ws d
  | _, [], _ :: _ => False
  | _, _ :: _, [] => False
def okH (ws : List (List Int)) : Prop := ∀ row ∈ ws, row.length ≤ 5 ∧ (∀ v ∈ row, 0 ≤ v ∧ v ≤ 1000) ∧ row.Pairwise (fun a b => b ≤ a)
theorem feas_len : ∀ {p : Int} {ws : List (List Int)} {d : List Int}, Feas p ws d → d.length = ws.length
  | _, [], [], _ => rfl
  | _, w :: ws, c :: d, h => by rw [List.length_cons, List.length_cons, feas_len h.2.2]
  | _, [], _ :: _, h => h.elim
  | _, _ :: _, [], h => h.elim
theorem feas_sum : ∀ {p : Int} {ws : List (List Int)} {d : List Int}, Feas p ws d → 0 ≤ d.sum ∧ d.sum ≤ p
  | _, [], [], h => ⟨by simp, by rw [List.sum_nil]; exact h⟩
  | p, w :: ws, c :: d, h => by
    have z := feas_sum h.2.2
    have := h.1
    rw [List.sum_cons]
    omega
  | _, [], _ :: _, h => h.elim
  | _, _ :: _, [], h => h.elim
theorem feas_p {p : Int} {ws : List (List Int)} {d : List Int} (h : Feas p ws d) : 0 ≤ p := by have := feas_sum h; omega
theorem feas_get : ∀ {p : Int} {ws : List (List Int)} {d : List Int} {k : Nat} {r : List Int} {c : Int}, Feas p ws d → ws[k]? = some r → d[k]? = some c → 0 ≤ c ∧ c ≤ (r.length : Int) ∧ c ≤ p
  | _, [], [], _, _, _, _, h, _ => by simp at h
  | p, w :: ws, c :: d, 0, r, c2, h, h1, h2 => by
    simp at h1 h2
    subst h1 h2
    have := feas_p h.2.2
    exact ⟨h.1, h.2.1, by omega⟩
  | p, w :: ws, c :: d, k + 1, r, c2, h, h1, h2 => by
    have z := feas_get (k := k) (r := r) (c := c2) h.2.2 (by simpa using h1) (by simpa using h2)
    have := h.1
    exact ⟨z.1, z.2.1, by omega⟩
  | _, [], _ :: _, _, _, _, h, _, _ => h.elim
  | _, _ :: _, [], _, _, _, h, _, _ => h.elim
theorem feas_iff : ∀ {p : Int} {ws : List (List Int)} {d : List Int} {k : Nat} {r : List Int} {c : Int}, ws[k]? = some r → d[k]? = some c → (Feas p ws d ↔ 0 ≤ c ∧ c ≤ (r.length : Int) ∧ Feas (p - c) (ws.eraseIdx k) (d.eraseIdx k))
  | _, [], _, _, _, _, h, _ => by simp at h
  | _, _ :: _, [], _, _, _, _, h => by simp at h
  | p, w :: ws, x :: d, 0, r, c, h1, h2 => by
    simp at h1 h2
    subst h1 h2
    exact Iff.rfl
  | p, w :: ws, x :: d, k + 1, r, c, h1, h2 => by
    have ih := feas_iff (p := p - x) (ws := ws) (d := d) (k := k) (r := r) (c := c) (by simpa using h1) (by simpa using h2)
    rw [List.eraseIdx_cons_succ, List.eraseIdx_cons_succ]
    show (0 ≤ x ∧ x ≤ (w.length : Int) ∧ Feas (p - x) ws d) ↔ (0 ≤ c ∧ c ≤ (r.length : Int) ∧ (0 ≤ x ∧ x ≤ (w.length : Int) ∧ Feas (p - c - x) (ws.eraseIdx k) (d.eraseIdx k)))
    rw [ih, show p - x - c = p - c - x by omega]
    constructor
    · rintro ⟨a, b, c, d, e⟩; exact ⟨c, d, a, b, e⟩
    · rintro ⟨a, b, c, d, e⟩; exact ⟨c, d, a, b, e⟩
theorem feas_snoc : ∀ {p : Int} {ws : List (List Int)} {w : List Int} {d : List Int} {c : Int}, d.length = ws.length → (Feas p (ws ++ [w]) (d ++ [c]) ↔ Feas p ws d ∧ 0 ≤ c ∧ c ≤ (w.length : Int) ∧ c ≤ p - d.sum)
  | p, [], w, [], c, _ => by
    show (0 ≤ c ∧ c ≤ (w.length : Int) ∧ 0 ≤ p - c) ↔ (0 ≤ p ∧ 0 ≤ c ∧ c ≤ (w.length : Int) ∧ c ≤ p - ([] : List Int).sum)
    rw [List.sum_nil]
    omega
  | p, a :: ws, w, x :: d, c, h => by
    have ih := feas_snoc (p := p - x) (ws := ws) (w := w) (d := d) (c := c) (by simpa using h)
    show (0 ≤ x ∧ x ≤ (a.length : Int) ∧ Feas (p - x) (ws ++ [w]) (d ++ [c])) ↔ ((0 ≤ x ∧ x ≤ (a.length : Int) ∧ Feas (p - x) ws d) ∧ 0 ≤ c ∧ c ≤ (w.length : Int) ∧ c ≤ p - (x :: d).sum)
    rw [ih, List.sum_cons, show p - (x + d.sum) = p - x - d.sum by omega]
    constructor
    · rintro ⟨a, b, c, d⟩; exact ⟨⟨a, b, c⟩, d⟩
    · rintro ⟨⟨a, b, c⟩, d⟩; exact ⟨a, b, c, d⟩
  | _, [], _, _ :: _, _, h => by simp at h
  | _, _ :: _, _, [], _, h => by simp at h
def moreC (p : Int) (one row : List Int) : List (List Int) := (rangeI 0 (min (one.length : Int) (p - row.sum) + 1).toNat).map fun c => row ++ [c]
def allC (p : Int) (ws : List (List Int)) : List (List Int) := ws.foldl (fun rows one => rows.flatMap (moreC p one)) [[]]
theorem allC_snoc (p : Int) (ws : List (List Int)) (w : List Int) : allC p (ws ++ [w]) = (allC p ws).flatMap (moreC p w) := by
  unfold allC
  rw [List.foldl_append]
  rfl
theorem mem_moreC {p : Int} {one row e : List Int} : e ∈ moreC p one row ↔ ∃ c, e = row ++ [c] ∧ 0 ≤ c ∧ c ≤ (one.length : Int) ∧ c ≤ p - row.sum := by
  unfold moreC
  rw [List.mem_map]
  constructor
  · rintro ⟨c, hc, rfl⟩
    have := mem_rangeI.mp hc
    exact ⟨c, rfl, by omega, by omega, by omega⟩
  · rintro ⟨c, rfl, h1, h2, h3⟩
    exact ⟨c, mem_rangeI.mpr ⟨h1, by omega⟩, rfl⟩
theorem rev_ind {α : Type} {Q : List α → Prop} (h0 : Q []) (h1 : ∀ l a, Q l → Q (l ++ [a])) (l : List α) : Q l := by
  rw [← List.reverse_reverse l]
  induction l.reverse with
  | nil => exact h0
  | cons a l ih => rw [List.reverse_cons]; exact h1 _ _ ih
theorem mem_allC {p : Int} (hp : 0 ≤ p) (ws : List (List Int)) : ∀ d, d ∈ allC p ws ↔ Feas p ws d := by
  refine rev_ind (Q := fun ws => ∀ d, d ∈ allC p ws ↔ Feas p ws d) (fun d => ?_) (fun ws w ih d => ?_) ws
  · show d ∈ [[]] ↔ _
    rw [List.mem_singleton]
    cases d with
    | nil => exact ⟨fun _ => hp, fun _ => rfl⟩
    | cons a d => exact ⟨fun h => (nomatch h), fun h => False.elim h⟩
  · rw [allC_snoc, List.mem_flatMap]
    constructor
    · rintro ⟨e, he, hd⟩
      obtain ⟨c, rfl, h1, h2, h3⟩ := mem_moreC.mp hd
      have hf := (ih e).mp he
      exact (feas_snoc (feas_len hf)).mpr ⟨hf, h1, h2, h3⟩
    · intro hf
      have hl := feas_len hf
      obtain ⟨e, c, rfl⟩ : ∃ e c, d = e ++ [c] := by
        have hne : d ≠ [] := by intro h; rw [h] at hl; simp at hl
        exact ⟨d.dropLast, d.getLast hne, (List.dropLast_concat_getLast hne).symm⟩
      obtain ⟨h0, h1, h2, h3⟩ := (feas_snoc (by simpa using hl)).mp hf
      exact ⟨e, (ih e).mpr h0, mem_moreC.mpr ⟨c, rfl, h1, h2, h3⟩⟩
theorem lex_moreC (p : Int) (one row : List Int) : (moreC p one row).Pairwise lexLt := by
  unfold moreC rangeI
  rw [List.map_map, List.pairwise_map]
  refine List.Pairwise.imp (fun {a b} h => ?_) List.pairwise_lt_range
  refine lex_tail row (.inl ?_)
  show (0 : Int) + (a : Int) < 0 + (b : Int)
  have : a < b := h
  omega
theorem lex_allC {p : Int} (hp : 0 ≤ p) (ws : List (List Int)) : (allC p ws).Pairwise lexLt := by
  refine rev_ind (Q := fun ws => (allC p ws).Pairwise lexLt) (List.pairwise_singleton _ _) (fun ws w ih => ?_) ws
  rw [allC_snoc, List.pairwise_flatMap]
  refine ⟨fun a _ => lex_moreC p w a, ?_⟩
  have hl : ∀ a ∈ allC p ws, a.length = ws.length := fun a ha => feas_len ((mem_allC hp ws a).mp ha)
  refine List.Pairwise.imp_of_mem (fun {a b} ha hb h x hx y hy => ?_) ih
  obtain ⟨c, rfl, _⟩ := mem_moreC.mp hx
  obtain ⟨c2, rfl, _⟩ := mem_moreC.mp hy
  exact lex_app _ _ (by rw [hl a ha, hl b hb]) h
theorem zeros_feas : ∀ {p : Int} (hp : 0 ≤ p) (ws : List (List Int)), Feas p ws (List.replicate ws.length 0)
  | p, hp, [] => hp
  | p, hp, w :: ws => ⟨Int.le_refl 0, by omega, by rw [Int.sub_zero]; exact zeros_feas hp ws⟩
theorem pieW_nn {row : List Int} (h : ∀ v ∈ row, 0 ≤ v) (c : Int) : 0 ≤ pieW row c := sum_nn fun v hv => h v (List.mem_of_mem_take hv)
theorem totP_nn {ws : List (List Int)} (h : okH ws) (d : List Int) : 0 ≤ totP ws d := by
  unfold totP
  refine sum_nn fun v hv => ?_
  obtain ⟨p, hp, rfl⟩ := List.mem_map.mp hv
  exact pieW_nn (fun v hv => ((h p.1 (List.of_mem_zip (a := p.1) (b := p.2) hp).1).2.1 v hv).1) _
structure BestP (p : Int) (ws : List (List Int)) (m : Int) (d : List Int) : Prop where
  feas : Feas p ws d
  val : totP ws d = m
  le : ∀ e, Feas p ws e → totP ws e ≤ m
  first : ∀ e, Feas p ws e → totP ws e = m → e = d ∨ lexLt d e
theorem BestP.uniq {p : Int} {ws : List (List Int)} {m m2 : Int} {d d2 : List Int} (h : BestP p ws m d) (h2 : BestP p ws m2 d2) : m = m2 ∧ d = d2 := by
  have e : m = m2 := by
    have a := h.le _ h2.feas
    have b := h2.le _ h.feas
    rw [h2.val] at a
    rw [h.val] at b
    omega
  subst e
  refine ⟨rfl, ?_⟩
  rcases h.first _ h2.feas h2.val with z | z
  · exact z.symm
  rcases h2.first _ h.feas h.val with y | y
  · exact y
  · exact (lex_asymm z y).elim
def bestP (p : Int) (ws : List (List Int)) : Int × List Int := (allC p ws).foldl (fun (b : Int × List Int) d => if totP ws d > b.1 then (totP ws d, d) else b) (-1, [])
theorem best_ofC {p m : Int} {ws : List (List Int)} {d : List Int} (hp : 0 ≤ p) (h2 : ∀ e ∈ allC p ws, totP ws e ≤ m) (h3 : ((allC p ws).filter (fun e => decide (totP ws e = m))).head? = some d) : BestP p ws m d := by
  obtain ⟨a, b, c⟩ := first_of (lex_allC hp ws) h3
  exact ⟨(mem_allC hp ws d).mp a, of_decide_eq_true b, fun e he => h2 e ((mem_allC hp ws e).mpr he), fun e he hv => c e ((mem_allC hp ws e).mpr he) (decide_eq_true hv)⟩
theorem bestP_spec {p : Int} {ws : List (List Int)} (hp : 0 ≤ p) (h : okH ws) : BestP p ws (bestP p ws).1 (bestP p ws).2 := by
  have e : bestP p ws = (allC p ws).foldl (fun (b : Int × List Int) d => if totP ws d > b.1 then (totP ws d, d) else b) (-1, []) := rfl
  rcases fold_best (totP ws) (allC p ws) (-1, []) with ⟨_, q⟩ | ⟨M, x, e1, h1, h2, h3, l1, l2, e2, h4⟩
  · have z1 : totP ws (List.replicate ws.length 0) ≤ -1 := q _ ((mem_allC hp ws _).mpr (zeros_feas hp ws))
    have z2 := totP_nn h (List.replicate ws.length 0)
    omega
  · rw [← e] at e1
    rw [e1]
    refine best_ofC hp h3 ?_
    rw [e2, List.filter_append]
    have z : l1.filter (fun d => decide (totP ws d = M)) = [] := by
      rw [List.filter_eq_nil_iff]
      intro a ha
      have := h4 a ha
      simp
      omega
    rw [z, List.nil_append, List.filter_cons, if_pos (by simpa using h2)]
    rfl
theorem best_eqP {p m : Int} {ws : List (List Int)} {d : List Int} (hp : 0 ≤ p) (h : okH ws) (hb : BestP p ws m d) : bestP p ws = (m, d) := by
  obtain ⟨a, b⟩ := (bestP_spec hp h).uniq hb
  rw [← a, ← b]
theorem bestP_len {p : Int} {ws : List (List Int)} (hp : 0 ≤ p) (h : okH ws) : (bestP p ws).2.length = ws.length := feas_len (bestP_spec hp h).feas
def payP (p : Int) (ws : List (List Int)) (k : Nat) : Int := (bestP p (ws.eraseIdx k)).1 - totP (ws.eraseIdx k) ((bestP p ws).2.eraseIdx k)
theorem totP_cons (r : List Int) (ws : List (List Int)) (g : Int) (d : List Int) : totP (r :: ws) (g :: d) = pieW r g + totP ws d := by
  unfold totP
  rw [List.zip_cons_cons, List.map_cons, List.sum_cons]
theorem totP_split : ∀ (ws : List (List Int)) (d : List Int) (k : Nat) (r : List Int) (g : Int), ws[k]? = some r → d[k]? = some g → totP ws d = pieW r g + totP (ws.eraseIdx k) (d.eraseIdx k)
  | [], _, _, _, _, h, _ => by simp at h
  | _ :: _, [], _, _, _, _, h => by simp at h
  | a :: ws, b :: d, 0, r, g, h1, h2 => by
    simp at h1 h2
    subst h1 h2
    rw [totP_cons]
    rfl
  | a :: ws, b :: d, k + 1, r, g, h1, h2 => by
    have ih := totP_split ws d k r g (by simpa using h1) (by simpa using h2)
    rw [totP_cons, ih, List.eraseIdx_cons_succ, List.eraseIdx_cons_succ, totP_cons]
    omega
theorem okH_erase {ws : List (List Int)} (h : okH ws) (k : Nat) : okH (ws.eraseIdx k) := fun r hr => h r (List.mem_of_mem_eraseIdx hr)
theorem okH_set {ws : List (List Int)} {t : List Int} (h : okH ws) (ht : t.length ≤ 5 ∧ (∀ v ∈ t, 0 ≤ v ∧ v ≤ 1000) ∧ t.Pairwise (fun a b => b ≤ a)) (k : Nat) : okH (ws.set k t) := fun r hr => by
  rcases List.mem_or_eq_of_mem_set hr with h1 | h1
  · exact h r h1
  · rw [h1]; exact ht
def putV (c : Int) : Nat → List Int → List Int
  | 0, d => c :: d
  | k + 1, [] => [c]
  | k + 1, a :: d => a :: putV c k d
theorem putV_get (c : Int) : ∀ (k : Nat) (d : List Int), k ≤ d.length → (putV c k d)[k]? = some c
  | 0, _, _ => rfl
  | k + 1, [], h => by simp at h
  | k + 1, a :: d, h => by
    have := putV_get c k d (by simpa using h)
    simpa [putV] using this
theorem putV_erase (c : Int) : ∀ (k : Nat) (d : List Int), k ≤ d.length → (putV c k d).eraseIdx k = d
  | 0, _, _ => rfl
  | k + 1, [], h => by simp at h
  | k + 1, a :: d, h => by
    show (a :: putV c k d).eraseIdx (k + 1) = _
    rw [List.eraseIdx_cons_succ, putV_erase c k d (by simpa using h)]
theorem feas_put {p c : Int} {ws : List (List Int)} {k : Nat} {t e : List Int} (hk : ws[k]? = some t) (hf : Feas (p - c) (ws.eraseIdx k) e) (c0 : 0 ≤ c) (c1 : c ≤ (t.length : Int)) : Feas p ws (putV c k e) ∧ totP ws (putV c k e) = pieW t c + totP (ws.eraseIdx k) e := by
  have hkl : k < ws.length := (List.getElem?_eq_some_iff.mp hk).1
  have hl : (ws.eraseIdx k).length = ws.length - 1 := List.length_eraseIdx_of_lt hkl
  have hle := feas_len hf
  have hg := putV_get c k e (by omega)
  have he := putV_erase c k e (by omega)
  refine ⟨(feas_iff hk hg).mpr ⟨c0, c1, by rw [he]; exact hf⟩, ?_⟩
  rw [totP_split ws _ k t c hk hg, he]
theorem payP_same {p : Int} {ws : List (List Int)} {k : Nat} {t lie : List Int} {c : Int} (hp : 0 ≤ p) (h : okH ws) (hk : ws[k]? = some t) (hl : okH (ws.set k lie)) (h1 : (bestP p ws).2[k]? = some c) (h2 : (bestP p (ws.set k lie)).2[k]? = some c) : payP p (ws.set k lie) k = payP p ws k := by
  have hkl : k < ws.length := (List.getElem?_eq_some_iff.mp hk).1
  have hkl2 : (ws.set k lie)[k]? = some lie := by rw [List.getElem?_set_self hkl]
  have A := bestP_spec hp h
  have B := bestP_spec hp hl
  have a1 := (feas_iff hk h1).mp A.feas
  have b1 := (feas_iff hkl2 h2).mp B.feas
  rw [erase_set] at b1
  obtain ⟨x1, x2⟩ := feas_put (p := p) (c := c) hk b1.2.2 a1.1 a1.2.1
  obtain ⟨y1, y2⟩ := feas_put (p := p) (c := c) hkl2 (by rw [erase_set]; exact a1.2.2) b1.1 b1.2.1
  have x3 := A.le _ x1
  have y3 := B.le _ y1
  have e1 := totP_split ws _ k t c hk h1
  have e2 := totP_split _ _ k lie c hkl2 h2
  rw [A.val] at e1
  rw [B.val] at e2
  rw [erase_set] at y2 e2
  unfold payP
  rw [erase_set]
  omega
end My
set_option linter.all false
namespace My
def costR (cs row : List Int) : Int := (row.map fun r => cs.getD r.toNat 0).sum
def LeastR (C : List Int → Prop) (cs : List Int) : Option (Int × List Int) → Prop
  | none => ∀ e, ¬ C e
  | some (m, d) => C d ∧ costR cs d = m ∧ ∀ e, C e → m < costR cs e ∨ (m = costR cs e ∧ (e = d ∨ lexLt d e))
section
variable {C C' : List Int → Prop} {cs : List Int} {o o' : Option (Int × List Int)} {m : Int} {d x : List Int}
theorem LeastR.le (h : LeastR C cs (some (m, d))) {e : List Int} (he : C e) : m ≤ costR cs e := by
  rcases h.2.2 e he with z | z
  · omega
  · omega
theorem LeastR.uniq (h : LeastR C cs o) (h' : LeastR C cs o') : o = o' := by
  cases o with
  | none =>
    cases o' with
    | none => rfl
    | some p => exact absurd h'.1 (h p.2)
  | some p =>
    obtain ⟨m, d⟩ := p
    cases o' with
    | none => exact absurd h.1 (h' d)
    | some p' =>
      obtain ⟨m', d'⟩ := p'
      have a := h.le h'.1
      have b := h'.le h.1
      have e1 := h.2.1
      have e2 := h'.2.1
      have em : m = m' := by omega
      subst em
      have ed : d' = d := by
        rcases h.2.2 d' h'.1 with z | ⟨_, z | z⟩
        · omega
        · exact z
        · rcases h'.2.2 d h.1 with y | ⟨_, y | y⟩
          · omega
          · exact y.symm
          · exact (lex_asymm z y).elim
      rw [ed]
theorem LeastR.clash {p : Int × List Int} (h : LeastR C cs (some p)) (h' : LeastR C cs none) : False := h' _ h.1
theorem LeastR.congr (hc : ∀ e, C e ↔ C' e) (h : LeastR C cs o) : LeastR C' cs o := by
  cases o with
  | none => exact fun e z => h e ((hc e).mpr z)
  | some p => exact ⟨(hc _).mp h.1, h.2.1, fun e z => h.2.2 e ((hc e).mpr z)⟩
end
def without (C : List Int → Prop) (r : Int) : List Int → Prop := fun e => C e ∧ r ∉ e
theorem costR_cons (cs : List Int) (r : Int) (row : List Int) : costR cs (r :: row) = cs.getD r.toNat 0 + costR cs row := rfl
theorem costR_off {cs : List Int} {r x : Int} : ∀ {row : List Int}, (∀ v ∈ row, 0 ≤ v) → 0 ≤ r → r ∉ row → costR (cs.set r.toNat x) row = costR cs row
  | [], _, _, _ => rfl
  | v :: row, h, h0, hn => by
    have v0 := h v List.mem_cons_self
    have hne : r ≠ v := fun e => hn (by rw [e]; exact List.mem_cons_self)
    rw [costR_cons, costR_cons, costR_off (fun v hv => h v (List.mem_cons_of_mem _ hv)) h0 (fun z => hn (List.mem_cons_of_mem _ z)), List.getD_eq_getElem?_getD, List.getD_eq_getElem?_getD, List.getElem?_set_ne (by omega)]
theorem costR_on {cs : List Int} {r x c : Int} : ∀ {row : List Int}, (∀ v ∈ row, 0 ≤ v) → row.Nodup → 0 ≤ r → r ∈ row → cs[r.toNat]? = some c → costR (cs.set r.toNat x) row = costR cs row - c + x
  | [], _, _, _, hm, _ => nomatch hm
  | v :: row, h, hn, h0, hm, hc => by
    have v0 := h v List.mem_cons_self
    obtain ⟨hv, hn2⟩ := List.nodup_cons.mp hn
    have h2 : ∀ v ∈ row, 0 ≤ v := fun v hv => h v (List.mem_cons_of_mem _ hv)
    have hlt := (List.getElem?_eq_some_iff.mp hc).1
    rw [costR_cons, costR_cons]
    by_cases e : r = v
    · subst e
      rw [costR_off h2 h0 hv, List.getD_eq_getElem?_getD, List.getD_eq_getElem?_getD, List.getElem?_set_self hlt, hc]
      show x + _ = c + _ - c + x
      omega
    · have hm2 : r ∈ row := (List.mem_cons.mp hm).resolve_left e
      rw [costR_on h2 hn2 h0 hm2 hc, List.getD_eq_getElem?_getD, List.getD_eq_getElem?_getD, List.getElem?_set_ne (by omega)]
      omega
def Rows (n : Nat) (C : List Int → Prop) : Prop := ∀ e, C e → (∀ v ∈ e, 0 ≤ v ∧ v < (n : Int)) ∧ e.Nodup
section
variable {n : Nat} {C : List Int → Prop} {cs : List Int} {r x c : Int} {m m' o o' : Int} {d d' e e' : List Int}
theorem least_without (hR : Rows n C) (h0 : 0 ≤ r) {q : Option (Int × List Int)} (h : LeastR (without C r) cs q) : LeastR (without C r) (cs.set r.toNat x) q := by
  have off : ∀ e, without C r e → costR (cs.set r.toNat x) e = costR cs e := fun e he => costR_off (fun v hv => ((hR e he.1).1 v hv).1) h0 he.2
  cases q with
  | none => exact h
  | some p =>
    refine ⟨h.1, by rw [off _ h.1]; exact h.2.1, fun e he => ?_⟩
    rw [off e he]
    exact h.2.2 e he
theorem gets_lie (hR : Rows n C) (h0 : 0 ≤ r) (hc : cs[r.toNat]? = some c) (h : LeastR C cs (some (m, d))) (h2 : LeastR C (cs.set r.toNat x) (some (m', d'))) (hd : r ∈ d') : m' = costR cs d' - c + x ∧ m ≤ costR cs d' := by
  refine ⟨?_, h.le h2.1⟩
  rw [← h2.2.1, costR_on (fun v hv => ((hR d' h2.1).1 v hv).1) (hR d' h2.1).2 h0 hd hc]
theorem gets_same (hR : Rows n C) (h0 : 0 ≤ r) (hc : cs[r.toNat]? = some c) (h : LeastR C cs (some (m, d))) (h2 : LeastR C (cs.set r.toNat x) (some (m', d'))) (hd : r ∈ d) (hd' : r ∈ d')
    (hw : LeastR (without C r) cs (some (o, e))) (hw2 : LeastR (without C r) (cs.set r.toNat x) (some (o', e'))) : o - m + c = o' - m' + x := by
  have z := LeastR.uniq (least_without (x := x) hR h0 hw) hw2
  cases z
  obtain ⟨a, b⟩ := gets_lie hR h0 hc h h2 hd'
  have b2 := h2.le h.1
  rw [costR_on (fun v hv => ((hR d h.1).1 v hv).1) (hR d h.1).2 h0 hd hc] at b2
  have := h.2.1
  omega
end
inductive GetsR (C : List Int → Prop) (cs : List Int) (n : Nat) (m : Int) (d : List Int) : List Int ⊕ Int → Prop
  | all (gs : List Int) (hl : gs.length = n) (hin : ∀ r : Int, r ∈ d → ∃ o e c, LeastR (without C r) cs (some (o, e)) ∧ cs[r.toNat]? = some c ∧ gs[r.toNat]? = some (o - m + c)) (hout : ∀ (r : Nat), r < n → (r : Int) ∉ d → gs[r]? = some 0) : GetsR C cs n m d (.inl gs)
  | one (a b : List Int) (r : Int) (hd : d = a ++ r :: b) (hb : ∀ v ∈ a, ∃ o, LeastR (without C v) cs (some o)) (hn : LeastR (without C r) cs none) : GetsR C cs n m d (.inr r)
theorem GetsR.uniq {C : List Int → Prop} {cs : List Int} {n : Nat} {m : Int} {d : List Int} {x y : List Int ⊕ Int} (hd : ∀ v ∈ d, 0 ≤ v ∧ v < (n : Int)) (h : GetsR C cs n m d x) (h' : GetsR C cs n m d y) : x = y := by
  cases h with
  | all gs hl hin hout =>
    cases h' with
    | all gs' hl' hin' hout' =>
      congr 1
      refine List.ext_getElem? fun i => ?_
      by_cases hi : i < n
      · by_cases hm : (i : Int) ∈ d
        · obtain ⟨o, e, c, a1, a2, a3⟩ := hin _ hm
          obtain ⟨o', e', c', b1, b2, b3⟩ := hin' _ hm
          rw [Int.toNat_natCast] at a2 a3 b2 b3
          have z := LeastR.uniq a1 b1
          cases z
          rw [a2] at b2
          cases b2
          rw [a3, b3]
        · rw [hout i hi hm, hout' i hi hm]
      · rw [List.getElem?_eq_none (by omega), List.getElem?_eq_none (by omega)]
    | one a b r e hb hn =>
      obtain ⟨o, e', c, a1, _⟩ := hin r (by rw [e]; exact List.mem_append_right _ List.mem_cons_self)
      exact nomatch LeastR.uniq a1 hn
  | one a b r e hb hn =>
    cases h' with
    | all gs hl hin hout =>
      obtain ⟨o, e', c, a1, _⟩ := hin r (by rw [e]; exact List.mem_append_right _ List.mem_cons_self)
      exact nomatch LeastR.uniq a1 hn
    | one a' b' r' e' hb' hn' =>
      congr 1
      rw [e] at e'
      clear e hd
      have key : ∀ (a a' : List Int), (∀ v ∈ a, ∃ o, LeastR (without C v) cs (some o)) → (∀ v ∈ a', ∃ o, LeastR (without C v) cs (some o)) → a ++ r :: b = a' ++ r' :: b' → r = r' := by
        intro a
        induction a with
        | nil =>
          intro a' _ h2 e
          cases a' with
          | nil => injection e
          | cons v a' =>
            injection e with e1 e2
            obtain ⟨o, ho⟩ := h2 v List.mem_cons_self
            rw [← e1] at ho
            exact nomatch LeastR.uniq ho hn
        | cons v a ih =>
          intro a' h1 h2 e
          cases a' with
          | nil =>
            injection e with e1 e2
            obtain ⟨o, ho⟩ := h1 v List.mem_cons_self
            rw [e1] at ho
            exact nomatch LeastR.uniq ho hn'
          | cons v' a' =>
            injection e with e1 e2
            exact ih a' (fun v hv => h1 v (List.mem_cons_of_mem _ hv)) (fun v hv => h2 v (List.mem_cons_of_mem _ hv)) e2
      exact key a a' hb hb' e'
section
variable {C : List Int → Prop} {cs gs gs' : List Int} {n : Nat} {m m' c k g g' x : Int} {d d' : List Int}
theorem gets_at (G : GetsR C cs n m d (.inl gs)) (hc : cs[k.toNat]? = some c) (hg : gs[k.toNat]? = some g) (hd : k ∈ d) : ∃ o e, LeastR (without C k) cs (some (o, e)) ∧ g = o - m + c := by
  cases G with
  | all _ hl hin hout =>
    obtain ⟨o, e, c', h1, h2, h3⟩ := hin k hd
    rw [hc] at h2
    cases h2
    rw [hg] at h3
    exact ⟨o, e, h1, Option.some.inj h3⟩
theorem gets_len (G : GetsR C cs n m d (.inl gs)) : gs.length = n := by
  cases G with
  | all _ hl hin hout => exact hl
end
end My
set_option linter.all false
namespace My
section
variable {goods : Int} {ws : List (List Int)} {k : Nat} {t lie : List Int} {g : Int}
theorem payZ_same (h : okW goods ws) (hk : ws[k]? = some t) (hl : okW goods (ws.set k lie)) (h1 : (best ws goods).2[k]? = some g) (h2 : (best (ws.set k lie) goods).2[k]? = some g) : payZ (ws.set k lie) goods k = payZ ws goods k := by
  have hkl : k < ws.length := (List.getElem?_eq_some_iff.mp hk).1
  have hkl2 : (ws.set k lie)[k]? = some lie := by rw [List.getElem?_set_self hkl]
  have hlen : (ws.set k lie).length = ws.length := List.length_set ..
  have a := (best_spec h).2.2.1 _ (by rw [← hlen]; exact best_mem hl)
  have b := (best_spec hl).2.2.1 _ (by rw [hlen]; exact best_mem h)
  have a1 := (best_spec h).2.1
  have b1 := (best_spec hl).2.1
  rw [dealW_split ws _ k t g hk h2] at a
  rw [dealW_split ws _ k t g hk h1] at a1
  rw [dealW_split _ _ k lie g hkl2 h1] at b
  rw [dealW_split _ _ k lie g hkl2 h2] at b1
  rw [erase_set] at b b1
  unfold payZ
  rw [erase_set]
  omega
end
end My
set_option linter.all false
namespace My
def posR (r : List Int) : List Int := r.filter fun v => decide (0 < v)
def wantF : Int → List (List Int) → List (Int × Int)
  | _, [] => []
  | i, r :: ws => (posR r).map (fun v => (v, i)) ++ wantF (i + 1) ws
def desc (a b : Int × Int) : Prop := b.1 < a.1 ∨ (b.1 = a.1 ∧ b.2 ≤ a.2)
theorem wantF_ge : ∀ {i : Int} {ws : List (List Int)} {x : Int × Int}, x ∈ wantF i ws → i ≤ x.2 ∧ x.2 < i + (ws.length : Int) ∧ 0 < x.1
  | _, [], _, h => nomatch h
  | i, r :: ws, x, h => by
    rw [List.length_cons]
    rcases List.mem_append.mp h with h | h
    · obtain ⟨v, hv, rfl⟩ := List.mem_map.mp h
      have hv2 := of_decide_eq_true (List.mem_filter.mp hv).2
      refine ⟨Int.le_refl _, ?_, hv2⟩
      show i < i + ((ws.length + 1 : Nat) : Int)
      omega
    · have := wantF_ge h
      omega
theorem wantF_at : ∀ {i : Int} {ws : List (List Int)} {j : Nat} {r : List Int}, ws[j]? = some r → (wantF i ws).filter (fun x => decide (x.2 = i + (j : Int))) = (posR r).map (fun v => (v, i + (j : Int)))
  | _, [], _, _, h => by simp at h
  | i, a :: ws, 0, r, h => by
    simp at h
    subst h
    show ((posR a).map _ ++ wantF (i + 1) ws).filter _ = _
    rw [List.filter_append]
    have e1 : (wantF (i + 1) ws).filter (fun x => decide (x.2 = i + ((0 : Nat) : Int))) = [] := by
      rw [List.filter_eq_nil_iff]
      intro x hx
      have := wantF_ge hx
      simp
      omega
    rw [e1, List.append_nil, List.filter_eq_self.mpr]
    · simp
    · intro x hx
      obtain ⟨v, _, rfl⟩ := List.mem_map.mp hx
      simp
  | i, a :: ws, j + 1, r, h => by
    have ih := wantF_at (i := i + 1) (ws := ws) (j := j) (r := r) (by simpa using h)
    show ((posR a).map _ ++ wantF (i + 1) ws).filter _ = _
    rw [List.filter_append]
    have e1 : ((posR a).map fun v => (v, i)).filter (fun x => decide (x.2 = i + ((j + 1 : Nat) : Int))) = [] := by
      rw [List.filter_eq_nil_iff]
      intro x hx
      obtain ⟨v, _, rfl⟩ := List.mem_map.mp hx
      simp
      omega
    have e2 : i + ((j + 1 : Nat) : Int) = i + 1 + (j : Int) := by omega
    rw [e1, List.nil_append, e2]
    exact ih
theorem wantF_snoc : ∀ (i : Int) (ws : List (List Int)) (r : List Int), wantF i (ws ++ [r]) = wantF i ws ++ (posR r).map (fun v => (v, i + (ws.length : Int)))
  | i, [], r => by
    show (posR r).map _ ++ [] = [] ++ _
    simp
  | i, a :: ws, r => by
    show (posR a).map _ ++ wantF (i + 1) (ws ++ [r]) = ((posR a).map _ ++ wantF (i + 1) ws) ++ _
    rw [wantF_snoc (i + 1) ws r, List.append_assoc, List.length_cons, show i + 1 + (ws.length : Int) = i + ((ws.length + 1 : Nat) : Int) by omega]
theorem wantF_len : ∀ (i : Int) {ws : List (List Int)}, okH ws → (wantF i ws).length ≤ 5 * ws.length
  | _, [], _ => Nat.le_refl _
  | i, r :: ws, h => by
    have z := wantF_len (i + 1) fun x hx => h x (List.mem_cons_of_mem _ hx)
    have z2 := (h r List.mem_cons_self).1
    have z3 := List.length_filter_le (fun v => decide (0 < v)) r
    show ((posR r).map _ ++ wantF (i + 1) ws).length ≤ _
    rw [List.length_append, List.length_map, List.length_cons]
    unfold posR
    omega
theorem posR_snoc (r : List Int) (v : Int) : posR (r ++ [v]) = posR r ++ (if 0 < v then [v] else []) := by
  unfold posR
  rw [List.filter_append, List.filter_cons]
  by_cases h : 0 < v
  · rw [if_pos (by simpa using h), if_pos h]; rfl
  · rw [if_neg (by simpa using h), if_neg h]; rfl
theorem pos_split : ∀ {r : List Int}, r.Pairwise (fun a b => b ≤ a) → ∃ z, r = posR r ++ z ∧ ∀ v ∈ z, v ≤ 0
  | [], _ => ⟨[], rfl, fun _ h => nomatch h⟩
  | a :: r, h => by
    obtain ⟨h1, h2⟩ := List.pairwise_cons.mp h
    by_cases c : 0 < a
    · obtain ⟨z, e, hz⟩ := pos_split h2
      refine ⟨z, ?_, hz⟩
      unfold posR
      rw [List.filter_cons, if_pos (by simpa using c), List.cons_append]
      congr 1
    · refine ⟨a :: r, ?_, fun v hv => ?_⟩
      · have e : posR (a :: r) = [] := by
          unfold posR
          rw [List.filter_eq_nil_iff]
          intro v hv
          rcases List.mem_cons.mp hv with z | z
          · simp; omega
          · have := h1 v z
            simp; omega
        rw [e, List.nil_append]
      · rcases List.mem_cons.mp hv with z | z
        · omega
        · have := h1 v z
          omega
theorem perm_desc : ∀ {l m : List Int}, l.Perm m → l.Pairwise (fun a b => b ≤ a) → m.Pairwise (fun a b => b ≤ a) → l = m
  | [], m, h, _, _ => (List.nil_perm.mp h).symm
  | a :: l, m, h, h1, h2 => by
    cases m with
    | nil => exact absurd h.length_eq (by simp)
    | cons b m =>
      obtain ⟨p1, p2⟩ := List.pairwise_cons.mp h1
      obtain ⟨q1, q2⟩ := List.pairwise_cons.mp h2
      have ha : a ∈ b :: m := h.mem_iff.mp List.mem_cons_self
      have hb : b ∈ a :: l := h.mem_iff.mpr List.mem_cons_self
      have e : a = b := by
        rcases List.mem_cons.mp ha with z | z
        · exact z
        rcases List.mem_cons.mp hb with y | y
        · exact y.symm
        have := q1 a z
        have := p1 b y
        omega
      subst e
      rw [perm_desc (List.Perm.cons_inv h) p2 q2]
theorem sum_ind (f : Nat → Int) (i t c : Int) : ∀ n : Nat, i ≤ t → ((List.range n).map fun j => f j + if t = i + (j : Int) then c else 0).sum = ((List.range n).map f).sum + if t < i + (n : Int) then c else 0
  | 0, h => by
    rw [if_neg (by omega)]
    rfl
  | n + 1, h => by
    rw [List.range_succ, List.map_append, List.map_append, List.sum_append, List.sum_append, sum_ind f i t c n h]
    simp only [List.map_cons, List.map_nil, List.sum_cons, List.sum_nil]
    by_cases c1 : t < i + (n : Int)
    · rw [if_pos c1, if_neg (by omega), if_pos (by omega)]; omega
    · rw [if_neg c1]
      by_cases c2 : t = i + (n : Int)
      · rw [if_pos c2, if_pos (by omega)]; omega
      · rw [if_neg c2, if_neg (by omega)]; omega
theorem split_sum (g : Int × Int → Int) (i : Int) (n : Nat) : ∀ l : List (Int × Int), (∀ x ∈ l, i ≤ x.2 ∧ x.2 < i + (n : Int)) → ((List.range n).map fun (j : Nat) => ((l.filter fun x => decide (x.2 = i + (j : Int))).map g).sum).sum = (l.map g).sum
  | [], _ => by
    have : ∀ m : Nat, ((List.range m).map fun (j : Nat) => (([] : List (Int × Int)).map g).sum).sum = 0 := fun m => by
      induction m with
      | zero => rfl
      | succ m ih => rw [List.range_succ, List.map_append, List.sum_append, ih]; rfl
    exact this n
  | x :: l, h => by
    have ih := split_sum g i n l fun y hy => h y (List.mem_cons_of_mem _ hy)
    have hx := h x List.mem_cons_self
    have e : (fun (j : Nat) => (((x :: l).filter fun x => decide (x.2 = i + (j : Int))).map g).sum) = fun (j : Nat) => ((l.filter fun x => decide (x.2 = i + (j : Int))).map g).sum + if x.2 = i + (j : Int) then g x else 0 := by
      funext j
      rw [List.filter_cons]
      by_cases c : x.2 = i + (j : Int)
      · rw [if_pos (by simpa using c), if_pos c, List.map_cons, List.sum_cons]; omega
      · rw [if_neg (by simpa using c), if_neg c]; omega
    rw [e, sum_ind _ i x.2 (g x) n hx.1, ih, if_pos hx.2, List.map_cons, List.sum_cons]
    omega
inductive Cut (p q : Int) : Int → List (List Int) → List Int → Prop
  | nil (i : Int) : Cut p q i [] []
  | cons {i : Int} {A T : List Int} {ws : List (List Int)} {d : List Int} (hA : ∀ a ∈ A, p ≤ a ∧ (i < q → p < a)) (hT : ∀ t ∈ T, t ≤ p ∧ (q < i → t < p)) (h : Cut p q (i + 1) ws d) : Cut p q i ((A ++ T) :: ws) ((A.length : Int) :: d)
def CmpQ (q : Int) : Int → List Int → List Int → Prop
  | i, a :: d, b :: e => (i < q → a ≤ b) ∧ (q < i → b ≤ a) ∧ CmpQ q (i + 1) d e
  | _, [], [] => True
  | _, _, _ => False
def over (p : Int) (l : List Int) : Int := (l.map fun v => v - p).sum
theorem over_app (p : Int) (l m : List Int) : over p (l ++ m) = over p l + over p m := by unfold over; rw [List.map_append, List.sum_append]
theorem over_sum (p : Int) : ∀ l : List Int, over p l = l.sum - p * (l.length : Int)
  | [] => by simp [over]
  | a :: l => by
    have := over_sum p l
    show (a - p) + over p l = (a :: l).sum - p * ((l.length + 1 : Nat) : Int)
    rw [this, List.sum_cons, Int.natCast_add, Int.mul_add]
    simp
    omega
theorem over_ge {p : Int} : ∀ {l : List Int}, (∀ a ∈ l, p ≤ a) → 0 ≤ over p l
  | [], _ => Int.le_refl 0
  | a :: l, h => by
    have := over_ge (l := l) fun b hb => h b (List.mem_cons_of_mem _ hb)
    have := h a List.mem_cons_self
    show 0 ≤ (a - p) + over p l
    omega
theorem over_gt {p : Int} : ∀ {l : List Int}, (∀ a ∈ l, p < a) → (l.length : Int) ≤ over p l
  | [], _ => Int.le_refl 0
  | a :: l, h => by
    have := over_gt (l := l) fun b hb => h b (List.mem_cons_of_mem _ hb)
    have := h a List.mem_cons_self
    show ((l.length + 1 : Nat) : Int) ≤ (a - p) + over p l
    omega
theorem over_le {p : Int} : ∀ {l : List Int}, (∀ a ∈ l, a ≤ p) → over p l ≤ 0
  | [], _ => Int.le_refl 0
  | a :: l, h => by
    have := over_le (l := l) fun b hb => h b (List.mem_cons_of_mem _ hb)
    have := h a List.mem_cons_self
    show (a - p) + over p l ≤ 0
    omega
theorem over_lt {p : Int} : ∀ {l : List Int}, (∀ a ∈ l, a < p) → over p l ≤ -(l.length : Int)
  | [], _ => Int.le_refl 0
  | a :: l, h => by
    have := over_lt (l := l) fun b hb => h b (List.mem_cons_of_mem _ hb)
    have := h a List.mem_cons_self
    show (a - p) + over p l ≤ -((l.length + 1 : Nat) : Int)
    omega
theorem pie_over {p : Int} {r : List Int} {c : Int} (c0 : 0 ≤ c) (c1 : c ≤ (r.length : Int)) : pieW r c - p * c = over p (r.take c.toNat) := by
  rw [over_sum, List.length_take]
  have : ((min c.toNat r.length : Nat) : Int) = c := by omega
  rw [this]
  rfl
theorem cut_one {p q i : Int} {A T : List Int} {c : Int} (hA : ∀ a ∈ A, p ≤ a ∧ (i < q → p < a)) (hT : ∀ t ∈ T, t ≤ p ∧ (q < i → t < p)) (c0 : 0 ≤ c) (c1 : c ≤ ((A ++ T).length : Int)) :
    pieW (A ++ T) c - p * c ≤ pieW (A ++ T) (A.length : Int) - p * (A.length : Int) ∧ (pieW (A ++ T) c - p * c = pieW (A ++ T) (A.length : Int) - p * (A.length : Int) → (i < q → (A.length : Int) ≤ c) ∧ (q < i → c ≤ (A.length : Int))) := by
  have c1' := c1
  rw [List.length_append] at c1'
  rw [pie_over c0 c1, pie_over (by omega) (by rw [List.length_append]; omega)]
  have e0 : (A ++ T).take ((A.length : Int)).toNat = A := by rw [Int.toNat_natCast, List.take_left]
  rw [e0]
  by_cases h : c ≤ (A.length : Int)
  · have e1 : (A ++ T).take c.toNat = A.take c.toNat := by rw [List.take_append_of_le_length (by omega)]
    rw [e1]
    have e2 : over p A = over p (A.take c.toNat) + over p (A.drop c.toNat) := by rw [← over_app, List.take_append_drop]
    have z := over_ge (p := p) (l := A.drop c.toNat) fun a ha => (hA a (List.mem_of_mem_drop ha)).1
    refine ⟨by omega, fun e => ⟨fun hq => ?_, fun _ => h⟩⟩
    have z2 := over_gt (p := p) (l := A.drop c.toNat) fun a ha => (hA a (List.mem_of_mem_drop ha)).2 hq
    rw [List.length_drop] at z2
    omega
  · have e1 : (A ++ T).take c.toNat = A ++ T.take (c.toNat - A.length) := by rw [List.take_append, List.take_of_length_le (by omega)]
    rw [e1, over_app]
    have z := over_le (p := p) (l := T.take (c.toNat - A.length)) fun a ha => (hT a (List.mem_of_mem_take ha)).1
    refine ⟨by omega, fun e => ⟨fun hq => by omega, fun hq => ?_⟩⟩
    have z2 := over_lt (p := p) (l := T.take (c.toNat - A.length)) fun a ha => (hT a (List.mem_of_mem_take ha)).2 hq
    rw [List.length_take] at z2
    omega
theorem cut_all {p q : Int} : ∀ {i n : Int} {ws : List (List Int)} {d e : List Int}, Cut p q i ws d → Feas n ws e →
    totP ws e - p * e.sum ≤ totP ws d - p * d.sum ∧ (totP ws e - p * e.sum = totP ws d - p * d.sum → CmpQ q i d e)
  | i, n, _, _, [], .nil _, _ => ⟨by simp [totP], fun _ => trivial⟩
  | i, n, _, _, _ :: _, .nil _, h => h.elim
  | i, n, _, _, [], .cons _ _ _, h => h.elim
  | i, n, _, _, c :: e, .cons (A := A) (T := T) (ws := ws) (d := d) hA hT h, hf => by
    obtain ⟨c0, c1, hf⟩ := hf
    obtain ⟨a1, a2⟩ := cut_one hA hT c0 c1
    obtain ⟨b1, b2⟩ := cut_all h hf
    rw [totP_cons, totP_cons, List.sum_cons, List.sum_cons, Int.mul_add, Int.mul_add]
    refine ⟨by omega, fun z => ?_⟩
    have z1 := a2 (by omega)
    have z2 := b2 (by omega)
    exact ⟨z1.1, z1.2, z2⟩
theorem cut_feas {p q : Int} : ∀ {i n : Int} {ws : List (List Int)} {d : List Int}, Cut p q i ws d → d.sum ≤ n → Feas n ws d
  | i, n, _, _, .nil _, h => by
    show 0 ≤ n
    simpa using h
  | i, n, _, _, .cons (A := A) (T := T) hA hT h, hs => by
    rw [List.sum_cons] at hs
    exact ⟨by omega, by rw [List.length_append]; omega, cut_feas h (by omega)⟩
theorem cmp_le {q : Int} : ∀ {i : Int} {d e : List Int}, q < i → CmpQ q i d e → e.sum ≤ d.sum ∧ (d.sum = e.sum → e = d)
  | _, [], [], _, _ => ⟨Int.le_refl _, fun _ => rfl⟩
  | _, [], _ :: _, _, h => h.elim
  | _, _ :: _, [], _, h => h.elim
  | i, a :: d, b :: e, hq, h => by
    obtain ⟨_, h2, h3⟩ := h
    have := h2 hq
    obtain ⟨z1, z2⟩ := cmp_le (by omega) h3
    rw [List.sum_cons, List.sum_cons]
    exact ⟨by omega, fun z => by rw [z2 (by omega)]; congr 1; omega⟩
theorem cmp_lex {q : Int} : ∀ {i : Int} {d e : List Int}, CmpQ q i d e → d.sum = e.sum → e = d ∨ lexLt d e
  | _, [], [], _, _ => .inl rfl
  | _, [], _ :: _, h, _ => h.elim
  | _, _ :: _, [], h, _ => h.elim
  | i, a :: d, b :: e, h, hs => by
    obtain ⟨h1, h2, h3⟩ := h
    rw [List.sum_cons, List.sum_cons] at hs
    by_cases c : i < q
    · have := h1 c
      by_cases c2 : a = b
      · subst c2
        rcases cmp_lex h3 (by omega) with z | z
        · exact .inl (by rw [z])
        · exact .inr (.inr ⟨rfl, z⟩)
      · exact .inr (.inl (by omega))
    · obtain ⟨z1, z2⟩ := cmp_le (by omega) h3
      by_cases c2 : a = b
      · subst c2
        exact .inl (by rw [z2 (by omega)])
      · exact .inr (.inl (by omega))
theorem cmp_lex2 {q : Int} : ∀ {i : Int} {d e : List Int}, i + (d.length : Int) ≤ q → CmpQ q i d e → e = d ∨ lexLt d e
  | _, [], [], _, _ => .inl rfl
  | _, [], _ :: _, _, h => h.elim
  | _, _ :: _, [], _, h => h.elim
  | i, a :: d, b :: e, hq, h => by
    obtain ⟨h1, h2, h3⟩ := h
    rw [List.length_cons] at hq
    have := h1 (by omega)
    by_cases c2 : a = b
    · subst c2
      rcases cmp_lex2 (by omega) h3 with z | z
      · exact .inl (by rw [z])
      · exact .inr (.inr ⟨rfl, z⟩)
    · exact .inr (.inl (by omega))
def partD (l : List (Int × Int)) (k : Int) : List Int := (l.filter fun x => decide (x.2 = k)).map (·.1)
theorem cut_build {p q : Int} {l : List (Int × Int)} : ∀ {ws : List (List Int)} {i : Int}, (∀ (j : Nat) r, ws[j]? = some r → ∃ T, r = partD l (i + (j : Int)) ++ T ∧ (∀ a ∈ partD l (i + (j : Int)), p ≤ a ∧ (i + (j : Int) < q → p < a)) ∧ (∀ t ∈ T, t ≤ p ∧ (q < i + (j : Int) → t < p))) →
    Cut p q i ws ((List.range ws.length).map fun (j : Nat) => ((partD l (i + (j : Int))).length : Int)) ∧ totP ws ((List.range ws.length).map fun (j : Nat) => ((partD l (i + (j : Int))).length : Int)) = ((List.range ws.length).map fun (j : Nat) => (partD l (i + (j : Int))).sum).sum
  | [], i, _ => ⟨.nil i, rfl⟩
  | r :: ws, i, h => by
    obtain ⟨T, e, hA, hT⟩ := h 0 r rfl
    have ei : i + ((0 : Nat) : Int) = i := by omega
    rw [ei] at e hA hT
    obtain ⟨b1, b2⟩ := cut_build (p := p) (q := q) (l := l) (ws := ws) (i := i + 1) fun j r' hr => by
      have z := h (j + 1) r' (by simpa using hr)
      rwa [show i + ((j + 1 : Nat) : Int) = i + 1 + (j : Int) by omega] at z
    have e1 : ((List.range (r :: ws).length).map fun (j : Nat) => ((partD l (i + (j : Int))).length : Int)) = ((partD l i).length : Int) :: ((List.range ws.length).map fun (j : Nat) => ((partD l (i + 1 + (j : Int))).length : Int)) := by
      rw [List.length_cons, List.range_succ_eq_map, List.map_cons, List.map_map, ei]
      congr 1
      refine List.map_congr_left fun j _ => ?_
      show ((partD l (i + ((j + 1 : Nat) : Int))).length : Int) = _
      rw [show i + ((j + 1 : Nat) : Int) = i + 1 + (j : Int) by omega]
    have e2 : ((List.range (r :: ws).length).map fun (j : Nat) => (partD l (i + (j : Int))).sum) = (partD l i).sum :: ((List.range ws.length).map fun (j : Nat) => (partD l (i + 1 + (j : Int))).sum) := by
      rw [List.length_cons, List.range_succ_eq_map, List.map_cons, List.map_map, ei]
      congr 1
      refine List.map_congr_left fun j _ => ?_
      show (partD l (i + ((j + 1 : Nat) : Int))).sum = _
      rw [show i + ((j + 1 : Nat) : Int) = i + 1 + (j : Int) by omega]
    rw [e1, e2, e]
    refine ⟨.cons hA hT b1, ?_⟩
    rw [totP_cons, List.sum_cons, b2]
    congr 1
    unfold pieW
    rw [Int.toNat_natCast, List.take_left]
theorem greedy {p : Int} {ws : List (List Int)} {L : List (Int × Int)} (hp : 0 ≤ p) (ok : okH ws) (hL : L.Perm (wantF 0 ws)) (hs : L.Pairwise desc) :
    bestP p ws = (((L.take p.toNat).map (·.1)).sum, (List.range ws.length).map fun (k : Nat) => ((((L.take p.toNat).map (·.2)).count (k : Int) : Nat) : Int)) := by
  refine best_eqP hp ok ?_
  have hge : ∀ x ∈ L, 0 ≤ x.2 ∧ x.2 < (ws.length : Int) ∧ 0 < x.1 := fun x hx => by
    have := wantF_ge (hL.mem_iff.mp hx)
    omega
  have hcount : ∀ k : Nat, ((((L.take p.toNat).map (·.2)).count (k : Int) : Nat) : Int) = ((partD (L.take p.toNat) (0 + (k : Int))).length : Int) := fun k => by
    unfold partD
    rw [List.length_map, List.count_eq_countP, List.countP_map, List.countP_eq_length_filter]
    congr 2
    refine List.filter_congr fun x _ => ?_
    show ((x.2 == (k : Int)) : Bool) = decide (x.2 = 0 + (k : Int))
    rw [Int.zero_add, Bool.eq_iff_iff]
    simp
  have hd : ((List.range ws.length).map fun (k : Nat) => ((((L.take p.toNat).map (·.2)).count (k : Int) : Nat) : Int)) = (List.range ws.length).map fun (j : Nat) => ((partD (L.take p.toNat) (0 + (j : Int))).length : Int) := List.map_congr_left fun k _ => hcount k
  rw [hd]
  have hval : ((List.range ws.length).map fun (j : Nat) => (partD (L.take p.toNat) (0 + (j : Int))).sum).sum = ((L.take p.toNat).map (·.1)).sum := split_sum (·.1) 0 ws.length _ fun x hx => by
    have := hge x (List.mem_of_mem_take hx)
    omega
  have hlen : ((List.range ws.length).map fun (j : Nat) => ((partD (L.take p.toNat) (0 + (j : Int))).length : Int)).sum = ((L.take p.toNat).length : Int) := by
    have z := split_sum (fun _ => 1) 0 ws.length (L.take p.toNat) fun x hx => by
      have := hge x (List.mem_of_mem_take hx)
      omega
    have one : ∀ l : List (Int × Int), (l.map fun _ => (1 : Int)).sum = (l.length : Int) := fun l => by
      induction l with
      | nil => rfl
      | cons a l ih => rw [List.map_cons, List.sum_cons, ih, List.length_cons]; omega
    rw [one] at z
    rw [← z]
    congr 1
    refine List.map_congr_left fun j _ => ?_
    rw [one]
    unfold partD
    rw [List.length_map]
  -- each row: what is dealt, what isn't, what is worth nothing
  have rows : ∀ (j : Nat) r, ws[j]? = some r → ∃ z, r = partD (L.take p.toNat) (0 + (j : Int)) ++ (partD (L.drop p.toNat) (0 + (j : Int)) ++ z) ∧ ∀ v ∈ z, v ≤ 0 := fun j r hr => by
    obtain ⟨z, e, hz⟩ := pos_split (ok r (List.mem_of_getElem? hr)).2.2
    refine ⟨z, ?_, hz⟩
    rw [← List.append_assoc]
    have e1 : partD (L.take p.toNat) (0 + (j : Int)) ++ partD (L.drop p.toNat) (0 + (j : Int)) = partD L (0 + (j : Int)) := by
      unfold partD
      rw [← List.map_append, ← List.filter_append, List.take_append_drop]
    have e2 : partD L (0 + (j : Int)) = posR r := by
      refine perm_desc ?_ ?_ ?_
      · have q := (hL.filter fun x => decide (x.2 = 0 + (j : Int))).map (·.1)
        rw [wantF_at hr, List.map_map] at q
        have q2 : (posR r).map ((fun x : Int × Int => x.1) ∘ fun v => (v, 0 + (j : Int))) = posR r := by
          show (posR r).map (fun v => v) = posR r
          exact List.map_id' _
        rw [q2] at q
        exact q
      · unfold partD
        rw [List.pairwise_map]
        refine List.Pairwise.imp_of_mem (fun {a b} ha hb h => ?_) (hs.filter _)
        rcases h with h | h
        · exact Int.le_of_lt h
        · exact Int.le_of_eq h.1
      · exact ((ok r (List.mem_of_getElem? hr)).2.2).filter _
    rw [e1, e2]
    exact e
  have mem : ∀ {l : List (Int × Int)} {k a : Int}, a ∈ partD l k → (a, k) ∈ l := fun {l k a} h => by
    obtain ⟨x, hx, rfl⟩ := List.mem_map.mp h
    obtain ⟨h1, h2⟩ := List.mem_filter.mp hx
    have := of_decide_eq_true h2
    rw [← this]
    exact h1
  cases hdrop : L.drop p.toNat with
  | nil =>
    obtain ⟨C, hv⟩ := cut_build (p := 0) (q := (ws.length : Int)) (l := L.take p.toNat) (ws := ws) (i := 0) fun j r hr => by
      obtain ⟨z, e, hz⟩ := rows j r hr
      rw [hdrop] at e
      refine ⟨z, e, fun a ha => ?_, fun t ht => ⟨hz t ht, fun h => ?_⟩⟩
      · have := hge _ (List.mem_of_mem_take (mem ha))
        exact ⟨Int.le_of_lt this.2.2, fun _ => this.2.2⟩
      · have := (List.getElem?_eq_some_iff.mp hr).1
        omega
    have hsum : ((List.range ws.length).map fun (j : Nat) => ((partD (L.take p.toNat) (0 + (j : Int))).length : Int)).sum ≤ p := by
      rw [hlen, List.length_take]
      omega
    refine ⟨cut_feas C hsum, hv.trans hval, fun e he => ?_, fun e he hE => ?_⟩
    · have z := (cut_all C he).1
      rw [hv, hval] at z
      simp only [Int.zero_mul, Int.sub_zero] at z
      exact z
    · have z := (cut_all C he).2 (by rw [hv, hval, hE]; simp)
      exact cmp_lex2 (by rw [List.length_map, List.length_range]; omega) z
  | cons x rest =>
    have hx : x ∈ L := List.mem_of_mem_drop (by rw [hdrop]; exact List.mem_cons_self)
    have hx0 := hge x hx
    have hpw : (L.take p.toNat ++ (x :: rest)).Pairwise desc := by rw [← hdrop, List.take_append_drop]; exact hs
    obtain ⟨_, w2, w3⟩ := List.pairwise_append.mp hpw
    obtain ⟨C, hv⟩ := cut_build (p := x.1) (q := x.2) (l := L.take p.toNat) (ws := ws) (i := 0) fun j r hr => by
      obtain ⟨z, e, hz⟩ := rows j r hr
      refine ⟨_, e, fun a ha => ?_, fun t ht => ?_⟩
      · have q : desc (a, 0 + (j : Int)) x := w3 _ (mem ha) x List.mem_cons_self
        rcases q with q | ⟨q1, q2⟩
        · exact ⟨Int.le_of_lt q, fun _ => q⟩
        · exact ⟨Int.le_of_eq q1, fun h => absurd q2 (by show ¬ (x.2 ≤ 0 + (j : Int)); omega)⟩
      · rcases List.mem_append.mp ht with h | h
        · have hm := mem h
          rw [hdrop] at hm
          rcases List.mem_cons.mp hm with q | q
          · rw [← q]
            exact ⟨Int.le_refl _, fun h => absurd h (by show ¬ (0 + (j : Int) < 0 + (j : Int)); omega)⟩
          · have q : desc x (t, 0 + (j : Int)) := (List.pairwise_cons.mp w2).1 _ q
            rcases q with q | ⟨q1, q2⟩
            · exact ⟨Int.le_of_lt q, fun _ => q⟩
            · exact ⟨Int.le_of_eq q1, fun h => absurd q2 (by show ¬ (0 + (j : Int) ≤ x.2); omega)⟩
        · have := hz t h
          exact ⟨by omega, fun _ => by omega⟩
    have hlong : p.toNat < L.length := by
      have z : (L.drop p.toNat).length = rest.length + 1 := by rw [hdrop]; rfl
      rw [List.length_drop] at z
      omega
    have hsum : ((List.range ws.length).map fun (j : Nat) => ((partD (L.take p.toNat) (0 + (j : Int))).length : Int)).sum = p := by
      rw [hlen, List.length_take]
      omega
    have h0 : 0 < x.1 := hx0.2.2
    refine ⟨cut_feas C (Int.le_of_eq hsum), hv.trans hval, fun e he => ?_, fun e he hE => ?_⟩
    · have z := (cut_all C he).1
      rw [hv, hval, hsum] at z
      have s1 := (feas_sum he).2
      have s2 := Int.mul_le_mul_of_nonneg_left s1 (Int.le_of_lt h0)
      omega
    · have z := (cut_all C he).1
      have z2 := (cut_all C he).2
      rw [hv, hval, hsum, hE] at z z2
      have s1 := (feas_sum he).2
      have s3 : x.1 * p ≤ x.1 * e.sum := by omega
      have s4 : p ≤ e.sum := Int.le_of_mul_le_mul_left s3 h0
      have s5 : e.sum = p := by omega
      refine cmp_lex (z2 (by rw [s5])) ?_
      rw [hsum, s5]
end My
set_option linter.all false
namespace My
def endsR (rds : List (Int × Int)) (r : Int) : Int × Int := rds.getD r.toNat (0, 0)
def stepJ (rds : List (Int × Int)) (name : List Int) (r : Int) : List Int :=
  let a := name.getD (endsR rds r).1.toNat 0
  let b := name.getD (endsR rds r).2.toNat 0
  name.map fun x => if x = (if b > a then b else a) then (if b < a then b else a) else x
def joinsL (places : Int) (rds : List (Int × Int)) (row : List Int) : List Int := row.foldl (stepJ rds) (rangeI 0 places.toNat)
def setsL (most : Int) : Nat → List (List Int)
  | 0 => [[]]
  | n + 1 => setsL most n ++ ((setsL most n).filter (fun r => decide ((r.length : Int) < most))).map fun r => r ++ [(n : Int)]
def endsL (rds : List (Int × Int)) (row : List Int) : List Int := row.flatMap fun r => [(endsR rds r).1, (endsR rds r).2]
def cntOk (places p : Int) (n : Nat) : Prop := if p = 0 ∨ p = places - 1 then n = 1 else n = 0 ∨ n = 2
def usedL (places : Int) (rds : List (Int × Int)) (row : List Int) : List Int := (rangeI 0 places.toNat).filter fun p => decide (p ∈ endsL rds row)
def isTreeL (places : Int) (rds : List (Int × Int)) (row : List Int) : Prop := (row.length : Int) = places - 1 ∧ ∀ x ∈ joinsL places rds row, x = 0
def isWayL (places : Int) (rds : List (Int × Int)) (row : List Int) : Prop := (∀ p : Int, 0 ≤ p → p < places → cntOk places p ((endsL rds row).count p)) ∧ 0 < (usedL places rds row).length ∧ (row.length : Int) = ((usedL places rds row).length : Int) - 1 ∧ ∀ p ∈ usedL places rds row, (joinsL places rds row).getD p.toNat 0 = 0
def okRds (places : Int) (rds : List (Int × Int)) : Prop := ∀ r ∈ rds, (0 ≤ r.1 ∧ r.1 < places) ∧ (0 ≤ r.2 ∧ r.2 < places) ∧ r.1 ≠ r.2
theorem stepJ_len (rds : List (Int × Int)) (name : List Int) (r : Int) : (stepJ rds name r).length = name.length := by
  unfold stepJ
  rw [List.length_map]
theorem joins_snoc (places : Int) (rds : List (Int × Int)) (row : List Int) (r : Int) : joinsL places rds (row ++ [r]) = stepJ rds (joinsL places rds row) r := by
  unfold joinsL
  rw [List.foldl_append]
  rfl
theorem mem_sets {most : Int} : ∀ {n : Nat} {row : List Int}, row ∈ setsL most n → (∀ v ∈ row, 0 ≤ v ∧ v < (n : Int)) ∧ row.Pairwise (· < ·)
  | 0, row, h => by
    rw [List.mem_singleton.mp (show row ∈ [[]] from h)]
    exact ⟨(fun v hv => nomatch hv), .nil⟩
  | n + 1, row, h => by
    rcases List.mem_append.mp (show row ∈ setsL most n ++ _ from h) with z | z
    · obtain ⟨a, b⟩ := mem_sets z
      exact ⟨fun v hv => by have := a v hv; omega, b⟩
    · obtain ⟨r, hr, rfl⟩ := List.mem_map.mp z
      obtain ⟨a, b⟩ := mem_sets (List.mem_filter.mp hr).1
      refine ⟨fun v hv => ?_, ?_⟩
      · rcases List.mem_append.mp hv with y | y
        · have := a v y
          omega
        · rw [List.mem_singleton.mp y]
          omega
      · rw [List.pairwise_append]
        refine ⟨b, List.pairwise_singleton _ _, fun x hx y hy => ?_⟩
        rw [List.mem_singleton.mp hy]
        exact (a x hx).2
theorem rise_last {n : Nat} {row : List Int} (h1 : ∀ v ∈ row, 0 ≤ v ∧ v < ((n + 1 : Nat) : Int)) (h2 : row.Pairwise (· < ·)) : (∀ v ∈ row, 0 ≤ v ∧ v < (n : Int)) ∨ ∃ r, row = r ++ [(n : Int)] ∧ (∀ v ∈ r, 0 ≤ v ∧ v < (n : Int)) ∧ r.Pairwise (· < ·) := by
  by_cases hn : (n : Int) ∈ row
  · obtain ⟨a, b, rfl⟩ := List.append_of_mem hn
    obtain ⟨p1, p2, p3⟩ := List.pairwise_append.mp h2
    obtain ⟨p4, p5⟩ := List.pairwise_cons.mp p2
    have hb : b = [] := by
      cases b with
      | nil => rfl
      | cons x b =>
        have z1 := p4 x List.mem_cons_self
        have z2 := h1 x (by simp)
        omega
    subst hb
    refine .inr ⟨a, rfl, fun v hv => ?_, p1⟩
    have z1 := p3 v hv (n : Int) List.mem_cons_self
    have z2 := h1 v (List.mem_append_left _ hv)
    omega
  · refine .inl fun v hv => ?_
    have z := h1 v hv
    by_cases e : v = (n : Int)
    · exact absurd (e ▸ hv) hn
    · omega
theorem sets_mem {most : Int} : ∀ {n : Nat} {row : List Int}, (∀ v ∈ row, 0 ≤ v ∧ v < (n : Int)) → row.Pairwise (· < ·) → (row.length : Int) ≤ most → row ∈ setsL most n
  | 0, row, h, _, _ => by
    cases row with
    | nil => exact List.mem_singleton.mpr rfl
    | cons a r =>
      have := h a List.mem_cons_self
      omega
  | n + 1, row, h, hp, hl => by
    show row ∈ setsL most n ++ _
    rcases rise_last h hp with z | ⟨r, rfl, z, z2⟩
    · exact List.mem_append_left _ (sets_mem z hp hl)
    · rw [List.length_append, List.length_singleton] at hl
      exact List.mem_append_right _ (List.mem_map.mpr ⟨r, List.mem_filter.mpr ⟨sets_mem z z2 (by omega), decide_eq_true (by omega)⟩, rfl⟩)
def nm (l : List Int) (p : Int) : Int := l.getD p.toNat 0
structure Nmd (places : Int) (l : List Int) : Prop where
  len : l.length = places.toNat
  rng : ∀ x ∈ l, 0 ≤ x ∧ x < places
  zero : nm l 0 = 0
theorem nm_mem {places : Int} {l : List Int} (h : l.length = places.toNat) {p : Int} (p0 : 0 ≤ p) (p1 : p < places) : nm l p ∈ l := by
  unfold nm
  have hl : p.toNat < l.length := by omega
  rw [List.getD_eq_getElem?_getD, List.getElem?_eq_getElem hl]
  exact List.getElem_mem hl
theorem nm_map {l : List Int} {f : Int → Int} {p : Int} (h : p.toNat < l.length) : nm (l.map f) p = f (nm l p) := by
  unfold nm
  rw [List.getD_eq_getElem?_getD, List.getD_eq_getElem?_getD, List.getElem?_map, List.getElem?_eq_getElem h]
  rfl
def lo2 (a b : Int) : Int := if b < a then b else a
def hi2 (a b : Int) : Int := if b > a then b else a
theorem stepJ_eq (rds : List (Int × Int)) (l : List Int) (r : Int) : stepJ rds l r = l.map fun x => if x = hi2 (nm l (endsR rds r).1) (nm l (endsR rds r).2) then lo2 (nm l (endsR rds r).1) (nm l (endsR rds r).2) else x := rfl
theorem lohi (a b : Int) : (lo2 a b = a ∧ hi2 a b = b ∧ a ≤ b) ∨ (lo2 a b = b ∧ hi2 a b = a ∧ b < a) := by
  unfold lo2 hi2
  by_cases h : b < a
  · rw [if_pos h, if_neg (by omega)]; exact .inr ⟨rfl, rfl, h⟩
  · rw [if_neg h]
    by_cases h2 : b > a
    · rw [if_pos h2]; exact .inl ⟨rfl, rfl, by omega⟩
    · rw [if_neg h2]; exact .inl ⟨rfl, by omega, by omega⟩
theorem endsR_ok {places : Int} {rds : List (Int × Int)} (ok : okRds places rds) {r : Int} (r0 : 0 ≤ r) (r1 : r < (rds.length : Int)) : (0 ≤ (endsR rds r).1 ∧ (endsR rds r).1 < places) ∧ (0 ≤ (endsR rds r).2 ∧ (endsR rds r).2 < places) ∧ (endsR rds r).1 ≠ (endsR rds r).2 := by
  have hl : r.toNat < rds.length := by omega
  have e : endsR rds r = rds[r.toNat] := by unfold endsR; rw [List.getD_eq_getElem?_getD, List.getElem?_eq_getElem hl]; rfl
  rw [e]
  exact ok _ (List.getElem_mem hl)
section
variable {places : Int} {rds : List (Int × Int)} {l : List Int} {r : Int}
theorem Nmd.step (h : Nmd places l) (hp : 0 < places) (e1 : 0 ≤ (endsR rds r).1 ∧ (endsR rds r).1 < places) (e2 : 0 ≤ (endsR rds r).2 ∧ (endsR rds r).2 < places) : Nmd places (stepJ rds l r) := by
  have m1 := h.rng _ (nm_mem h.len e1.1 e1.2)
  have m2 := h.rng _ (nm_mem h.len e2.1 e2.2)
  refine ⟨by rw [stepJ_len, h.len], fun x hx => ?_, ?_⟩
  · rw [stepJ_eq] at hx
    obtain ⟨y, hy, rfl⟩ := List.mem_map.mp hx
    split
    · rcases lohi (nm l (endsR rds r).1) (nm l (endsR rds r).2) with ⟨z, _⟩ | ⟨z, _⟩
      · rw [z]; exact m1
      · rw [z]; exact m2
    · exact h.rng y hy
  · rw [stepJ_eq, nm_map (by rw [h.len]; omega), h.zero]
    split
    · rename_i c
      rcases lohi (nm l (endsR rds r).1) (nm l (endsR rds r).2) with ⟨z1, z2, z3⟩ | ⟨z1, z2, z3⟩ <;> omega
    · rfl
theorem nmd_range (hp : 0 < places) : Nmd places (rangeI 0 places.toNat) := by
  refine ⟨rangeI_len _ _, fun x hx => ?_, ?_⟩
  · have := mem_rangeI.mp hx
    omega
  · unfold nm
    rw [List.getD_eq_getElem?_getD, rangeI_get (by omega)]
    rfl
theorem nmd_joins (hp : 0 < places) (ok : okRds places rds) {row : List Int} (h : ∀ v ∈ row, 0 ≤ v ∧ v < (rds.length : Int)) : Nmd places (joinsL places rds row) := by
  revert h
  refine rev_ind (Q := fun row => (∀ v ∈ row, 0 ≤ v ∧ v < (rds.length : Int)) → Nmd places (joinsL places rds row)) (fun _ => nmd_range hp) (fun row r ih h => ?_) row
  rw [joins_snoc]
  have z := h r (List.mem_append_right _ List.mem_cons_self)
  have e := endsR_ok ok z.1 z.2
  exact (ih fun v hv => h v (List.mem_append_left _ hv)).step hp e.1 e.2.1
def clsN (places : Int) (l : List Int) : Nat := ((rangeI 0 places.toNat).filter fun x => decide (x ∈ l)).length
theorem filter_less {α : Type} {p q : α → Bool} {a : α} : ∀ {l : List α}, l.Nodup → a ∈ l → p a = true → q a = false → (∀ x ∈ l, x ≠ a → q x = p x) → (l.filter q).length + 1 = (l.filter p).length
  | [], _, h, _, _, _ => nomatch h
  | b :: l, hn, h, hp, hq, hs => by
    obtain ⟨n1, n2⟩ := List.nodup_cons.mp hn
    rw [List.filter_cons, List.filter_cons]
    by_cases e : b = a
    · subst e
      rw [if_neg (by rw [hq]; decide), if_pos hp, List.length_cons]
      congr 2
      refine List.filter_congr fun x hx => hs x (List.mem_cons_of_mem _ hx) fun z => n1 (z ▸ hx)
    · have hm : a ∈ l := (List.mem_cons.mp h).resolve_left (Ne.symm e)
      have ih := filter_less n2 hm hp hq fun x hx => hs x (List.mem_cons_of_mem _ hx)
      rw [hs b List.mem_cons_self e]
      split
      · rw [List.length_cons, List.length_cons]; omega
      · exact ih
theorem rangeI_nodup (n : Nat) : (rangeI 0 n).Nodup := by
  unfold rangeI
  refine List.Pairwise.map _ ?_ List.nodup_range
  intro a b h e
  exact h (by omega)
theorem clsN_step (h : Nmd places l) (e1 : 0 ≤ (endsR rds r).1 ∧ (endsR rds r).1 < places) (e2 : 0 ≤ (endsR rds r).2 ∧ (endsR rds r).2 < places) :
    (nm l (endsR rds r).1 ≠ nm l (endsR rds r).2 → clsN places (stepJ rds l r) + 1 = clsN places l) ∧ (nm l (endsR rds r).1 = nm l (endsR rds r).2 → stepJ rds l r = l) := by
  have m1 := nm_mem h.len e1.1 e1.2
  have m2 := nm_mem h.len e2.1 e2.2
  rw [stepJ_eq]
  obtain ⟨a, ha⟩ : ∃ a, a = nm l (endsR rds r).1 := ⟨_, rfl⟩
  obtain ⟨b, hb⟩ : ∃ b, b = nm l (endsR rds r).2 := ⟨_, rfl⟩
  rw [← ha, ← hb]
  rw [← ha] at m1
  rw [← hb] at m2
  have hlo : lo2 a b ∈ l := by rcases lohi a b with ⟨z, _⟩ | ⟨z, _⟩ <;> rw [z] <;> assumption
  have hhi : hi2 a b ∈ l := by rcases lohi a b with ⟨_, z, _⟩ | ⟨_, z, _⟩ <;> rw [z] <;> assumption
  constructor
  · intro hne
    have hd : lo2 a b ≠ hi2 a b := by rcases lohi a b with ⟨z1, z2, _⟩ | ⟨z1, z2, _⟩ <;> rw [z1, z2] <;> omega
    refine filter_less (a := hi2 a b) (rangeI_nodup _) (mem_rangeI.mpr ?_) (decide_eq_true hhi) (decide_eq_false fun z => ?_) fun x _ hx => ?_
    · have := h.rng _ hhi
      omega
    · obtain ⟨y, hy, e⟩ := List.mem_map.mp z
      by_cases c : y = hi2 a b
      · rw [if_pos c] at e; exact hd e
      · rw [if_neg c] at e; exact c e
    · rw [Bool.eq_iff_iff, decide_eq_true_iff, decide_eq_true_iff, List.mem_map]
      constructor
      · rintro ⟨y, hy, e⟩
        by_cases c : y = hi2 a b
        · rw [if_pos c] at e; rw [← e]; exact hlo
        · rw [if_neg c] at e; rw [← e]; exact hy
      · intro z
        exact ⟨x, z, by rw [if_neg hx]⟩
  · intro e
    rw [← e]
    have z : ∀ x : Int, (if x = hi2 a a then lo2 a a else x) = x := fun x => by
      rcases lohi a a with ⟨z1, z2, _⟩ | ⟨z1, z2, _⟩
      · rw [z1, z2]; split <;> omega
      · rw [z1, z2]; split <;> omega
    simp only [z]
    exact List.map_id' _
def Acy (places : Int) (rds : List (Int × Int)) : List Int → Prop := fun row => ∀ a r b, row = a ++ r :: b → nm (joinsL places rds a) (endsR rds r).1 ≠ nm (joinsL places rds a) (endsR rds r).2
theorem acy_nil : Acy places rds [] := fun a r b e => by
  cases a <;> cases e
theorem acy_snoc {row : List Int} : Acy places rds (row ++ [r]) ↔ Acy places rds row ∧ nm (joinsL places rds row) (endsR rds r).1 ≠ nm (joinsL places rds row) (endsR rds r).2 := by
  constructor
  · intro h
    exact ⟨fun a x b e => h a x (b ++ [r]) (by rw [e]; simp), h row r [] (by simp)⟩
  · rintro ⟨h1, h2⟩ a x b e
    rcases List.eq_nil_or_concat b with z | ⟨c, y, rfl⟩
    · subst z
      have := List.append_inj' e rfl
      obtain ⟨e1, e2⟩ := this
      cases e2
      rw [← e1]
      exact h2
    · rw [List.concat_eq_append, show a ++ x :: (c ++ [y]) = (a ++ x :: c) ++ [y] by simp] at e
      obtain ⟨e1, e2⟩ := List.append_inj' e rfl
      exact h1 a x c e1
theorem cls_row (hp : 0 < places) (ok : okRds places rds) {row : List Int} (h : ∀ v ∈ row, 0 ≤ v ∧ v < (rds.length : Int)) : places.toNat ≤ clsN places (joinsL places rds row) + row.length ∧ (Acy places rds row ↔ clsN places (joinsL places rds row) + row.length = places.toNat) := by
  revert h
  refine rev_ind (Q := fun row => (∀ v ∈ row, 0 ≤ v ∧ v < (rds.length : Int)) → places.toNat ≤ clsN places (joinsL places rds row) + row.length ∧ (Acy places rds row ↔ clsN places (joinsL places rds row) + row.length = places.toNat)) (fun _ => ?_) (fun row r ih h => ?_) row
  · have e : clsN places (joinsL places rds []) = places.toNat := by
      show ((rangeI 0 places.toNat).filter fun x => decide (x ∈ rangeI 0 places.toNat)).length = _
      rw [List.filter_eq_self.mpr (fun x hx => decide_eq_true hx), rangeI_len]
    rw [e]
    exact ⟨by simp, fun _ => by simp, fun _ => acy_nil⟩
  · have hrow : ∀ v ∈ row, 0 ≤ v ∧ v < (rds.length : Int) := fun v hv => h v (List.mem_append_left _ hv)
    obtain ⟨i1, i2⟩ := ih hrow
    have z := h r (List.mem_append_right _ List.mem_cons_self)
    have e := endsR_ok ok z.1 z.2
    obtain ⟨c1, c2⟩ := clsN_step (rds := rds) (r := r) (nmd_joins hp ok hrow) e.1 e.2.1
    rw [joins_snoc, List.length_append, List.length_singleton, acy_snoc]
    by_cases c : nm (joinsL places rds row) (endsR rds r).1 = nm (joinsL places rds row) (endsR rds r).2
    · rw [c2 c]
      exact ⟨by omega, fun q => absurd c q.2, fun q => absurd q (by omega)⟩
    · have c1 := c1 c
      exact ⟨by omega, fun q => by have := i2.mp q.1; omega, fun q => ⟨i2.mpr (by omega), c⟩⟩
theorem cls_one (hp : 0 < places) (h : Nmd places l) : (∀ x ∈ l, x = 0) ↔ clsN places l = 1 := by
  have h0 : (0 : Int) ∈ l := h.zero ▸ nm_mem h.len (Int.le_refl 0) hp
  unfold clsN
  constructor
  · intro z
    have e : ((rangeI 0 places.toNat).filter fun x => decide (x ∈ l)) = (rangeI 0 places.toNat).filter fun x => x == 0 := by
      refine List.filter_congr fun x _ => ?_
      rw [Bool.eq_iff_iff, decide_eq_true_iff, beq_iff_eq]
      exact ⟨z x, fun e => e ▸ h0⟩
    rw [e, ← List.countP_eq_length_filter]
    show (rangeI 0 places.toNat).count 0 = 1
    rw [(rangeI_nodup _).count, if_pos (mem_rangeI.mpr ⟨Int.le_refl 0, by omega⟩)]
  · intro z x hx
    obtain ⟨y, e⟩ := List.length_eq_one_iff.mp z
    have m : ∀ v ∈ l, v = y := fun v hv => by
      have hm : v ∈ (rangeI 0 places.toNat).filter fun x => decide (x ∈ l) := List.mem_filter.mpr ⟨mem_rangeI.mpr (by have := h.rng v hv; omega), decide_eq_true hv⟩
      rw [e] at hm
      exact List.mem_singleton.mp hm
    rw [m x hx, ← m 0 h0]
theorem tree_iff (hp : 0 < places) (ok : okRds places rds) {row : List Int} (h : ∀ v ∈ row, 0 ≤ v ∧ v < (rds.length : Int)) : isTreeL places rds row ↔ (row.length : Int) = places - 1 ∧ Acy places rds row := by
  unfold isTreeL
  rw [cls_one hp (nmd_joins hp ok h), (cls_row hp ok h).2]
  constructor
  · rintro ⟨a, b⟩; exact ⟨a, by omega⟩
  · rintro ⟨a, b⟩; exact ⟨a, by omega⟩
end
def addF (n : Nat) (rd : Int × Int) (f : List Int × List Int) : List Int × List Int := (f.1 ++ [(n : Int)], f.2.map fun x => if x = nm f.2 rd.2 then nm f.2 rd.1 else x)
def forestsL (places : Int) (rds : List (Int × Int)) : Nat → List (List Int × List Int)
  | 0 => [([], rangeI 0 places.toNat)]
  | n + 1 => forestsL places rds n ++ ((forestsL places rds n).filter fun f => decide (nm f.2 (endsR rds (n : Int)).1 ≠ nm f.2 (endsR rds (n : Int)).2)).map (addF n (endsR rds (n : Int)))
def treesL (places : Int) (rds : List (Int × Int)) : List (List Int) := ((forestsL places rds rds.length).filter fun f => decide ((f.1.length : Int) = places - 1)).map (·.1)
def SameP (places : Int) (l m : List Int) : Prop := m.length = places.toNat ∧ ∀ p q : Int, 0 ≤ p → p < places → 0 ≤ q → q < places → (nm l p = nm l q ↔ nm m p = nm m q)
section
variable {places : Int} {rds : List (Int × Int)}
theorem merge_iff {u v x y : Int} (h : u ≠ v) : ((if x = v then u else x) = (if y = v then u else y)) ↔ (x = y ∨ ((x = u ∨ x = v) ∧ (y = u ∨ y = v))) := by
  by_cases a : x = v <;> by_cases b : y = v
  · rw [if_pos a, if_pos b]; exact ⟨fun _ => .inl (by omega), fun _ => rfl⟩
  · rw [if_pos a, if_neg b]
    constructor
    · intro e; exact .inr ⟨.inr a, .inl e.symm⟩
    · rintro (e | ⟨_, e⟩) <;> omega
  · rw [if_neg a, if_pos b]
    constructor
    · intro e; exact .inr ⟨.inl e, .inr b⟩
    · rintro (e | ⟨e, _⟩) <;> omega
  · rw [if_neg a, if_neg b]
    constructor
    · intro e; exact .inl e
    · rintro (e | ⟨e, f⟩) <;> omega
theorem forest_mem (hp : 0 < places) (ok : okRds places rds) : ∀ {n : Nat}, n ≤ rds.length → ∀ {f : List Int × List Int}, f ∈ forestsL places rds n → (∀ v ∈ f.1, 0 ≤ v ∧ v < (n : Int)) ∧ f.1.Pairwise (· < ·) ∧ Acy places rds f.1 ∧ SameP places (joinsL places rds f.1) f.2
  | 0, _, f, h => by
    rw [List.mem_singleton.mp (show f ∈ [([], rangeI 0 places.toNat)] from h)]
    exact ⟨(fun v hv => nomatch hv), .nil, acy_nil, rangeI_len _ _, fun p q _ _ _ _ => Iff.rfl⟩
  | n + 1, hn, f, h => by
    rcases List.mem_append.mp (show f ∈ forestsL places rds n ++ _ from h) with z | z
    · obtain ⟨a, b, c, d⟩ := forest_mem hp ok (by omega) z
      exact ⟨fun v hv => by have := a v hv; omega, b, c, d⟩
    · obtain ⟨g, hg, rfl⟩ := List.mem_map.mp z
      obtain ⟨hg1, hg2⟩ := List.mem_filter.mp hg
      have hg2 := of_decide_eq_true hg2
      obtain ⟨a, b, c, d⟩ := forest_mem hp ok (by omega) hg1
      have hr := endsR_ok ok (r := (n : Int)) (by omega) (by omega)
      have hne : nm (joinsL places rds g.1) (endsR rds (n : Int)).1 ≠ nm (joinsL places rds g.1) (endsR rds (n : Int)).2 := fun e => hg2 ((d.2 _ _ hr.1.1 hr.1.2 hr.2.1.1 hr.2.1.2).mp e)
      have hN := nmd_joins (row := g.1) hp ok fun v hv => by have := a v hv; omega
      refine ⟨fun v hv => ?_, ?_, acy_snoc.mpr ⟨c, hne⟩, by show (g.2.map _).length = _; rw [List.length_map]; exact d.1, fun p q p0 p1 q0 q1 => ?_⟩
      · rcases List.mem_append.mp (show v ∈ g.1 ++ [(n : Int)] from hv) with y | y
        · have := a v y
          omega
        · rw [List.mem_singleton.mp y]
          omega
      · show (g.1 ++ [(n : Int)]).Pairwise _
        rw [List.pairwise_append]
        refine ⟨b, List.pairwise_singleton _ _, fun x hx y hy => ?_⟩
        rw [List.mem_singleton.mp hy]
        exact (a x hx).2
      · show nm (joinsL places rds (g.1 ++ [(n : Int)])) p = nm (joinsL places rds (g.1 ++ [(n : Int)])) q ↔ nm (g.2.map _) p = nm (g.2.map _) q
        rw [joins_snoc, stepJ_eq, nm_map (by rw [hN.len]; omega), nm_map (by rw [hN.len]; omega), nm_map (by rw [d.1]; omega), nm_map (by rw [d.1]; omega)]
        have dpq := d.2 p q p0 p1 q0 q1
        have dp1 := d.2 p _ p0 p1 hr.1.1 hr.1.2
        have dp2 := d.2 p _ p0 p1 hr.2.1.1 hr.2.1.2
        have dq1 := d.2 q _ q0 q1 hr.1.1 hr.1.2
        have dq2 := d.2 q _ q0 q1 hr.2.1.1 hr.2.1.2
        rw [merge_iff hg2]
        rcases lohi (nm (joinsL places rds g.1) (endsR rds (n : Int)).1) (nm (joinsL places rds g.1) (endsR rds (n : Int)).2) with ⟨z1, z2, _⟩ | ⟨z1, z2, _⟩
        · rw [z1, z2, merge_iff hne, dpq, dp1, dp2, dq1, dq2]
        · rw [z1, z2, merge_iff (Ne.symm hne), dpq, dp1, dp2, dq1, dq2]
          constructor
          · rintro (e | ⟨e, e2⟩)
            · exact .inl e
            · exact .inr ⟨e.symm, e2.symm⟩
          · rintro (e | ⟨e, e2⟩)
            · exact .inl e
            · exact .inr ⟨e.symm, e2.symm⟩
theorem forest_of (hp : 0 < places) (ok : okRds places rds) : ∀ {n : Nat}, n ≤ rds.length → ∀ {row : List Int}, (∀ v ∈ row, 0 ≤ v ∧ v < (n : Int)) → row.Pairwise (· < ·) → Acy places rds row → ∃ m, (row, m) ∈ forestsL places rds n
  | 0, _, row, h, _, _ => by
    cases row with
    | nil => exact ⟨_, List.mem_singleton.mpr rfl⟩
    | cons a r =>
      have := h a List.mem_cons_self
      omega
  | n + 1, hn, row, h, h2, h3 => by
    rcases rise_last h h2 with z | ⟨r, rfl, z, z2⟩
    · obtain ⟨m, hm⟩ := forest_of hp ok (by omega) z h2 h3
      exact ⟨m, List.mem_append_left _ hm⟩
    · obtain ⟨h4, h5⟩ := acy_snoc.mp h3
      obtain ⟨m, hm⟩ := forest_of hp ok (by omega) z z2 h4
      obtain ⟨_, _, _, d⟩ := forest_mem hp ok (by omega) hm
      have hr := endsR_ok ok (r := (n : Int)) (by omega) (by omega)
      refine ⟨_, List.mem_append_right _ (List.mem_map.mpr ⟨(r, m), List.mem_filter.mpr ⟨hm, decide_eq_true fun e => h5 ((d.2 _ _ hr.1.1 hr.1.2 hr.2.1.1 hr.2.1.2).mpr e)⟩, rfl⟩)⟩
theorem trees_iff (hp : 0 < places) (ok : okRds places rds) {row : List Int} : row ∈ treesL places rds ↔ row ∈ setsL (places - 1) rds.length ∧ isTreeL places rds row := by
  unfold treesL
  rw [List.mem_map]
  constructor
  · rintro ⟨f, hf, rfl⟩
    obtain ⟨h1, h2⟩ := List.mem_filter.mp hf
    have h2 := of_decide_eq_true h2
    obtain ⟨a, b, c, _⟩ := forest_mem hp ok (Nat.le_refl _) h1
    exact ⟨sets_mem a b (by omega), (tree_iff hp ok a).mpr ⟨h2, c⟩⟩
  · rintro ⟨h1, h2⟩
    obtain ⟨a, b⟩ := mem_sets h1
    obtain ⟨c, d⟩ := (tree_iff hp ok a).mp h2
    obtain ⟨m, hm⟩ := forest_of hp ok (Nat.le_refl _) a b d
    exact ⟨(row, m), List.mem_filter.mpr ⟨hm, decide_eq_true c⟩, rfl⟩
end
end My
set_option linter.all false
namespace My
def waysOn (places : Int) (rds : List (Int × Int)) : Nat → Int → List Int → List (List Int)
  | 0, _, _ => []
  | k + 1, place, seen => if place = places - 1 then [[]] else (List.range rds.length).flatMap fun (r : Nat) =>
      if place = (endsR rds (r : Int)).1 ∨ place = (endsR rds (r : Int)).2 then
        (if (endsR rds (r : Int)).1 + (endsR rds (r : Int)).2 - place ∈ seen then [] else (waysOn places rds k ((endsR rds (r : Int)).1 + (endsR rds (r : Int)).2 - place) (seen ++ [(endsR rds (r : Int)).1 + (endsR rds (r : Int)).2 - place])).map fun rest => (r : Int) :: rest)
      else []
inductive Pth (places : Int) (rds : List (Int × Int)) : Int → List Int → List Int → Prop
  | stop {seen : List Int} : Pth places rds (places - 1) seen []
  | go {place r there : Int} {seen rest : List Int} (hp : place ≠ places - 1) (r0 : 0 ≤ r) (r1 : r < (rds.length : Int)) (hin : place = (endsR rds r).1 ∨ place = (endsR rds r).2) (ht : there = (endsR rds r).1 + (endsR rds r).2 - place) (hs : there ∉ seen)
      (h : Pth places rds there (seen ++ [there]) rest) : Pth places rds place seen (r :: rest)
section
variable {places : Int} {rds : List (Int × Int)}
theorem pth_of_ways : ∀ {k : Nat} {place : Int} {seen rs : List Int}, rs ∈ waysOn places rds k place seen → Pth places rds place seen rs
  | 0, _, _, _, h => nomatch h
  | k + 1, place, seen, rs, h => by
    unfold waysOn at h
    by_cases c : place = places - 1
    · rw [if_pos c] at h
      rw [List.mem_singleton.mp h, c]
      exact .stop
    · rw [if_neg c] at h
      obtain ⟨r, hr, h⟩ := List.mem_flatMap.mp h
      have hr := List.mem_range.mp hr
      by_cases c2 : place = (endsR rds (r : Int)).1 ∨ place = (endsR rds (r : Int)).2
      · rw [if_pos c2] at h
        by_cases c3 : (endsR rds (r : Int)).1 + (endsR rds (r : Int)).2 - place ∈ seen
        · rw [if_pos c3] at h
          cases h
        · rw [if_neg c3] at h
          obtain ⟨rest, hrest, rfl⟩ := List.mem_map.mp h
          exact .go c (by omega) (by omega) c2 rfl c3 (pth_of_ways hrest)
      · rw [if_neg c2] at h
        cases h
theorem ways_of_pth {place : Int} {seen rs : List Int} (h : Pth places rds place seen rs) : ∀ {k : Nat}, rs.length < k → rs ∈ waysOn places rds k place seen := by
  induction h with
  | stop =>
    intro k hk
    cases k with
    | zero => cases hk
    | succ k => unfold waysOn; rw [if_pos rfl]; exact List.mem_singleton.mpr rfl
  | @go place r there seen rest hp r0 r1 hin ht hs h ih =>
    intro k hk
    cases k with
    | zero => cases hk
    | succ k =>
      unfold waysOn
      rw [if_neg hp]
      rw [List.length_cons] at hk
      have e : ((r.toNat : Nat) : Int) = r := by omega
      refine List.mem_flatMap.mpr ⟨r.toNat, List.mem_range.mpr (by omega), ?_⟩
      rw [e, if_pos hin, ← ht, if_neg hs]
      exact List.mem_map.mpr ⟨rest, ih (by omega), rfl⟩
theorem nodup_sub : ∀ {l m : List Int}, l.Nodup → (∀ x ∈ l, x ∈ m) → l.length ≤ m.length
  | [], _, _, _ => Nat.zero_le _
  | a :: l, m, hn, h => by
    obtain ⟨n1, n2⟩ := List.nodup_cons.mp hn
    have ha := h a List.mem_cons_self
    have z := nodup_sub (m := m.erase a) n2 fun x hx => (List.mem_erase_of_ne (show x ≠ a from fun e => n1 (e ▸ hx))).mpr (h x (List.mem_cons_of_mem _ hx))
    have := List.length_erase_of_mem ha
    have := List.length_pos_of_mem ha
    rw [List.length_cons]
    omega
theorem nodup_perm : ∀ {l m : List Int}, l.Nodup → m.Nodup → (∀ x, x ∈ l ↔ x ∈ m) → l.Perm m
  | [], m, _, _, h => by
    cases m with
    | nil => exact .nil
    | cons b m => exact absurd ((h b).mpr List.mem_cons_self) (by simp)
  | a :: l, m, hn, hm, h => by
    obtain ⟨n1, n2⟩ := List.nodup_cons.mp hn
    have ha := (h a).mp List.mem_cons_self
    refine (List.Perm.cons a (nodup_perm (m := m.erase a) n2 (hm.erase a) fun x => ?_)).trans (List.perm_cons_erase ha).symm
    rw [hm.mem_erase_iff]
    constructor
    · intro hx; exact ⟨fun e => n1 (e ▸ hx), (h x).mp (List.mem_cons_of_mem _ hx)⟩
    · rintro ⟨hne, hx⟩
      exact (List.mem_cons.mp ((h x).mpr hx)).resolve_left hne
theorem one_more {D R : List Int} (hD : D.Nodup) (hR : R.Nodup) (hs : ∀ x ∈ D, x ∈ R) (hl : R.length = D.length + 1) : ∃ r, r ∈ R ∧ r ∉ D ∧ ∀ x ∈ R, x ∈ D ∨ x = r := by
  have e1 : (R.filter fun x => decide (x ∈ D)).length = D.length := (nodup_perm (hR.filter _) hD fun x => by
    rw [List.mem_filter, decide_eq_true_iff]
    exact ⟨fun h => h.2, fun h => ⟨hs x h, h⟩⟩).length_eq
  have e2 : (R.filter fun x => decide (x ∈ D)).length + (R.filter fun x => !decide (x ∈ D)).length = R.length := by
    have z := List.length_eq_countP_add_countP (fun x => decide (x ∈ D)) (l := R)
    rw [List.countP_eq_length_filter, List.countP_eq_length_filter] at z
    rw [z]
    congr 2
    refine List.filter_congr fun x _ => ?_
    by_cases c : x ∈ D <;> simp [c]
  obtain ⟨r, hr⟩ := List.length_eq_one_iff.mp (show (R.filter fun x => !decide (x ∈ D)).length = 1 by omega)
  have hm : r ∈ R.filter fun x => !decide (x ∈ D) := by rw [hr]; exact List.mem_singleton.mpr rfl
  obtain ⟨m1, m2⟩ := List.mem_filter.mp hm
  refine ⟨r, m1, by simpa using m2, fun x hx => ?_⟩
  by_cases c : x ∈ D
  · exact .inl c
  · have : x ∈ R.filter fun x => !decide (x ∈ D) := List.mem_filter.mpr ⟨hx, by simpa using c⟩
    rw [hr] at this
    exact .inr (List.mem_singleton.mp this)
def incR (rds : List (Int × Int)) (p r : Int) : Bool := decide (p = (endsR rds r).1 ∨ p = (endsR rds r).2)
def apartR (rds : List (Int × Int)) (l : List Int) : Prop := ∀ r ∈ l, (endsR rds r).1 ≠ (endsR rds r).2
theorem deg_inc (p : Int) : ∀ {l : List Int}, apartR rds l → (endsL rds l).count p = (l.filter (incR rds p)).length
  | [], _ => rfl
  | r :: l, h => by
    have ih := deg_inc p (l := l) fun x hx => h x (List.mem_cons_of_mem _ hx)
    have hr := h r List.mem_cons_self
    show ((endsR rds r).1 :: (endsR rds r).2 :: endsL rds l).count p = _
    rw [List.count_cons, List.count_cons, ih]
    by_cases c1 : p = (endsR rds r).1
    · have c2 : (endsR rds r).2 ≠ p := fun e => hr (by omega)
      rw [List.filter_cons_of_pos (show incR rds p r = true from decide_eq_true (.inl c1)), List.length_cons, if_neg (by simpa using c2), if_pos (by simpa using c1.symm)]
    · by_cases c2 : p = (endsR rds r).2
      · rw [List.filter_cons_of_pos (show incR rds p r = true from decide_eq_true (.inr c2)), List.length_cons, if_pos (by simpa using c2.symm), if_neg (by simpa using Ne.symm c1)]
      · rw [List.filter_cons_of_neg (show ¬ incR rds p r = true from fun z => by rcases (of_decide_eq_true z : p = (endsR rds r).1 ∨ p = (endsR rds r).2) with y | y; exact c1 y; exact c2 y), if_neg (by simpa using Ne.symm c2), if_neg (by simpa using Ne.symm c1)]
        rfl
theorem other_ends {p r : Int} (h : p = (endsR rds r).1 ∨ p = (endsR rds r).2) : ((endsR rds r).1 = p ∧ (endsR rds r).2 = (endsR rds r).1 + (endsR rds r).2 - p) ∨ ((endsR rds r).2 = p ∧ (endsR rds r).1 = (endsR rds r).1 + (endsR rds r).2 - p) := by
  rcases h with h | h
  · exact .inl ⟨h.symm, by omega⟩
  · exact .inr ⟨h.symm, by omega⟩
theorem deg_cons {p place r : Int} {rest : List Int} (h : place = (endsR rds r).1 ∨ place = (endsR rds r).2) : (endsL rds (r :: rest)).count p = (if p = place then 1 else 0) + (if p = (endsR rds r).1 + (endsR rds r).2 - place then 1 else 0) + (endsL rds rest).count p := by
  show ((endsR rds r).1 :: (endsR rds r).2 :: endsL rds rest).count p = _
  rw [List.count_cons, List.count_cons]
  have flip : ∀ a : Int, (if (a == p) = true then 1 else 0) = if p = a then (1 : Nat) else 0 := fun a => by
    by_cases c : p = a
    · rw [if_pos c, if_pos (by simpa using c.symm)]
    · rw [if_neg c, if_neg (by simpa using Ne.symm c)]
  rw [flip, flip]
  rcases other_ends h with ⟨e1, e2⟩ | ⟨e1, e2⟩
  · rw [← e2, e1]; omega
  · rw [← e2, e1]; omega
theorem pth_info (ok : okRds places rds) {place : Int} {seen rs : List Int} (h : Pth places rds place seen rs) : place ∈ seen → ∃ vs : List Int, vs.length = rs.length ∧ vs.Nodup ∧ (∀ v ∈ vs, v ∉ seen ∧ 0 ≤ v ∧ v < places) ∧ (∀ p, p ≠ place → p ∉ vs → (endsL rds rs).count p = 0) ∧
    (rs = [] → place = places - 1) ∧ (rs ≠ [] → place ≠ places - 1 ∧ places - 1 ∈ vs ∧ (endsL rds rs).count place = 1 ∧ (endsL rds rs).count (places - 1) = 1 ∧ ∀ p ∈ vs, p ≠ places - 1 → (endsL rds rs).count p = 2) := by
  induction h with
  | stop => intro _; exact ⟨[], rfl, .nil, (fun v hv => nomatch hv), fun _ _ _ => rfl, fun _ => rfl, fun e => absurd rfl e⟩
  | @go place r there seen rest hp r0 r1 hin ht hs h ih =>
    intro hpl
    obtain ⟨vs, hl, hn, hv, h0, he, hne⟩ := ih (List.mem_append_right _ List.mem_cons_self)
    have hE := endsR_ok ok r0 r1
    have htr : 0 ≤ there ∧ there < places := by rcases hin with z | z <;> omega
    have hpt : place ≠ there := fun e => hs (e ▸ hpl)
    have hvs : ∀ v ∈ vs, v ∉ seen ∧ v ≠ there := fun v hv' => ⟨fun z => (hv v hv').1 (List.mem_append_left _ z), fun z => (hv v hv').1 (by rw [z]; exact List.mem_append_right _ List.mem_cons_self)⟩
    have hpv : place ∉ vs := fun z => (hvs place z).1 hpl
    have dc : ∀ p, (endsL rds (r :: rest)).count p = (if p = place then 1 else 0) + (if p = there then 1 else 0) + (endsL rds rest).count p := fun p => by rw [deg_cons hin, ht]
    refine ⟨there :: vs, by rw [List.length_cons, List.length_cons, hl], List.nodup_cons.mpr ⟨fun z => (hvs there z).2 rfl, hn⟩, fun v hv' => ?_, fun p h1 h2 => ?_, (fun e => nomatch e), fun _ => ⟨hp, ?_, ?_, ?_, fun p h1 h2 => ?_⟩⟩
    · rcases List.mem_cons.mp hv' with z | z
      · rw [z]; exact ⟨hs, htr⟩
      · exact ⟨(hvs v z).1, (hv v z).2⟩
    · have p1 : p ≠ there := fun z => h2 (by rw [z]; exact List.mem_cons_self)
      rw [dc, if_neg h1, if_neg p1, h0 p p1 fun z => h2 (List.mem_cons_of_mem _ z)]
    · by_cases c : rest = []
      · rw [← he c]; exact List.mem_cons_self
      · exact List.mem_cons_of_mem _ (hne c).2.1
    · rw [dc, if_pos rfl, if_neg hpt, h0 place hpt hpv]
    · rw [dc, if_neg (Ne.symm hp)]
      by_cases c : rest = []
      · rw [if_pos (he c).symm, c]; rfl
      · rw [if_neg (Ne.symm (hne c).1), (hne c).2.2.2.1]
    · have c : rest ≠ [] := fun c => by
        rcases List.mem_cons.mp h1 with z | z
        · exact h2 (z.trans (he c))
        · rw [c] at hl
          rw [List.length_eq_zero_iff.mp hl] at z
          cases z
      rcases List.mem_cons.mp h1 with z | z
      · rw [dc, z, if_neg (Ne.symm hpt), if_pos rfl, (hne c).2.2.1]
      · rw [dc, if_neg (show p ≠ place from fun e => hpv (e ▸ z)), if_neg (hvs p z).2, (hne c).2.2.2.2 p z h2]
theorem pth_roads (ok : okRds places rds) {place : Int} {seen rs : List Int} (h : Pth places rds place seen rs) : place ∈ seen → rs.Nodup ∧ ∀ r ∈ rs, (0 ≤ r ∧ r < (rds.length : Int)) ∧ ((endsR rds r).1 ∉ seen ∨ (endsR rds r).2 ∉ seen) := by
  induction h with
  | stop => intro _; exact ⟨.nil, (fun v hv => nomatch hv)⟩
  | @go place r there seen rest hp r0 r1 hin ht hs h ih =>
    intro hpl
    obtain ⟨i1, i2⟩ := ih (List.mem_append_right _ List.mem_cons_self)
    have h2 : ∀ x ∈ seen, x ∈ seen ++ [there] := fun x hx => List.mem_append_left _ hx
    have ht2 : there ∈ seen ++ [there] := List.mem_append_right _ List.mem_cons_self
    refine ⟨List.nodup_cons.mpr ⟨fun z => ?_, i1⟩, fun x hx => ?_⟩
    · rcases other_ends hin with ⟨e1, e2⟩ | ⟨e1, e2⟩
      · rcases (i2 r z).2 with y | y
        · exact y (by rw [e1]; exact h2 _ hpl)
        · exact y (by rw [e2, ← ht]; exact ht2)
      · rcases (i2 r z).2 with y | y
        · exact y (by rw [e2, ← ht]; exact ht2)
        · exact y (by rw [e1]; exact h2 _ hpl)
    · rcases List.mem_cons.mp hx with z | z
      · subst z
        refine ⟨⟨r0, r1⟩, ?_⟩
        rcases other_ends hin with ⟨e1, e2⟩ | ⟨e1, e2⟩
        · exact .inr (by rw [e2, ← ht]; exact hs)
        · exact .inl (by rw [e2, ← ht]; exact hs)
      · refine ⟨(i2 x z).1, ?_⟩
        rcases (i2 x z).2 with y | y
        · exact .inl fun q => y (h2 _ q)
        · exact .inr fun q => y (h2 _ q)
theorem pth_len {place : Int} {seen rs : List Int} (ok : okRds places rds) (hp : 0 ≤ places) (h : Pth places rds place seen rs) (hpl : place ∈ seen) (hn : seen.Nodup) (hr : ∀ v ∈ seen, 0 ≤ v ∧ v < places) : seen.length + rs.length ≤ places.toNat := by
  obtain ⟨vs, hl, hvn, hv, _⟩ := pth_info ok h hpl
  have z := nodup_sub (l := seen ++ vs) (m := rangeI 0 places.toNat) (List.nodup_append.mpr ⟨hn, hvn, fun a ha b hb e => (hv b hb).1 (e ▸ ha)⟩) fun x hx => mem_rangeI.mpr (by
    rcases List.mem_append.mp hx with y | y
    · have := hr x y; omega
    · have := (hv x y).2; omega)
  rw [rangeI_len, List.length_append, hl] at z
  exact z
theorem joins_road (hp : 0 < places) (ok : okRds places rds) {row : List Int} (h : ∀ v ∈ row, 0 ≤ v ∧ v < (rds.length : Int)) : ∀ r ∈ row, nm (joinsL places rds row) (endsR rds r).1 = nm (joinsL places rds row) (endsR rds r).2 := by
  revert h
  refine rev_ind (Q := fun row => (∀ v ∈ row, 0 ≤ v ∧ v < (rds.length : Int)) → ∀ r ∈ row, nm (joinsL places rds row) (endsR rds r).1 = nm (joinsL places rds row) (endsR rds r).2) (fun _ r hr => nomatch hr) (fun row x ih h r hr => ?_) row
  have hrow : ∀ v ∈ row, 0 ≤ v ∧ v < (rds.length : Int) := fun v hv => h v (List.mem_append_left _ hv)
  have hN := nmd_joins hp ok hrow
  have zr := h r hr
  have er := endsR_ok ok zr.1 zr.2
  rw [joins_snoc, stepJ_eq, nm_map (by rw [hN.len]; omega), nm_map (by rw [hN.len]; omega)]
  rcases List.mem_append.mp hr with z | z
  · rw [ih hrow r z]
  · rw [List.mem_singleton.mp z]
    rcases lohi (nm (joinsL places rds row) (endsR rds x).1) (nm (joinsL places rds row) (endsR rds x).2) with ⟨z1, z2, _⟩ | ⟨z1, z2, _⟩
    · rw [z1, z2, if_pos rfl]; split <;> rfl
    · rw [z1, z2, if_pos rfl]; split <;> rfl
theorem joins_apart (hp : 0 < places) (ok : okRds places rds) {S : Int → Prop} {row : List Int} (h : ∀ v ∈ row, 0 ≤ v ∧ v < (rds.length : Int)) (hS : ∀ r ∈ row, (S (endsR rds r).1 ↔ S (endsR rds r).2)) :
    ∀ p q : Int, 0 ≤ p → p < places → 0 ≤ q → q < places → S p → ¬ S q → nm (joinsL places rds row) p ≠ nm (joinsL places rds row) q := by
  revert h hS
  refine rev_ind (Q := fun row => (∀ v ∈ row, 0 ≤ v ∧ v < (rds.length : Int)) → (∀ r ∈ row, (S (endsR rds r).1 ↔ S (endsR rds r).2)) → ∀ p q : Int, 0 ≤ p → p < places → 0 ≤ q → q < places → S p → ¬ S q → nm (joinsL places rds row) p ≠ nm (joinsL places rds row) q) (fun _ _ p q p0 p1 q0 q1 sp sq e => ?_) (fun row x ih h hS p q p0 p1 q0 q1 sp sq => ?_) row
  · have nr : ∀ v : Int, 0 ≤ v → v < places → nm (joinsL places rds []) v = v := fun v v0 v1 => by
      show (rangeI 0 places.toNat).getD v.toNat 0 = v
      rw [List.getD_eq_getElem?_getD, rangeI_get (by omega)]
      show 0 + ((v.toNat : Nat) : Int) = v
      omega
    rw [nr p p0 p1, nr q q0 q1] at e
    exact sq (e ▸ sp)
  · have hrow : ∀ v ∈ row, 0 ≤ v ∧ v < (rds.length : Int) := fun v hv => h v (List.mem_append_left _ hv)
    have ih := ih hrow fun r hr => hS r (List.mem_append_left _ hr)
    have hN := nmd_joins hp ok hrow
    have zx := h x (List.mem_append_right _ List.mem_cons_self)
    have ex := endsR_ok ok zx.1 zx.2
    have sx := hS x (List.mem_append_right _ List.mem_cons_self)
    have hpq := ih p q p0 p1 q0 q1 sp sq
    rw [joins_snoc]
    by_cases c : nm (joinsL places rds row) (endsR rds x).1 = nm (joinsL places rds row) (endsR rds x).2
    · rw [(clsN_step hN ex.1 ex.2.1).2 c]
      exact hpq
    · rw [stepJ_eq, nm_map (by rw [hN.len]; omega), nm_map (by rw [hN.len]; omega)]
      have key : ¬ ((nm (joinsL places rds row) p = nm (joinsL places rds row) (endsR rds x).1 ∨ nm (joinsL places rds row) p = nm (joinsL places rds row) (endsR rds x).2) ∧ (nm (joinsL places rds row) q = nm (joinsL places rds row) (endsR rds x).1 ∨ nm (joinsL places rds row) q = nm (joinsL places rds row) (endsR rds x).2)) := by
        rintro ⟨a, b⟩
        by_cases s1 : S (endsR rds x).1
        · have s2 := sx.mp s1
          rcases b with b | b
          · exact ih _ q ex.1.1 ex.1.2 q0 q1 s1 sq b.symm
          · exact ih _ q ex.2.1.1 ex.2.1.2 q0 q1 s2 sq b.symm
        · have s2 : ¬ S (endsR rds x).2 := fun z => s1 (sx.mpr z)
          rcases a with a | a
          · exact ih p _ p0 p1 ex.1.1 ex.1.2 sp s1 a
          · exact ih p _ p0 p1 ex.2.1.1 ex.2.1.2 sp s2 a
      rcases lohi (nm (joinsL places rds row) (endsR rds x).1) (nm (joinsL places rds row) (endsR rds x).2) with ⟨z1, z2, _⟩ | ⟨z1, z2, _⟩
      · rw [z1, z2]
        intro e
        rcases (merge_iff c).mp e with e | e
        · exact hpq e
        · exact key e
      · rw [z1, z2]
        intro e
        rcases (merge_iff (Ne.symm c)).mp e with e | e
        · exact hpq e
        · exact key ⟨e.1.symm, e.2.symm⟩
theorem pth_same {place : Int} {seen rs : List Int} {J : List Int} (h : Pth places rds place seen rs) : (∀ r ∈ rs, nm J (endsR rds r).1 = nm J (endsR rds r).2) → ∀ p, p ∈ endsL rds rs → nm J p = nm J place := by
  induction h with
  | stop => intro _ p hp; cases hp
  | @go place r there seen rest hp r0 r1 hin ht hs h ih =>
    intro hJ p hp
    have e := hJ r List.mem_cons_self
    have et : nm J there = nm J place := by
      rcases other_ends hin with ⟨e1, e2⟩ | ⟨e1, e2⟩
      · rw [← ht] at e2; rw [e1, e2] at e; exact e.symm
      · rw [← ht] at e2; rw [e1, e2] at e; exact e
    rcases List.mem_cons.mp (show p ∈ (endsR rds r).1 :: (endsR rds r).2 :: endsL rds rest from hp) with z | z
    · rw [z]
      rcases hin with y | y
      · rw [← y]
      · rw [e, ← y]
    rcases List.mem_cons.mp z with z | z
    · rw [z]
      rcases hin with y | y
      · rw [← e, ← y]
      · rw [← y]
    · rw [ih (fun x hx => hJ x (List.mem_cons_of_mem _ hx)) p z, et]
theorem perm_ends {l m : List Int} (h : l.Perm m) : (endsL rds l).Perm (endsL rds m) := h.flatMap_right _
theorem isWay_of (h2 : 2 ≤ places) (ok : okRds places rds) {rs row : List Int} (h : Pth places rds 0 [0] rs) (hp : row.Perm rs) : isWayL places rds row := by
  have h0 : (0 : Int) ∈ ([0] : List Int) := List.mem_cons_self
  obtain ⟨vs, hl, hn, hv, hz, he, hne⟩ := pth_info ok h h0
  obtain ⟨rn, rr⟩ := pth_roads ok h h0
  have hrs : rs ≠ [] := fun e => by have := he e; omega
  obtain ⟨_, q2, q3, q4, q5⟩ := hne hrs
  have hc : ∀ p, (endsL rds row).count p = (endsL rds rs).count p := fun p => (perm_ends hp).count_eq p
  have hrow : ∀ v ∈ row, 0 ≤ v ∧ v < (rds.length : Int) := fun v hv => (rr v (hp.mem_iff.mp hv)).1
  have hpos : 0 < places := by omega
  have hv0 : (0 : Int) ∉ vs := fun z => (hv 0 z).1 List.mem_cons_self
  have hmem : ∀ p, p ∈ endsL rds row ↔ p = 0 ∨ p ∈ vs := fun p => by
    rw [← List.count_pos_iff, hc]
    constructor
    · intro z
      by_cases c : p = 0 ∨ p ∈ vs
      · exact c
      · rw [hz p (fun e => c (.inl e)) fun e => c (.inr e)] at z
        omega
    · rintro (z | z)
      · rw [z, q3]; omega
      · by_cases c : p = places - 1
        · rw [c, q4]; omega
        · rw [q5 p z c]; omega
  have hlen : (usedL places rds row).length = rs.length + 1 := by
    have z := (nodup_perm (l := usedL places rds row) (m := 0 :: vs) ((rangeI_nodup _).filter _) (List.nodup_cons.mpr ⟨hv0, hn⟩) fun x => by
      unfold usedL
      rw [List.mem_filter, mem_rangeI, decide_eq_true_iff, hmem, List.mem_cons]
      constructor
      · rintro ⟨_, z⟩; exact z
      · intro z
        refine ⟨?_, z⟩
        rcases z with z | z
        · omega
        · have := (hv x z).2; omega).length_eq
    rw [z, List.length_cons, hl]
  refine ⟨fun p p0 p1 => ?_, by omega, by rw [hlen, hp.length_eq]; omega, fun p hpu => ?_⟩
  · unfold cntOk
    rw [hc]
    by_cases c : p = 0 ∨ p = places - 1
    · rw [if_pos c]
      rcases c with c | c
      · rw [c]; exact q3
      · rw [c]; exact q4
    · rw [if_neg c]
      by_cases c2 : p ∈ vs
      · exact .inr (q5 p c2 fun e => c (.inr e))
      · exact .inl (hz p (fun e => c (.inl e)) c2)
  · have hm := of_decide_eq_true (List.mem_filter.mp hpu).2
    have z := pth_same (J := joinsL places rds row) h (fun r hr => joins_road hpos ok hrow r (hp.mem_iff.mpr hr)) p ((perm_ends hp).mem_iff.mp hm)
    exact z.trans (nmd_joins hpos ok hrow).zero
theorem walk_of (h2 : 2 ≤ places) (ok : okRds places rds) {row : List Int} (hr : ∀ v ∈ row, 0 ≤ v ∧ v < (rds.length : Int)) (hnd : row.Nodup) (hw : isWayL places rds row) : ∀ (m : Nat) (place : Int) (seen done : List Int), places.toNat + 1 ≤ seen.length + m → seen.Nodup → (∀ v ∈ seen, 0 ≤ v ∧ v < places) → place ∈ seen → (0 : Int) ∈ seen →
    done.Nodup → (∀ r ∈ done, r ∈ row ∧ (endsR rds r).1 ∈ seen ∧ (endsR rds r).2 ∈ seen) → (∀ v ∈ seen, v ≠ place → ∀ r ∈ row, incR rds v r = true → r ∈ done) → (done.filter (incR rds place)).length = (if place = 0 then 0 else 1) →
    ∃ rs, Pth places rds place seen rs ∧ (done ++ rs).Perm row
  | 0, place, seen, done, hm, hn, hv, _, _, _, _, _, _ => by
    have z := nodup_sub (m := rangeI 0 places.toNat) hn fun x hx => mem_rangeI.mpr (by have := hv x hx; omega)
    rw [rangeI_len] at z
    omega
  | m + 1, place, seen, done, hm, hn, hv, hpl, h0, hdn, hd, hsat, hinc => by
    obtain ⟨w1, w2, w3, w4⟩ := hw
    have hap : apartR rds row := fun r hr' => (endsR_ok ok (hr r hr').1 (hr r hr').2).2.2
    have hdeg := w1 place (hv place hpl).1 (hv place hpl).2
    rw [deg_inc place hap] at hdeg
    have hsub : ∀ x ∈ done.filter (incR rds place), x ∈ row.filter (incR rds place) := fun x hx => by
      obtain ⟨a, b⟩ := List.mem_filter.mp hx
      exact List.mem_filter.mpr ⟨(hd x a).1, b⟩
    have hle := nodup_sub (hdn.filter (incR rds place)) hsub
    unfold cntOk at hdeg
    by_cases hend : place = places - 1
    · -- at the end: nothing is left
      rw [if_pos (.inr hend)] at hdeg
      rw [if_neg (by omega)] at hinc
      have hsat2 : ∀ v ∈ seen, ∀ r ∈ row, incR rds v r = true → r ∈ done := fun v hv' r hr' hi => by
        by_cases c : v = place
        · subst c
          have hperm := nodup_perm (l := done.filter (incR rds v)) (m := row.filter (incR rds v)) (hdn.filter _) (hnd.filter _)
          obtain ⟨x, hx⟩ := List.length_eq_one_iff.mp hdeg
          obtain ⟨y, hy⟩ := List.length_eq_one_iff.mp hinc
          have e1 := hsub y (by rw [hy]; exact List.mem_cons_self)
          rw [hx] at e1
          have e2 : r ∈ row.filter (incR rds v) := List.mem_filter.mpr ⟨hr', hi⟩
          rw [hx] at e2
          have e3 : y ∈ done.filter (incR rds v) := by rw [hy]; exact List.mem_cons_self
          rw [List.mem_singleton.mp e2, ← List.mem_singleton.mp e1]
          exact (List.mem_filter.mp e3).1
        · exact hsat v hv' c r hr' hi
      have hclosed : ∀ r ∈ row, ((endsR rds r).1 ∈ seen ↔ (endsR rds r).2 ∈ seen) := fun r hr' => by
        constructor
        · intro z; exact (hd r (hsat2 _ z r hr' (by simp [incR]))).2.2
        · intro z; exact (hd r (hsat2 _ z r hr' (by simp [incR]))).2.1
      have hall : ∀ r ∈ row, r ∈ done := fun r hr' => by
        have er := endsR_ok ok (hr r hr').1 (hr r hr').2
        have hu : (endsR rds r).1 ∈ usedL places rds row := List.mem_filter.mpr ⟨mem_rangeI.mpr (by omega), decide_eq_true (List.mem_flatMap.mpr ⟨r, hr', List.mem_cons_self⟩)⟩
        have e0 : nm (joinsL places rds row) (endsR rds r).1 = 0 := w4 _ hu
        have hin : (endsR rds r).1 ∈ seen := by
          by_cases c : (endsR rds r).1 ∈ seen
          · exact c
          · refine absurd ?_ (joins_apart (S := fun v => v ∈ seen) (by omega) ok hr hclosed 0 _ (Int.le_refl 0) (by omega) er.1.1 er.1.2 h0 c)
            rw [e0]
            exact (nmd_joins (by omega) ok hr).zero
        exact hsat2 _ hin r hr' (by simp [incR])
      refine ⟨[], hend ▸ .stop, ?_⟩
      rw [List.append_nil]
      exact nodup_perm hdn hnd fun x => ⟨fun z => (hd x z).1, hall x⟩
    · -- one road on
      have hmore : (row.filter (incR rds place)).length = (done.filter (incR rds place)).length + 1 := by
        by_cases c : place = 0
        · rw [if_pos (.inl c)] at hdeg
          rw [if_pos c] at hinc
          omega
        · rw [if_neg (by omega)] at hdeg
          rw [if_neg c] at hinc
          omega
      obtain ⟨r, hr1, hr2, hr3⟩ := one_more (hdn.filter _) (hnd.filter _) hsub hmore
      obtain ⟨hrow, hri⟩ := List.mem_filter.mp hr1
      have hrd : r ∉ done := fun z => hr2 (List.mem_filter.mpr ⟨z, hri⟩)
      have hin : place = (endsR rds r).1 ∨ place = (endsR rds r).2 := of_decide_eq_true hri
      have er := endsR_ok ok (hr r hrow).1 (hr r hrow).2
      obtain ⟨there, ht⟩ : ∃ x, x = (endsR rds r).1 + (endsR rds r).2 - place := ⟨_, rfl⟩
      have htr : 0 ≤ there ∧ there < places := by rcases hin with z | z <;> omega
      have hpt : there ≠ place := by rcases hin with z | z <;> omega
      have hti : incR rds there r = true := by
        refine decide_eq_true ?_
        rcases hin with z | z
        · exact .inr (by omega)
        · exact .inl (by omega)
      have hts : there ∉ seen := fun z => hrd (hsat there z hpt r hrow hti)
      have hends : (endsR rds r).1 ∈ seen ++ [there] ∧ (endsR rds r).2 ∈ seen ++ [there] := by
        have a : place ∈ seen ++ [there] := List.mem_append_left _ hpl
        have b : there ∈ seen ++ [there] := List.mem_append_right _ List.mem_cons_self
        rcases hin with z | z
        · exact ⟨z ▸ a, by rw [show (endsR rds r).2 = there by omega]; exact b⟩
        · exact ⟨by rw [show (endsR rds r).1 = there by omega]; exact b, z ▸ a⟩
      obtain ⟨rs, hrs, hperm⟩ := walk_of h2 ok hr hnd ⟨w1, w2, w3, w4⟩ m there (seen ++ [there]) (done ++ [r]) (by rw [List.length_append, List.length_singleton]; omega)
        (List.nodup_append.mpr ⟨hn, List.nodup_cons.mpr ⟨(fun z => nomatch z), .nil⟩, fun a ha b hb e => hts (by rw [List.mem_singleton.mp hb] at e; exact e ▸ ha)⟩)
        (fun v hv' => by
          rcases List.mem_append.mp hv' with z | z
          · exact hv v z
          · rw [List.mem_singleton.mp z]; exact htr)
        (List.mem_append_right _ List.mem_cons_self) (List.mem_append_left _ h0)
        (List.nodup_append.mpr ⟨hdn, List.nodup_cons.mpr ⟨(fun z => nomatch z), .nil⟩, fun a ha b hb e => hrd (by rw [List.mem_singleton.mp hb] at e; exact e ▸ ha)⟩)
        (fun x hx => by
          rcases List.mem_append.mp hx with z | z
          · obtain ⟨a, b, c⟩ := hd x z
            exact ⟨a, List.mem_append_left _ b, List.mem_append_left _ c⟩
          · rw [List.mem_singleton.mp z]; exact ⟨hrow, hends⟩)
        (fun v hv' hne x hx hi => by
          rcases List.mem_append.mp hv' with z | z
          · by_cases c : v = place
            · subst c
              rcases hr3 x (List.mem_filter.mpr ⟨hx, hi⟩) with y | y
              · exact List.mem_append_left _ (List.mem_filter.mp y).1
              · rw [y]; exact List.mem_append_right _ List.mem_cons_self
            · exact List.mem_append_left _ (hsat v z c x hx hi)
          · exact absurd (List.mem_singleton.mp z) hne)
        (by
          have e1 : done.filter (incR rds there) = [] := by
            rw [List.filter_eq_nil_iff]
            intro x hx hi
            obtain ⟨_, b, c⟩ := hd x hx
            rcases (of_decide_eq_true hi : there = (endsR rds x).1 ∨ there = (endsR rds x).2) with z | z
            · exact hts (z ▸ b)
            · exact hts (z ▸ c)
          rw [List.filter_append, e1, List.nil_append, List.filter_cons, if_pos hti, if_neg (show there ≠ 0 from fun e => hts (e ▸ h0))]
          rfl)
      refine ⟨r :: rs, .go hend (hr r hrow).1 (hr r hrow).2 hin ht hts hrs, ?_⟩
      rw [List.append_assoc] at hperm
      exact hperm
def wayP (places : Int) (rds : List (Int × Int)) (row : List Int) : Prop := ∃ w ∈ waysOn places rds 7 0 [0], row.Perm w ∧ row.Pairwise (· ≤ ·)
theorem rise_lt : ∀ {l : List Int}, l.Nodup → l.Pairwise (· ≤ ·) → l.Pairwise (· < ·)
  | [], _, _ => .nil
  | a :: l, hn, hp => by
    obtain ⟨n1, n2⟩ := List.nodup_cons.mp hn
    obtain ⟨p1, p2⟩ := List.pairwise_cons.mp hp
    refine List.pairwise_cons.mpr ⟨fun x hx => ?_, rise_lt n2 p2⟩
    have := p1 x hx
    have : a ≠ x := fun e => n1 (e ▸ hx)
    omega
theorem ways_iff (h2 : 2 ≤ places) (h6 : places ≤ 6) (ok : okRds places rds) {row : List Int} : wayP places rds row ↔ row ∈ setsL (places - 1) rds.length ∧ isWayL places rds row := by
  have h0 : (0 : Int) ∈ ([0] : List Int) := List.mem_cons_self
  have n0 : ([0] : List Int).Nodup := List.nodup_cons.mpr ⟨(fun z => nomatch z), .nil⟩
  have r0 : ∀ v ∈ ([0] : List Int), 0 ≤ v ∧ v < places := fun v hv => by rw [List.mem_singleton.mp hv]; omega
  constructor
  · rintro ⟨w, hw, hp, hs⟩
    have hpt := pth_of_ways hw
    obtain ⟨rn, rr⟩ := pth_roads ok hpt h0
    have hl := pth_len ok (by omega) hpt h0 n0 r0
    have hl2 := hp.length_eq
    rw [List.length_singleton] at hl
    exact ⟨sets_mem (fun v hv => (rr v (hp.mem_iff.mp hv)).1) (rise_lt (hp.nodup_iff.mpr rn) hs) (by omega), isWay_of h2 ok hpt hp⟩
  · rintro ⟨hs, hw⟩
    obtain ⟨a, b⟩ := mem_sets hs
    have hnd : row.Nodup := b.imp fun {x y} h e => by have : x < y := h; omega
    obtain ⟨rs, hrs, hp⟩ := walk_of h2 ok a hnd hw (places.toNat + 1) 0 [0] [] (by rw [List.length_singleton]; omega) n0 r0 h0 h0 .nil (fun r hr => nomatch hr) (fun v hv hne => absurd (List.mem_singleton.mp hv) hne) rfl
    rw [List.nil_append] at hp
    have hl := pth_len ok (by omega) hrs h0 n0 r0
    rw [List.length_singleton] at hl
    exact ⟨rs, ways_of_pth hrs (by omega), hp.symm, b.imp fun {x y} h => by have : x < y := h; omega⟩
end
end My
set_option Elab.async false
set_option linter.all false
set_option maxRecDepth 100000
namespace L2
open PySem PySem.Spec PyProof.Rows
section
variable {K : PySem.W.Frag} {cap : List (Option Nat)} {g : TG} {tt : TT} {te : TE} {σ : St} {H : Hp} {Q : VK}
theorem comp_zip {a b : Addr} {xs ys : List V} (Pv : Nat → List V → Hp → Prop) (h0 : Pv 0 [] H) (hlen : xs.length ≤ sizeLine) (hl : ∀ i zs H, Pv i zs H → SqL K H a xs ∧ SqL K H b ys ∧ zs.length ≤ i)
    (hs : ∀ i x y zs H p, xs[i]? = some x → ys[i]? = some y → Pv i zs H → H p = none → g (.ref p) (capt cap σ) (upd H p (.tup [x, y])) fun σ2 H2 => kst (capt cap σ) σ2 ∧ tt σ2 H2 fun b H3 => if b = true then te σ2 H3 fun v H4 => Pv (i + 1) (zs ++ [v]) H4 else Pv (i + 1) zs H3)
    (hd : ∀ zs H, Pv (min xs.length ys.length) zs H → ∀ p, H p = none → Q (.ref p) (upd H p (.lst zs))) : CompW (Itz K a b) cap g tt te σ Q H := by
  refine ⟨fun i zs H => i ≤ min xs.length ys.length ∧ Pv i zs H, min xs.length ys.length, ⟨Nat.zero_le _, h0⟩, ?_⟩
  rintro i zs H ⟨hi, p⟩
  obtain ⟨q1, q2, q3⟩ := hl i zs H p
  by_cases hlt : i < min xs.length ys.length
  · have h1 : i < xs.length := by omega
    have h2 : i < ys.length := by omega
    refine .inr ⟨⟨xs, ys, xs[i], ys[i], q1, q2, List.getElem?_eq_getElem h1, List.getElem?_eq_getElem h2⟩, hlt, by omega, ?_⟩
    rintro v H' ⟨r, x, y, rfl, hr, rfl, hx, hy⟩
    have z := hs i x y zs H r (hx xs q1) (hy ys q2) p hr
    have e : ∀ j zs' H', (j ≤ min xs.length ys.length ∧ Pv j zs' H') ↔ (j ≤ min xs.length ys.length ∧ Pv j zs' H') := fun _ _ _ => Iff.rfl
    have hn : i + 1 ≤ min xs.length ys.length := hlt
    simp only [hn, true_and]
    exact z
  · have e : i = min xs.length ys.length := by omega
    subst e
    exact .inl ⟨⟨xs, ys, q1, q2, by omega⟩, hd zs H p⟩
theorem comp_list {a : Addr} {xs : List V} (Pv : Nat → List V → Hp → Prop) (h0 : Pv 0 [] H) (hlen : xs.length ≤ sizeLine) (hl : ∀ i zs H, i ≤ xs.length → Pv i zs H → SqL K H a xs ∧ zs.length ≤ i)
    (hs : ∀ i x zs H, xs[i]? = some x → Pv i zs H → g x (capt cap σ) H fun σ2 H2 => kst (capt cap σ) σ2 ∧ tt σ2 H2 fun b H3 => if b = true then te σ2 H3 fun v H4 => Pv (i + 1) (zs ++ [v]) H4 else Pv (i + 1) zs H3)
    (hd : ∀ zs H, Pv xs.length zs H → ∀ p, H p = none → Q (.ref p) (upd H p (.lst zs))) : CompW (Itl K a) cap g tt te σ Q H := by
  refine ⟨fun i zs H => i ≤ xs.length ∧ Pv i zs H, xs.length, ⟨Nat.zero_le _, h0⟩, ?_⟩
  rintro i zs H ⟨hi, p⟩
  obtain ⟨q1, q3⟩ := hl i zs H hi p
  by_cases hlt : i < xs.length
  · refine .inr ⟨⟨xs, xs[i], q1, List.getElem?_eq_getElem hlt⟩, hlt, by omega, ?_⟩
    rintro v H' ⟨rfl, hx⟩
    have z := hs i v zs H' (hx xs q1) p
    have hn : i + 1 ≤ xs.length := hlt
    simp only [hn, true_and]
    exact z
  · have e : i = xs.length := by omega
    subst e
    exact .inl ⟨⟨xs, q1, Nat.le_refl _⟩, hd zs H p⟩
theorem comp_range {lo : Int} {n : Nat} (Pv : Nat → List V → Hp → Prop) (h0 : Pv 0 [] H) (hlen : n ≤ sizeLine) (hl : ∀ i zs H, i ≤ n → Pv i zs H → zs.length ≤ i)
    (hs : ∀ i zs H, i < n → Pv i zs H → g (.int (lo + (i : Int))) (capt cap σ) H fun σ2 H2 => kst (capt cap σ) σ2 ∧ tt σ2 H2 fun b H3 => if b = true then te σ2 H3 fun v H4 => Pv (i + 1) (zs ++ [v]) H4 else Pv (i + 1) zs H3)
    (hd : ∀ zs H, Pv n zs H → ∀ p, H p = none → Q (.ref p) (upd H p (.lst zs))) : CompW (Itr lo n) cap g tt te σ Q H := by
  refine ⟨fun i zs H => i ≤ n ∧ Pv i zs H, n, ⟨Nat.zero_le _, h0⟩, ?_⟩
  rintro i zs H ⟨hi, p⟩
  have q3 := hl i zs H hi p
  by_cases hlt : i < n
  · refine .inr ⟨hlt, hlt, by omega, ?_⟩
    rintro v H' ⟨rfl, rfl⟩
    have z := hs i zs H' hlt p
    have hn : i + 1 ≤ n := hlt
    simp only [hn, true_and]
    exact z
  · have e : i = n := by omega
    subst e
    exact .inl ⟨Nat.le_refl _, hd zs H p⟩
end
theorem same_new {H : Hp} {p : Addr} (h : H p = none) (o : HO) : Same H (upd H p o) := fun b u q => by rw [upd_ne (ne_of_none q h)]; exact q
theorem same_upd {H H1 : Hp} {p : Addr} (s : Same H H1) (h : H p = none) (o : HO) : Same H (upd H1 p o) := fun b u q => by rw [upd_ne (ne_of_none q h)]; exact s b u q
theorem inV_int (g : Int) : ∀ ds : List Int, inV (.int g) (ds.map V.int) = decide (g ∈ ds)
  | [] => rfl
  | d :: ds => by
    have ih := inV_int g ds
    unfold inV at ih ⊢
    rw [List.map_cons, List.any_cons, ih]
    show ((d == g) || decide (g ∈ ds)) = decide (g ∈ d :: ds)
    by_cases h : d = g
    · subst h
      rw [beq_self_eq_true, Bool.true_or, decide_eq_true List.mem_cons_self]
    · rw [beq_eq_false_iff_ne.mpr h, Bool.false_or]
      by_cases h2 : g ∈ ds
      · rw [decide_eq_true h2, decide_eq_true (List.mem_cons_of_mem _ h2)]
      · rw [decide_eq_false h2, decide_eq_false fun z => (List.mem_cons.mp z).elim (fun e => h e.symm) h2]
theorem flat_ints : ∀ ds : List Int, (ds.map V.int).all flatV = true
  | [] => rfl
  | _ :: ds => flat_ints ds
theorem pget {α β : Type} {F : α → β → Prop} : ∀ {as : List α} {bs : List β} {i : Nat} {a : α}, Paired F as bs → as[i]? = some a → ∃ b, bs[i]? = some b ∧ F a b
  | _, _, _, _, .nil, e => by simp at e
  | _, _, 0, _, .cons r _, e => by simp at e; subst e; exact ⟨_, rfl, r⟩
  | _, _, i + 1, a, .cons _ t, e => by
    obtain ⟨u, h1, h2⟩ := pget (i := i) (a := a) t (by simpa using e)
    exact ⟨u, by simpa using h1, h2⟩
theorem papp {α β : Type} {F : α → β → Prop} : ∀ {as as' : List α} {bs bs' : List β}, Paired F as bs → Paired F as' bs' → Paired F (as ++ as') (bs ++ bs')
  | _, _, _, _, .nil, s => s
  | _, _, _, _, .cons r t, s => .cons r (papp t s)
theorem pimp {α β : Type} {F G : α → β → Prop} : ∀ {as : List α} {bs : List β}, Paired F as bs → (∀ a ∈ as, ∀ b, F a b → G a b) → Paired G as bs
  | _, _, .nil, _ => .nil
  | _, _, .cons r t, f => .cons (f _ List.mem_cons_self _ r) (pimp t fun a ha b => f a (List.mem_cons_of_mem _ ha) b)
theorem map_ref_get {as : List Addr} {i : Nat} {x : V} (h : (as.map V.ref)[i]? = some x) : ∃ a, as[i]? = some a ∧ x = .ref a := by
  rw [List.getElem?_map] at h
  cases e : as[i]? with
  | none => rw [e] at h; cases h
  | some a => rw [e] at h; exact ⟨a, rfl, (Option.some.inj h).symm⟩
theorem map_int_get {ns : List Int} {i : Nat} {x : V} (h : (ns.map V.int)[i]? = some x) : ∃ n, ns[i]? = some n ∧ x = .int n := by
  rw [List.getElem?_map] at h
  cases e : ns[i]? with
  | none => rw [e] at h; cases h
  | some a => rw [e] at h; exact ⟨a, rfl, (Option.some.inj h).symm⟩
theorem take_snoc {α : Type} {l : List α} {i : Nat} {a : α} (h : l[i]? = some a) : l.take (i + 1) = l.take i ++ [a] := by
  rw [List.take_add_one, h]
  rfl
theorem decT {p : Prop} [Decidable p] (h : p) {A B : Prop} (a : A) : if decide p = true then A else B := by
  rw [decide_eq_true h, if_pos rfl]; exact a
theorem decF {p : Prop} [Decidable p] (h : ¬ p) {A B : Prop} (b : B) : if decide p = true then A else B := by
  rw [decide_eq_false h, if_neg Bool.false_ne_true]; exact b
theorem ndecT {p : Prop} [Decidable p] (h : ¬ p) {A B : Prop} (a : A) : if (!decide p) = true then A else B := by
  rw [decide_eq_false h, Bool.not_false, if_pos rfl]; exact a
theorem ndecF {p : Prop} [Decidable p] (h : p) {A B : Prop} (b : B) : if (!decide p) = true then A else B := by
  rw [decide_eq_true h, Bool.not_true, if_neg Bool.false_ne_true]; exact b
theorem dec2 {p : Prop} [Decidable p] {A B : Prop} (a : p → A) (b : ¬ p → B) : if decide p = true then A else B := by
  by_cases h : p
  · exact decT h (a h)
  · exact decF h (b h)
theorem small {n : Nat} (h : n ≤ 1000) : n ≤ sizeLine := Nat.le_of_lt (small1000 h)
theorem atI_of {α : Type} {xs : List α} {i : Int} (h0 : 0 ≤ i) (h : i < (xs.length : Int)) : ∃ v, atI xs i = some v ∧ xs[i.toNat]? = some v := by
  have hk : i.toNat < xs.length := by omega
  have e : i = ((i.toNat : Nat) : Int) := by omega
  have q : atI xs ((i.toNat : Nat) : Int) = some xs[i.toNat] := atI_nat (List.getElem?_eq_getElem hk)
  rw [← e] at q
  exact ⟨xs[i.toNat], q, List.getElem?_eq_getElem hk⟩
end L2
namespace My
open PySem L2
def IL (H : Hp) (a : Addr) (ns : List Int) : Prop := H a = some (.lst (ns.map V.int))
def ILL (H : Hp) (a : Addr) (nss : List (List Int)) : Prop := ∃ as : List Addr, H a = some (.lst (as.map V.ref)) ∧ Paired (IL H) as nss
def ILLn (H0 H : Hp) (a : Addr) (nss : List (List Int)) : Prop := H0 a = none ∧ ∃ as : List Addr, H a = some (.lst (as.map V.ref)) ∧ Paired (IL H) as nss ∧ ∀ b ∈ as, H0 b = none
theorem IL.mono {H H' : Hp} {a : Addr} {ns : List Int} (s : Same H H') (h : IL H a ns) : IL H' a ns := s _ _ h
theorem pmono {H H' : Hp} {as : List Addr} {nss : List (List Int)} (s : Same H H') (h : Paired (IL H) as nss) : Paired (IL H') as nss := pimp h fun _ _ _ z => z.mono s
theorem ILL.mono {H H' : Hp} {a : Addr} {nss : List (List Int)} (s : Same H H') (h : ILL H a nss) : ILL H' a nss := let ⟨as, h1, h2⟩ := h; ⟨as, s _ _ h1, pmono s h2⟩
theorem ILLn.mono {H0 H H' : Hp} {a : Addr} {nss : List (List Int)} (s : Same H H') (h : ILLn H0 H a nss) : ILLn H0 H' a nss := let ⟨h0, as, h1, h2, h3⟩ := h; ⟨h0, as, s _ _ h1, pmono s h2, h3⟩
theorem ILLn.ill {H0 H : Hp} {a : Addr} {nss : List (List Int)} (h : ILLn H0 H a nss) : ILL H a nss := let ⟨_, as, h1, h2, _⟩ := h; ⟨as, h1, h2⟩
end My
set_option Elab.async false
set_option linter.all false
set_option maxRecDepth 100000
namespace L2
open PySem PySem.Spec PyProof.Rows
def Ite (K : PySem.W.Frag) (a : Addr) : It :=
  ⟨fun i H => ∃ xs x, SqL K H a xs ∧ xs[i]? = some x,
   fun i H v H' => ∃ p x, v = .ref p ∧ H p = none ∧ H' = upd H p (.tup [.int (i : Int), x]) ∧ (∀ xs, SqL K H a xs → xs[i]? = some x),
   fun i H => ∃ xs, SqL K H a xs ∧ xs.length ≤ i⟩
theorem turn_enum {P : Program} {w : World} {K : PySem.W.Frag} {elts : List Expr} {kt : Nat} {pt : Pos} (e it a : Addr) (hne : e ≠ it) :
    Turn P w K (.Tuple elts kt pt) (Ite K a) [e, it] e (fun i h => (∃ old, IsEnum h e it (i : Int) old) ∧ h.IsListIter it a i) where
  mem := by simp
  obj := fun i h st c hc => by
    obtain ⟨⟨old, he⟩, ⟨o1, e1, c1, d1⟩⟩ := st
    simp only [List.mem_cons, List.not_mem_nil, or_false] at hc
    rcases hc with rfl | rfl
    · exact ⟨_, he, fun v q => by
        have q' : Data.fields _ = Data.cell v := q
        cases q'⟩
    · exact ⟨_, e1, fun v q => by rw [d1] at q; cases q⟩
  keep := fun i h h' st k => by
    obtain ⟨⟨old, he⟩, h1⟩ := st
    exact ⟨⟨old, k e (by simp) _ he⟩, h1.at fun o e => k it (by simp) o e⟩
  item := by
    intro X hP hw hK hc i pins s σ H E I hf st hg
    subst hP hw hK
    obtain ⟨xs, x, hxs, hx⟩ := hg
    obtain ⟨its, rv, p, hz⟩ := I.list hxs
    obtain ⟨u, hu, ru⟩ := rv.get hx
    obtain ⟨⟨old, q1⟩, q2⟩ := st
    refine wpAny_pyNext_enum_item q1 q2 p.isList (x := u) (by simpa using hu) hne fun h' a1 a2 a3 a4 hk => ?_
    refine ⟨_, rfl, wpAny_letOwnedTupleGo_enum a1 fun h'' b1 hs' => ?_⟩
    have lt : ∀ {c o}, s.heap.get? c = some o → s.heap.objs.size ≠ c := fun e => Nat.ne_of_gt (Heap.lt_size e)
    have keep : ∀ b o, b ∉ [e, it] → s.heap.get? b = some o → h''.get? b = some o := fun b o hb eo => by
      simp only [List.mem_cons, List.not_mem_nil, or_false, not_or] at hb
      exact hs'.extBut b o hb.1 (hk b o hb.1 hb.2 eo)
    have I1 : Inv X pins σ H { s with heap := h'', toks := s.toks + 1 } := I.turnedL (t' := s.toks + 1) _ hf keep
    have Tn : H s.heap.objs.size = none := I.hok.fresh (Nat.le_refl _)
    have fT : FpOk X pins H s.heap.objs.size := I.fpOk (Nat.le_refl _) Tn
    have eT : h''.get? s.heap.objs.size = some { cls := .type "tuple", data := .seq #[.int (i : Int) s.toks, u] } := hs'.extBut _ _ (lt q1) a3
    have I2 : Inv X pins σ (upd H s.heap.objs.size (.tup [.int (i : Int), x])) { s with heap := h'', toks := s.toks + 1 } := I1.track fT ⟨by show 2 ≤ sizeLine; decide, [.int (i : Int) s.toks, u], .cons ⟨_, rfl⟩ (.cons ru .nil), ⟨_, eT, rfl, _, rfl⟩⟩
    refine ⟨.ref s.heap.objs.size, _, I2, rfl, ⟨_, x, rfl, Tn, rfl, fun zs hz => by rw [I.list_inj hz hxs]; exact hx⟩, ⟨⟨_, by simpa using b1⟩, a2.extBut hs'.extBut (Ne.symm hne)⟩, fun b hb => ?_⟩
    have eb : b ≠ s.heap.objs.size := fun z => by
      simp only [List.mem_cons, List.not_mem_nil, or_false] at hb
      rcases hb with r | r
      · exact lt q1 (z.symm.trans r)
      · obtain ⟨_, e1, _⟩ := q2; exact lt e1 (z.symm.trans r)
    rw [upd_ne eb]
    exact (hf b hb).1
  done := by
    intro X hP hw hK hc i pins s σ H E I hf st hg
    subst hP hw hK
    obtain ⟨xs, hxs, hl⟩ := hg
    obtain ⟨its, rv, p, hz⟩ := I.list hxs
    obtain ⟨⟨old, q1⟩, q2⟩ := st
    have l1 := rv.length
    refine wpAny_pyNext_enum_end (I.ok.hd hc) q1 q2 p.isList (by simp; omega) fun h' hk => ⟨rfl, I.turnedL (t' := s.toks) _ hf fun b o hb eo => ?_⟩
    simp only [List.mem_cons, List.not_mem_nil, or_false, not_or] at hb
    exact hk b o hb.2 eo
  self := fun _ _ _ _ _ st h => by
    obtain ⟨⟨old, he⟩, _⟩ := st
    exact wpAny_pyIter_enum he h
section
variable {X : Cx}
theorem boot_enum : bootBuiltins "enumerate" = some (.type "enumerate") := by decide +kernel
def iEnum (K : PySem.W.Frag) (ta : TA) : TI := fun σ H R => ta σ H fun vs H1 => ∃ a, vs = [.ref a] ∧ (∃ xs, H1 a = some (.lst xs)) ∧ R (Ite K a) H1
theorem pi_enum {a : Expr} {elts : List Expr} {kt : Nat} {pt : Pos} {ta : TA} {p pos : Pos} (hg : Gl X "enumerate") (hm : X.mg "enumerate" = none) (ha : PA X [a] ta) (hs : starEach [a] X.env = [(false, eval a X.env)] := by rfl) :
    PI X (.Tuple elts kt pt) (.Call (.Name "enumerate" p) [a] [] pos) (iEnum X.K ta) := by
  intro pins s σ H R I h
  refine Call_ (ld_blt I hg hm boot_enum (PyProof.Rows.callWith_type1 (thn (ha pos pins s σ H _ I h) fun us s1 ⟨vs, H1, I1, r1, q1⟩ => ?_) hs rfl))
  obtain ⟨la, e, ⟨xs, hxs⟩, q⟩ := q1
  subst e
  cases r1 with
  | cons r rr =>
    cases rr
    cases r
    obtain ⟨hz, its, n, rv, ho⟩ := (show ObjOk X.prog X.w H1 s1.heap la (.lst xs) from I1.hok la _ hxs)
    refine call_enumerate_1 ho fun h' z1 z2 z3 hk => wpAny_pyIter_enum z1 ?_
    refine ⟨s1.heap.objs.size + 1, [s1.heap.objs.size + 1, s1.heap.objs.size], _, _, H1, rfl, I1.kept (t' := s1.toks) hk, turn_enum _ _ la (Nat.succ_ne_self _), ⟨⟨_, z1⟩, z2⟩, fun b hb => ?_, q⟩
    have hle : s1.heap.objs.size ≤ b := by
      simp only [List.mem_cons, List.not_mem_nil, or_false] at hb
      rcases hb with r | r <;> rw [r] <;> omega
    exact I1.fpOk hle (I1.hok.fresh hle)
end
section
variable {K : PySem.W.Frag} {cap : List (Option Nat)} {g : TG} {tt : TT} {te : TE} {σ : St} {H : Hp} {Q : VK}
theorem comp_enum {a : Addr} {xs : List V} (Pv : Nat → List V → Hp → Prop) (h0 : Pv 0 [] H) (hlen : xs.length ≤ sizeLine) (hl : ∀ i zs H, i ≤ xs.length → Pv i zs H → SqL K H a xs ∧ zs.length ≤ i)
    (hs : ∀ i x zs H p, xs[i]? = some x → Pv i zs H → H p = none → g (.ref p) (capt cap σ) (upd H p (.tup [.int (i : Int), x])) fun σ2 H2 => kst (capt cap σ) σ2 ∧ tt σ2 H2 fun b H3 => if b = true then te σ2 H3 fun v H4 => Pv (i + 1) (zs ++ [v]) H4 else Pv (i + 1) zs H3)
    (hd : ∀ zs H, Pv xs.length zs H → ∀ p, H p = none → Q (.ref p) (upd H p (.lst zs))) : CompW (Ite K a) cap g tt te σ Q H := by
  refine ⟨fun i zs H => i ≤ xs.length ∧ Pv i zs H, xs.length, ⟨Nat.zero_le _, h0⟩, ?_⟩
  rintro i zs H ⟨hi, p⟩
  obtain ⟨q1, q3⟩ := hl i zs H hi p
  by_cases hlt : i < xs.length
  · refine .inr ⟨⟨xs, xs[i], q1, List.getElem?_eq_getElem hlt⟩, hlt, by omega, ?_⟩
    rintro v H' ⟨r, x, rfl, hr, rfl, hx⟩
    have z := hs i x zs H r (hx xs q1) p hr
    have hn : i + 1 ≤ xs.length := hlt
    simp only [hn, true_and]
    exact z
  · have e : i = xs.length := by omega
    subst e
    exact .inl ⟨⟨xs, q1, Nat.le_refl _⟩, hd zs H p⟩
end
section
variable {X : Cx} (K : PySem.W.Frag)
theorem op_notInK (hK : X.K = K) : OpR X (compareOp .NotIn) (rIn K true) := by
  subst hK
  exact op_notIn_seq
theorem ix_listK (hK : X.K = K) : IxR X (rIxL K) := by
  subst hK
  exact ix_list
theorem call_lenK (hK : X.K = K) : CallR X (.builtin "len") (fun xs H Q => ∃ p ys, xs = [.ref p] ∧ (SqL K H p ys ∨ SqT K H p ys) ∧ Q (.int ys.length) H) := by
  subst hK
  exact call_len_seq
theorem pg_tupK {es : List Expr} {k : Nat} {t : TGs} {n : Nat} {pos : Pos} (hK : X.K = K) (hc : X.calm = true) (h : PGs X es t)
    (hn : (assignEach es X.env).length = n := by rfl) (hst : (assignEach es X.env).findIdx? (·.1) = none := by rfl) : PG X (.Tuple es k pos) (gTup K n t) := by
  subst hK
  exact pg_tup hc h hn hst
end
end L2
set_option Elab.async false
set_option linter.all false
set_option maxRecDepth 100000
namespace L2
open PySem PySem.Spec PyProof.Rows
section
variable {X : Cx}
theorem ints_vals : ∀ {us : List Value} {ns : List Int}, IntsAre us ns → Vals (ns.map V.int) us
  | _, _, .nil => .nil
  | _, _, .cons n t r => .cons ⟨t, rfl⟩ (ints_vals r)
theorem call_sorted : CallR X (.builtin "sorted") (fun xs H Q => ∃ (p : Addr) (ns : List Int), xs = [.ref p] ∧ SqL X.K H p (ns.map V.int) ∧ ns.length < 64 ∧ ∀ (l : Addr) (ms : List Int), H l = none → ms.Perm ns → ms.Pairwise (· ≤ ·) → Q (.ref l) (upd H l (.lst (ms.map V.int)))) := by
  intro pins s σ H xs us Q I r h
  obtain ⟨p, ns, rfl, hq, hl, q⟩ := h
  obtain ⟨u, rfl, ru⟩ := vals1 r
  cases ru
  obtain ⟨its, rv, pl, hz⟩ := I.list hq
  have lenV : ns.length = its.length := by have := rv.length; rwa [List.length_map] at this
  refine sorted_ints pl.isList (ints_of rv) (by omega) fun out ms a1 a2 a3 => ?_
  obtain ⟨e, he⟩ := sortedAll_at s.heap its out
  have hlen : (ms.map V.int).length ≤ sizeLine := by
    rw [List.length_map, a2.length_eq]
    exact Nat.le_trans (Nat.le_of_lt hl) (by decide)
  refine ⟨.ref (s.heap.objs.size + 1), _, I.laid (t' := s.toks) (a := s.heap.objs.size + 1) (o := .lst (ms.map V.int)) (fun b o e => sortedAll_old e) (Nat.le_succ _) ⟨hlen, out.toList, e, ints_vals a1, by simpa [seqObj] using he⟩, rfl, q _ ms (I.hok.fresh (Nat.le_succ _)) a2 a3⟩
def tRev (K : PySem.W.Frag) (te : TE) (tk : TO) : TE := fun σ H Q => te σ H fun x H1 => tk σ H1 fun k H2 => k = some (-1) ∧ ∃ a xs, x = .ref a ∧ SqL K H2 a xs ∧ ∀ p, H2 p = none → Q (.ref p) (upd H2 p (.lst xs.reverse))
theorem pe_rev {e : Expr} {st : Expr} {te : TE} {tk : TO} {pos p2 : Pos} (he : PE X e te) (hk : PO X (some st) tk) : PE X (.Subscript e (.Slice none none (some st) p2) pos) (tRev X.K te tk) := by
  intro pins s σ H Q I h
  refine Subscript_ (thn (he pins s σ H _ I h) fun v s1 ⟨x, H1, I1, r1, q1⟩ => ?_)
  refine wpAny_Slice ?_
  rw [evalPart_none]
  refine wpAny_pure (wpAny_pure (thn (hk pins s1 σ H1 _ I1 q1) fun vk s2 ⟨k, H2, I2, pk, e2, a, xs, ex, hx, q2⟩ => ?_))
  subst e2 ex
  cases r1
  have I4 : Inv X pins σ H2 { s2 with heap := s2.heap.push { cls := .type "slice", data := .fields #[.none, .none, vk] } } := I2.kept (t' := s2.toks) fun b ob q => Heap.get?_push_of_some _ q
  obtain ⟨its, r, ht, hz⟩ := I4.list hx
  have hlen := r.length
  show wpAny (model X.prog X.w) X.A (subscriptTail e (.Slice none none (some st) p2) (.ref a) (.ref s2.heap.objs.size)) (EP X pins σ Q) X.xe { s2 with heap := s2.heap.push { cls := .type "slice", data := .fields #[.none, .none, vk] } }
  refine tail_any (ops := [.ref a, .ref s2.heap.objs.size]) ht.isList.typeIs slot_list_getitem.lookup ?_ (by with_unfolding_all rfl)
  refine wpAny_getItem_list_slice ht.isList (Heap.IsSliceOf.new ..) .none .none pk (by decide) ?_ (by rw [List.size_toArray] <;> omega)
  rw [PySem.W.krv_pick]
  have hn := I4.hok.fresh (Nat.le_refl _)
  refine ⟨.ref (s2.heap.push { cls := .type "slice", data := .fields #[.none, .none, vk] }).objs.size, _, I4.laid (t' := s2.toks) (o := .lst xs.reverse) (fun b ob q => Heap.get?_push_of_some _ q) (Nat.le_refl _) ?_, rfl, q2 _ hn⟩
  exact ⟨by rw [List.length_reverse]; exact hz, its.reverse, 0, Vals.reverse r, by simpa using Heap.get?_push_size (s2.heap.push { cls := .type "slice", data := .fields #[.none, .none, vk] }) (o := { cls := .type "list", data := .seq its.toArray.toList.reverse.toArray }) rfl⟩
def tRngV (ta : TA) : TE := fun σ H Q => ta σ H fun vs H1 => ∃ j : Int, vs = [.int j] ∧ ∀ p, H1 p = none → Q (.ref p) (upd H1 p (.rng 0 j))
theorem pe_rangeV {a : Expr} {ta : TA} {p pos : Pos} (hg : Gl X "range") (hm : X.mg "range" = none) (ha : PA X [a] ta) (hs : starEach [a] X.env = [(false, eval a X.env)] := by rfl) : PE X (.Call (.Name "range" p) [a] [] pos) (tRngV ta) := by
  intro pins s σ H Q I h
  refine Call_ (ld_blt I hg hm boot_range (PyProof.Rows.callWith_type1 (thn (ha pos pins s σ H _ I h) fun us s1 ⟨vs, H1, I1, r1, j, e, q⟩ => ?_) hs rfl))
  subst e
  obtain ⟨u, rfl, t, rfl⟩ := vals1 r1
  exact call_range_1 ⟨.ref s1.heap.objs.size, _, I1.laid (o := .rng 0 j) (fun b o e => Heap.get?_push_of_some _ e) (Nat.le_refl _) ⟨_, _, _, Heap.get?_push_size _ rfl⟩, rfl, q _ (I1.hok.fresh (Nat.le_refl _))⟩
theorem call_listRng (hc : X.calm = true) : CallR X (.type "list") (fun xs H Q => ∃ (p : Addr) (j : Int), xs = [.ref p] ∧ H p = some (.rng 0 j) ∧ 0 ≤ j ∧ j ≤ 1000 ∧ ∀ l, H l = none → Q (.ref l) (upd H l (.lst ((List.range j.toNat).map fun (i : Nat) => V.int (i : Int))))) := by
  intro pins s σ H xs us Q I r h
  obtain ⟨p, j, rfl, hq, h0, h1, q⟩ := h
  obtain ⟨u, rfl, ru⟩ := vals1 r
  cases ru
  obtain ⟨t1, t2, t3, e⟩ := (show ObjOk X.prog X.w H s.heap p (.rng 0 j) from I.hok p _ hq)
  have hsz : Builtin.Range.rangeSize 0 j 1 = (j.toNat : Int) := by rw [rangeSize_one]; split <;> omega
  refine call_list_range (n := j.toNat) (I.ok.hd hc) (show IsRange s.heap p 0 j 1 t1 t2 t3 from e) (small_one (by decide) (by decide) (by omega) (by omega)) hsz (by omega) fun h' tk acc c' kp ho it => ?_
  obtain ⟨hl, hit⟩ := it
  have rv : ∀ (n : Nat) (l : List Value), l.length = n → ∀ k : Nat, (∀ (i : Nat) v, l[i]? = some v → ∃ t, v = Value.int ((k + i : Nat) : Int) t) → Vals ((List.range' k n).map fun (i : Nat) => V.int (i : Int)) l := by
    intro n
    induction n with
    | zero => intro l hl k _; rw [List.length_eq_zero_iff.mp hl]; exact .nil
    | succ n ih =>
      intro l hl k hk
      cases l with
      | nil => cases hl
      | cons v l =>
        rw [List.range'_succ, List.map_cons]
        refine .cons ?_ (ih l (by simpa using hl) (k + 1) fun i v hv => ?_)
        · obtain ⟨t, z⟩ := hk 0 v rfl
          exact ⟨t, by simpa using z⟩
        · obtain ⟨t, z⟩ := hk (i + 1) v (by simpa using hv)
          exact ⟨t, by rw [z]; congr 1; omega⟩
  have rr : Vals ((List.range j.toNat).map fun (i : Nat) => V.int (i : Int)) acc.toList := by
    rw [List.range_eq_range']
    refine rv j.toNat acc.toList (by simpa using hl) 0 fun i v hv => ?_
    obtain ⟨t, z⟩ := hit i v (by simpa using hv)
    exact ⟨t, by rw [z]; congr 1; omega⟩
  refine ⟨.ref s.heap.objs.size, _, I.laid (t' := tk) (o := .lst ((List.range j.toNat).map fun (i : Nat) => V.int (i : Int))) kp (Nat.le_refl _) ⟨?_, acc.toList, c', rr, by simpa using ho⟩, rfl, q _ (I.hok.fresh (Nat.le_refl _))⟩
  rw [List.length_map, List.length_range]
  exact small (by omega)
open PySem.AutoSeq1 (wpAny_loadPart') in
theorem countP_eqU {y : V} : ∀ {xs : List V} {us : List Value}, Vals xs us → xs.all flatV = true → us.countP (eqU y) = xs.countP fun z => eqV z y
  | _, _, .nil, _ => rfl
  | z :: xs, u :: us, .cons r t, f => by
    rw [List.all_cons, Bool.and_eq_true] at f
    rw [List.countP_cons, List.countP_cons, eqU_of r f.1, countP_eqU t f.2]
def rCountV (K : PySem.W.Frag) : V → List V → Hp → VK → Prop := fun x vs H Q => ∃ l xs y, x = .ref l ∧ vs = [y] ∧ SqL K H l xs ∧ flatV y = true ∧ xs.all flatV = true ∧ Q (.int (xs.countP fun z => eqV z y : Nat)) H
theorem mt_countV : MtR X "list.count" (rCountV X.K) := by
  intro pins s σ H x vs v us Q I rx rv h
  obtain ⟨l, xs, y, rfl, rfl, hq, fy, fs, q⟩ := h
  cases rx
  obtain ⟨u, rfl, ru⟩ := rv.one
  obtain ⟨its, r, pl, hz⟩ := I.list hq
  obtain ⟨⟨oc, od, oda, osl⟩, ho, hc, n, hd⟩ := pl.isList
  dsimp only at hc hd
  subst hc hd
  refine call_meets F.slot_list_count ⟨_, ho, rfl⟩ F.entry_list_count (F.args_list_count_2 _ _) (SeqAt.list_countAt l its.toArray n od osl u (eqU y)) ⟨ho, fun w hw => mem_eqAt ru fy r fs w (by simpa using hw), ?_⟩
  rw [show its.toArray.toList.countP (eqU y) = its.countP (eqU y) by simp, countP_eqU r fs]
  exact ⟨.int _, H, I.tok _, ⟨_, rfl⟩, q⟩
end
section
open PySem.AutoSeq1 (wpAny_loadPart')
open PySem.SeqAt PySem.MeetsSeq PySem.MeetsSeq2 PySem.MeetsSeq3
theorem ints_at : ∀ {us : List Value} {ns : List Int} {i : Nat} {n : Int}, IntsAre us ns → ns[i]? = some n → ∃ t, us[i]? = some (.int n t)
  | _, _, _, _, .nil, h => by simp at h
  | _, _, 0, _, .cons n t r, h => by simp at h; subst h; exact ⟨t, rfl⟩
  | _, _, i + 1, _, .cons n t r, h => by
    obtain ⟨t', e⟩ := ints_at (i := i) r (by simpa using h)
    exact ⟨t', by simpa using e⟩
theorem lt_loopI (l b : Addr) (ia ib : Array Value) (n n2 : Nat) (dd dd2 : Option Addr) (sl sl2 : Array (Option Value)) (ns ms : List Int) (hi : IntsAre ia.toList ns) (hj : IntsAre ib.toList ms) (k : Nat) :
    ∀ i : Nat, ia.size - i = k → i ≤ ia.size → i ≤ ib.size → Meets (Builtin.«list.__eq__.loop» ⟨[.ref l, .ref b, rawInt i, rawInt 0], []⟩)
      (fun _ R s => s.heap.get? l = some { cls := .type "list", dict := dd, data := .seq ia n, slots := sl } ∧ s.heap.get? b = some { cls := .type "list", dict := dd2, data := .seq ib n2, slots := sl2 } ∧
        R (.ok (.ret (.bool (HT.lexLt (ns.drop i) (ms.drop i))))) s) := by
  have z1 : ia.size = ns.length := by rw [← hi.length]; simp
  have z2 : ib.size = ms.length := by rw [← hj.length]; simp
  have ends : ∀ i : Nat, i ≤ ia.size → i ≤ ib.size → (i = ia.size ∨ i = ib.size) → HT.lexLt (ns.drop i) (ms.drop i) = decide (ia.size < ib.size) := by
    intro i h1 h2 h3
    by_cases c : i = ia.size
    · have e1 : ns.drop i = [] := by simp; omega
      rw [e1]
      by_cases c2 : i = ib.size
      · have e2 : ms.drop i = [] := by simp; omega
        rw [e2, HT.lexLt_nil_nil]
        exact (decide_eq_false (by omega)).symm
      · obtain ⟨x, r, e2⟩ : ∃ x r, ms.drop i = x :: r := by
          cases q : ms.drop i with
          | nil => simp at q; omega
          | cons x r => exact ⟨x, r, rfl⟩
        rw [e2, HT.lexLt_nil_cons]
        exact (decide_eq_true (by omega)).symm
    · have c2 : i = ib.size := h3.resolve_left c
      have e2 : ms.drop i = [] := by simp; omega
      obtain ⟨x, r, e1⟩ : ∃ x r, ns.drop i = x :: r := by
        cases q : ns.drop i with
        | nil => simp at q; omega
        | cons x r => exact ⟨x, r, rfl⟩
      rw [e1, e2, HT.lexLt_cons_nil]
      exact (decide_eq_false (by omega)).symm
  have stop : ∀ i : Nat, i ≤ ia.size → i ≤ ib.size → (i = ia.size ∨ i = ib.size) → Meets (Builtin.«list.__eq__.loop» ⟨[.ref l, .ref b, rawInt i, rawInt 0], []⟩)
      (fun _ R s => s.heap.get? l = some { cls := .type "list", dict := dd, data := .seq ia n, slots := sl } ∧ s.heap.get? b = some { cls := .type "list", dict := dd2, data := .seq ib n2, slots := sl2 } ∧
        R (.ok (.ret (.bool (HT.lexLt (ns.drop i) (ms.drop i))))) s) := by
    intro i h1 h2 h3 prog w A R s h
    obtain ⟨hp, g, d, tk, os⟩ := s
    obtain ⟨ga, gb, h⟩ := h
    rw [ends i h1 h2 h3] at h
    wp_walk using wpAny_loadPart' ga, wpAny_loadPart' gb
    by_cases c : i = ia.size
    · have i1 : ia[((i : Nat) : Int).toNat]? = none := by simp; omega
      rw [i1]
      cases q : ib[((i : Nat) : Int).toNat]? with
      | none =>
        wp_walk using wpAny_loadPart' ga, wpAny_loadPart' gb
        exact h
      | some v =>
        wp_walk using wpAny_loadPart' ga, wpAny_loadPart' gb
        exact h
    · have c2 : i = ib.size := h3.resolve_left c
      have i1 : ia[((i : Nat) : Int).toNat]? = some (ia[i]'(by omega)) := by first | (simp; done) | (simp; omega)
      have i2 : ib[((i : Nat) : Int).toNat]? = none := by simp; omega
      rw [i1, i2]
      wp_walk using wpAny_loadPart' ga, wpAny_loadPart' gb
      exact h
  induction k with
  | zero => intro i hk h1 h2; exact stop i h1 h2 (.inl (by omega))
  | succ k ih =>
    intro i hk h1 h2
    by_cases c : i = ib.size
    · exact stop i h1 h2 (.inr c)
    intro prog w A R s h
    obtain ⟨hp, g, d, tk, os⟩ := s
    obtain ⟨ga, gb, h⟩ := h
    have lt1 : i < ia.size := by omega
    have lt2 : i < ib.size := by omega
    obtain ⟨p, hp1⟩ : ∃ p, ns[i]? = some p := ⟨_, List.getElem?_eq_getElem (by omega)⟩
    obtain ⟨q, hq1⟩ : ∃ q, ms[i]? = some q := ⟨_, List.getElem?_eq_getElem (by omega)⟩
    obtain ⟨t, e1⟩ := ints_at hi hp1
    obtain ⟨u, e2⟩ := ints_at hj hq1
    have i1 : ia[((i : Nat) : Int).toNat]? = some (.int p t) := by simpa using e1
    have i2 : ib[((i : Nat) : Int).toNat]? = some (.int q u) := by simpa using e2
    have d1 : ns.drop i = p :: ns.drop (i + 1) := by
      obtain ⟨hl, e⟩ := List.getElem?_eq_some_iff.mp hp1
      rw [List.drop_eq_getElem_cons hl, e]
    have d2 : ms.drop i = q :: ms.drop (i + 1) := by
      obtain ⟨hl, e⟩ := List.getElem?_eq_some_iff.mp hq1
      rw [List.drop_eq_getElem_cons hl, e]
    rw [d1, d2, HT.lexLt_cons] at h
    have hc : ((i : Int) + 1) = ((i + 1 : Nat) : Int) := by push_cast; rfl
    wp_walk using wpAny_loadPart' ga, wpAny_loadPart' gb
    rw [i1, i2]
    obtain ⟨e, he, hiff⟩ := HT.eqAt_int A.in1 ⟨hp, g, d, tk, os⟩ p t q u
    refine wpAny_bind (he prog w _ _ ?_)
    cases e with
    | true =>
      rw [if_pos (hiff.mp rfl)] at h
      wp_walk
      rw [hc]
      exact ⟨plainId_quiet plain_eq_loop _, codeAny_builtin entry_eq_loop (by
        rw [Around.under_plainId plain_eq_loop _]
        exact ih (i + 1) (by omega) (by omega) (by omega) prog w A R _ ⟨ga, gb, h⟩)⟩
    | false =>
      rw [if_neg (fun z => absurd (hiff.mpr z) Bool.false_ne_true)] at h
      have hri := HT.rcLt_int A.in1 ⟨hp, g, d, tk, os⟩ p t q u prog w
      wp_walk using wpAny_loadPart' ga, wpAny_loadPart' gb
      rw [i1, i2]
      wp_walk using hri
      exact h
theorem list_ltI (l b : Addr) (ia ib : Array Value) (n n2 : Nat) (dd dd2 : Option Addr) (sl sl2 : Array (Option Value)) (ns ms : List Int) (hi : IntsAre ia.toList ns) (hj : IntsAre ib.toList ms) :
    Meets (Builtin.«list.__lt__» ⟨[.ref l, .ref b], []⟩)
      (fun _ R s => s.heap.get? l = some { cls := .type "list", dict := dd, data := .seq ia n, slots := sl } ∧ s.heap.get? b = some { cls := .type "list", dict := dd2, data := .seq ib n2, slots := sl2 } ∧ R (.ok (.ret (.bool (HT.lexLt ns ms)))) s) := by
  intro prog w A R s h
  obtain ⟨hp, g, d, tk, os⟩ := s
  obtain ⟨ga, gb, h⟩ := h
  have e3 := AutoSeq1.sub_list_list
  wp_walk using wpAny_loadPart' ga, wpAny_loadPart' gb
  exact ⟨plainId_quiet plain_eq_loop _, codeAny_builtin entry_eq_loop (by
    rw [Around.under_plainId plain_eq_loop _]
    exact lt_loopI l b ia ib n n2 dd dd2 sl sl2 ns ms hi hj _ 0 rfl (Nat.zero_le _) (Nat.zero_le _) prog w A R _ ⟨ga, gb, h⟩)⟩
theorem rcLt_list {A : Around} {s : Shared} {l b : Addr} {ia ib : Array Value} {ns ms : List Int} (hl : s.heap.IsList l ia) (hb : s.heap.IsList b ib) (hi : IntsAre ia.toList ns) (hj : IntsAre ib.toList ms) (hu : A.units < cLine)
    (prog : Program) (w : World) (E : Value → Shared → Prop) (Q : Value → Shared → Prop) (h : Q (.bool (HT.lexLt ns ms)) s) : wpAny (model prog w) A (richCompare .Lt (.ref l) (.ref b)) Q E s := by
  obtain ⟨⟨c1, d1, a1, s1⟩, ho, hc, n, hd⟩ := hl
  obtain ⟨⟨c2, d2, a2, s2⟩, ho2, hc2, n2, hd2⟩ := hb
  dsimp only at hc hd hc2 hd2
  subst hc hd hc2 hd2
  exact richCompare_meets_room (op := .Lt) ⟨_, ho, rfl⟩ ⟨_, ho2, rfl⟩ PySem.F.slot_list_lt PySem.F.entry_list_lt (PySem.F.args_list_lt_2 _ _) (list_ltI l b ia ib n n2 d1 d2 s1 s2 ns ms hi hj)
    ⟨ho, ho2, show Value.bool (HT.lexLt ns ms) ≠ Value.notImplemented ∧ Q (.bool (HT.lexLt ns ms)) s from ⟨(fun x => nomatch x), h⟩⟩ hu
inductive LtRes (A : Around) (s : Shared) : List Value → List Value → Bool → Prop where
  | nn : LtRes A s [] [] false
  | nc {x : Value} {r : List Value} : LtRes A s [] (x :: r) true
  | cn {x : Value} {r : List Value} : LtRes A s (x :: r) [] false
  | eq {x y : Value} {r t : List Value} {b : Bool} : SeqAt.EqAt A s x y true → LtRes A s r t b → LtRes A s (x :: r) (y :: t) b
  | lt {x y : Value} {r t : List Value} {b : Bool} : SeqAt.EqAt A s x y false → (∀ (prog : Program) (w : World) (E : Value → Shared → Prop) (Q : Value → Shared → Prop), Q (.bool b) s → wpAny (model prog w) A (richCompare .Lt x y) Q E s) → LtRes A s (x :: r) (y :: t) b
theorem tuple_ltR (l b : Addr) (ia ib : Array Value) (n n2 : Nat) (dd dd2 : Option Addr) (sl sl2 : Array (Option Value)) (res : Bool) :
    Meets (Builtin.«tuple.__lt__» ⟨[.ref l, .ref b], []⟩)
      (fun A R s => s.heap.get? l = some { cls := .type "tuple", dict := dd, data := .seq ia n, slots := sl } ∧ s.heap.get? b = some { cls := .type "tuple", dict := dd2, data := .seq ib n2, slots := sl2 } ∧
        LtRes A.in1 s ia.toList ib.toList res ∧ R (.ok (.ret (.bool res))) s) :=
  .of_wp fun prog w A R s h => by
    obtain ⟨hp, g, d, tk, os⟩ := s
    obtain ⟨ga, gb, hL, h⟩ := h
    have f2 := AutoSeq1.sub_tuple_tuple
    wp_walk using wpAny_loadPart' ga, wpAny_loadPart' gb, wpAny_forIn_list _ (fun rest b s' => b.1 = none ∧ s' = ⟨hp, g, d, tk, os⟩ ∧ ∃ (vs ws : List Value), rest = vs.zip ws ∧ vs.length + ib.size = ws.length + ia.size ∧ LtRes A.in1 ⟨hp, g, d, tk, os⟩ vs ws res) _
    case turn =>
      rintro ⟨y, x⟩ rest b s' ⟨hb', rfl, vs, ws, hz, hlen, hR⟩
      cases hR with
      | nn => cases hz
      | nc => cases hz
      | cn => rw [List.zip_nil_right] at hz; cases hz
      | eq he hR =>
        rw [List.zip_cons_cons] at hz
        injection hz with hyx hrest
        injection hyx with hy hx
        subst hy hx
        simp only [List.length_cons] at hlen
        refine wpAny_bind (he prog w _ _ ?_)
        wp_walk
        exact ⟨rfl, rfl, _, _, hrest, by omega, hR⟩
      | lt he hlt =>
        rw [List.zip_cons_cons] at hz
        injection hz with hyx hrest
        injection hyx with hy hx
        subst hy hx
        refine wpAny_bind (he prog w _ _ ?_)
        have hri := hlt prog w
        wp_walk using hri
        exact ⟨_, rfl, by simpa using h⟩
    case fin =>
      rintro ⟨b1, b2⟩ s' ⟨hb', rfl, vs, ws, hz, hlen, hR⟩
      simp only at hb'
      subst hb'
      have hv : res = decide (ia.size < ib.size) := by
        cases hR with
        | nn => simp only [List.length_nil] at hlen; exact (decide_eq_false (by omega)).symm
        | nc => simp only [List.length_nil, List.length_cons] at hlen; exact (decide_eq_true (by omega)).symm
        | cn => simp only [List.length_nil, List.length_cons] at hlen; exact (decide_eq_false (by omega)).symm
        | eq _ _ => rw [List.zip_cons_cons] at hz; cases hz
        | lt _ _ => rw [List.zip_cons_cons] at hz; cases hz
      rw [hv] at h
      wp_walk
      exact ⟨_, rfl, by simpa [Builtin.Tuple.tupleCompareSizes] using h⟩
    case h =>
      exact ⟨rfl, rfl, ia.toList, ib.toList, rfl, by simp; omega, hL⟩
end
section
variable {X : Cx}
theorem lexLt_self : ∀ ns : List Int, HT.lexLt ns ns = false
  | [] => rfl
  | n :: ns => by rw [HT.lexLt_cons, if_pos rfl]; exact lexLt_self ns
end
end L2
set_option Elab.async false
set_option linter.all false
set_option maxRecDepth 100000
namespace My
open PySem L2 PyProof.Rows
seal L2.PSs L2.PS L2.PE L2.PT L2.PW L2.PA L2.PG L2.PGs L2.PI L2.PTs L2.PO L2.OpR L2.UnR L2.CallR L2.IxR L2.SlR
section
variable {K : PySem.W.Frag}
theorem cut_to {xs : List V} {k : Int} (h0 : 0 ≤ k) (h : k ≤ (xs.length : Int)) : cutV xs none (some k) = xs.take k.toNat := by
  obtain ⟨n, rfl⟩ : ∃ n : Nat, k = (n : Int) := ⟨k.toNat, by omega⟩
  unfold cutV
  rw [HT.sIx_nat, HT.sIx_none, List.drop_zero, Nat.sub_zero, Nat.min_eq_left (by omega), Int.toNat_natCast]
theorem cut_toX {xs : List V} {k : Int} (h0 : 0 ≤ k) : cutV xs none (some k) = xs.take k.toNat := by
  by_cases h : k ≤ (xs.length : Int)
  · exact cut_to h0 h
  obtain ⟨n, rfl⟩ : ∃ n : Nat, k = (n : Int) := ⟨k.toNat, by omega⟩
  unfold cutV
  rw [HT.sIx_nat, HT.sIx_none, List.drop_zero, Nat.sub_zero, Nat.min_eq_right (by omega), Int.toNat_natCast, List.take_of_length_le (by omega), List.take_of_length_le (by omega)]
theorem cut_from {xs : List V} {k : Int} (h0 : 0 ≤ k) (h : k ≤ (xs.length : Int)) : cutV xs (some k) none = xs.drop k.toNat := by
  obtain ⟨n, rfl⟩ : ∃ n : Nat, k = (n : Int) := ⟨k.toNat, by omega⟩
  unfold cutV
  rw [HT.sIx_nat, HT.sIx_none, Nat.min_eq_left (by omega), Int.toNat_natCast, List.take_of_length_le (by rw [List.length_drop]; exact Nat.le_refl _)]
theorem cut_read {σ : L2.St} {H : Hp} {Q : VK} {i j : Nat} {a : Addr} {xs : List V} {k : Int} (h1 : σ[i]? = some (some (.ref a))) (h2 : σ[j]? = some (some (.int k))) (hA : H a = some (.lst xs)) (hl : xs.length ≤ 100) (k0 : 0 ≤ k) (k1 : k < (xs.length : Int))
    (q : ∀ r H', Same H H' → H r = none → H' r = some (.lst (xs.eraseIdx k.toNat)) → Q (.ref r) H') :
    tOp rCat (tSl (rSlL K) (tVar i) tNoPart (tPart (tVar j))) (tSl (rSlL K) (tVar i) (tPart (tOp (rI0 fun i j => .int (i + j)) (tVar j) (tC (.int 1)))) tNoPart) σ H Q := by
  refine ⟨_, h1, _, h2, k, rfl, a, _, rfl, SqL.of hA, fun p hp => ?_⟩
  rw [cut_to k0 (by omega)]
  have s1 : Same H (upd H p (.lst (xs.take k.toNat))) := same_new hp _
  refine ⟨_, h1, _, h2, _, _, rfl, rfl, _, rfl, a, _, rfl, SqL.of (s1 _ _ hA), fun p2 hp2 => ?_⟩
  rw [cut_from (by omega) (by omega)]
  have s2 : Same (upd H p (.lst (xs.take k.toNat))) (upd (upd H p (.lst (xs.take k.toNat))) p2 (.lst (xs.drop (k + 1).toNat))) := same_new hp2 _
  refine ⟨p, p2, _, _, rfl, rfl, s2 _ _ upd_same, upd_same, (by rw [List.length_take, List.length_drop]; exact small (by omega)), fun r hr2 => ?_⟩
  refine q r _ (s1.trans (s2.trans (same_new hr2 _))) ((s1.trans s2).free hr2) ?_
  rw [upd_same, List.eraseIdx_eq_take_drop_succ, show (k + 1).toNat = k.toNat + 1 by omega]
theorem put_read {σ : L2.St} {H : Hp} {Q : VK} {i j : Nat} {ty : TE} {a : Addr} {xs : List V} {k : Int} (h1 : σ[i]? = some (some (.ref a))) (h2 : σ[j]? = some (some (.int k))) (hA : H a = some (.lst xs)) (hl : xs.length ≤ 100) (k0 : 0 ≤ k) (k1 : k < (xs.length : Int))
    (hy : ∀ (H1 : Hp) (R : VK), Same H H1 → (∀ y H2, Same H1 H2 → (∀ r H', Same H2 H' → H2 r = none → H' r = some (.lst (xs.set k.toNat y)) → Q (.ref r) H') → R y H2) → ty σ H1 R) :
    tOp rCat (tOp rCat (tSl (rSlL K) (tVar i) tNoPart (tPart (tVar j))) (tLst (tCons ty tNil))) (tSl (rSlL K) (tVar i) (tPart (tOp (rI0 fun i j => .int (i + j)) (tVar j) (tC (.int 1)))) tNoPart) σ H Q := by
  refine ⟨_, h1, _, h2, k, rfl, a, _, rfl, SqL.of hA, fun p hp => ?_⟩
  rw [cut_to k0 (by omega)]
  have s1 : Same H (upd H p (.lst (xs.take k.toNat))) := same_new hp _
  refine hy _ _ s1 fun y H2 s2 q => ?_
  refine ⟨(by show 1 ≤ sizeLine; decide), fun l hl' => ?_⟩
  have s3 : Same H2 (upd H2 l (.lst [y])) := same_new hl' _
  refine ⟨p, l, _, _, rfl, rfl, s3 _ _ (s2 _ _ upd_same), upd_same, (by rw [List.length_take]; show _ + 1 ≤ sizeLine; exact small (by omega)), fun m hm => ?_⟩
  have s4 : Same (upd H2 l (.lst [y])) (upd (upd H2 l (.lst [y])) m (.lst (xs.take k.toNat ++ [y]))) := same_new hm _
  refine ⟨_, h1, _, h2, _, _, rfl, rfl, _, rfl, a, _, rfl, SqL.of (s4 _ _ (s3 _ _ (s2 _ _ (s1 _ _ hA)))), fun p2 hp2 => ?_⟩
  rw [cut_from (by omega) (by omega)]
  have s5 := same_new hp2 (.lst (xs.drop (k + 1).toNat))
  refine ⟨m, p2, _, _, rfl, rfl, s5 _ _ upd_same, upd_same, (by rw [List.length_append, List.length_take, List.length_drop]; show _ + 1 + _ ≤ sizeLine; exact small (by omega)), fun r hr2 => ?_⟩
  refine q r _ (s3.trans (s4.trans (s5.trans (same_new hr2 _)))) ((s3.trans (s4.trans s5)).free hr2) ?_
  rw [upd_same, List.set_eq_take_append_cons_drop, if_pos (by omega), show (k + 1).toNat = k.toNat + 1 by omega, List.append_assoc]
  rfl
theorem erase_map {α β : Type} (g : α → β) : ∀ (l : List α) (k : Nat), (l.map g).eraseIdx k = (l.eraseIdx k).map g
  | [], _ => rfl
  | _ :: _, 0 => rfl
  | a :: l, k + 1 => by rw [List.map_cons, List.eraseIdx_cons_succ, List.eraseIdx_cons_succ, List.map_cons, erase_map g l k]
theorem perase {α β : Type} {F : α → β → Prop} : ∀ {as : List α} {bs : List β} (k : Nat), Paired F as bs → Paired F (as.eraseIdx k) (bs.eraseIdx k)
  | _, _, _, .nil => .nil
  | _, _, 0, .cons _ t => t
  | _, _, k + 1, .cons r t => .cons r (perase k t)
theorem set_map {α β : Type} (g : α → β) (l : List α) (k : Nat) (a : α) : (l.map g).set k (g a) = (l.set k a).map g := by rw [List.map_set]
theorem pset {α β : Type} {F : α → β → Prop} {a : α} {b : β} (h : F a b) : ∀ {as : List α} {bs : List β} (k : Nat), Paired F as bs → Paired F (as.set k a) (bs.set k b)
  | _, _, _, .nil => .nil
  | _, _, 0, .cons _ t => .cons h t
  | _, _, k + 1, .cons r t => .cons r (pset h k t)
theorem boot_sorted : bootBuiltins "sorted" = some (.builtin "sorted") := by decide +kernel
end
end My
namespace L2
open PySem PyProof.Rows
section
variable {X : Cx} (K : PySem.W.Frag)
end
end L2
set_option Elab.async false
set_option linter.all false
set_option maxRecDepth 100000
namespace L2
open PySem PySem.Spec PyProof.Rows
structure Moved (h h' : Heap) (fr ch : List Addr) : Prop where
  keep : ∀ b o, h.get? b = some o → b ∉ fr → b ∉ ch → h'.get? b = some o
  slot : ∀ b o, h.get? b = some o → b ∈ fr → b ∉ ch → ∃ sl, h'.get? b = some { o with slots := sl }
theorem Moved.any {h h' : Heap} {fr ch : List Addr} (m : Moved h h' fr ch) {b : Addr} {o : Obj} (e : h.get? b = some o) (n : b ∉ ch) : ∃ sl, h'.get? b = some { o with slots := sl } := by
  by_cases hb : b ∈ fr
  · exact m.slot b o e hb n
  · exact ⟨o.slots, m.keep b o e hb n⟩
theorem Moved.trans {h h1 h2 : Heap} {fr fr' c1 c2 ch : List Addr} (a : Moved h h1 fr c1) (b : Moved h1 h2 fr' c2) (h1' : ∀ x ∈ fr', x ∈ fr) (hc1 : ∀ x ∈ c1, x ∈ ch) (hc2 : ∀ x o, h.get? x = some o → x ∈ c2 → x ∈ ch) : Moved h h2 fr ch where
  keep := fun x o e hx hn => b.keep x o (a.keep x o e hx fun z => hn (hc1 x z)) (fun z => hx (h1' x z)) fun z => hn (hc2 x o e z)
  slot := fun x o e hx hn => by
    obtain ⟨sl, e1⟩ := a.slot x o e hx fun z => hn (hc1 x z)
    obtain ⟨sl', e2⟩ := b.any e1 fun z => hn (hc2 x o e z)
    exact ⟨sl', e2⟩
def Exc (h : Heap) (e : Addr) (cls : Value) (dct : Option Addr) (T : Addr) (fl : Value) : Prop :=
  ∃ oe vs oT ts, h.get? e = some oe ∧ oe.cls = cls ∧ oe.dict = dct ∧ oe.data = .fields vs ∧ vs[1]? = some (.ref T) ∧ T ≠ e ∧ h.get? T = some oT ∧ oT.data = .fields ts ∧ ts[3]? = some fl
def ExcN (h : Heap) (e : Addr) (cls : Value) (dct : Option Addr) : Prop :=
  ∃ oe vs, h.get? e = some oe ∧ oe.cls = cls ∧ oe.dict = dct ∧ oe.data = .fields vs ∧ vs[1]? = some Value.none
theorem mapF_data {o : Obj} {vs : Array Value} {f : Array Value → Array Value} (h : o.data = .fields vs) : (Obj.mapFields f o).data = .fields (f vs) := Obj.data_mapFields h f
theorem mapF_cls (f : Array Value → Array Value) : ∀ o : Obj, (Obj.mapFields f o).cls = o.cls
  | ⟨_, _, d, _⟩ => by cases d <;> rfl
theorem mapF_dict (f : Array Value → Array Value) : ∀ o : Obj, (Obj.mapFields f o).dict = o.dict
  | ⟨_, _, d, _⟩ => by cases d <;> rfl
theorem upd_at {h : Heap} {a : Addr} {o : Obj} {vs : Array Value} {f : Array Value → Array Value} (e : h.get? a = some o) (d : o.data = .fields vs) : (h.update a (Obj.mapFields f)).get? a = some (Obj.mapFields f o) :=
  Heap.get?_update_self _ e (Obj.isFreed_of_fields (mapF_data d))
section
variable {M : Model} {A : Around} {E : Value → Shared → Prop} {s : Shared} {env : Env} {outer : List Env} {base : Heap} {L e T : Addr} {cls : Value} {dct : Option Addr} {fl : Value} {Q : Unit → Shared → Prop}
theorem st_entry {oe : Obj} {vs : Array Value} {head : Value} {had : Bool} (hfr : A.frames = some (env :: outer)) (hl : s.heap.FunFrames base (env :: outer)) (hf : env.frame = some L)
    (he : s.heap.get? e = some oe) (hd : oe.data = .fields vs) (hz : 1 < vs.size)
    (q : ∀ h', Moved s.heap h' (frs (env :: outer)) [e] → Exc h' e oe.cls oe.dict s.heap.objs.size (rawInt L) → Q () { s with heap := h' }) :
    wpAny M A (do let x ← frameOf env; let pl ← entryPlaceOf L had; let y ← EntryCells.newEntry head x .none (rawInt L) .none pl; setField (.ref e) 1 y) Q E s := by
  have nfr : e ∉ frs (env :: outer) := fun z => by
    obtain ⟨_, o, ho, hn⟩ := hl.mem z
    rw [he] at ho; cases ho
    exact hn vs hd
  refine wpAny_bind (wpAny_frameOf_fun hfr hl hf fun g1 k1 => ?_)
  obtain ⟨ksz, kk, ks⟩ := k1
  refine wpAny_bind (wpAny_entryPlaceOf fun pl hp => ?_)
  unfold EntryCells.newEntry newFields
  refine wpAny_bind (wpAny_newObj_type ?_ (hp.sizeOk5 _ _ _ _ _))
  have e1 : g1.get? e = some oe := (kk e nfr).trans he
  have hlt : e < g1.objs.size := Heap.lt_size e1
  have e2 := Heap.get?_push_of_some (h := g1) { cls := .type "traceback", dict := none, data := .fields ([head, .ref L, .none, rawInt L, .none] ++ (if pl.isEmpty then List.replicate 6 Value.none else pl)).toArray } e1
  have t2 := Heap.get?_push_size g1 (o := { cls := .type "traceback", dict := none, data := .fields ([head, .ref L, .none, rawInt L, .none] ++ (if pl.isEmpty then List.replicate 6 Value.none else pl)).toArray }) rfl
  refine wpAny_setField e2 hd hz (q _ ⟨fun b o hb hn hc => ?_, fun b o hb hn hc => ?_⟩ ?_)
  · rw [Heap.get?_update_other _ _ (fun z => hc (by simp [z]))]
    exact Heap.get?_push_of_some _ ((kk b hn).trans hb)
  · obtain ⟨sl, z⟩ := ks b o hb
    refine ⟨sl, ?_⟩
    rw [Heap.get?_update_other _ _ (fun z => hc (by simp [z]))]
    exact Heap.get?_push_of_some _ z
  · rw [← ksz]
    refine ⟨_, _, _, _, upd_at e2 hd, mapF_cls _ _, mapF_dict _ _, mapF_data hd, by simp [hz], Nat.ne_of_gt hlt, (Heap.get?_update_other _ _ (Nat.ne_of_lt hlt)).trans t2, rfl, ?_⟩
    simp
theorem vs_lt {vs : Array Value} {i : Nat} {x : Value} (h : vs[i]? = some x) : i < vs.size := (Array.getElem?_eq_some_iff.mp h).1
theorem st_first (hfr : A.frames = some (env :: outer)) (hl : s.heap.FunFrames base (env :: outer)) (hf : env.frame = some L) (x : ExcN s.heap e cls dct)
    (q : ∀ h', Moved s.heap h' (frs (env :: outer)) [e] → Exc h' e cls dct s.heap.objs.size (rawInt L) → Q () { s with heap := h' }) : wpAny M A (noteFrame (.ref e) env) Q E s := by
  obtain ⟨oe, vs, he, rfl, rfl, hd, h1⟩ := x
  unfold noteFrame
  simp only [hf]
  refine wpAny_bind (wpAny_field he hd h1 ?_)
  rw [if_neg (by decide)]
  exact st_entry hfr hl hf he hd (vs_lt h1) q
theorem st_next (hfr : A.frames = some (env :: outer)) (hl : s.heap.FunFrames base (env :: outer)) (hf : env.frame = some L) (x : Exc s.heap e cls dct T .none)
    (q : ∀ h', Moved s.heap h' (frs (env :: outer)) [e, T] → Exc h' e cls dct s.heap.objs.size (rawInt L) → Q () { s with heap := h' }) : wpAny M A (noteFrame (.ref e) env) Q E s := by
  obtain ⟨oe, vs, oT, ts, he, rfl, rfl, hd, h1, hne, hT, hdT, h3⟩ := x
  unfold noteFrame
  simp only [hf]
  refine wpAny_bind (wpAny_field he hd h1 ?_)
  rw [if_pos (by simp)]
  refine wpAny_bind (wpAny_field hT hdT h3 ?_)
  rw [if_neg (by simp [rawInt])]
  refine wpAny_bind (wpAny_setField hT hdT (vs_lt h3) ?_)
  have oth : ∀ b, b ≠ T → (s.heap.update T (Obj.mapFields fun z => z.setIfInBounds 3 Value.none)).get? b = s.heap.get? b := fun b hb => Heap.get?_update_other _ _ (Ne.symm hb)
  have hsz : (s.heap.update T (Obj.mapFields fun z => z.setIfInBounds 3 Value.none)).objs.size = s.heap.objs.size := by simp [Heap.update]
  have nT : T ∉ frs (env :: outer) := fun z => by
    obtain ⟨_, o, ho, hn⟩ := hl.mem z
    rw [hT] at ho; cases ho
    exact hn ts hdT
  refine st_entry hfr (hl.of_keeps fun b o hb hn => ⟨o, (oth b fun z => by rw [z, hT] at hb; cases hb; exact hn ts hdT).trans hb, rfl⟩) hf ((oth e (Ne.symm hne)).trans he) hd (vs_lt h1) fun h' mv ex => q h' ⟨fun b o hb hn hc => ?_, fun b o hb hn hc => ?_⟩ (by rw [hsz] at ex; exact ex)
  · exact mv.keep b o ((oth b fun z => hc (by simp [z])).trans hb) hn fun z => hc (List.mem_cons.mpr (.inl (by simpa using z)))
  · exact mv.slot b o ((oth b fun z => hc (by simp [z])).trans hb) hn fun z => hc (List.mem_cons.mpr (.inl (by simpa using z)))
theorem st_land (x : Exc s.heap e cls dct T fl) (q : ∀ h', Moved s.heap h' [] [T] → h'.objs.size = s.heap.objs.size → Exc h' e cls dct T .none → Q () { s with heap := h' }) : wpAny M A (setFlight (.ref e) none) Q E s := by
  obtain ⟨oe, vs, oT, ts, he, rfl, rfl, hd, h1, hne, hT, hdT, h3⟩ := x
  unfold setFlight
  refine wpAny_bind (wpAny_field he hd h1 ?_)
  rw [if_pos (by simp)]
  refine wpAny_setField hT hdT (vs_lt h3) (q _ ⟨fun b o hb _ hc => ?_, fun b o _ hn _ => nomatch hn⟩ (by simp [Heap.update]) ?_)
  · rw [Heap.get?_update_other _ _ (fun z => hc (by simp [z]))]
    exact hb
  · refine ⟨oe, vs, _, _, (Heap.get?_update_other _ _ hne).trans he, rfl, rfl, hd, h1, hne, upd_at hT hdT, mapF_data hdT, ?_⟩
    simp [vs_lt h3]
theorem st_leave (hfr : A.frames = some (env :: outer)) (hl : s.heap.FunFrames base (env :: outer)) (hf : env.frame = some L) (x : Exc s.heap e cls dct T .none)
    (q : ∀ h', Moved s.heap h' (frs (env :: outer)) [e, T] → Exc h' e cls dct s.heap.objs.size .none → Q () { s with heap := h' }) : wpAny M A (leaving env (.ref e)) Q E s := by
  unfold leaving
  refine wpAny_bind (st_next hfr hl hf x fun h1 m1 x1 => st_land (s := { s with heap := h1 }) x1 fun h2 m2 _ x2 => q h2 ?_ x2)
  exact m1.trans m2 (fun _ z => nomatch z) (fun _ z => z) fun b o hb z => by
    have : b = s.heap.objs.size := by simpa using z
    exact absurd (Heap.lt_size hb) (by rw [this]; exact Nat.lt_irrefl _)
theorem st_leaveN (hfr : A.frames = some (env :: outer)) (hl : s.heap.FunFrames base (env :: outer)) (hf : env.frame = some L) (x : ExcN s.heap e cls dct)
    (q : ∀ h', Moved s.heap h' (frs (env :: outer)) [e] → Exc h' e cls dct s.heap.objs.size .none → Q () { s with heap := h' }) : wpAny M A (leaving env (.ref e)) Q E s := by
  unfold leaving
  refine wpAny_bind (st_first hfr hl hf x fun h1 m1 x1 => st_land (s := { s with heap := h1 }) x1 fun h2 m2 _ x2 => q h2 ?_ x2)
  exact m1.trans m2 (fun _ z => nomatch z) (fun _ z => z) fun b o hb z => by
    have : b = s.heap.objs.size := by simpa using z
    exact absurd (Heap.lt_size hb) (by rw [this]; exact Nat.lt_irrefl _)
theorem st_look (hfr : A.frames = some (env :: outer)) (hl : s.heap.FunFrames base (env :: outer)) (hf : env.frame = some L) (x : Exc s.heap e cls dct T .none)
    (q : ∀ h', Moved s.heap h' (frs (env :: outer)) [e, T] → Exc h' e cls dct s.heap.objs.size .none → Q () { s with heap := h' }) :
    wpAny M A (noteFrame (.ref e) env) (fun _ s1 => wpAny M A (setFlight (.ref e) none) Q E s1) E s :=
  st_next hfr hl hf x fun h1 m1 x1 => st_land (s := { s with heap := h1 }) x1 fun h2 m2 _ x2 => q h2 (m1.trans m2 (fun _ z => nomatch z) (fun _ z => z) fun b o hb z => by
    have : b = s.heap.objs.size := by simpa using z
    exact absurd (Heap.lt_size hb) (by rw [this]; exact Nat.lt_irrefl _)) x2
end
end L2
set_option Elab.async false
set_option linter.all false
set_option maxRecDepth 100000
namespace L2
open PySem PySem.Spec PyProof.Rows
def CXX (P : Program) (w : World) : CXT := fun outer H s E e s' =>
  ∃ ea T cls dct H', e = Value.ref ea ∧ s'.os = s.os ∧ AllBare s'.gens ∧ Un (frs outer) [] H H' s.heap s'.heap ∧ HOk P w H' s'.heap ∧ Exc s'.heap ea cls dct T .none ∧ H' ea = none ∧ H' T = none ∧ s.heap.get? ea = none ∧ s.heap.get? T = none ∧ E cls dct H'
abbrev XR := Value → Option Addr → St → Hp → Prop
def Takes (X : Cx) (R : XR) : Prop :=
  ∀ (pins : List (Addr × Obj)) (σ : St) (H : Hp) (s s' : Shared) (ea T : Addr) (cls : Value) (dct : Option Addr) (H' : Hp), Inv X pins σ H s → s'.os = s.os → AllBare s'.gens → Un (frs X.stack) [] H H' s.heap s'.heap → HOk X.prog X.w H' s'.heap →
    Exc s'.heap ea cls dct T .none → H' ea = none → H' T = none → s.heap.get? ea = none → s.heap.get? T = none → R cls dct σ H' → X.xe (.ref ea) s'
def Raises (X : Cx) (R : XR) : Prop :=
  ∀ (pins : List (Addr × Obj)) (σ : St) (H : Hp) (s : Shared) (ea : Addr) (cls : Value) (dct : Option Addr), Inv X pins σ H s → ExcN s.heap ea cls dct → H ea = none → X.s₀.heap.get? ea = none → R cls dct σ H → X.xe (.ref ea) s
theorem ObjOk.there {P : Program} {w : World} {H : Hp} {h : Heap} {a : Addr} {o : HO} (x : ObjOk P w H h a o) : ∃ ob, h.get? a = some ob := by
  cases o with
  | lst xs => obtain ⟨_, _, _, _, e⟩ := x; exact ⟨_, e⟩
  | tup xs => obtain ⟨_, _, _, o, e, _⟩ := x; exact ⟨_, e⟩
  | dK kvs => obtain ⟨_, _, _, _, o, _, _, e, _⟩ := x; exact ⟨_, e⟩
  | dT kvs => obtain ⟨_, _, _, _, o, _, _, e, _⟩ := x; exact ⟨_, e⟩
  | set S n => obtain ⟨o, _, _, _, e, _⟩ := x; exact ⟨_, e⟩
  | ins C dx fs => obtain ⟨_, _, _, e, _⟩ := x; exact ⟨_, e⟩
  | own y => exact x
  | xd fs => obtain ⟨_, ⟨_, _, _, e, _⟩, _⟩ := x; exact ⟨_, e⟩
  | rng lo hi => obtain ⟨_, _, _, e⟩ := x; exact ⟨_, e⟩
  | frz o u => exact ⟨_, x.1⟩
  | tbl ps => exact ⟨_, x⟩
  | met f y => exact ⟨_, x⟩
  | ext φ => exact x.2.1
theorem HOk.untracked {P : Program} {w : World} {H : Hp} {h : Heap} {a : Addr} (x : HOk P w H h) (e : h.get? a = none) : H a = none := by
  cases q : H a with
  | none => rfl
  | some o =>
    obtain ⟨ob, z⟩ := (x a o q).there
    rw [e] at z; cases z
section
variable {P : Program} {w : World} {K : PySem.W.Frag} {mg : Str → Option Value} {base : Heap} {N : List Str} {qual : Str} {scope : Scope} {f : Addr} {cd : Value} {A : Around} {outer : List Env} {s0 : Shared} {H0 : Hp} {E : XK}
theorem left_cx {pins : List (Addr × Obj)} {σ : St} {H : Hp} {s : Shared} {h' : Heap} {ea : Addr} {cls : Value} {dct : Option Addr} {ch : List Addr} (I : Inv (cxOf (CXX P w) P w K mg base N qual scope f cd A outer s0 H0 E) pins σ H s)
    (mv : Moved s.heap h' (frs (envOfC qual scope s0.heap.objs.size f cd :: outer)) ch) (hch : ∀ b ∈ ch, H b = none ∧ s0.heap.get? b = none) (ex : Exc h' ea cls dct s.heap.objs.size .none) (hHe : H ea = none) (f0 : s0.heap.get? ea = none) (hE : E cls dct H) :
    CXX P w outer H0 s0 E (.ref ea) { s with heap := h' } := by
  have nch : ∀ b o, s0.heap.get? b = some o → b ∉ ch := fun b o e z => by rw [(hch b z).2] at e; cases e
  have nst : ∀ b o, s0.heap.get? b = some o → b ∉ frs outer → b ∉ frs (envOfC qual scope s0.heap.objs.size f cd :: outer) := fun b o e hb z => by
    rcases List.mem_cons.mp (I.stkSub b z) with q | q
    · exact absurd (Heap.lt_size e) (by rw [q]; exact Nat.not_lt.mpr I.ok.above)
    · exact hb q
  refine ⟨ea, _, cls, dct, H, rfl, I.os, I.bare, ⟨fun b o e n hb hx => ?_, fun b o e n hb hx => ?_, fun b o e n hx => I.base.free b o e n hx, fun b o e hx => ?_, I.base.tups, I.base.frzs, I.base.tbls⟩, fun b u q => ?_, ex, hHe, I.hok.fresh (Nat.le_refl _), f0, Heap.get?_none_of_le I.sz, hE⟩
  · exact mv.keep b o (I.base.keep b o e n hb hx) (nst b o e hb) (nch b o e)
  · obtain ⟨sl, k⟩ := I.base.slot b o e n hb hx
    obtain ⟨sl', k'⟩ := mv.any k (nch b o e)
    exact ⟨sl', k'⟩
  · obtain ⟨o', k⟩ := I.base.there b o e hx
    obtain ⟨sl, k'⟩ := mv.any k (nch b o e)
    exact ⟨_, k'⟩
  · refine (I.hok b u q).stay (fun c v hc r => mv.keep c v r (fun z => ?_) fun z => ?_) (fun _ q => q) fun _ _ q => q
    · have := I.stkFree c z
      rcases hc with rfl | hc
      · rw [q] at this; cases this
      · rw [hc] at this; cases this
    · have := (hch c z).1
      rcases hc with rfl | hc
      · rw [q] at this; cases this
      · rw [hc] at this; cases this
theorem takes_cx : Takes (cxOf (CXX P w) P w K mg base N qual scope f cd A outer s0 H0 E) (fun c d _ H => E c d H) := by
  intro pins σ H s s' ea T cls dct H' I os bare un hok ex hHe hHT ne nT hE
  have I' : Inv (cxOf (CXX P w) P w K mg base N qual scope f cd A outer s0 H0 E) pins σ H' s' := I.call' os un hok bare (fun b z => absurd z (by simp))
  have fr : ∀ b, s.heap.get? b = none → s0.heap.get? b = none := fun b e => by
    cases q : s0.heap.get? b with
    | none => rfl
    | some o =>
      obtain ⟨o', z⟩ := I.base.there b o q (fun z => nomatch z)
      rw [e] at z; cases z
  show wpAny (model P w) (A.deeper (envOfC qual scope s0.heap.objs.size f cd)) (leaving (envOfC qual scope s0.heap.objs.size f cd) (.ref ea)) _ _ s'
  refine st_leave (base := base) I'.ok.frames I'.stack rfl ex fun h' mv ex' => ?_
  exact left_cx I' mv (fun b z => by
    rcases List.mem_cons.mp z with rfl | z
    · exact ⟨hHe, fr _ ne⟩
    · have : b = T := by simpa using z
      subst this
      exact ⟨hHT, fr _ nT⟩) ex' hHe (fr _ ne) hE
theorem raises_cx : Raises (cxOf (CXX P w) P w K mg base N qual scope f cd A outer s0 H0 E) (fun c d _ H => E c d H) := by
  intro pins σ H s ea cls dct I ex hHe f0 hE
  show wpAny (model P w) (A.deeper (envOfC qual scope s0.heap.objs.size f cd)) (leaving (envOfC qual scope s0.heap.objs.size f cd) (.ref ea)) _ _ s
  refine st_leaveN (base := base) I.ok.frames I.stack rfl ex fun h' mv ex' => ?_
  exact left_cx I mv (fun b z => by
    have : b = ea := by simpa using z
    subst this
    exact ⟨hHe, f0⟩) ex' hHe f0 hE
theorem passes_cx : PassesOwn (model P w) (A.deeper (envOfC qual scope s0.heap.objs.size f cd)) (envOfC qual scope s0.heap.objs.size f cd) (cxOf (CXX P w) P w K mg base N qual scope f cd A outer s0 H0 E).xe := PassesOwn.leaving
theorem Fun.okX {x qual : Str} {st : Stmt} {f : Addr} {fd : FuncData} {N ps : List Str} {k : Nat} {sp : Sp} (F : Fun K x qual st f fd) (S : FnScope N ps (defScope st)) (len : ∀ vs H Q E, sp vs H Q E → vs.length = ps.length)
    (hbody : ∀ (X : Cx) (cdv : Value) (A : Around) (outer : List Env) (s : Shared) (H : Hp) (vs : List V) (Q : VK) (E : XK), X = cxOf (CXX P w) P w K mg base N qual (defScope st) f cdv A outer s H E → Room k (A.deeper (envOfC qual (defScope st) s.heap.objs.size f cdv)) → sp vs H Q E →
      ∃ t, PSs (cxOf (CXX P w) P w K mg base N qual (defScope st) f cdv A outer s H E) (defBody st) t ∧ t { nx := fun _ H' => Q .non H', rt := Q } (start N vs) H) : FnOk P w K mg base (CXX P w) (k + 1) f fd ps sp := by
  obtain ⟨oc, od, kV, doc, pm, an, cdv, ct, osl, rfl, lk, hcd⟩ := F.ex
  exact fn_of lk hcd S len fun A outer s H vs Q E hr hsp => hbody _ cdv A outer s H vs Q E rfl hr hsp
end
section
variable {X : Cx} {R : XR} {k : Nat} {f C : Addr} {fd : FuncData} {ps : List Str} {sp : Sp} {dvs : List V} {ds : List Value} {x : Str} {p pos : Pos} {e : Expr} {es : List Expr} {t : TA}
theorem run_fnX {pins : List (Addr × Obj)} {σ : St} {H : Hp} {s : Shared} {Q : VK} {us : List Value} {vs : List V} (F : FnOk X.prog X.w X.K X.mg X.base (CXX X.prog X.w) k f fd ps sp) (hr : Room k X.A) (hb : Binds X.K fd ps ds) (hd : Vals dvs ds) (hx : Takes X R)
    (I : Inv X pins σ H s) (r : Vals vs us) (h : sp (vs ++ dvs) H Q fun c d H' => R c d σ H') : wpAny (model X.prog X.w) X.A (call (.ref f) us) (EP X pins σ Q) X.xe s := by
  have r2 : Vals (vs ++ dvs) (us ++ ds) := r.append hd
  have hl : (us ++ ds).length = ps.length := by rw [← r2.length]; exact F.len _ _ _ _ h
  refine wpAny_call (codeAny_mono (F.run X.A X.stack s H ⟨us, []⟩ (us ++ ds) (vs ++ dvs) Q _ hr I.env0 (hb s us I.kIn hl) r2 h) fun res s' hq => ?_)
  cases res with
  | error e =>
    obtain ⟨ea, T, cls, dct, H', rfl, os, bare, un, hok, ex, h1, h2, h3, h4, hE⟩ := hq
    exact hx pins σ H s s' ea T cls dct H' I os bare un hok ex h1 h2 h3 h4 hE
  | ok fl =>
    cases fl with
    | ret u => exact I.after hq
    | next => exact False.elim hq
    | brk => exact False.elim hq
    | cont => exact False.elim hq
def tCallX (sp : Sp) (dvs : List V) (R : XR) (t : TA) : TE := fun σ H Q => t σ H fun vs H1 => sp (vs ++ dvs) H1 Q fun c d H' => R c d σ H'
theorem pe_callX (F : FnOk X.prog X.w X.K X.mg X.base (CXX X.prog X.w) k f fd ps sp) (hr : Room k X.A) (hg : Gl X x) (hm : X.mg x = some (.ref f)) (hk : PySem.W.keepIn X.K (.ref f) = true) (hb : Binds X.K fd ps ds) (hd : Vals dvs ds) (hx : Takes X R)
    (ha : PA X (e :: es) t) (hdb : (x == ("__debug__" : Str)) = false := by decide) (he : starEach (e :: es) X.env = (false, eval e X.env) :: starEach es X.env := by rfl) (hpl : (backTo pos (starEach es X.env)).any (·.1) = false := by rfl) :
    PE X (.Call (.Name x p) (e :: es) [] pos) (tCallX sp dvs R t) := by
  intro pins s σ H Q I h
  refine wpAny_Call_Name_kw (ld_glob I hg hm ?_ hdb)
  refine PySem.W.callWith_K (h₀ := X.base) I.ok.mod.kin hk (thn (ha pos pins s σ H _ I h) fun us s1 ⟨vs, H1, I1, r, q⟩ => ⟨I1.kIn, ?_⟩) he hpl
  exact run_fnX F hr hb hd hx I1 r q
abbrev vb : List Value := [.type "ValueError", .type "Exception", .type "BaseException", .type "object"]
abbrev ExcK (K : PySem.W.Frag) (C : Addr) : Prop := PySem.W.excIn K C vb "ValueError.__new__" = true
theorem excK_obj {K : PySem.W.Frag} {h : Heap} {C : Addr} (q : ExcK K C) (X : K.In h) :
    ∃ bm N nm qn bs hd sn sub ab col dd k0 k1 k2 k3 k5, h.get? C = some (excClassObj nm qn C N bs bm hd sn sub ab col dd k0 k1 k2 k3 k5 "ValueError.__new__") ∧ OwnTail h vb bm ∧ h.Ns N (h.nsMap N) ∧ h.nsMap N "__init__" = none := by
  unfold ExcK PySem.W.excIn at q
  split at q
  · next dd cd sl lk =>
    split at q
    · next C1 bm a0 a1 a2 a3 nn a5 em es =>
      simp only [Bool.and_eq_true, beq_iff_eq, Bool.not_eq_true'] at q
      obtain ⟨⟨⟨⟨⟨z1, z2⟩, z3⟩, z4⟩, z5⟩, z6⟩ := q
      have hsl : sl = #[a0, a1, a2, a3, some (.builtin nn), a5] := by
        cases sl
        exact congrArg Array.mk es
      obtain ⟨c1, c2, c3, c4, c5, c6, c7, c8, c9, c10, c11⟩ := cd
      dsimp only at em z3 z5 z6
      rw [z1] at em
      rw [z2] at hsl
      subst em z3 hsl
      exact ⟨bm, c4, c1, c5, c2, c6, c7, c8, c9, c10, dd, a0, a1, a2, a3, a5, X _ _ lk, PySem.W.tail_of_in X z4, .of_isNs (PySem.W.isNs_of_in X z5), PySem.W.nsMap_none_of_in X z5 z6⟩
    · cases q
  · cases q
def tRaise (C : Addr) (R : XR) (t : TA) : TS := fun _ σ H => t σ H fun vs H1 => vs.length ≤ sizeLine ∧ R (.ref C) none σ H1
theorem ps_raise {np : Pos} (hC : ExcK X.K C) (hg : Gl X x) (hm : X.mg x = some (.ref C)) (hc : X.calm = true) (hex : X.ex = []) (hx : Raises X R) (ha : PA X (e :: es) t) (hdb : (x == ("__debug__" : Str)) = false := by decide)
    (he : starEach (e :: es) X.env = (false, eval e X.env) :: starEach es X.env := by rfl) (hpl : (backTo p (starEach es X.env)).any (·.1) = false := by rfl) :
    PS X (.Raise (some (.Call (.Name x np) (e :: es) [] p)) none pos) (tRaise C R t) := by
  intro pins s σ H D I h
  obtain ⟨bm, N, nm, qn, bs, hd, sn, sub, ab, col, dd, k0, k1, k2, k3, k5, o1, T1, n1, i1⟩ := excK_obj hC I.mod.kin
  refine wpAny_Raise_call_subT (nm := nm) (q := qn) (N := N) (bs := bs) (hdct := hd) (sn := sn) (sub := sub) (ab := ab) (col := col) (dd := dd) (k0 := k0) (k1 := k1) (k2 := k2) (k3 := k3) (k5 := k5)
    PySem.F.excBase_ValueError (mN := X.base.nsMap N) (T1.hasType rfl) (I.ok.hd hc) ?_ i1 (ld_glob I hg hm ⟨rfl, ?_⟩ hdb)
  · rw [he]; exact hpl
  · have go := ha p pins s σ H _ I h
    rw [he] at go ⊢
    refine Calls.evalArgs_plain (thn go fun us s1 ⟨vs, H1, I1, r, z, q⟩ => ⟨rfl, by rw [← r.length]; exact z, I1.bk _ _ o1, n1.keeps I1.bk, T1.keeps I1.bk, fun h' ea mk => ?_⟩)
    obtain ⟨tt, m1, _, _⟩ := mk.there
    have f0 : X.s₀.heap.get? ea = none := by
      cases q : X.s₀.heap.get? ea with
      | none => rfl
      | some o =>
        obtain ⟨o', z⟩ := I1.base.there ea o q (by rw [hex]; exact fun z => nomatch z)
        rw [mk.new] at z; cases z
    exact hx pins σ H1 { s1 with heap := h' } ea (.ref C) none (I1.kept (t' := s1.toks) mk.keeps) ⟨_, _, m1, rfl, rfl, rfl, rfl⟩ (I1.hok.untracked mk.new) f0 q
end
end L2
set_option Elab.async false
set_option linter.all false
set_option maxRecDepth 100000
namespace L2
open PySem PySem.Spec PyProof.Rows
def xcO (ea : Addr) (cls : Value) (dct : Option Addr) : HO := .ext fun h => ∃ oe vs, h.get? ea = some oe ∧ oe.cls = cls ∧ oe.dict = dct ∧ oe.data = .fields vs
theorem xcO_ok {P : Program} {w : World} {H : Hp} {h : Heap} {ea T : Addr} {cls fl : Value} {dct : Option Addr} (x : Exc h ea cls dct T fl) : ObjOk P w H h ea (xcO ea cls dct) := by
  obtain ⟨oe, vs, oT, ts, he, h1, h2, hd, _⟩ := x
  exact ⟨⟨oe, vs, he, h1, h2, hd⟩, ⟨oe, he⟩, fun a b ⟨o, v, p, q⟩ k => ⟨o, v, k o p, q⟩⟩
abbrev Cx.caught (X : Cx) (ea : Addr) : Cx := { X with A := X.A.mark (some (.ref ea)), calm := false, xe := fun _ _ => False }
abbrev Cx.tried (X : Cx) (pn : List (Addr × Obj)) (xe : Value → Shared → Prop) : Cx := { X with pn := pn, xe := xe }
section
variable {X : Cx} {pins pn : List (Addr × Obj)} {σ : St} {H : Hp} {s : Shared} {ea : Addr} {xe : Value → Shared → Prop}
theorem Inv.caught (I : Inv X pins σ H s) (ea : Addr) : Inv (X.caught ea) pins σ H s :=
  have ok := I.ok
  ⟨⟨ok.mod, ok.kind, ok.glob, ok.blt, ok.above, ok.inj, ok.has, ok.cab, fun z => (by cases z), ok.frames, ok.stk, ok.exf, ok.bs, ok.bsz, ok.noex, ok.exfs, ok.funs, ok.frf⟩, I.os, I.bare, I.base, I.loc, I.cell, I.free, I.freeC, I.pin, I.hok, I.len⟩
theorem Inv.uncaught (ok : X.Ok) (I : Inv (X.caught ea) pins σ H s) : Inv X pins σ H s := ⟨ok, I.os, I.bare, I.base, I.loc, I.cell, I.free, I.freeC, I.pin, I.hok, I.len⟩
theorem Inv.tried (I : Inv X pins σ H s) : Inv (X.tried (X.pn ++ pins) xe) [] σ H s :=
  have ok := I.ok
  ⟨⟨ok.mod, ok.kind, ok.glob, ok.blt, ok.above, ok.inj, ok.has, ok.cab, ok.hd, ok.frames, ok.stk, ok.exf, ok.bs, ok.bsz, ok.noex, ok.exfs, ok.funs, ok.frf⟩, I.os, I.bare, I.base, I.loc, I.cell, I.free, I.freeC, fun p hp => I.pin p (by simpa using hp), I.hok, I.len⟩
theorem Inv.untried {pins' : List (Addr × Obj)} (I : Inv (X.tried (X.pn ++ pins) xe) pins' σ H s) : Inv X pins σ H s :=
  have ok := I.ok
  ⟨⟨ok.mod, ok.kind, ok.glob, ok.blt, ok.above, ok.inj, ok.has, ok.cab, ok.hd, ok.frames, ok.stk, ok.exf, ok.bs, ok.bsz, ok.noex, ok.exfs, ok.funs, ok.frf⟩, I.os, I.bare, I.base, I.loc, I.cell, I.free, I.freeC, fun p hp => I.pin p (List.mem_append_left _ hp), I.hok, I.len⟩
theorem SP.untried {pins' : List (Addr × Obj)} {D : Ends} {f : Flow} (h : SP (X.tried (X.pn ++ pins) xe) pins' D f s) : SP X pins D f s := by
  cases f with
  | next => obtain ⟨σ', H', I, q⟩ := h; exact ⟨σ', H', I.untried, q⟩
  | brk => obtain ⟨σ', H', I, q⟩ := h; exact ⟨σ', H', I.untried, q⟩
  | cont => obtain ⟨σ', H', I, q⟩ := h; exact ⟨σ', H', I.untried, q⟩
  | ret u => obtain ⟨v, σ', H', I, r, q⟩ := h; exact ⟨v, σ', H', I.untried, r, q⟩
end
structure Caught (X : Cx) (pins : List (Addr × Obj)) (σ : St) (H : Hp) (ea T : Addr) (cls : Value) (dct : Option Addr) (s : Shared) : Prop where
  inv : Inv X pins σ (upd H ea (xcO ea cls dct)) s
  ex : Exc s.heap ea cls dct T .none
  fp : FpOk X pins (upd H ea (xcO ea cls dct)) T
  un : H ea = none
theorem Caught.again {X : Cx} {pins : List (Addr × Obj)} {σ : St} {H : Hp} {ea T : Addr} {cls : Value} {dct : Option Addr} {s : Shared} {M : Model} {A : Around} {E : Value → Shared → Prop} {Q : Unit → Shared → Prop} (c : Caught X pins σ H ea T cls dct s)
    (q : ∀ h', Caught X pins σ H ea T cls dct { s with heap := h' } → Q () { s with heap := h' }) : wpAny M A (setFlight (.ref ea) none) Q E s :=
  st_land c.ex fun h' mv _ ex => q h' ⟨c.inv.turned (t' := s.toks) (it := T) (fun b o hb e => mv.keep b o e (by simp) (by simpa using hb)) c.fp.1 c.fp.2.1 c.fp.2.2.2.1 c.fp.2.2.2.2.1 c.fp.2.2.2.2.2, ex, c.fp, c.un⟩
abbrev TH := Ends → Value → Option Addr → St → Hp → Prop
def PH (X : Cx) (hs : List ExceptHandler) (t : TH) : Prop :=
  ∀ (pins : List (Addr × Obj)) (s : Shared) (σ : St) (H : Hp) (D : Ends) (ea T : Addr) (cls : Value) (dct : Option Addr), Caught X pins σ H ea T cls dct s → t D cls dct σ H → wpAny (model X.prog X.w) X.A (handleBy (.ref ea) X.env hs) (SP X pins D) X.xe s
section
variable {X : Cx} {C : Addr} {i : Nat} {x n : Str} {np pos : Pos} {b₀ : Stmt} {suite : List Stmt} {rest : List ExceptHandler} {ts : Addr → TS} {tr : TH}
theorem ph_nil : PH X [] (fun _ _ _ _ _ => False) := fun _ _ _ _ _ _ _ _ _ _ h => h.elim
def tEx (K : PySem.W.Frag) (C : Addr) (ts : Addr → TS) (tr : TH) : TH := fun D cls dct σ H => ∃ b, PySem.W.exmOne K cls (.ref C) = some b ∧
  if b = true then ∀ ea, H ea = none → ts ea { nx := fun _ _ => False, rt := D.rt } σ (upd H ea (xcO ea cls dct)) else tr D cls dct σ H
theorem exc_type {M : Model} {h : Heap} {ea T : Addr} {cls fl : Value} {dct : Option Addr} (x : Exc h ea cls dct T fl) : PySem.W.Looks M h (typeOf (.ref ea)) cls := by
  obtain ⟨oe, _, _, _, he, h1, _⟩ := x
  exact h1 ▸ (PySem.W.Looks.ld he).andThen .now
theorem ph_ex (hg : Gl X x) (hm : X.mg x = some (.ref C)) (hs : ∀ ea, PSs (X.caught ea) (b₀ :: suite) (ts ea)) (hr : PH X rest tr) (hd : (x == ("__debug__" : Str)) = false := by decide) :
    PH X (.ExceptHandler (some (.Name x np)) none (b₀ :: suite) pos :: rest) (tEx X.K C ts tr) := by
  intro pins s σ H D ea T cls dct c ht
  obtain ⟨b, hx, ht⟩ := ht
  refine wpAny_handleBy_cons (codeAny_handlers_test (ld_glob (X := X.caught ea) (c.inv.caught ea) hg hm ((PySem.W.exm_one c.inv.kIn (exc_type c.ex) hx).here ?_) hd)) (by intro q; cases q)
  cases b with
  | false =>
    rw [if_neg Bool.false_ne_true] at ht
    exact hr pins s σ H D ea T cls dct c ht
  | true =>
    rw [if_pos rfl] at ht
    refine codeAny_handlers_suite (c.again fun h1 c1 => ?_)
    refine wpAny_mono (hs ea pins _ _ _ { nx := fun _ _ => False, rt := D.rt } (c1.inv.caught ea) (ht ea c.un)) (fun f s3 q => ?_) fun _ _ z => z.elim
    cases f with
    | next => obtain ⟨_, _, _, q⟩ := q; exact q.elim
    | brk => obtain ⟨_, _, _, q⟩ := q; exact q.elim
    | cont => obtain ⟨_, _, _, q⟩ := q; exact q.elim
    | ret u =>
      obtain ⟨v, σ', H', J, r, q⟩ := q
      exact ⟨v, σ', H', J.uncaught c.inv.ok, r, q⟩
def tTry (tb : XR → List (Addr × Obj) → (Value → Shared → Prop) → TS) (th : TH) : TS := fun D σ H => ∃ R : XR, (∀ cls dct σ' H', R cls dct σ' H' → th D cls dct σ' H') ∧ ∀ pn xe, tb R pn xe D σ H
theorem ps_try {body : List Stmt} {h₀ : ExceptHandler} {hs : List ExceptHandler} {tb : XR → List (Addr × Obj) → (Value → Shared → Prop) → TS} {th : TH} (hstk : X.stack = X.env :: X.outer) (hfr : X.env.frame = some X.env.locals)
    (hb : ∀ R pn xe, Takes (X.tried pn xe) R → PassesOwn (model X.prog X.w) X.A X.env xe → PSs (X.tried pn xe) body (tb R pn xe)) (hh : PH X (h₀ :: hs) th) : PS X (.Try body (h₀ :: hs) [] [] pos) (tTry tb th) := by
  intro pins s σ H D I h
  obtain ⟨R, h1, h2⟩ := h
  refine wpAny_Try_except ?_
  have tk : Takes (X.tried (X.pn ++ pins) (fun e s₁ => wpAny (model X.prog X.w) X.A (noteFrame e X.env) (fun _ s₂ => wpAny (model X.prog X.w) X.A (setFlight e none) (fun _ s₃ => wpAny (model X.prog X.w) X.A (handleBy e X.env (h₀ :: hs)) (SP X pins D) X.xe s₃) X.xe s₂) X.xe s₁)) R := by
    intro pins' σ' H s s' ea T cls dct H' I os bare un hok ex hHe hHT ne nT hR
    have I0 := I.untried
    have I1 : Inv X pins σ' H' s' := I0.call' os un hok bare (fun b z => absurd z (by simp))
    have nn : ∀ b o, s.heap.get? b = some o → b ∉ [ea, T] := fun b o e z => by
      rcases List.mem_cons.mp z with rfl | z
      · rw [ne] at e; cases e
      · have : b = T := by simpa using z
        rw [this, nT] at e; cases e
    have nH : ∀ b u, H' b = some u → b ≠ ea := fun b u e z => by rw [z, hHe] at e; cases e
    have nT' : ∀ b u, H' b = some u → b ≠ T := fun b u e z => by rw [z, hHT] at e; cases e
    refine st_look (base := X.base) (hstk ▸ I1.ok.frames) (hstk ▸ I1.stack) hfr ex fun h5 mv ex5 => ?_
    rw [← hstk] at mv
    have fe : ea ≠ s'.heap.objs.size := by
      obtain ⟨oe, _, _, _, he, _⟩ := ex
      exact Nat.ne_of_lt (Heap.lt_size he)
    refine hh pins { s' with heap := h5 } σ' H' D ea _ cls dct ⟨?_, ex5, I1.fpOk (Nat.le_refl _) (by rw [upd_ne (Ne.symm fe)]; exact hok.fresh (Nat.le_refl _)), hHe⟩ (h1 _ _ _ _ hR)
    refine I0.call' (s' := { s' with heap := h5 }) (ch := []) os ⟨fun b o e n hb hx => ?_, fun b o e n hb hx => ?_, fun b o e n hx => ?_, fun b o e hx => ?_, fun b xs q => ?_, fun b o u q => ?_, fun b ps q => ?_⟩ (fun b u q => ?_) bare (fun b z => absurd z (by simp))
    · exact mv.keep b o (un.keep b o e n hb hx) hb (nn b o e)
    · obtain ⟨sl, k⟩ := un.slot b o e n hb hx
      obtain ⟨sl', k'⟩ := mv.any k (nn b o e)
      exact ⟨sl', k'⟩
    · rw [upd_ne (fun z => nn b o e (by simp [z]))]
      exact un.free b o e n hx
    · obtain ⟨o', k⟩ := un.there b o e hx
      obtain ⟨sl, k'⟩ := mv.any k (nn b o e)
      exact ⟨_, k'⟩
    · have z := un.tups b xs q
      rw [upd_ne (nH b _ z)]; exact z
    · have z := un.frzs b o u q
      rw [upd_ne (nH b _ z)]; exact z
    · obtain ⟨more, z⟩ := un.tbls b ps q
      exact ⟨more, by rw [upd_ne (nH b _ z)]; exact z⟩
    · by_cases hb : b = ea
      · subst hb
        rw [upd_same] at q; cases q
        exact xcO_ok ex5
      · rw [upd_ne hb] at q
        refine (hok b u q).stay (fun c v hc r => ?_) (fun c r => by rw [upd_ne (nH c _ r)]; exact r) fun c xs r => by rw [upd_ne (nH c _ r)]; exact r
        have hc' : ∃ w, H' c = some w := by
          rcases hc with rfl | hc
          · exact ⟨_, q⟩
          · exact ⟨_, hc⟩
        obtain ⟨w, hw⟩ := hc'
        refine mv.keep c v r (fun z => ?_) fun z => ?_
        · have := I1.stkFree c z
          rw [hw] at this; cases this
        · rcases List.mem_cons.mp z with z | z
          · exact nH c w hw z
          · exact nT' c w hw (by simpa using z)
  refine wpAny_mono (hb R (X.pn ++ pins) _ tk PassesOwn.looking [] s σ H D I.tried (h2 _ _)) (fun f s1 q => ?_) fun e s1 q => q
  cases f with
  | next => exact wpAny_execs_nil q.untried
  | ret v => exact q.untried
  | brk => exact q.untried
  | cont => exact q.untried
end
section
variable {X : Cx}
def PJ (X : Cx) (es : List Expr) (n : Nat) (t : St → Hp → (Hp → Prop) → Prop) : Prop :=
  ∀ (pins : List (Addr × Obj)) (s : Shared) (σ : St) (H : Hp) (out : Str) (Q : VK), Inv X pins σ H s → out.length + n ≤ sizeLine → t σ H (fun H1 => ∀ y, Q (.str y) H1) → wpAny (model X.prog X.w) X.A (joinParts out (evalEach es X.env)) (EP X pins σ Q) X.xe s
theorem pj_nil : PJ X [] 0 (fun _ H R => R H) := fun pins s σ H out Q I hz h => joinParts_nil ⟨.str out, H, I.tok _, ⟨_, rfl⟩, h _⟩ (by simpa using hz)
theorem pj_str {x : Str} {k m n : Nat} {pos : Pos} {es : List Expr} {t : St → Hp → (Hp → Prop) → Prop} (h1 : PJ X es n t) (hk : x.length ≤ m) (he : evalEach (.Constant (.str x) k pos :: es) X.env = eval (.Constant (.str x) k pos) X.env :: evalEach es X.env := by rfl) :
    PJ X (.Constant (.str x) k pos :: es) (m + n) t := by
  intro pins s σ H out Q I hz h
  rw [he]
  have hl : (out ++ x).length = out.length + x.length := strLen_append _ _
  refine joinParts_cons (Calls.Constant_str ⟨by rw [hl]; omega, ?_⟩)
  exact h1 pins _ σ H (out ++ x) Q (I.tok _) (by rw [hl]; omega) h
theorem pj_int {e : Expr} {n : Nat} {pos : Pos} {es : List Expr} {te : TE} {t : St → Hp → (Hp → Prop) → Prop} (h0 : PE X e te) (h1 : PJ X es n t)
    (he : evalEach (.FormattedValue e (-1) none pos :: es) X.env = eval (.FormattedValue e (-1) none pos) X.env :: evalEach es X.env := by rfl) :
    PJ X (.FormattedValue e (-1) none pos :: es) (1002 + n) (fun σ H R => te σ H fun v H1 => ∃ i : Int, v = .int i ∧ i.natAbs ≤ 1000 ∧ t σ H1 R) := by
  intro pins s σ H out Q I hz h
  rw [he]
  refine joinParts_cons (FormattedValue_plain (thn (h0 pins s σ H _ I h) fun v s1 ⟨x, H1, I1, r, i, e1, hi, q⟩ => ?_))
  subst e1
  obtain ⟨tk, rfl⟩ := r
  have hlog : i.natAbs.log2 < 1920 := by
    by_cases z : i.natAbs = 0
    · rw [z]; decide
    · exact Nat.lt_of_lt_of_le ((Nat.log2_lt z).mpr (Nat.lt_of_le_of_lt hi (show 1000 < 2 ^ 10 by decide))) (by decide)
  refine formatField_int_small hlog ?_
  have hl : (out ++ (Str.ofString (toString i))).length = out.length + (Str.ofString (toString i)).length := strLen_append _ _
  have hs := len_str_of_int i
  refine ⟨by rw [hl]; omega, ?_⟩
  exact h1 pins _ σ H1 _ Q (I1.tok _) (by rw [hl]; omega) q
theorem pe_fstr {a b : Expr} {es : List Expr} {n : Nat} {pos : Pos} {t : St → Hp → (Hp → Prop) → Prop} (h : PJ X (a :: b :: es) n t) (hn : n ≤ sizeLine := by decide)
    (he : evalEach (a :: b :: es) X.env = eval a X.env :: eval b X.env :: evalEach es X.env := by rfl) : PE X (.JoinedStr (a :: b :: es) pos) (fun σ H Q => t σ H fun H1 => ∀ y, Q (.str y) H1) := by
  intro pins s σ H Q I hq
  refine JoinedStr_many ?_
  rw [← he]
  exact h pins s σ H Str.empty Q I (by show 0 + n ≤ sizeLine; omega) hq
end
end L2
set_option Elab.async false
set_option linter.all false
set_option maxRecDepth 100000
namespace L2
open PySem PySem.Spec PyProof.Rows
def excOwn (K : PySem.W.Frag) (C fI : Addr) : Bool := match K.lookup C with
  | some ⟨.type "type", _, .cls cd, sl⟩ => (match cd.mro, sl.toList with
    | .ref C1 :: bm, [_, _, _, _, some (.builtin n), _] => C1 == C && (n == "ValueError.__new__" && (!cd.hasDel && (PySem.W.tailIn K vb bm && (PySem.W.nsOkIn K cd.ns && (PySem.W.nsIn K cd.ns "__init__" == some (some (.ref fI)) && cd.hasDict)))))
    | _, _ => false)
  | _ => false
theorem ns_some_of {K : PySem.W.Frag} {h : Heap} {N : Addr} {mg : Str → Option Value} {n : Str} {v : Value} (X : K.In h) (G : h.Ns N mg) (e : PySem.W.nsIn K N n = some (some v)) : mg n = some v := by
  obtain ⟨o, es, ep, ho, hd, _, hf⟩ := G
  unfold PySem.W.nsIn at e
  split at e
  · next q =>
    have z := X _ _ q
    rw [ho] at z
    cases z
    cases hd
    split at e
    · next en he =>
      cases e
      rw [← hf]
      unfold nsFind findBy
      rw [← Array.find?_toList, he]
      rfl
    · split at e <;> cases e
  · cases e
theorem excOwn_obj {K : PySem.W.Frag} {h : Heap} {C fI : Addr} (q : excOwn K C fI = true) (X : K.In h) :
    ∃ bm N nm qn bs hd sn sub ab col dd k0 k1 k2 k3 k5, h.get? C = some (excClassObj nm qn C N bs bm hd sn sub ab col dd k0 k1 k2 k3 k5 "ValueError.__new__") ∧ OwnTail h vb bm ∧ h.Ns N (h.nsMap N) ∧ h.nsMap N "__init__" = some (.ref fI) := by
  unfold excOwn at q
  split at q
  · next dd cd sl lk =>
    split at q
    · next C1 bm a0 a1 a2 a3 nn a5 em es =>
      simp only [Bool.and_eq_true, beq_iff_eq, Bool.not_eq_true'] at q
      obtain ⟨z1, z2, z3, z4, z5, z6, z7⟩ := q
      have hsl : sl = #[a0, a1, a2, a3, some (.builtin nn), a5] := by
        cases sl
        exact congrArg Array.mk es
      obtain ⟨c1, c2, c3, c4, c5, c6, c7, c8, c9, c10, c11⟩ := cd
      dsimp only at em z3 z5 z6
      rw [z1] at em
      rw [z2] at hsl
      subst em z3 hsl
      have hns : h.Ns c4 (h.nsMap c4) := .of_isNs (PySem.W.isNs_of_in X z5)
      exact ⟨bm, c4, c1, c5, c2, c6, c7, c8, c9, c10, dd, a0, a1, a2, a3, a5, X _ _ lk, PySem.W.tail_of_in X z4, hns, ns_some_of X hns z6⟩
    · cases q
  · cases q
section
variable {prog : Program} {w : World} {A : Around} {E : Value → Shared → Prop} {h : Heap} {g : Array GenState} {d : Drawn} {t : Nat} {os : OsState}
variable {nm q : Str} {C N fI e : Addr} {bs bm : List Value} {hdct : Bool} {sn : List Str} {sub : List Value} {ab : Bool} {col : Option Bool} {dd : Option Addr} {k0 k1 k2 k3 k5 : Option Value} {oe : Obj} {vs : Array Value}
theorem init_exc {rest : List Value} {Q : Value → Shared → Prop} (T : OwnTail h vb bm) (oC : h.get? C = some (excClassObj nm q C N bs bm hdct sn sub ab col dd k0 k1 k2 k3 k5 "ValueError.__new__"))
    (he : h.get? e = some oe) (hcls : oe.cls = .ref C) (hd : oe.data = .fields vs) {x0 : Value} (h0 : vs[0]? = some x0) (hrest : rest.length ≤ sizeLine)
    (hq : Q .none ⟨(h.push { cls := .type "tuple", data := .seq rest.toArray }).update e (Obj.mapFields fun z => z.setIfInBounds 0 (.ref h.objs.size)), g, d, t, os⟩) :
    wpAny (model prog w) A (call (.builtin "ValueError.__init__") (.ref e :: rest)) Q E ⟨h, g, d, t, os⟩ := by
  refine wpAny_call (codeAny_call_builtin PySem.F.excBase_ValueError.init.plain PySem.F.excBase_ValueError.initEntry (wpAny_check_init_subT PySem.F.excBase_ValueError T oC he hcls ?_))
  unfold Builtin.«BaseException.__init__»
  refine wpAny_bind (wpAny_newObj_type ?_ hrest)
  unfold Builtin.BaseException.bexcPut
  refine wpAny_bind (wpAny_bind (wpAny_field (Heap.get?_push_of_some _ he) hd h0 (wpAny_bind (wpAny_setField (Heap.get?_push_of_some _ he) hd (vs_lt h0) ?_))))
  cases x0 <;> first
    | exact wpAny_letGo (wpAny_pure hq)
    | exact wpAny_pure (wpAny_pure hq)
end
theorem refuse_tail {h : Heap} (self : Value) {l : List Value} (T : OwnTail h vb l) : PySem.refuseLoop self "__setattr__" l = pure () := by
  induction T with
  | base => kernel_rfl
  | own _ _ _ _ ih => rw [PySem.refuseLoop_ref]; exact ih
section
variable {prog : Program} {w : World} {A : Around} {E : Value → Shared → Prop} {s : Shared} {K : PySem.W.Frag} {x C : Addr} {ox : Obj} {vs : Array Value} {name : Str} {v : Value}
theorem inst_exc {h : Heap} (hx : h.get? x = some ox) (hc : ox.cls = .ref C) (hd : ox.data = .fields vs) (hn : ox.dict = none) : PySem.W.InstAt h x ox C none :=
  ⟨hx, hc, by unfold PySem.W.notCls; rw [hd], by rw [hn]; trivial⟩
structure ExcSet (K : PySem.W.Frag) (C : Addr) (name : Str) : Prop where
  sa : PySem.W.findIn K (.ref C) "__setattr__" = some (some (.builtin "object.__setattr__"))
  ob : PySem.W.mroIn K C (.type "object") = some true
  tk : PySem.W.takerIn K C name = some none
  hd : PySem.W.hasDictIn K C = true
theorem set_exc0 {Q : Unit → Shared → Prop} {h0 : Heap} {bm : List Value} {cd : ClassData} (X : K.In s.heap) (S : ExcSet K C name) (hcd : PySem.W.clsIn K C = some cd) (hmro : cd.mro = .ref C :: bm) (T : OwnTail h0 vb bm)
    (hx : s.heap.get? x = some ox) (hc : ox.cls = .ref C) (hd : ox.data = .fields vs) (hn : ox.dict = none)
    (h : ∀ h', h'.get? x = some { ox with dict := some s.heap.objs.size } → h'.Ns1 s.heap.objs.size (fun y => if y = name then some v else none) → (∀ b o, b ≠ x → s.heap.get? b = some o → h'.get? b = some o) → Q () { s with heap := h', toks := s.toks + 2 }) :
    wpAny (model prog w) A (setAttr (.ref x) name v) Q E s := by
  have J := inst_exc hx hc hd hn
  have SF := PySem.F.store_object
  refine PySem.W.set_plain X J S.sa ?_
  have sub : PySem.W.Looks (model prog w) s.heap (isInstance (.ref x) (.type "object")) true := J.type.andThen (PySem.W.looks_mroIn X S.ob)
  refine codeAny_call_builtin SF.slot.plain SF.entry (@PySem.W.check_slot (model prog w) _ _ { s with toks := s.toks + 1 } "object.__setattr__" "object" "__setattr__" (.ref x) [.str name s.toks, v] [] _ SF.kind SF.split sub (SF.args (.ref x) (.str name s.toks) v) ?_)
  obtain ⟨attr, ha, hr⟩ := Option.bind_eq_some_iff.mp S.tk
  have hm : PySem.W.Looks (model prog w) s.heap (mroOf (.ref C)) cd.mro := (PySem.W.looks_clsIn X hcd).andThen .now
  have L3 : PySem.W.Looks (model prog w) s.heap (Builtin.ObjectAttr.storeTaker? attr) none := by
    cases attr with
    | none => cases hr; exact .now
    | some a =>
      obtain ⟨b, hb, e⟩ := Option.map_eq_some_iff.mp hr
      refine (PySem.W.looks_takesIn X hb).andThen ?_
      cases b with
      | true => cases e
      | false => exact .now
  rw [PySem.W.osa_eq, PySem.refuse_eq]
  refine wpAny_bind (wpAny_bind (J.type.here (s := { s with toks := s.toks + 1 }) (wpAny_bind (hm.here (s := { s with toks := s.toks + 1 }) ?_))))
  rw [hmro, PySem.refuseLoop_ref, refuse_tail (.ref x) T]
  refine wpAny_pure (wpAny_bind (J.type.here (s := { s with toks := s.toks + 1 }) (wpAny_bind ((PySem.W.looks_findIn X ha).here (s := { s with toks := s.toks + 1 }) (wpAny_bind (L3.here (s := { s with toks := s.toks + 1 }) ?_))))))
  obtain ⟨cd', hc', hd'⟩ := PySem.W.any_some S.hd
  obtain ⟨oc, odi, oda, osl⟩ := ox
  dsimp only at hc hd hn
  subst hc hd hn
  refine wpAny_bind (wpAny_pure (wpAny_bind (wpAny_bind (wpAny_loadPart hx (wpAny_bind (PySem.W.Looks.here (s := { s with toks := s.toks + 1 }) (PySem.W.looks_clsIn X hc') ?_))))))
  rw [hd']
  refine wpAny_bind (wpAny_alloc (wpAny_bind (wpAny_update (Heap.get?_push_of_some _ hx) ?_)))
  have hlt := Heap.lt_size hx
  have n0 : Heap.Ns1 ((s.heap.push { cls := .type "dict", data := .dict #[] }).update x fun o => { o with dict := some s.heap.objs.size }) s.heap.objs.size fun _ => none := by
    refine Heap.Ns1.of_empty ⟨_, #[], 0, (Heap.get?_update_other _ _ (Nat.ne_of_lt hlt)).trans (Heap.get?_push_size _ rfl), rfl, ?_, fun _ => rfl⟩
    intro y hy
    simp at hy
  refine wpAny_pure (a := some s.heap.objs.size) (wpAny_bind (wpAny_pure (wpAny_bind ?_)))
  refine wpAny_nsSet1 (s := { s with heap := (s.heap.push { cls := .type "dict", data := .dict #[] }).update x fun o => { o with dict := some s.heap.objs.size }, toks := s.toks + 1 }) n0 fun h' hn2 hs2 => ?_
  obtain ⟨oD, esD, epD, hoD, hdD, hcD⟩ := hn2.count (PySem.Within.cons name v (ns := []) fun _ z => absurd rfl z)
  refine wpAny_bind (wpAny_lookBehind hoD (by rw [hdD]; exact pastItsLine_dict (Nat.le_trans hcD (by show 1 ≤ sizeLine + 1; decide))) ?_)
  refine wpAny_pure (h _ ?_ hn2 fun b o hb e => ?_)
  · rw [hs2.2 _ (Nat.ne_of_lt hlt)]
    exact Heap.get?_update_self (fun o => { o with dict := some s.heap.objs.size }) (Heap.get?_push_of_some _ hx) rfl
  · rw [hs2.2 _ (Nat.ne_of_lt (Heap.lt_size e)), Heap.get?_update_other _ _ (Ne.symm hb)]
    exact Heap.get?_push_of_some _ e
end
section
variable {prog : Program} {w : World} {A : Around} {E : Value → Shared → Prop} {h : Heap} {g : Array GenState} {d : Drawn} {t : Nat} {os : OsState}
variable {nm q : Str} {C N fI : Addr} {bs bm : List Value} {hdct : Bool} {sn : List Str} {sub : List Value} {ab : Bool} {col : Option Bool} {dd : Option Addr} {k0 k1 k2 k3 k5 : Option Value} {oI : Obj} {mN : Str → Option Value} {rest : List Value}
theorem type_call_own {Q : Fin → Shared → Prop} (T : OwnTail h vb bm) (oC : h.get? C = some (excClassObj nm q C N bs bm hdct sn sub ab col dd k0 k1 k2 k3 k5 "ValueError.__new__")) (hn : h.Ns N mN) (hi : mN "__init__" = some (.ref fI))
    (hf : h.get? fI = some oI) (hfc : oI.cls = .type "function") (hz : rest.length ≤ sizeLine)
    (hq : ∀ h' e, Heap.MadeExcOf h h' e (.ref C) rest → wpAny (model prog w) A (call (.ref fI) (.ref e :: rest)) (fun r s' => r = .none ∧ Q (.done (.ret (.ref e))) s') E ⟨h', g, d, t, os⟩) :
    wpAny (model prog w) A (Builtin.«type.__call__» ⟨.ref C :: rest, []⟩) Q E ⟨h, g, d, t, os⟩ := by
  have FF := PySem.F.excBase_ValueError
  repeat (first | with_reducible refine wpAny_loadPart_at oC ?_ | with_reducible refine wpAny_madeBy_exc oC ?_ | wp_step)
  refine codeAny_call_builtin_code (Code.quiet_builtin _ FF.quiet) (wpAny_check_new_subT FF T oC ?_)
  refine codeAny_exc_new_subT FF T oC ?_ hz
  show wpAny _ _ _ _ _ _
  have up : ∀ b o, h.get? b = some o → ((h.push { cls := .type "tuple", data := .seq rest.toArray }).push { cls := .ref C, data := .fields #[.ref h.objs.size, .none, .none, .none, .bool false, .none] }).get? b = some o := fun b o e => Heap.get?_push_of_some _ (Heap.get?_push_of_some _ e)
  have oC1 := up _ _ oC
  have T1 := T.keeps up
  have n1 := hn.keeps up
  have ge : ((h.push { cls := .type "tuple", data := .seq rest.toArray }).push { cls := .ref C, data := .fields #[.ref h.objs.size, .none, .none, .none, .bool false, .none] }).get? (h.objs.size + 1) = some { cls := .ref C, data := .fields #[.ref h.objs.size, .none, .none, .none, .bool false, .none] } := Heap.get?_push_at (by simp only [Heap.size_push]) rfl
  have cc : (Value.ref C :: bm).contains (.ref C) = true := by simp
  unfold isInstance
  repeat (first | with_reducible refine wpAny_loadPart_at ge ?_ | (with_reducible refine wpAny_isSubtype_exc oC1 ?_; rw [cc]) | wp_step)
  show wpAny _ _ (typeLookup (.ref C) _) _ _ _
  refine wpAny_typeLookup_tail oC1 n1 T1 FF.mroIs FF.init.lookup ?_
  rw [hi]
  refine wpAny_holding (wpAny_bind ?_)
  unfold bindSpecial
  refine wpAny_bind (wpAny_typeOf (T := "function") ⟨_, up _ _ hf, hfc⟩ ?_)
  rw [if_pos (by decide)]
  refine wpAny_pure (wpAny_bind (wpAny_mono (hq _ (h.objs.size + 1) ⟨up, Heap.get?_none_of_le (Nat.le_succ _), h.objs.size, ge, Heap.get?_none_of_le (Nat.le_refl _), Heap.get?_push_of_some _ (Heap.get?_push_at rfl rfl)⟩) (fun r s' hr => ?_) fun _ _ x => x))
  obtain ⟨rfl, hQ⟩ := hr
  wp_walk
  exact hQ
theorem call_own {Q : Value → Shared → Prop} (T : OwnTail h vb bm) (oC : h.get? C = some (excClassObj nm q C N bs bm hdct sn sub ab col dd k0 k1 k2 k3 k5 "ValueError.__new__")) (hn : h.Ns N mN) (hi : mN "__init__" = some (.ref fI))
    (hf : h.get? fI = some oI) (hfc : oI.cls = .type "function") (hz : rest.length ≤ sizeLine)
    (hq : ∀ h' e, Heap.MadeExcOf h h' e (.ref C) rest → wpAny (model prog w) (A.under (.builtin "type.__call__" ⟨.ref C :: rest, []⟩)) (call (.ref fI) (.ref e :: rest)) (fun r s' => r = .none ∧ Q (.ref e) s') E ⟨h', g, d, t, os⟩) :
    wpAny (model prog w) A (call (.ref C) rest) Q E ⟨h, g, d, t, os⟩ := by
  have f1 := tc_lookup
  have f2 := tc_bind (.ref C)
  have hT : (⟨h, g, d, t, os⟩ : Shared).TypeIs (.ref C) "type" := ⟨_, oC, rfl⟩
  refine wpAny_call (codeAny_of_tree ?_)
  show wpAny _ _ (callAny (.ref C) _) _ _ _
  repeat (any_goals (first | assumption | with_reducible refine wpAny_loadPart_at oC ?_ | wp_step))
  refine ⟨rfl, codeAny_call_builtin_at (Code.quiet_builtin _ (by decide +kernel)) entry_typeCall (wpAny_check_type_call_sub oC (type_call_own T oC hn hi hf hfc hz fun h' e hm => ?_))⟩
  exact hq h' e hm
end
end L2
set_option Elab.async false
set_option linter.all false
set_option maxRecDepth 100000
namespace L2
open PySem PySem.Spec PyProof.Rows
def xnO (e : Addr) (cls : Value) : HO := .ext fun h => ∃ oe vs x0, h.get? e = some oe ∧ oe.cls = cls ∧ oe.dict = none ∧ oe.data = .fields vs ∧ vs[0]? = some x0 ∧ vs[1]? = some Value.none
def xfO (e : Addr) (cls : Value) (dx : Addr) : HO := .ext fun h => ∃ oe vs, h.get? e = some oe ∧ oe.cls = cls ∧ oe.dict = some dx ∧ oe.data = .fields vs ∧ vs[1]? = some Value.none
theorem xnO_ok {P : Program} {w : World} {H : Hp} {h : Heap} {e : Addr} {oe : Obj} {vs : Array Value} {x0 : Value} (h1 : h.get? e = some oe) (h2 : oe.dict = none) (h3 : oe.data = .fields vs) (h4 : vs[0]? = some x0) (h5 : vs[1]? = some Value.none) : ObjOk P w H h e (xnO e oe.cls) :=
  ⟨⟨oe, vs, x0, h1, rfl, h2, h3, h4, h5⟩, ⟨oe, h1⟩, fun a b ⟨o, v, x, p, q⟩ k => ⟨o, v, x, k o p, q⟩⟩
theorem xfO_ok {P : Program} {w : World} {H : Hp} {h : Heap} {e dx : Addr} {oe : Obj} {vs : Array Value} (h1 : h.get? e = some oe) (h2 : oe.dict = some dx) (h3 : oe.data = .fields vs) (h5 : vs[1]? = some Value.none) : ObjOk P w H h e (xfO e oe.cls dx) :=
  ⟨⟨oe, vs, h1, rfl, h2, h3, h5⟩, ⟨oe, h1⟩, fun a b ⟨o, v, p, q⟩ k => ⟨o, v, k o p, q⟩⟩
theorem upd_self {H : Hp} {a : Addr} {o : HO} (h : H a = some o) : upd H a o = H := by
  funext b
  by_cases e : b = a
  · rw [e, upd_same, h]
  · rw [upd_ne e]
theorem excOwn_cls {K : PySem.W.Frag} {C fI : Addr} (q : excOwn K C fI = true) : ∃ cd bm, PySem.W.clsIn K C = some cd ∧ cd.mro = .ref C :: bm ∧ PySem.W.tailIn K vb bm = true := by
  unfold excOwn at q
  split at q
  · next dd cd sl lk =>
    split at q
    · next C1 bm a0 a1 a2 a3 nn a5 em es =>
      simp only [Bool.and_eq_true, beq_iff_eq, Bool.not_eq_true'] at q
      obtain ⟨z1, _, _, z4, _⟩ := q
      refine ⟨cd, bm, ?_, by rw [em, z1], z4⟩
      unfold PySem.W.clsIn
      rw [lk]
    · cases q
  · cases q
section
variable {X : Cx} {C D fI : Addr} {x f : Str} {p pos apos pos' : Pos} {e : Expr} {es : List Expr} {t : TA}
structure ExcBase (K : PySem.W.Frag) (D : Addr) : Prop where
  rd : PySem.W.readsIn K D (.type "type") = true
  fc : PySem.W.findCls K (.ref D) (.type "type") "__init__" = some (.val (.builtin "ValueError.__init__"))
  sp : PySem.W.specialIn K (.ref D) "__getattribute__" = some (some (.builtin "type.__getattribute__"))
def tBInit (K : PySem.W.Frag) (t : TA) : TE := fun σ H Q => t σ H fun vs H1 => ∃ e y C fI, vs = [.ref e, .str y] ∧ H1 e = some (xnO e (.ref C)) ∧ excOwn K C fI = true ∧ Q .non H1
theorem pe_binit {pl : Sem Bool} (B : ExcBase X.K D) (hg : Gl X x) (hm : X.mg x = some (.ref D)) (ha : PA X (e :: es) t) (hdb : (x == ("__debug__" : Str)) = false := by decide)
    (hst : starEach (e :: es) X.env = (false, eval e X.env) :: starEach es X.env := by rfl) (hpl : (backTo pos (starEach es X.env)).any (·.1) = false := by rfl)
    (ht : eval (.Call (.Attribute (.Name x p) "__init__" apos) (e :: es) [] pos) X.env = (do
      let ov ← eval (.Name x p) X.env
      standAt apos.atName
      let (f, first) ← holding [ov] (getMethod ov "__init__" pl)
      callWith pos f first (backTo pos (starEach (e :: es) X.env)) (backToKw pos (keywordEach [] X.env))) := by rfl) :
    PE X (.Call (.Attribute (.Name x p) "__init__" apos) (e :: es) [] pos) (tBInit X.K t) := by
  intro pins s σ H Q I h
  refine PySem.W.methodCall_KW (pl := pl) (ld_glob I hg hm ?_ hdb) ht
  refine PySem.W.method_cls I.kIn B.sp (PySem.W.cls_value I.kIn B.rd B.fc rfl ?_)
  refine callWith_builtin1 (thn (ha pos pins _ σ H _ (I.tok _) h) fun us s1 ⟨vs, H1, I1, r, ea, y, C, fI, ev, hx, ho, q⟩ => ?_) hst hpl
  subst ev
  obtain ⟨u1, u2, rfl, r1, r2⟩ := vals2 r
  cases r1
  obtain ⟨tk, rfl⟩ := r2
  obtain ⟨⟨oe, fs, x0, h1, h2, h3, h4, h5, h6⟩, _⟩ := (show ObjOk X.prog X.w H1 s1.heap ea (xnO ea (.ref C)) from I1.hok ea _ hx)
  obtain ⟨bm, N, nm, qn, bs, hd, sn, sub, ab, col, dd, k0, k1, k2, k3, k5, oC, T, _, _⟩ := excOwn_obj ho I1.kIn
  obtain ⟨hh, g, d, tt, os⟩ := s1
  refine init_exc T oC h1 h2 h4 h5 (by show 1 ≤ sizeLine; decide) ?_
  have hu := upd_at (h := hh.push { cls := .type "tuple", data := .seq [Value.str y tk].toArray }) (f := fun z => z.setIfInBounds 0 (Value.ref hh.objs.size)) (Heap.get?_push_of_some _ h1) h4
  have I2 := I1.write (x := ea) (e := ea) (o := xnO ea (.ref C)) (t' := tt) (h' := (hh.push { cls := .type "tuple", data := .seq [Value.str y tk].toArray }).update ea (Obj.mapFields fun z => z.setIfInBounds 0 (Value.ref hh.objs.size)))
    (by rw [hx]; trivial) (.inl rfl) (fun b u hb z => (Heap.get?_update_other _ _ (Ne.symm hb)).trans (Heap.get?_push_of_some _ z)) ⟨_, hu⟩
    (by
      have z := xnO_ok (P := X.prog) (w := X.w) (H := upd H1 ea (xnO ea (.ref C))) hu ((mapF_dict _ _).trans h3) (mapF_data h4) (x0 := Value.ref hh.objs.size) (by simp [vs_lt h5]) (by rw [Array.getElem?_setIfInBounds_ne (by decide)]; exact h6)
      rwa [mapF_cls, h2] at z)
  rw [upd_self hx] at I2
  exact ⟨.non, H1, I2, rfl, q⟩
def sXFld (K : PySem.W.Frag) (ta tv : TE) (f : Str) : TS := fun D σ H => tv σ H fun y H1 => ta σ H1 fun x H2 => ∃ e C fI, x = .ref e ∧ H2 e = some (xnO e (.ref C)) ∧ excOwn K C fI = true ∧ ExcSet K C f ∧
  ∀ dx, H2 dx = none → dx ≠ e → D.nx σ (upd (upd H2 dx (.xd [(f, y)])) e (xfO e (.ref C) dx))
theorem ps_xfld {o value : Expr} {ta tv : TE} (ha : PE X o ta) (hv : PE X value tv) (hs : swapsWith value (some (.Attribute o f pos')) pos.line X.env = pure false) : PS X (.Assign [.Attribute o f pos'] value pos) (sXFld X.K ta tv f) := by
  intro pins s σ H D I h
  refine plainObj_wpAny_Assign_Attribute (thn (hv pins s σ H _ I h) fun u s1 ⟨y, H1, I1, ry, q⟩ => thn (ha pins s1 σ H1 _ I1 q) fun ov s2 ⟨x, H2, I2, rx, ea, C, fI, ex, hx, ho, S, q2⟩ => ?_) hs
  subst ex
  obtain rfl : ov = Value.ref ea := rx
  obtain ⟨⟨oe, fs, x0, h1, h2, h3, h4, h5, h6⟩, _⟩ := (show ObjOk X.prog X.w H2 s2.heap ea (xnO ea (.ref C)) from I2.hok ea _ hx)
  obtain ⟨cd, bm, hcd, hmro, ht⟩ := excOwn_cls ho
  refine set_exc0 I2.kIn S hcd hmro (PySem.W.tail_of_in I2.kIn ht) h1 h2 h4 h3 fun h' g1 g2 g3 => ?_
  have hlt := Heap.lt_size h1
  have hdn : H2 s2.heap.objs.size = none := I2.hok.fresh (Nat.le_refl _)
  have hne : s2.heap.objs.size ≠ ea := Nat.ne_of_gt hlt
  have nx : ∀ b o, H2 b = some o → b ≠ s2.heap.objs.size := fun b o z e => by rw [e, hdn] at z; cases z
  have nb : ∀ b o, s2.heap.get? b = some o → b ≠ s2.heap.objs.size := fun b o z => Nat.ne_of_lt (Heap.lt_size z)
  have ne : ∀ b, H2 b = none → b ≠ ea := fun b z e => by rw [e, hx] at z; cases z
  refine ⟨σ, _, I2.un (h' := h') (t' := s2.toks + 2) ⟨fun b o z n _ _ => g3 b o (ne b n) z, fun b o z n _ _ => ⟨o.slots, g3 b o (ne b n) z⟩, fun b o z n _ => by rw [upd_ne (ne b n), upd_ne (nb b o z)]; exact n, fun b o z _ => ?_, fun b xs z => ?_, fun b o u z => ?_, fun b ps z => ⟨#[], ?_⟩⟩ (fun b u z => ?_), q2 _ hdn hne⟩
  · by_cases hb : b = ea
    · exact ⟨_, by rw [hb]; exact g1⟩
    · exact ⟨o, g3 b o hb z⟩
  · have hb : b ≠ ea := fun e => by rw [e, hx] at z; cases z
    rw [upd_ne hb, upd_ne (nx b _ z)]; exact z
  · have hb : b ≠ ea := fun e => by rw [e, hx] at z; cases z
    rw [upd_ne hb, upd_ne (nx b _ z)]; exact z
  · have hb : b ≠ ea := fun e => by rw [e, hx] at z; cases z
    rw [upd_ne hb, upd_ne (nx b _ z), z]; simp
  · by_cases hb : b = ea
    · subst hb
      rw [upd_same] at z; cases z
      have w1 := xfO_ok (P := X.prog) (w := X.w) (H := upd (upd H2 s2.heap.objs.size (.xd [(f, y)])) b (xfO b (.ref C) s2.heap.objs.size)) g1 rfl h4 h6
      have e : ({ oe with dict := some s2.heap.objs.size } : Obj).cls = .ref C := h2
      rwa [e] at w1
    · rw [upd_ne hb] at z
      by_cases hb2 : b = s2.heap.objs.size
      · subst hb2
        rw [upd_same] at z; cases z
        refine ⟨_, g2, fun k => ?_⟩
        by_cases hk : k = f
        · subst hk
          rw [if_pos rfl]
          show RelO (List.lookup k [(k, y)]) (some u)
          simp only [List.lookup, beq_self_eq_true]
          exact ry
        · rw [if_neg hk]
          have hbq : (k == f) = false := beq_eq_false_iff_ne.mpr hk
          show RelO (List.lookup k [(f, y)]) none
          simp only [List.lookup, hbq]
          trivial
      · rw [upd_ne hb2] at z
        refine (I2.hok b u z).stay (fun c v hc r => g3 c v ?_ r) (fun c r => ?_) fun c xs r => ?_
        · rcases hc with rfl | hc
          · exact hb
          · exact fun e => by rw [e, hx] at hc; cases hc
        · have hc : c ≠ ea := fun e => by rw [e, hx] at r; cases r
          rw [upd_ne hc, upd_ne (nx c _ r)]; exact r
        · have hc : c ≠ ea := fun e => by rw [e, hx] at r; cases r
          rw [upd_ne hc, upd_ne (nx c _ r)]; exact r
end
def del (H : Hp) (a : Addr) : Hp := fun b => if b = a then none else H b
theorem del_same {H : Hp} {a : Addr} : del H a a = none := if_pos rfl
theorem del_ne {H : Hp} {a b : Addr} (h : b ≠ a) : del H a b = H b := if_neg h
section
variable {X : Cx} {pins : List (Addr × Obj)} {σ : St} {H : Hp} {s : Shared} {h' : Heap}
theorem Inv.laidN {a : Addr} {o : HO} {t' : Nat} (I : Inv X pins σ H s) (k : ∀ b u, s.heap.get? b = some u → h'.get? b = some u) (hn : s.heap.get? a = none) (new : ObjOk X.prog X.w (upd H a o) h' a o) : Inv X pins σ (upd H a o) { s with heap := h', toks := t' } := by
  have hH : H a = none := I.hok.untracked hn
  have nb : ∀ b u, s.heap.get? b = some u → b ≠ a := fun b u e z => by rw [z, hn] at e; cases e
  have nt : ∀ b u, H b = some u → b ≠ a := fun b u e z => by rw [z, hH] at e; cases e
  exact I.un ⟨fun b u e _ _ _ => k b u e, fun b u e _ _ _ => ⟨u.slots, k b u e⟩, fun b u e n _ => by rw [upd_ne (nb b u e)]; exact n, fun b u e _ => ⟨u, k b u e⟩, fun b xs e => by rw [upd_ne (nt b _ e)]; exact e, fun b u v e => by rw [upd_ne (nt b _ e)]; exact e, fun b ps e => ⟨#[], by rw [upd_ne (nt b _ e), e]; simp⟩⟩ ((I.hok.kept k).track hH new)
theorem Inv.drop {a : Addr} {φ : Heap → Prop} (I : Inv X pins σ H s) (e : H a = some (.ext φ)) (f0 : X.s₀.heap.get? a = none) : Inv X pins σ (del H a) s := by
  have fr : ∀ b, H b = none → del H a b = none := fun b z => by
    by_cases hb : b = a
    · rw [hb]; exact del_same
    · rw [del_ne hb]; exact z
  have kp : ∀ b o, H b = some o → b ≠ a → del H a b = some o := fun b o z hb => by rw [del_ne hb]; exact z
  have na : ∀ b o, H b = some o → o ≠ .ext φ → b ≠ a := fun b o z hne hb => by rw [hb, e] at z; cases z; exact hne rfl
  refine ⟨I.ok, I.os, I.bare, ⟨I.base.keep, I.base.slot, fun b o q n hx => fr b (I.base.free b o q n hx), I.base.there, fun b xs q => ?_, fun b o u q => ?_, fun b ps q => ?_⟩, I.loc, I.cell, fr _ I.free, fun x c q => fr _ (I.freeC x c q), fun p hp => ?_, fun b u q => ?_, I.len⟩
  · have z := I.base.tups b xs q
    exact kp b _ z (na b _ z fun z => nomatch z)
  · have z := I.base.frzs b o u q
    exact kp b _ z (na b _ z fun z => nomatch z)
  · obtain ⟨m, z⟩ := I.base.tbls b ps q
    exact ⟨m, kp b _ z (na b _ z fun z => nomatch z)⟩
  · obtain ⟨p1, p2, p3, p4, p5⟩ := I.pin p hp
    exact ⟨p1, fr _ p2, p3, p4, p5⟩
  · have hb : b ≠ a := fun z => by rw [z, del_same] at q; cases q
    rw [del_ne hb] at q
    exact (I.hok b u q).stay (fun _ _ _ z => z) (fun c r => kp c _ r (na c _ r fun z => nomatch z)) fun c xs r => kp c _ r (na c _ r fun z => nomatch z)
end
section
variable {X : Cx} {R : XR} {k : Nat} {C fI : Addr} {fd : FuncData} {ps : List Str} {sp : Sp} {x : Str} {p pos : Pos} {e : Expr} {es : List Expr} {t : TA} {te : TE}
def tMakeI (C : Addr) (sp : Sp) (t : TA) : TE := fun σ H Q => t σ H fun vs H1 => vs.length ≤ sizeLine ∧ ∀ ea, H1 ea = none → sp (.ref ea :: vs) (upd H1 ea (xnO ea (.ref C))) (fun v H2 => v = .non ∧ Q (.ref ea) H2) E0
theorem pe_makeI (ho : excOwn X.K C fI = true) (hkp : PySem.W.keepIn X.K (.ref C) = true) (hfn : PySem.W.isFn X.K (.ref fI) = true) (F : FnOk X.prog X.w X.K X.mg X.base CX0 k fI fd ps sp) (hr : Room (k + 1) X.A) (hg : Gl X x) (hm : X.mg x = some (.ref C)) (hb : Binds X.K fd ps [])
    (ha : PA X (e :: es) t) (hdb : (x == ("__debug__" : Str)) = false := by decide) (he : starEach (e :: es) X.env = (false, eval e X.env) :: starEach es X.env := by rfl) (hpl : (backTo pos (starEach es X.env)).any (·.1) = false := by rfl) :
    PE X (.Call (.Name x p) (e :: es) [] pos) (tMakeI C sp t) := by
  intro pins s σ H Q I h
  refine wpAny_Call_Name_kw (ld_glob I hg hm ?_ hdb)
  refine PySem.W.callWith_K (h₀ := X.base) I.ok.mod.kin hkp (thn (ha pos pins s σ H _ I h) fun us s1 ⟨vs, H1, I1, r, hz, q⟩ => ⟨I1.kIn, ?_⟩) he hpl
  obtain ⟨bm, N, nm, qn, bs, hd, sn, sub, ab, col, dd, k0, k1, k2, k3, k5, oC, T, hn, hi⟩ := excOwn_obj ho I1.kIn
  obtain ⟨oI, hl, hc⟩ := Option.map_eq_some_iff.mp (show (X.K.lookup fI).map (·.cls) = some (.type "function") from beq_iff_eq.mp hfn)
  obtain ⟨hh, g, d, tt, os⟩ := s1
  refine call_own T oC hn hi (I1.kIn _ _ hl) hc (by show us.length ≤ sizeLine; rw [← r.length]; exact hz) fun h' ea mk => ?_
  obtain ⟨tp, m1, _, _⟩ := mk.there
  have hea : H1 ea = none := I1.hok.untracked mk.new
  have I2 : Inv X pins σ (upd H1 ea (xnO ea (.ref C))) ⟨h', g, d, tt, os⟩ := I1.laidN (t' := tt) mk.keeps mk.new (xnO_ok m1 rfl rfl rfl rfl)
  have hq := q ea hea
  have r2 : Vals (V.ref ea :: vs) (Value.ref ea :: us) := .cons rfl r
  have hlen : (Value.ref ea :: us).length = ps.length := by rw [← r2.length]; exact F.len _ _ _ _ hq
  refine wpAny_call (codeAny_mono (F.run _ X.stack _ _ ⟨Value.ref ea :: us, []⟩ (Value.ref ea :: us) _ _ E0 (hr.make C us []) (I2.env0.make C us []) (by have z := hb _ (Value.ref ea :: us) I2.kIn (by rw [List.append_nil]; exact hlen); rwa [List.append_nil] at z) r2 hq) fun res s' hq' => ?_)
  cases res with
  | error e => exact False.elim hq'
  | ok fl =>
    cases fl with
    | ret u =>
      obtain ⟨v, H', I3, rv, ev, q3⟩ := I2.after hq'
      subst ev
      exact ⟨rv, ⟨V.ref ea, H', I3, rfl, q3⟩⟩
    | next => exact False.elim hq'
    | brk => exact False.elim hq'
    | cont => exact False.elim hq'
def tRaiseV (K : PySem.W.Frag) (H₀ : Hp) (R : XR) (te : TE) : TS := fun _ σ H => te σ H fun v H1 => ∃ ea C fI dx, v = .ref ea ∧ excOwn K C fI = true ∧ H1 ea = some (xfO ea (.ref C) dx) ∧ H₀ ea = none ∧ R (.ref C) (some dx) σ (del H1 ea)
theorem ps_raiseV (hc : X.calm = true) (hex : X.ex = []) (hx : Raises X R) (he : PE X e te) : PS X (.Raise (some e) none pos) (tRaiseV X.K X.H₀ R te) := by
  intro pins s σ H D I h
  have main : wpAny (model X.prog X.w) X.A (do let v ← eval e X.env; standAt pos; pure v) (fun v s1 => ∃ ea C fI dx H1, v = Value.ref ea ∧ Inv X pins σ H1 s1 ∧ excOwn X.K C fI = true ∧ H1 ea = some (xfO ea (.ref C) dx) ∧ X.H₀ ea = none ∧ R (.ref C) (some dx) σ (del H1 ea)) X.xe s := by
    refine wpAny_bind (thn (he pins s σ H _ I h) fun v s1 ⟨y, H1, I1, r1, ea, C, fI, dx, e1, ho, hx1, h0, q⟩ => ?_)
    subst e1
    obtain rfl : v = Value.ref ea := r1
    exact wpAny_bind (wpAny_standAt (wpAny_pure ⟨ea, C, fI, dx, H1, rfl, I1, ho, hx1, h0, q⟩))
  rw [arm_exec_Raise]
  refine wpAny_bind (wpAny_standAt ?_)
  show wpAny (model X.prog X.w) X.A (raiseStmt X.env (some (do let v ← eval e X.env; standAt pos; pure v)) none) _ _ s
  unfold raiseStmt
  refine wpAny_bind (wpAny_mono main (fun v s1 h1 => ?_) fun _ _ z => z)
  obtain ⟨ea, C, fI, dx, H1, rfl, I1, ho, hx1, h0, q⟩ := h1
  obtain ⟨bm, N, nm, qn, bs, hd, sn, sub, ab, col, dd, k0, k1, k2, k3, k5, oC, T, _, _⟩ := excOwn_obj ho I1.kIn
  obtain ⟨⟨oe, fs, g1, g2, g3, g4, g5⟩, _⟩ := (show ObjOk X.prog X.w H1 s1.heap ea (xfO ea (.ref C) dx) from I1.hok ea _ hx1)
  have f0 : X.s₀.heap.get? ea = none := by
    cases z : X.s₀.heap.get? ea with
    | none => rfl
    | some o =>
      have w := I1.base.free ea o z h0 (by rw [hex]; exact fun z => nomatch z)
      rw [hx1] at w; cases w
  have hE : X.xe (.ref ea) s1 := hx pins σ (del H1 ea) s1 ea (.ref C) (some dx) (I1.drop hx1 f0) ⟨oe, fs, g1, g2, g3, g4, g5⟩ del_same f0 q
  obtain ⟨hp, g, d, tk, os⟩ := s1
  have cB : (Value.ref C :: bm).contains (.type "BaseException") = true := by rw [List.contains_cons, T.hasType (b := true) rfl, Bool.or_true]
  repeat (first | (with_reducible refine wpAny_loadPart_at g1 ?_; rw [g2]) | with_reducible refine wpAny_loadPart_at oC ?_ | (with_reducible refine wpAny_isSubtype_exc oC ?_; rw [cB]) | with_reducible refine wpAny_field g1 g4 g5 ?_ | wp_step)
  exact wpAny_raiseNew_none (I.ok.hd hc) hE
end
structure ExcGet (K : PySem.W.Frag) (C : Addr) : Prop where
  ga : PySem.W.findIn K (.ref C) "__getattribute__" = some (some (.builtin "BaseException.__getattribute__"))
  gh : PySem.W.findIn K (.ref C) "__getattr__" = some none
  be : PySem.W.mroIn K C (.type "BaseException") = some true
section
variable {prog : Program} {w : World} {A : Around} {E : Value → Shared → Prop} {s : Shared} {K : PySem.W.Frag} {x C : Addr} {ox : Obj} {od : Option Obj} {name : Str} {v : Value} {tk : Tok}
end
section
variable {prog : Program} {w : World} {A : Around} {E : Value → Shared → Prop} {s : Shared} {K : PySem.W.Frag} {x C : Addr} {ox : Obj} {od : Option Obj} {name : Str} {v : Value} {tk : Tok}
structure ExcIs (K : PySem.W.Frag) (C : Addr) : Prop extends ExcGet K C where
  cl : (PySem.W.clsIn K C).isSome = true
  fc : PySem.W.findIn K (.ref C) "__class__" = some (some (.builtin "object.__class__"))
  sg : PySem.W.specialIn K (.builtin "object.__class__") "__get__" = some (some (.builtin "getset_descriptor.__get__"))
  tk : PySem.W.takesIn K (.builtin "object.__class__") = some true
  ob : PySem.W.mroIn K C (.type "object") = some true
end
section
variable {X : Cx} {e : Expr} {ta : TE} {f : Str} {pos : Pos}
end
section
variable {X : Cx} {R : XR} {k : Nat} {f C : Addr} {fd : FuncData} {ps : List Str} {sp : Sp} {x : Str} {p pos : Pos} {e : Expr} {es : List Expr} {t : TA}
def tMakeX (C : Addr) (sp : Sp) (R : XR) (t : TA) : TE := fun σ H Q => t σ H fun vs H1 => ∀ x dx, H1 x = none → H1 dx = none → dx ≠ x →
  sp (.ref x :: vs) (upd (upd H1 dx (.own x)) x (.ins C dx [])) (fun v H2 => v = .non ∧ Q (.ref x) H2) (fun c d H' => R c d σ H')
theorem pe_makeX (M : Mk X.K C f) (F : FnOk X.prog X.w X.K X.mg X.base (CXX X.prog X.w) k f fd ps sp) (hr : Room (k + 1) X.A) (hg : Gl X x) (hm : X.mg x = some (.ref C)) (hb : Binds X.K fd ps []) (hx : Takes X R)
    (ha : PA X (e :: es) t) (hdb : (x == ("__debug__" : Str)) = false := by decide) (he : starEach (e :: es) X.env = (false, eval e X.env) :: starEach es X.env := by rfl) (hpl : (backTo pos (starEach es X.env)).any (·.1) = false := by rfl) :
    PE X (.Call (.Name x p) (e :: es) [] pos) (tMakeX C sp R t) := by
  intro pins s σ H Q I h
  refine wpAny_Call_Name_kw (ld_glob I hg hm ?_ hdb)
  refine PySem.W.callWith_K (h₀ := X.base) I.ok.mod.kin M.kp (thn (ha pos pins s σ H _ I h) fun us s1 ⟨vs, H1, I1, r, q⟩ => ⟨I1.kIn, ?_⟩) he hpl
  show wpAny (model X.prog X.w) X.A (call (.ref C) us) (EP X pins σ Q) X.xe s1
  have hq := q (s1.heap.objs.size + 1) s1.heap.objs.size (I1.hok.fresh (Nat.le_succ _)) (I1.hok.fresh (Nat.le_refl _)) (Nat.ne_of_lt (Nat.lt_succ_self _))
  have I2 := Inv.made (C := C) I1
  have r2 : Vals (V.ref (s1.heap.objs.size + 1) :: vs) (Value.ref (s1.heap.objs.size + 1) :: us) := .cons rfl r
  have hl : (Value.ref (s1.heap.objs.size + 1) :: us).length = ps.length := by rw [← r2.length]; exact F.len _ _ _ _ hq
  refine wpAny_call (make_map (f := f) I1.kIn M.makes M.init (beq_iff_eq.mp M.fn) (codeAny_mono (F.run _ X.stack _ _ ⟨Value.ref (s1.heap.objs.size + 1) :: us, []⟩ (Value.ref (s1.heap.objs.size + 1) :: us) _ _ _ (hr.make C us [])
    (I2.env0.make C us []) (by have z := hb _ (Value.ref (s1.heap.objs.size + 1) :: us) I2.kIn (by rw [List.append_nil]; exact hl); rwa [List.append_nil] at z) r2 hq) fun res s' hq' => ?_))
  cases res with
  | error e =>
    obtain ⟨ea, T, cls, dct, H', rfl, os, bare, un, hok, ex, h1, h2, h3, h4, hE⟩ := hq'
    exact hx pins σ _ _ s' ea T cls dct H' I2 os bare un hok ex h1 h2 h3 h4 hE
  | ok fl =>
    cases fl with
    | ret u =>
      obtain ⟨v, H', I3, rv, ev, q3⟩ := I2.after hq'
      subst ev
      exact ⟨rv, ⟨V.ref (s1.heap.objs.size + 1), H', I3, rfl, q3⟩⟩
    | next => exact False.elim hq'
    | brk => exact False.elim hq'
    | cont => exact False.elim hq'
end
end L2
set_option Elab.async false
set_option linter.all false
set_option maxRecDepth 100000
namespace L2
open PySem PySem.Spec PyProof.Rows
theorem FnOk.calm {P : Program} {w : World} {K : PySem.W.Frag} {mg : Str → Option Value} {base : Heap} {k : Nat} {f : Addr} {fd : FuncData} {ps : List Str} {sp sp' : Sp} {CX : CXT} (F : FnOk P w K mg base (CXX P w) k f fd ps sp)
    (h : ∀ vs H Q E, sp' vs H Q E → sp vs H Q fun _ _ _ => False) : FnOk P w K mg base CX k f fd ps sp' :=
  ⟨fun vs H Q E q => F.len vs H Q _ (h _ _ _ _ q), fun A outer s H args us vs Q E hr he hb hv hs => codeAny_mono (F.run A outer s H args us vs Q _ hr he hb hv (h _ _ _ _ hs)) fun res s' hq => by
    cases res with
    | error e =>
      obtain ⟨ea, T, cls, dct, H', rfl, os, bare, un, hok, ex, h1, h2, h3, h4, hE⟩ := hq
      exact hE.elim
    | ok fl =>
      cases fl with
      | ret u => exact hq
      | next => exact False.elim hq
      | brk => exact False.elim hq
      | cont => exact False.elim hq⟩
theorem takes_never {X : Cx} : Takes X (fun _ _ _ _ => False) := by
  intro pins σ H s s' ea T cls dct H' _ _ _ _ _ _ _ _ _ _ h
  exact h.elim
theorem for_zip {K : PySem.W.Frag} {a b : Addr} {xs ys : List V} {g : TG} {tb : TS} {D : Ends} {σ : St} {H : Hp} (Pv : Nat → St → Hp → Prop) (h0 : Pv 0 σ H) (hl : ∀ i σ H, Pv i σ H → SqL K H a xs ∧ SqL K H b ys)
    (hs : ∀ i x y σ H p, xs[i]? = some x → ys[i]? = some y → Pv i σ H → H p = none → g (.ref p) σ (upd H p (.tup [x, y])) fun σ2 H2 => tb { D with nx := Pv (i + 1), ct := Pv (i + 1), bk := D.nx } σ2 H2) (hd : ∀ σ H, Pv (min xs.length ys.length) σ H → D.nx σ H) :
    ∃ W : Nat → Nat → St → Hp → Prop, (∃ m, W 0 m σ H) ∧ ∀ i m σ H, W i m σ H → ((Itz K a b).stop i H ∧ D.nx σ H) ∨ ((Itz K a b).go i H ∧ ∃ N : St → Hp → Prop, (∀ σ' H', N σ' H' → ∃ m', m' < m ∧ W (i + 1) m' σ' H') ∧ ∀ x H', (Itz K a b).yld i H x H' → g x σ H' fun σ2 H2 => tb { D with nx := N, ct := N, bk := D.nx } σ2 H2) := by
  refine ⟨fun i m σ H => m = min xs.length ys.length - i ∧ i ≤ min xs.length ys.length ∧ Pv i σ H, ⟨min xs.length ys.length, by simp, Nat.zero_le _, h0⟩, ?_⟩
  rintro i m σ H ⟨rfl, hi, p⟩
  obtain ⟨q1, q2⟩ := hl i σ H p
  by_cases hlt : i < min xs.length ys.length
  · have h1 : i < xs.length := by omega
    have h2 : i < ys.length := by omega
    refine .inr ⟨⟨xs, ys, xs[i], ys[i], q1, q2, List.getElem?_eq_getElem h1, List.getElem?_eq_getElem h2⟩, Pv (i + 1), fun σ' H' p' => ⟨min xs.length ys.length - (i + 1), by omega, rfl, hlt, p'⟩, ?_⟩
    rintro v H' ⟨r, x, y, rfl, hr, rfl, hx, hy⟩
    exact hs i x y σ H r (hx xs q1) (hy ys q2) p hr
  · have e : i = min xs.length ys.length := by omega
    subst e
    exact .inl ⟨⟨xs, ys, q1, q2, by omega⟩, hd σ H p⟩
def forBody (s : Stmt) : List Stmt := match s with
  | .For _ _ b _ _ => b
  | _ => []
end L2
namespace My
open PySem L2 PyProof.Rows
def RdT (H : Hp) (a : Addr) (r : Int × Int) : Prop := H a = some (.tup [.int r.1, .int r.2])
def RdL (H : Hp) (a : Addr) (rds : List (Int × Int)) : Prop := ∃ as : List Addr, H a = some (.lst (as.map V.ref)) ∧ Paired (RdT H) as rds
theorem RdT.mono {H H' : Hp} {a : Addr} {r : Int × Int} (s : Same H H') (h : RdT H a r) : RdT H' a r := s _ _ h
theorem rmono {H H' : Hp} {as : List Addr} {rds : List (Int × Int)} (s : Same H H') (h : Paired (RdT H) as rds) : Paired (RdT H') as rds := pimp h fun _ _ _ z => z.mono s
theorem RdL.mono {H H' : Hp} {a : Addr} {rds : List (Int × Int)} (s : Same H H') (h : RdL H a rds) : RdL H' a rds := let ⟨as, h1, h2⟩ := h; ⟨as, s _ _ h1, rmono s h2⟩
theorem mod_off {o d p : Int} (o0 : 0 ≤ o) (o1 : o < p) (d0 : 0 < d) (d1 : d < p) : 0 ≤ (o + d) % p ∧ (o + d) % p < p ∧ o ≠ (o + d) % p := by
  refine ⟨Int.emod_nonneg _ (by omega), Int.emod_lt_of_pos _ (by omega), ?_⟩
  by_cases h : o + d < p
  · rw [Int.emod_eq_of_lt (by omega) h]
    omega
  · have e : (o + d) % p = o + d - p := by
      rw [← Int.sub_emod_right, Int.emod_eq_of_lt (by omega) (by omega)]
    omega
end My
set_option Elab.async false
set_option linter.all false
set_option maxRecDepth 100000
namespace L2
open PySem PySem.Spec PyProof.Rows
structure RoomH (k : Nat) (A : Around) : Prop where
  dp : A.depth + 3 * k + 5 < recursionLimit
  un : A.units + 16 * k + 200 < cLine
theorem RoomH.deep {k : Nat} {A : Around} (r : RoomH (k + 1) A) (env : Env) : RoomH k (A.deeper env) := ⟨by have := r.dp; show A.depth + 1 + 3 * k + 5 < _; omega, by have := r.un; show A.units + 3 + 16 * k + 200 < _; omega⟩
structure FnOkH (P : Program) (w : World) (K : PySem.W.Frag) (mg : Str → Option Value) (base : Heap) (k : Nat) (f : Addr) (fd : FuncData) (ps : List Str) (sp : Sp) : Prop where
  len : ∀ vs H Q E, sp vs H Q E → vs.length = ps.length
  run : ∀ (A : Around) (ea : Addr) (outer : List Env) (s : Shared) (H : Hp) (args : Args) (us : List Value) (vs : List V) (Q : VK), RoomH k (A.mark (some (.ref ea))) → Env0 P w K mg base (A.mark (some (.ref ea))) outer s H → BindsTo s fd args (ps.zip us) → Vals vs us → sp vs H Q E0 → codeAny (model P w) (A.mark (some (.ref ea))) (.call (.ref f) args) (CR CX0 outer P w H s Q E0) s
section
variable {P : Program} {w : World} {K : PySem.W.Frag} {mg : Str → Option Value} {base : Heap}
theorem Fun.okH {x qual : Str} {st : Stmt} {f : Addr} {fd : FuncData} {N ps : List Str} {k : Nat} {sp : Sp} (F : Fun K x qual st f fd) (S : FnScope N ps (defScope st)) (len : ∀ vs H Q E, sp vs H Q E → vs.length = ps.length)
    (hbody : ∀ (cdv : Value) (A : Around) (ea : Addr) (outer : List Env) (s : Shared) (H : Hp) (vs : List V) (Q : VK), RoomH k ((A.mark (some (.ref ea))).deeper (envOfC qual (defScope st) s.heap.objs.size f cdv)) → sp vs H Q E0 →
      ∃ t, PSs ((cxOf CX0 P w K mg base N qual (defScope st) f cdv ({ A with handled := none } : Around) outer s H E0).caught ea) (defBody st) t ∧ t { nx := fun _ H' => Q .non H', rt := Q } (start N vs) H) : FnOkH P w K mg base (k + 1) f fd ps sp := by
  obtain ⟨oc, od, kV, doc, pm, an, cdv, ct, osl, rfl, lk, hcd⟩ := F.ex
  refine ⟨len, fun A ea outer s H args us vs Q hr e0 hb r hsp => ?_⟩
  have hl := len _ _ _ _ hsp
  have KX : K.In s.heap := e0.mod.kin.keeps fun b o e => (e0.bs b o e).1
  have lim : s.heap.NoLimit := e0.mod.nolimit.keeps fun b o e => (e0.bs b o e).1
  have hkind : ∀ y ∈ ps.zip us, (defScope st).names.lookup y.1 = some .local ∨ ((defScope st).names.lookup y.1 = some .cell ∧ ((cellsFrom (s.heap.objs.size + 1) (defScope st).names []).lookup y.1).isSome = true) := fun ⟨n, v⟩ hy => by
    rcases S.par n (List.of_mem_zip hy).1 with z | z
    · exact .inl z
    · exact .inr ⟨z, PySem.W.cellsFrom_some _ _ _ (.inl z)⟩
  refine codeAny_call_function (by have := hr.dp; omega) (KX _ _ lk) rfl S.co S.gen rfl (PySem.W.codeRec_of KX hcd) (hb _ _ _ _ ?_)
  refine wpAny_newFunctionEnv_cells S.kind hkind fun env he s1 x => ?_
  subst he
  refine ⟨lim.keeps x.toInCall.keep, codeAny_func ?_⟩
  obtain ⟨t, ht, hq⟩ := hbody cdv A ea outer s H vs Q (hr.deep _) hsp
  have e1 : Env0 P w K mg base ({ A with handled := none } : Around) outer s H := ⟨e0.frames, e0.mod, e0.bs, e0.bsz, e0.funs, e0.frf, e0.hok, e0.bare⟩
  have I : Inv (cxOf CX0 P w K mg base N qual (defScope st) f cdv ({ A with handled := none } : Around) outer s H E0) [] (start N vs) H s1 := inv_start S rfl e1 hl r x
  have I2 := I.caught ea
  refine wpAny_mono (ht [] s1 (start N vs) H _ I2 hq) (fun fl s' hs => ?_) fun e s' hs => False.elim hs
  have fin : ∀ {σ' : St} {H' : Hp} {v : V} {u : Value}, Inv ((cxOf CX0 P w K mg base N qual (defScope st) f cdv ({ A with handled := none } : Around) outer s H E0).caught ea) [] σ' H' s' → RelV v u → Q v H' → CE outer P w H s Q u s' := fun {σ' H' v u} J rv q => ⟨v, H', J.os, J.bare, J.base, J.hok, rv, q⟩
  cases fl with
  | ret u =>
    obtain ⟨v, σ', H', J, rv, q⟩ := hs
    exact fin J rv q
  | next =>
    obtain ⟨σ', H', J, q⟩ := hs
    exact fin (v := V.non) (u := Value.none) J rfl q
  | brk =>
    obtain ⟨_, _, _, q⟩ := hs
    exact False.elim q
  | cont =>
    obtain ⟨_, _, _, q⟩ := hs
    exact False.elim q
end
section
variable {X : Cx} {k : Nat} {f ea : Addr} {fd : FuncData} {ps : List Str} {sp : Sp} {dvs : List V} {ds : List Value} {x : Str} {p pos : Pos} {e : Expr} {es : List Expr} {t : TA}
end
end L2
set_option Elab.async false
set_option linter.all false
set_option maxRecDepth 100000
set_option maxHeartbeats 4000000
namespace L2
open PySem PySem.Spec PyProof.Rows
def keyAt (ky : Value → Int) (xs : Array Keyed) (i : Nat) : Int := (xs[i]?.map fun p => ky p.1).getD 0
def Rises (ky : Value → Int) (xs : Array Keyed) (k : Nat) : Prop := ∀ i j, i ≤ j → j < k → keyAt ky xs i ≤ keyAt ky xs j
def Falls (ky : Value → Int) (xs : Array Keyed) (k : Nat) : Prop := ∀ i j, i ≤ j → j < k → keyAt ky xs j ≤ keyAt ky xs i
structure Run (kd : SortKind) (a0 : Array Keyed) (t : SortSt) : Prop where
  pm : Array.Perm (arrOf t) a0
  kind : kindOf t = kd
  ok : failedOf t = none
  none : pendingOf t = #[]
section
variable {ky : Value → Int} {xs ys : Array Keyed} {k : Nat}
theorem keyAt_eq {i j : Nat} (e : xs[i]? = ys[j]?) : keyAt ky xs i = keyAt ky ys j := by unfold keyAt; rw [e]
theorem rises_one : Rises ky xs 1 := fun i j a b => by
  have e : i = j := by omega
  rw [e]
  exact Int.le_refl _
theorem rises_snoc (h : Rises ky xs k) (k1 : 1 ≤ k) (l : keyAt ky xs (k - 1) ≤ keyAt ky xs k) : Rises ky xs (k + 1) := fun i j a b => by
  by_cases c : j < k
  · exact h i j a c
  have e : j = k := by omega
  by_cases c2 : i = j
  · rw [c2]; exact Int.le_refl _
  have z := h i (k - 1) (by omega) (by omega)
  rw [e]
  omega
theorem falls_snoc (h : Falls ky xs k) (k1 : 1 ≤ k) (l : keyAt ky xs k ≤ keyAt ky xs (k - 1)) : Falls ky xs (k + 1) := fun i j a b => by
  by_cases c : j < k
  · exact h i j a c
  have e : j = k := by omega
  by_cases c2 : i = j
  · rw [c2]; exact Int.le_refl _
  have z := h i (k - 1) (by omega) (by omega)
  rw [e]
  omega
theorem falls_same (h : Falls ky xs k) (e : ∀ i, keyAt ky ys i = keyAt ky xs i) : Falls ky ys k := fun i j a b => by rw [e, e]; exact h i j a b
theorem mirror_key {n : Nat} (h : n ≤ xs.size) (i : Nat) (hi : i < n) : keyAt ky (mirror xs 0 n ((n - 0) / 2)) i = keyAt ky xs (n - 1 - i) := by
  refine keyAt_eq ((getElem?_mirror_all h i).trans ?_)
  rw [if_pos ⟨Nat.zero_le _, hi⟩, Nat.zero_add]
theorem mirror_flat {a n : Nat} (h : n ≤ xs.size) (hs : ∀ i, a ≤ i → i < n → keyAt ky xs i = keyAt ky xs (n - 1)) (i : Nat) : keyAt ky (mirror xs a n ((n - a) / 2)) i = keyAt ky xs i := by
  by_cases c : a ≤ i ∧ i < n
  · refine (keyAt_eq (ys := xs) (j := a + n - 1 - i) ((getElem?_mirror_all h i).trans (if_pos c))).trans ?_
    rw [hs _ (by omega) (by omega), hs i c.1 c.2]
  · exact keyAt_eq ((getElem?_mirror_all h i).trans (if_neg c))
end
section
variable {prog : Program} {w : World} {A : Around} {E : Value → Shared → Prop} {s : Shared} {a0 : Array Keyed} {kd : SortKind} {ky : Value → Int} {t : SortSt}
theorem Run.put (h : Run kd a0 t) {xs : Array Keyed} (p : xs.Perm (arrOf t)) : Run kd a0 (setArr t xs) := ⟨p.trans h.pm, h.kind, h.ok, h.none⟩
theorem Run.sz (h : Run kd a0 t) : (arrOf t).size = a0.size := h.pm.size_eq
def LtBy (prog : Program) (w : World) (A : Around) (s : Shared) (kd : SortKind) (ky : Value → Int) (a0 : Array Keyed) : Prop :=
  ∀ x y : Keyed, x ∈ a0.toList → y ∈ a0.toList → ∀ (E : Value → Shared → Prop) (Q : Bool → Shared → Prop), Q (decide (ky x.1 < ky y.1)) s → wpAny (model prog w) A (keyLt' kd x.1 y.1) Q E s
theorem run_lt (hc : LtBy prog w A s kd ky a0) (h : Run kd a0 t) {i j : Nat} (hi : i < a0.size) (hj : j < a0.size) {Q : Option Bool → SortSt → Prop} (q : Q (some (decide (keyAt ky (arrOf t) i < keyAt ky (arrOf t) j))) t) : wpS (model prog w) A E s (ltAt' i j) Q t := by
  have at_ : ∀ {m : Nat}, m < a0.size → ∃ p : Keyed, (arrOf t)[m]? = some p ∧ p ∈ a0.toList ∧ keyAt ky (arrOf t) m = ky p.1 := fun {m} hm => by
    have hm2 : m < (arrOf t).size := by rw [h.sz]; exact hm
    have e : (arrOf t)[m]? = some ((arrOf t)[m]'hm2) := getElem?_pos _ m hm2
    refine ⟨_, e, ?_, by unfold keyAt; rw [e]; rfl⟩
    exact (Array.perm_iff_toList_perm.mp h.pm).mem_iff.mp (by simp)
  obtain ⟨x, ex, mx, kx⟩ := at_ hi
  obtain ⟨y, ey, my, ky'⟩ := at_ hj
  rw [kx, ky'] at q
  rw [ltAt'_eq]
  refine wpS_bind (wpS_get ?_)
  dsimp only
  rw [show elem' (arrOf t) i = pure x by rw [elem'_eq, ex], show elem' (arrOf t) j = pure y by rw [elem'_eq, ey]]
  refine wpS_bind (wpS_pure (wpS_bind (wpS_pure ?_)))
  rw [lt'_eq]
  refine wpS_bind (wpS_get ?_)
  rw [h.kind]
  exact wpS_bind (wpS_lift (wpAny_attempt (hc x y mx my _ _ ⟨rfl, wpS_pure q⟩)))
theorem run_asc (hc : LtBy prog w A s kd ky a0) (h : Run kd a0 t) {a n : Nat} (hn : n ≤ a0.size) (a1 : 1 ≤ a) (an : a ≤ n) (hs : Rises ky (arrOf t) a) {Q : AscSt → SortSt → Prop}
    (q : ∀ m, a ≤ m → m ≤ n → Rises ky (arrOf t) m → (m = n ∨ keyAt ky (arrOf t) m < keyAt ky (arrOf t) (m - 1)) → Q (none, m) t) : wpS (model prog w) A E s (ascLoop a n) Q t := by
  unfold ascLoop
  refine wpS_forRange (I := fun x c u => u = t ∧ c = (none, x) ∧ Rises ky (arrOf t) x) (fun x c u ax xn hI => ?_) (fun c u hI => ?_) ⟨rfl, rfl, hs⟩
  · obtain ⟨rfl, rfl, hx⟩ := hI
    dsimp only
    refine wpS_bind (run_lt hc h (by omega) (by omega) ?_)
    by_cases c : keyAt ky (arrOf u) x < keyAt ky (arrOf u) (x - 1)
    · simp only [decide_eq_true c, if_true]
      exact wpS_pure (q x ax (by omega) hx (.inr c))
    · simp only [decide_eq_false c, Bool.false_eq_true, if_false]
      exact wpS_pure ⟨rfl, rfl, rises_snoc hx (by omega) (by omega)⟩
  · obtain ⟨rfl, rfl, hx⟩ := hI
    have e : max a n = n := by omega
    rw [e] at hx ⊢
    exact q n an (Nat.le_refl _) hx (.inl rfl)
theorem run_tail (hc : LtBy prog w A s kd ky a0) (h : Run kd a0 t) {m n : Nat} (hn : n ≤ a0.size) (m1 : 1 ≤ m) (mn : m ≤ n) (hs : Falls ky (arrOf t) m) {Q : Option Nat → SortSt → Prop}
    (q : ∀ k u, Run kd a0 u → 1 ≤ k → k ≤ n → Rises ky (arrOf u) k → Q (some k) u) : wpS (model prog w) A E s (tail3 m n) Q t := by
  unfold tail3
  refine wpS_bind (wpS_reverse ?_)
  have hm : m ≤ (arrOf t).size := by rw [h.sz]; omega
  have h2 : Run kd a0 (setArr t (mirror (arrOf t) 0 m ((m - 0) / 2))) := h.put (mirror_perm _ _ _ _)
  refine wpS_bind (run_asc hc h2 hn m1 mn (fun i j ij jm => ?_) fun k k1 k2 hk _ => wpS_pure (q k _ h2 (by omega) k2 hk))
  show keyAt ky (mirror (arrOf t) 0 m ((m - 0) / 2)) i ≤ keyAt ky (mirror (arrOf t) 0 m ((m - 0) / 2)) j
  rw [mirror_key hm i (by omega), mirror_key hm j jm]
  exact hs _ _ (by omega) (by omega)
theorem run_desc (hc : LtBy prog w A s kd ky a0) (h : Run kd a0 t) {m n : Nat} (hn : n ≤ a0.size) (m1 : 1 ≤ m) (mn : m ≤ n) (hs : Falls ky (arrOf t) m) {Q : DescSt → SortSt → Prop}
    (q : ∀ k g u, Run kd a0 u → m ≤ k → k ≤ n → Falls ky (arrOf u) k → g + 1 ≤ k → (∀ i, k - (g + 1) ≤ i → i < k → keyAt ky (arrOf u) i = keyAt ky (arrOf u) (k - 1)) → Q (none, k, g) u) : wpS (model prog w) A E s (descLoop m n) Q t := by
  unfold descLoop
  refine wpS_forRange (I := fun x c u => ∃ g, c = (none, x, g) ∧ Run kd a0 u ∧ Falls ky (arrOf u) x ∧ g + 1 ≤ x ∧ ∀ i, x - (g + 1) ≤ i → i < x → keyAt ky (arrOf u) i = keyAt ky (arrOf u) (x - 1))
    (fun x c u mx xn hI => ?_) (fun c u hI => ?_) ⟨0, rfl, h, hs, by omega, fun i a b => by rw [show i = m - 1 by omega]⟩
  · obtain ⟨g, rfl, hu, hf, hg, he⟩ := hI
    dsimp only
    have hx : x ≤ (arrOf u).size := by rw [hu.sz]; omega
    refine wpS_bind (run_lt hc hu (by omega) (by omega) ?_)
    by_cases c : keyAt ky (arrOf u) x < keyAt ky (arrOf u) (x - 1)
    · simp only [decide_eq_true c, if_true]
      have hf2 : Falls ky (arrOf u) (x + 1) := falls_snoc hf (by omega) (by omega)
      have last : ∀ zs : Array Keyed, ∀ i, x + 1 - (0 + 1) ≤ i → i < x + 1 → keyAt ky zs i = keyAt ky zs (x + 1 - 1) := fun zs i a b => by rw [show i = x + 1 - 1 by omega]
      by_cases g0 : g > 0
      · rw [if_pos g0]
        exact wpS_bind (wpS_reverse (wpS_pure ⟨0, rfl, hu.put (mirror_perm _ _ _ _), falls_same hf2 (mirror_flat hx he), by omega, last _⟩))
      · rw [if_neg g0]
        exact wpS_pure ⟨0, rfl, hu, hf2, by omega, last _⟩
    · simp only [decide_eq_false c, Bool.false_eq_true, if_false]
      refine wpS_bind (run_lt hc hu (by omega) (by omega) ?_)
      by_cases c2 : keyAt ky (arrOf u) (x - 1) < keyAt ky (arrOf u) x
      · simp only [decide_eq_true c2, if_true]
        exact wpS_pure (q x g u hu mx (by omega) hf hg he)
      · simp only [decide_eq_false c2, Bool.false_eq_true, if_false]
        refine wpS_pure ⟨g + 1, rfl, hu, falls_snoc hf (by omega) (by omega), by omega, fun i a b => ?_⟩
        rw [show x + 1 - 1 = x by omega]
        by_cases c3 : i = x
        · rw [c3]
        · have z := he i (by omega) (by omega)
          omega
  · obtain ⟨g, rfl, hu, hf, hg, he⟩ := hI
    have e : max m n = n := by omega
    rw [e] at hf hg he ⊢
    exact q n g u hu mn (Nat.le_refl _) hf hg he
theorem run_part (hc : LtBy prog w A s kd ky a0) (h : Run kd a0 t) {m n : Nat} (hn : n ≤ a0.size) (mn : m + 1 ≤ n) (hs : Falls ky (arrOf t) (m + 1)) {Q : Option Nat → SortSt → Prop}
    (q : ∀ k u, Run kd a0 u → 1 ≤ k → k ≤ n → Rises ky (arrOf u) k → Q (some k) u) : wpS (model prog w) A E s (descPart m n) Q t := by
  unfold descPart
  refine wpS_bind (wpS_lift (wpAny_rule ⟨rfl, ?_⟩))
  refine wpS_bind (run_desc hc h hn (by omega) mn hs fun k g u hu k1 k2 hf hg he => ?_)
  dsimp only
  by_cases g0 : g > 0
  · rw [if_pos g0]
    have hk : k ≤ (arrOf u).size := by rw [hu.sz]; omega
    exact wpS_bind (wpS_reverse (run_tail hc (hu.put (mirror_perm _ _ _ _)) hn (by omega) k2 (falls_same hf (mirror_flat hk he)) q))
  · rw [if_neg g0]
    exact run_tail hc hu hn (by omega) k2 hf q
theorem run_count (hc : LtBy prog w A s kd ky a0) (h : Run kd a0 t) {n : Nat} (hn : n ≤ a0.size) (n1 : 1 ≤ n) {Q : Option Nat → SortSt → Prop}
    (q : ∀ k u, Run kd a0 u → 1 ≤ k → k ≤ n → Rises ky (arrOf u) k → Q (some k) u) : wpS (model prog w) A E s (countRun' 0 n) Q t := by
  rw [countRun0_eq]
  refine wpS_bind (run_asc hc h hn (Nat.le_refl 1) n1 rises_one fun m m1 mn hm or_ => ?_)
  dsimp only
  by_cases e : m = n
  · rw [if_pos (by simpa using e)]
    exact wpS_pure (q m t h m1 mn hm)
  rw [if_neg (by simpa using e)]
  have l := or_.resolve_left e
  by_cases g : m > 1
  · rw [if_pos g]
    refine wpS_bind (run_lt hc h (by omega) (by omega) ?_)
    by_cases c : keyAt ky (arrOf t) 0 < keyAt ky (arrOf t) (m - 1)
    · simp only [decide_eq_true c, if_true]
      exact wpS_pure (q m t h m1 mn hm)
    · simp only [decide_eq_false c, Bool.false_eq_true, if_false]
      have hz : m ≤ (arrOf t).size := by rw [h.sz]; omega
      have flat : ∀ i, 0 ≤ i → i < m → keyAt ky (arrOf t) i = keyAt ky (arrOf t) (m - 1) := fun i _ im => by
        have z1 := hm 0 i (by omega) im
        have z2 := hm i (m - 1) (by omega) (by omega)
        omega
      refine wpS_bind (wpS_reverse (run_part hc (h.put (mirror_perm _ _ _ _)) hn (by omega) ?_ q))
      refine falls_same (xs := arrOf t) (falls_snoc (fun i j ij jm => ?_) m1 (by omega)) (mirror_flat hz flat)
      rw [flat i (by omega) (by omega), flat j (by omega) jm]
      exact Int.le_refl _
  · rw [if_neg g]
    have e1 : m = 1 := by omega
    subst e1
    refine run_part hc h hn (by omega) (falls_snoc (fun i j ij jm => ?_) (Nat.le_refl 1) (by omega)) q
    rw [show i = j by omega]
    exact Int.le_refl _
theorem run_ins (hc : LtBy prog w A s kd ky a0) (h : Run kd a0 t) {n ok : Nat} (hn : n ≤ a0.size) (on : ok ≤ n) (hs : Rises ky (arrOf t) ok) {Q : Bool → SortSt → Prop}
    (q : ∀ u, Run kd a0 u → Rises ky (arrOf u) n → Q true u) : wpS (model prog w) A E s (binarySort' 0 n ok) Q t := by
  rw [binarySort'_eq]
  simp only [Nat.zero_add]
  refine wpS_bind (wpS_mono (wpS_forRange (I := fun x c u => c = (none, ()) ∧ Run kd a0 u ∧ Rises ky (arrOf u) (min x n)) (Q := fun c u => c = (none, ()) ∧ Run kd a0 u ∧ Rises ky (arrOf u) n) (fun x c u ox xn hI => ?_) (fun c u hI => ?_) ⟨rfl, h, ?_⟩) fun c u hI => ?_)
  · obtain ⟨rfl, hu, hx⟩ := hI
    rw [show min x n = x by omega] at hx
    refine wpS_bind (wpS_mono (wpS_forRange
      (I := fun y c v => v = u ∧ ∃ lo hi, c = (none, lo, hi) ∧ lo ≤ hi ∧ hi ≤ x ∧ hi - lo ≤ x - y ∧ (∀ i, i < lo → keyAt ky (arrOf u) i ≤ keyAt ky (arrOf u) x) ∧ ∀ i, hi ≤ i → i < x → keyAt ky (arrOf u) x < keyAt ky (arrOf u) i)
      (Q := fun c v => v = u ∧ ∃ lo hi, c = (none, lo, hi) ∧ lo ≤ x ∧ (∀ i, i < lo → keyAt ky (arrOf u) i ≤ keyAt ky (arrOf u) x) ∧ ∀ i, lo ≤ i → i < x → keyAt ky (arrOf u) x < keyAt ky (arrOf u) i)
      (fun y c v _ yx hJ => ?_) (fun c v hJ => ?_) ⟨rfl, 0, x, rfl, by omega, by omega, by omega, fun i a => by omega, fun i a b => by omega⟩) fun c v hJ => ?_)
    · obtain ⟨rfl, lo, hi, rfl, l1, l2, l3, lA, lB⟩ := hJ
      dsimp only
      by_cases c : lo ≥ hi
      · rw [if_pos c]
        have e : lo = hi := by omega
        subst e
        exact wpS_pure ⟨rfl, lo, lo, rfl, l2, lA, lB⟩
      · rw [if_neg c]
        refine wpS_bind (run_lt hc hu (by omega) (by omega) ?_)
        by_cases c2 : keyAt ky (arrOf v) x < keyAt ky (arrOf v) ((lo + hi) / 2)
        · simp only [decide_eq_true c2, if_true]
          refine wpS_pure ⟨rfl, lo, (lo + hi) / 2, rfl, by omega, by omega, by omega, lA, fun i a b => ?_⟩
          have z := hx ((lo + hi) / 2) i a b
          omega
        · simp only [decide_eq_false c2, Bool.false_eq_true, if_false]
          refine wpS_pure ⟨rfl, (lo + hi) / 2 + 1, hi, rfl, by omega, by omega, by omega, fun i a => ?_, lB⟩
          have z := hx i ((lo + hi) / 2) (by omega) (by omega)
          omega
    · obtain ⟨rfl, lo, hi, rfl, l1, l2, l3, lA, lB⟩ := hJ
      have e : lo = hi := by omega
      subst e
      exact ⟨rfl, lo, lo, rfl, l2, lA, lB⟩
    · obtain ⟨rfl, lo, hi, rfl, l1, lA, lB⟩ := hJ
      dsimp only
      have hxs : x < (arrOf v).size := by rw [hu.sz]; omega
      show wpS _ _ _ _ (moveDown' x lo >>= fun _ => pure (ForInStep.yield (none, ()))) _ _
      rw [moveDown'_eq]
      refine wpS_bind (wpS_modify (wpS_pure ⟨rfl, hu.put (bubble_perm _ _ _), ?_⟩))
      rw [show min (x + 1) n = x + 1 by omega]
      have kb : ∀ i, keyAt ky (bubble (arrOf v) x (x - lo)) i = if i = lo then keyAt ky (arrOf v) x else if lo < i ∧ i ≤ x then keyAt ky (arrOf v) (i - 1) else keyAt ky (arrOf v) i := fun i => by
        have z := getElem?_bubble hxs (x - lo) (by omega) i
        rw [show x - (x - lo) = lo by omega] at z
        by_cases c1 : i = lo
        · rw [if_pos c1] at z ⊢; exact keyAt_eq z
        · rw [if_neg c1] at z ⊢
          by_cases c2 : lo < i ∧ i ≤ x
          · rw [if_pos c2] at z ⊢; exact keyAt_eq z
          · rw [if_neg c2] at z ⊢; exact keyAt_eq z
      intro i j ij jx
      show keyAt ky (bubble (arrOf v) x (x - lo)) i ≤ keyAt ky (bubble (arrOf v) x (x - lo)) j
      rw [kb, kb]
      by_cases i1 : i = lo
      · rw [if_pos i1]
        by_cases j1 : j = lo
        · rw [if_pos j1]; exact Int.le_refl _
        · rw [if_neg j1, if_pos (by omega)]
          exact Int.le_of_lt (lB _ (by omega) (by omega))
      · rw [if_neg i1]
        by_cases i2 : lo < i ∧ i ≤ x
        · rw [if_pos i2, if_neg (by omega), if_pos (by omega)]
          exact hx _ _ (by omega) (by omega)
        · rw [if_neg i2]
          by_cases j1 : j = lo
          · rw [if_pos j1]; exact lA _ (by omega)
          · rw [if_neg j1]
            by_cases j2 : lo < j ∧ j ≤ x
            · rw [if_pos j2]; exact hx _ _ (by omega) (by omega)
            · rw [if_neg j2]; exact hx _ _ (by omega) (by omega)
  · obtain ⟨rfl, hu, hx⟩ := hI
    rw [show min (max (max ok 1) n) n = n by omega] at hx
    exact ⟨rfl, hu, hx⟩
  · intro i j ij jm
    by_cases c : ok = 0
    · rw [show i = j by omega]; exact Int.le_refl _
    · exact hs i j ij (by omega)
  · obtain ⟨rfl, hu, hx⟩ := hI
    exact wpS_pure (q u hu hx)
theorem run_all (hc : LtBy prog w A s kd ky a0) (h : Run kd a0 t) (h2 : 2 ≤ a0.size) (h64 : a0.size < 64) {Q : Unit → SortSt → Prop}
    (q : ∀ u, Array.Perm (arrOf u) a0 → failedOf u = none → Rises ky (arrOf u) a0.size → Q () u) : wpS (model prog w) A E s sortRuns' Q t := by
  rw [sortRuns'_eq]
  refine wpS_bind (wpS_get ?_)
  have mr : minRun' a0.size a0.size 0 = a0.size := by
    cases e : a0.size with
    | zero => omega
    | succ f => rw [minRun'_succ, if_pos (by omega)]
  dsimp only
  simp only [h.sz, mr]
  let Fin' (u : SortSt) : Prop := Array.Perm (arrOf u) a0 ∧ failedOf u = none ∧ pendingOf u = #[(0, a0.size, 0)] ∧ Rises ky (arrOf u) a0.size
  have fin : ∀ u, Run kd a0 u → Rises ky (arrOf u) a0.size → Fin' (setPending u ((pendingOf u).push (0, a0.size, 0))) := fun u hu hr => ⟨hu.pm, hu.ok, by show Array.push (pendingOf u) _ = _; rw [hu.none]; rfl, hr⟩
  refine wpS_bind (wpS_mono (wpS_forRange (I := fun x c u => (x = 0 ∧ c = (none, 0) ∧ Run kd a0 u) ∨ (1 ≤ x ∧ c = (none, a0.size) ∧ Fin' u)) (Q := fun c u => c = (none, a0.size) ∧ Fin' u) (fun x c u _ xn hI => ?_) (fun c u hI => ?_) (.inl ⟨rfl, rfl, h⟩)) fun c u hI => ?_)
  · rcases hI with ⟨rfl, rfl, hu⟩ | ⟨x1, rfl, hu⟩
    · dsimp only
      rw [if_neg (by omega)]
      simp only [Nat.sub_zero, Nat.min_self, Nat.zero_add]
      have close : ∀ u2, Run kd a0 u2 → Rises ky (arrOf u2) a0.size → (pendingOf u2).back? = none := fun u2 h2 _ => by rw [h2.none]; rfl
      refine wpS_bind (run_count hc hu (Nat.le_refl _) (by omega) fun m u2 hu2 m1 mn hr => ?_)
      dsimp only
      by_cases c : m < a0.size
      · rw [if_pos c]
        refine wpS_bind (wpS_lift (wpAny_rule ⟨rfl, ?_⟩))
        refine wpS_bind (run_ins hc hu2 (Nat.le_refl _) mn hr fun u3 hu3 hr3 => ?_)
        simp only [Bool.not_true, Bool.false_eq_true, if_false]
        refine wpS_bind (wpS_get ?_)
        rw [close u3 hu3 hr3]
        exact wpS_bind (wpS_modify (wpS_pure (.inr ⟨by omega, rfl, fin u3 hu3 hr3⟩)))
      · rw [if_neg c]
        have e : m = a0.size := by omega
        subst e
        refine wpS_bind (wpS_get ?_)
        rw [close u2 hu2 hr]
        exact wpS_bind (wpS_modify (wpS_pure (.inr ⟨by omega, rfl, fin u2 hu2 hr⟩)))
    · dsimp only
      rw [if_pos (Nat.le_refl _)]
      exact wpS_pure ⟨rfl, hu⟩
  · rcases hI with ⟨x0, _, _⟩ | ⟨_, hc', hu⟩
    · omega
    · exact ⟨hc', hu⟩
  · obtain ⟨rfl, h1, h2', h3, h4⟩ := hI
    dsimp only
    refine wpS_bind (wpS_mono (wpS_forRange (I := fun _ c v => v = u ∧ c = (none, ())) (Q := fun c v => v = u ∧ c = (none, ())) (fun x c v _ _ hJ => ?_) (fun _ _ z => z) ⟨rfl, rfl⟩) fun c v hJ => ?_)
    · obtain ⟨rfl, rfl⟩ := hJ
      refine wpS_bind (wpS_get ?_)
      rw [if_pos (by rw [h3]; exact Nat.le_refl 1)]
      exact wpS_pure ⟨rfl, rfl⟩
    · obtain ⟨rfl, rfl⟩ := hJ
      exact wpS_pure (q _ h1 h2' h4)
end
section
variable {prog : Program} {w : World} {A : Around} {E : Value → Shared → Prop} {s : Shared}
def PairIn (h : Heap) (v : Value) (p q : Int) : Prop := ∃ a o n t u, v = .ref a ∧ h.get? a = some o ∧ o.cls = .type "tuple" ∧ o.data = .seq #[.int p t, .int q u] n
theorem PairIn.kept {h h' : Heap} {v : Value} {p q : Int} (i : PairIn h v p q) (k : ∀ a o, v = .ref a → h.get? a = some o → h'.get? a = some o) : PairIn h' v p q :=
  let ⟨a, o, n, t, u, e, g, c, d⟩ := i; ⟨a, o, n, t, u, e, k a o e g, c, d⟩
theorem wp_mapM {β : Type} {f : Value → Sem β} {g : Value → β} : ∀ {vs : List Value} {Q : List β → Shared → Prop}, (∀ v ∈ vs, ∀ (E : Value → Shared → Prop) (R : β → Shared → Prop), R (g v) s → wpAny (model prog w) A (f v) R E s) → Q (vs.map g) s → wpAny (model prog w) A (vs.mapM f) Q E s
  | [], Q, _, q => by
    rw [List.mapM_nil]
    exact wpAny_pure q
  | v :: vs, Q, h, q => by
    rw [List.mapM_cons]
    refine wpAny_bind (h v List.mem_cons_self _ _ ?_)
    exact wpAny_bind (wp_mapM (fun u hu => h u (List.mem_cons_of_mem _ hu)) (wpAny_pure q))
theorem first_pair {v : Value} {p q : Int} (h : PairIn s.heap v p q) : ∃ t, ∀ (E : Value → Shared → Prop) (R : Option Value → Shared → Prop), R (some (.int p t)) s → wpAny (model prog w) A (firstOfTuple' v) R E s := by
  obtain ⟨a, o, n, t, u, rfl, g, c, d⟩ := h
  refine ⟨t, fun E R r => ?_⟩
  unfold firstOfTuple'
  refine wpAny_bind (wpAny_typeOf (T := "tuple") ⟨o, g, c⟩ ?_)
  rw [if_neg (by decide)]
  refine wpAny_bind (m := pure _) (wpAny_pure ?_)
  refine wpAny_bind (listItems_at g d ?_)
  exact wpAny_pure r
theorem kind_pairs {vs : List Value} (h : ∀ v ∈ vs, ∃ p q, PairIn s.heap v p q) : ∃ b, ∀ (E : Value → Shared → Prop) (R : SortKind → Shared → Prop), R (tuples' b) s → wpAny (model prog w) A (keyKind' vs.toArray) R E s := by
  have hf : ∀ v, ∃ x : Option Value, v ∈ vs → (∃ p t, x = some (.int p t)) ∧ ∀ (E : Value → Shared → Prop) (R : Option Value → Shared → Prop), R x s → wpAny (model prog w) A (firstOfTuple' v) R E s := fun v => by
    by_cases c : v ∈ vs
    · obtain ⟨p, q, hp⟩ := h v c
      obtain ⟨t, ht⟩ := first_pair (prog := prog) (w := w) (A := A) hp
      exact ⟨_, fun _ => ⟨⟨p, t, rfl⟩, ht⟩⟩
    · exact ⟨none, fun z => absurd z c⟩
  obtain ⟨g, hg⟩ : ∃ g : Value → Option Value, ∀ v, v ∈ vs → (∃ p t, g v = some (.int p t)) ∧ ∀ (E : Value → Shared → Prop) (R : Option Value → Shared → Prop), R (g v) s → wpAny (model prog w) A (firstOfTuple' v) R E s := ⟨fun v => Classical.choose (hf v), fun v => Classical.choose_spec (hf v)⟩
  have hints : ∀ (l : List Value), (∀ v ∈ l, v ∈ vs) → ∃ us ns, (l.map g).filterMap id = us ∧ IntsAre us ns := fun l => by
    induction l with
    | nil => intro _; exact ⟨[], [], rfl, .nil⟩
    | cons v l ih =>
      intro hl
      obtain ⟨us, ns, e, hi⟩ := ih fun u hu => hl u (List.mem_cons_of_mem _ hu)
      obtain ⟨⟨p, t, e2⟩, _⟩ := hg v (hl v List.mem_cons_self)
      refine ⟨.int p t :: us, p :: ns, ?_, .cons p t hi⟩
      rw [List.map_cons, List.filterMap_cons, e2]
      simp [e]
  obtain ⟨us, ns, hus, hI⟩ := hints vs fun _ z => z
  have one : ∃ o, oneTypeOnly' us.toArray = pure o := by
    rw [oneTypeOnly'_eq, List.mapM_toArray, mapM_typeOf_ints hI]
    simp only [map_pure, pure_bind]
    split
    · exact ⟨_, rfl⟩
    · exact ⟨_, rfl⟩
  obtain ⟨o, ho⟩ := one
  refine ⟨o.any fun x => x != .type "tuple", fun E R r => ?_⟩
  rw [keyKind'_eq, List.mapM_toArray, map_eq_pure_bind, bind_assoc]
  refine wpAny_bind (wp_mapM (g := g) (fun v hv => (hg v hv).2) ?_)
  rw [pure_bind, if_pos (by
    simp only [List.all_toArray, List.all_map, List.all_eq_true]
    intro v hv
    obtain ⟨⟨p, t, e⟩, _⟩ := hg v hv
    simp [e])]
  refine wpAny_bind (wpAny_rule ?_)
  rw [show (vs.map g).toArray.filterMap id = us.toArray by rw [List.filterMap_toArray, hus], ho, pure_bind]
  exact wpAny_pure r
theorem oneLt_ints {a b : Int} {t u : Tok} {o : Bool} {Q : Bool → Shared → Prop} (h : Q (decide (a < b)) s) : wpAny (model prog w) A (oneLt' o (.int a t) (.int b u)) Q E s := by
  cases o with
  | true => exact oneLt_int h
  | false =>
    rw [oneLt'_eq]
    rw [if_neg (by decide)]
    exact wpAny_bind (m := pure _) (wpAny_pure (wpAny_bind (show wpAny (model prog w) A (richCompare .Lt (.int a t) (.int b u)) _ _ s from PyProof.Rows.lt_int (wpAny_truthy_bool h))))
theorem keyLt_pairs {x y : Value} {p q p' q' : Int} {b : Bool} (hx : PairIn s.heap x p q) (hy : PairIn s.heap y p' q') {Q : Bool → Shared → Prop} (h : Q (decide (p < p' ∨ (p = p' ∧ q < q'))) s) : wpAny (model prog w) A (keyLt' (tuples' b) x y) Q E s := by
  obtain ⟨a, o, n, t, u, rfl, g, c, d⟩ := hx
  obtain ⟨a', o', n', t', u', rfl, g', c', d'⟩ := hy
  unfold keyLt'
  refine wpAny_bind (listItems_at g d ?_)
  refine wpAny_bind (listItems_at g' d' ?_)
  have e : ((#[Value.int p t, Value.int q u] : Array Value).toList.zip (#[Value.int p' t', Value.int q' u'] : Array Value).toList).zipIdx = [((Value.int p t, Value.int p' t'), 0), ((Value.int q u, Value.int q' u'), 1)] := rfl
  rw [e, List.forIn_cons]
  have z1 := SeqAt.EqAt.int_int (A := A) (s := s) p t p' t'
  have z2 := SeqAt.EqAt.int_int (A := A) (s := s) q u q' u'
  refine wpAny_bind (wpAny_bind (wpAny_bind (z1 prog w _ _ ?_)))
  by_cases c1 : p = p'
  · rw [show (p == p') = true from beq_iff_eq.mpr c1]
    rw [if_neg (by decide)]
    refine wpAny_pure ?_
    dsimp only
    rw [List.forIn_cons]
    refine wpAny_bind (wpAny_bind (z2 prog w _ _ ?_))
    by_cases c2 : q = q'
    · rw [show (q == q') = true from beq_iff_eq.mpr c2, if_neg (by decide)]
      refine wpAny_pure ?_
      dsimp only
      rw [List.forIn_nil]
      refine wpAny_pure ?_
      dsimp only
      refine wpAny_pure ?_
      rw [decide_eq_false (by simp)]
      rw [decide_eq_false (by omega)] at h
      exact h
    · rw [show (q == q') = false from beq_eq_false_iff_ne.mpr c2, if_pos (by decide)]
      refine wpAny_bind (oneLt_ints (wpAny_pure ?_))
      dsimp only
      refine wpAny_pure ?_
      dsimp only
      refine wpAny_pure ?_
      rw [show decide (q < q') = decide (p < p' ∨ (p = p' ∧ q < q')) by simp [c1]]
      exact h
  · rw [show (p == p') = false from beq_eq_false_iff_ne.mpr c1, if_pos (by decide)]
    refine wpAny_bind (oneLt_ints (wpAny_pure ?_))
    dsimp only
    refine wpAny_pure ?_
    dsimp only
    refine wpAny_pure ?_
    rw [show decide (p < p') = decide (p < p' ∨ (p = p' ∧ q < q')) by simp [c1]]
    exact h
theorem zip_self {vs : List Value} {xs : Array Keyed} (hp : xs.Perm (pairsOf vs)) : (xs.map (·.2)).toList = xs.toList.map (·.1) ∧ (xs.map (·.2)).toList.Perm vs := by
  have hl : xs.toList.Perm (vs.zip vs) := by rw [← pairsOf_toList]; exact Array.perm_iff_toList_perm.mp hp
  have e : (xs.map (·.2)).toList = xs.toList.map (·.1) := by
    rw [Array.toList_map]
    exact List.map_congr_left fun p z => (mem_zip_self (hl.mem_iff.mp z)).1.symm
  refine ⟨e, ?_⟩
  have z := hl.map (·.1)
  rw [List.map_fst_zip (Nat.le_refl _)] at z
  rw [e]
  exact z
theorem rises_list {ky : Value → Int} {xs : Array Keyed} {k : Nat} (hk : xs.size = k) (h : Rises ky xs k) : (xs.toList.map (·.1)).Pairwise (fun x y => ky x ≤ ky y) := by
  rw [List.pairwise_map, List.pairwise_iff_getElem]
  intro i j hi hj hij
  have hi' : i < xs.size := by simpa using hi
  have hj' : j < xs.size := by simpa using hj
  have z := h i j (by omega) (by omega)
  unfold keyAt at z
  rw [getElem?_pos xs i hi', getElem?_pos xs j hj'] at z
  simpa using z
theorem sort_pairs {a : Addr} {vs : List Value} {n : Nat} {ky : Value → Int} {P : Fin → Shared → Prop} (ho : s.heap.get? a = some (seqObj "list" vs.toArray n)) (h64 : vs.length < 64)
    (hv : ∀ v ∈ vs, ∃ p q, PairIn s.heap v p q ∧ v ≠ .ref a ∧ ky v = 1000 * p + q ∧ 0 ≤ q ∧ q < 1000)
    (h : ∀ out : Array Value, out.toList.Perm vs → out.toList.Pairwise (fun x y => ky y ≤ ky x) → P (.done (.ret .none)) { s with heap := sortedHeap s.heap a vs out }) :
    wpAny (model prog w) A (Builtin.«list.sort» ⟨[.ref a], [(Str.ofString "reverse", .bool true)]⟩) P E s := by
  rw [list_sort_rev]
  refine wpAny_bind (listItems_at ho rfl (wpAny_bind (listUpdate_at ho rfl ?_)))
  have lt : a < s.heap.objs.size := Heap.lt_size ho
  obtain ⟨n1, g1⟩ : ∃ n1, (s.heap.update a (Obj.mapSeq fun _ => #[])).get? a = some (seqObj "list" #[] n1) := ⟨_, get?_update_seq ho (fun _ => #[])⟩
  refine wpAny_bind (seqEpoch_at g1 rfl (wpAny_bind (wpAny_newTuple (wpAny_bind (wpAny_newList (wpAny_holding ?_))))))
  obtain ⟨h2, e2⟩ : ∃ h2, h2 = ((s.heap.update a (Obj.mapSeq fun _ => #[])).push (seqObj "tuple" vs.toArray 0)).push (seqObj "list" #[] 0) := ⟨_, rfl⟩
  have g2 : h2.get? a = some (seqObj "list" #[] n1) := by
    rw [e2, Heap.get?_push_ne _ _ _ (by rw [size_push', Heap.size_update]; exact Nat.ne_of_lt (Nat.lt_succ_of_lt lt)), Heap.get?_push_ne _ _ _ (by rw [Heap.size_update]; exact Nat.ne_of_lt lt)]
    exact g1
  have keep : ∀ b o, b ≠ a → s.heap.get? b = some o → h2.get? b = some o := fun b o hb g => by
    rw [e2]
    refine Heap.get?_push_of_some _ (Heap.get?_push_of_some _ ?_)
    exact (Heap.get?_update_other _ _ (Ne.symm hb)).trans g
  have hv2 : ∀ v ∈ vs, ∃ p q, PairIn h2 v p q ∧ ky v = 1000 * p + q ∧ 0 ≤ q ∧ q < 1000 := fun v z => by
    obtain ⟨p, q, i, ne, r⟩ := hv v z
    exact ⟨p, q, i.kept fun b o e g => keep b o (fun y => ne (by rw [e, y])) g, r⟩
  show wpAny (model prog w) A _ P E { s with heap := ((s.heap.update a (Obj.mapSeq fun _ => #[])).push (seqObj "tuple" vs.toArray 0)).push (seqObj "list" #[] 0) }
  have done : ∀ xs : Array Keyed, xs.Perm (pairsOf vs) → Rises ky xs vs.length → P (.done (.ret .none)) { s with heap := sortedHeap s.heap a vs (xs.map (·.2)).reverse } := fun xs hp hr => by
    obtain ⟨z1, z2⟩ := zip_self hp
    have hz : xs.size = vs.length := by rw [hp.size_eq, pairsOf_size]
    refine h _ ?_ ?_
    · rw [Array.toList_reverse]
      exact (List.reverse_perm _).trans z2
    · rw [Array.toList_reverse, List.pairwise_reverse, z1]
      exact rises_list hz hr
  have start : Array.Perm (vs.toArray.zip vs.toArray).reverse (pairsOf vs) := Array.perm_iff_toList_perm.mpr (by rw [Array.toList_reverse]; exact List.reverse_perm _)
  have hsz : vs.toArray.size = vs.length := by simp
  simp only [if_true]
  refine wpAny_bind (wpAny_rule ?_)
  rw [← e2]
  by_cases c : vs.length < 2
  · rw [if_pos (by rw [hsz]; exact c), if_pos (by rw [hsz]; exact c)]
    refine wpAny_bind (wpAny_pure ?_)
    rw [StateT.run_pure]
    refine wpAny_bind (wpAny_pure ?_)
    dsimp only
    refine wpAny_bind (seqEpoch_at g2 rfl ?_)
    refine wpAny_bind (listUpdate_at g2 rfl ?_ (hsz2 := by rw [Array.size_reverse, Array.size_map]; show (vs.toArray.zip vs.toArray).reverse.size ≤ _; rw [Array.size_reverse, Array.size_zip, sizeLine_eq]; omega))
    simp only [bne_self_eq_false, Bool.false_eq_true, if_false]
    refine wpAny_pure ?_
    rw [e2]
    exact done _ start fun i j hij hj => by rw [show i = j by omega]; exact Int.le_refl _
  · rw [if_neg (by rw [hsz]; exact c), if_neg (by rw [hsz]; exact c)]
    obtain ⟨b, hb⟩ := kind_pairs (prog := prog) (w := w) (A := A) (s := { s with heap := h2 }) (vs := vs) fun v z => let ⟨p, q, i, _⟩ := hv2 v z; ⟨p, q, i⟩
    refine wpAny_bind (hb _ _ ?_)
    have hc : LtBy prog w A { s with heap := h2 } (tuples' b) ky (pairsOf vs) := fun x y hx hy E' Q' q' => by
      rw [pairsOf_toList] at hx hy
      obtain ⟨p1, q1, i1, k1, r1⟩ := hv2 x.1 (mem_zip_self hx).2
      obtain ⟨p2, q2, i2, k2, r2⟩ := hv2 y.1 (mem_zip_self hy).2
      refine keyLt_pairs i1 i2 ?_
      rw [show decide (p1 < p2 ∨ (p1 = p2 ∧ q1 < q2)) = decide (ky x.1 < ky y.1) by
        rw [k1, k2, Bool.eq_iff_iff, decide_eq_true_iff, decide_eq_true_iff]
        omega]
      exact q'
    refine wpAny_bind (wpAny_mono (run_all (E := E) (t := SortSt.mk' (tuples' b) (vs.toArray.zip vs.toArray).reverse #[] 7 none) hc ⟨start, rfl, rfl, rfl⟩ (by rw [pairsOf_size]; omega) (by rw [pairsOf_size]; exact h64)
      (Q := fun _ u => Array.Perm (arrOf u) (pairsOf vs) ∧ failedOf u = none ∧ Rises ky (arrOf u) (pairsOf vs).size) fun u a1 a2 a3 => ⟨a1, a2, a3⟩) (fun r s' z => ?_) fun _ _ z => z)
    obtain ⟨⟨⟩, u⟩ := r
    obtain ⟨rfl, hp, hf, hr⟩ := z
    rw [pairsOf_size] at hr
    dsimp only at hp hf hr ⊢
    refine wpAny_bind (seqEpoch_at g2 rfl ?_)
    refine wpAny_bind (listUpdate_at g2 rfl ?_ (hsz2 := by
      rw [Array.size_reverse, Array.size_map, hp.size_eq, pairsOf_size, sizeLine_eq]
      omega))
    rw [hf]
    simp only [bne_self_eq_false, Bool.false_eq_true, if_false]
    refine wpAny_pure ?_
    rw [e2]
    exact done _ hp hr
theorem sorted_pairs {l : Addr} {vs : List Value} {ky : Value → Int} {Q : Value → Shared → Prop} (hl : s.heap.IsList l vs.toArray) (h64 : vs.length < 64)
    (hv : ∀ v ∈ vs, ∃ p q, PairIn s.heap v p q ∧ ky v = 1000 * p + q ∧ 0 ≤ q ∧ q < 1000)
    (h : ∀ out : Array Value, out.toList.Perm vs → out.toList.Pairwise (fun x y => ky y ≤ ky x) → Q (.ref (s.heap.objs.size + 1)) { s with heap := sortedAll s.heap vs out }) :
    wpAny (model prog w) A (call (.builtin "sorted") [.ref l] [(Str.ofString "reverse", .bool true)]) Q E s := by
  refine call_function_entry_kw kind_sorted plain_sorted entry_sorted (args_sorted_rev _ _) ?_
  unfold Builtin.«sorted»
  refine wpAny_bind (m := checkCount "sorted" 1 1 _) (wpAny_pure (wpAny_bind (collect_list hl (wpAny_bind (wpAny_newList ?_)))))
  obtain ⟨h1, e1⟩ : ∃ h1, h1 = (s.heap.push (seqObj "list" #[] 0)).update s.heap.objs.size (Obj.mapSeq (· ++ vs.toArray)) := ⟨_, rfl⟩
  have z1 : h1.objs.size = s.heap.objs.size + 1 := by rw [e1, Heap.size_update, size_push']
  have g : (h1.push (seqObj "list" vs.toArray 0)).get? (s.heap.objs.size + 1) = some (seqObj "list" vs.toArray 0) := by rw [← z1]; exact Heap.get?_push_size _ rfl
  have keep : ∀ b o, s.heap.get? b = some o → (h1.push (seqObj "list" vs.toArray 0)).get? b = some o := fun b o q => by
    have lt := Heap.lt_size q
    refine Heap.get?_push_of_some _ ?_
    rw [e1]
    exact (Heap.get?_update_other _ _ (Nat.ne_of_gt lt)).trans (Heap.get?_push_of_some _ q)
  show wpAny _ _ _ _ _ { s with heap := ((s.heap.push (seqObj "list" #[] 0)).update s.heap.objs.size (Obj.mapSeq (· ++ vs.toArray))).push (seqObj "list" vs.toArray 0) }
  have fin : ∀ out : Array Value, sortedHeap (h1.push (seqObj "list" vs.toArray 0)) (s.heap.objs.size + 1) vs out = sortedAll s.heap vs out := fun out => by rw [e1]; rfl
  rw [← e1, z1]
  refine wpAny_bind (wpAny_holding (wpAny_call_entry_kw slot_list_sort ⟨_, g, rfl⟩ entry_list_sort (sort_pairs (ky := ky) g h64 (fun v z => ?_) fun out o1 o2 => ⟨_, rfl, ?_⟩) (args_list_sort_rev _ _)))
  · obtain ⟨p, q, i, r⟩ := hv v z
    refine ⟨p, q, i.kept fun b o _ y => keep b o y, ?_, r⟩
    obtain ⟨b, o, _, _, _, rfl, y, _⟩ := i
    intro e
    injection e with e
    have lt := Heap.lt_size y
    rw [e] at lt
    exact absurd lt (Nat.not_lt.mpr (Nat.le_succ _))
  · rw [fin]
    exact wpAny_pure ⟨_, rfl, h out o1 o2⟩
end
def KeepB (wr : List Addr) (S : Addr) (h0 h : Heap) : Prop := ∀ b o, b ∉ wr → b ≠ S → h0.get? b = some o → h.get? b = some o
def CmpH (prog : Program) (w : World) (A : Around) (wr : List Addr) (S : Addr) (h0 : Heap) (P : Nat → Value → Prop) (bt : Nat → Nat → Bool) : Prop :=
  ∀ i j vi vj (s' : Shared), KeepB wr S h0 s'.heap → ∀ (Q : Value → Shared → Prop) (E : Value → Shared → Prop), P i vi → P j vj → Q (.bool (bt i j)) s' → wpAny (model prog w) A (richCompare .Lt vi vj) Q E s'
section
variable {prog : Program} {w : World} {A : Around} {R : Result → Shared → Prop} {I S : Addr} {fp wr : List Addr} {n : Nat} {P : Nat → Value → Prop} {St : Nat → Heap → Prop} {bt : Nat → Nat → Bool} {h0 : Heap}
theorem KeepB.upd {h h' : Heap} (k : KeepB wr S h0 h) (h1 : ∀ b o, b ∉ wr → h.get? b = some o → h'.get? b = some o) (f : Obj → Obj) : KeepB wr S h0 (h'.update S f) := fun b o hb hs e => (Heap.get?_update_other _ _ (Ne.symm hs)).trans (h1 b o hb (k b o hb hs e))
theorem KeepB.go {h h' : Heap} (k : KeepB wr S h0 h) (h1 : ∀ b o, b ∉ wr → h.get? b = some o → h'.get? b = some o) : KeepB wr S h0 h' := fun b o hb hs e => h1 b o hb (k b o hb hs e)
theorem min_rest (W : Walks prog w A.in1 I fp wr n P St) (hc : CmpH prog w A.in1 wr S h0 P bt) (hS : S ∉ fp) : ∀ (k j : Nat) (s : Shared) (vb : Value) (c : Nat), n = j + 1 + k → St (j + 1) s.heap → P (argBest bt j) vb → KeepB wr S h0 s.heap →
    s.heap.get? S = some { cls := .type "list", data := .seq #[vb, vb] c } → (∀ v h' tk, P (argBest bt (n - 1)) v → KeepB wr S h0 h' → R (.ok (.ret v)) { s with heap := h', toks := tk }) →
    codeAny (model prog w) A (.builtin "min.loop" ⟨[.ref I, .none, .ref S], []⟩) R s := by
  have hw : S ∉ wr := fun z => hS (W.sub _ z)
  have nm' : (toString "min" ++ toString ".loop" : String) = "min.loop" := by decide
  intro k
  induction k with
  | zero =>
    intro j s vb c hk hst hb hK g q
    refine codeAny_builtin F.entry_min_loop ?_
    rw [Around.under_plainId F.plain_min_loop _]
    show wpAny _ A.in1 (seqItems? (.ref S) >>= _) _ _ s
    refine wpAny_bind (wpAny_seqItems g rfl ?_)
    show wpAny _ A.in1 (tryCatch (pyNext (.ref I)) _ >>= _) _ _ s
    refine wpAny_bind (wpAny_tryCatch (W.done s _ _ (by rw [hk]; exact hst) fun h' tk kp => ?_))
    show wpAny _ A.in1 (updateSeq S (fun _ => #[]) >>= _) _ _ _
    refine wpAny_bind (wpAny_updateSeq (kp S _ hw g) rfl (wpAny_bind (wpAny_letGo (wpAny_pure (q vb _ tk ?_ (hK.upd kp _))))))
    rw [hk]
    exact hb
  | succ k ih =>
    intro j s vb c hk hst hb hK g q
    refine codeAny_builtin F.entry_min_loop ?_
    rw [Around.under_plainId F.plain_min_loop _]
    show wpAny _ A.in1 (seqItems? (.ref S) >>= _) _ _ s
    refine wpAny_bind (wpAny_seqItems g rfl ?_)
    show wpAny _ A.in1 (tryCatch (pyNext (.ref I)) _ >>= _) _ _ s
    refine wpAny_bind (wpAny_tryCatch (W.item (j + 1) s _ _ (by omega) hst fun v h' tk hv hst2 kp => ?_))
    have g2 := kp S _ hw g
    show wpAny _ A.in1 (tryCatch (holding [v, v] (richCompare .Lt v vb >>= _)) _ >>= _) _ _ _
    refine wpAny_bind (wpAny_tryCatch (wpAny_holding (wpAny_bind (hc (j + 1) (argBest bt j) v vb _ (hK.go kp) _ _ hv hb (wpAny_bind (wpAny_holding (wpAny_truthy_bool (wpAny_bind (wpAny_letGo (wpAny_pure ?_))))))))))
    by_cases cb : bt (j + 1) (argBest bt j) = true
    · rw [cb]
      simp only [if_true]
      refine wpAny_bind (wpAny_updateSeq g2 rfl (wpAny_bind (wpAny_letGo ?_)))
      rw [nm']
      have hbest : argBest bt (j + 1) = j + 1 := by simp only [argBest, cb, if_true]
      refine wpAny_pure ⟨plainId_quiet F.plain_min_loop _, ih (j + 1) _ v _ (by omega) (W.frame _ _ _ hst2 fun b hb2 o e => ?_) (by rw [hbest]; exact hv) (hK.upd kp _) (Heap.get?_update_self _ g2 rfl) fun v' h'' tk'' a1 a2 => q v' h'' tk'' a1 a2⟩
      exact (Heap.get?_update_other _ _ (fun z : S = b => hS (by rw [z]; exact hb2))).trans e
    · have cb : bt (j + 1) (argBest bt j) = false := by simpa using cb
      rw [cb]
      simp only [Bool.false_eq_true, if_false]
      refine wpAny_bind (wpAny_letGo ?_)
      rw [nm']
      have hbest : argBest bt (j + 1) = argBest bt j := by simp only [argBest, cb, Bool.false_eq_true, if_false]
      exact wpAny_pure ⟨plainId_quiet F.plain_min_loop _, ih (j + 1) _ vb c (by omega) hst2 (by rw [hbest]; exact hb) (hK.go kp) g2 fun v' h'' tk'' a1 a2 => q v' h'' tk'' a1 a2⟩
end
section
variable {prog : Program} {w : World} {A : Around} {E : Value → Shared → Prop} {s : Shared}
theorem min_list {p : Addr} {its : Array Value} {bt : Nat → Nat → Bool} {Q : Value → Shared → Prop} (hh : A.in1.handled = none) (hl : s.heap.IsList p its) (hn : 0 < its.size)
    (hc : ∀ i j vi vj (s' : Shared), (∀ b o, s.heap.get? b = some o → s'.heap.get? b = some o) → ∀ (Q : Value → Shared → Prop) (E : Value → Shared → Prop), its[i]? = some vi → its[j]? = some vj → Q (.bool (bt i j)) s' → wpAny (model prog w) A.in1 (richCompare .Lt vi vj) Q E s')
    (q : ∀ v h' tk, its[argBest bt (its.size - 1)]? = some v → (∀ b o, s.heap.get? b = some o → h'.get? b = some o) → Q v { s with heap := h', toks := tk }) : wpAny (model prog w) A (call (.builtin "min") [.ref p]) Q E s := by
  have nm' : (toString "min" ++ toString ".loop" : String) = "min.loop" := by decide
  have lt : p < s.heap.objs.size := by obtain ⟨_, e, _⟩ := hl; exact Heap.lt_size e
  refine call_function_tree F.kind_min F.plain_min F.entry_min (F.args_min1 _) ?_
  show wpAny _ A.in1 (Builtin.Builtins.bindParams "min" ["key", "default"] 0 ⟨[], []⟩ >>= _) _ _ s
  refine wpAny_bind (wpAny_of_eq (show Builtin.Builtins.bindParams "min" ["key", "default"] 0 ⟨[], []⟩ = pure [none, none] from rfl) (wpAny_bind (wpAny_pure (wpAny_bind (wpAny_pyIter_list hl ?_)))))
  refine wpAny_bind (wpAny_newObj_type ?_)
  rw [nm']
  obtain ⟨h2, e2⟩ : ∃ h2 : Heap, h2 = (s.heap.push { cls := .type "list_iterator", data := .fields #[.ref p, .int 0 0] }).push { cls := .type "list", data := .seq #[] } := ⟨_, rfl⟩
  have zS : (s.heap.push { cls := .type "list_iterator", data := .fields #[.ref p, .int 0 0] }).objs.size = s.heap.objs.size + 1 := size_push' _ _
  have old : ∀ b o, s.heap.get? b = some o → h2.get? b = some o := fun b o e => by rw [e2]; exact Heap.get?_push_of_some _ (Heap.get?_push_of_some _ e)
  have gI : h2.get? s.heap.objs.size = some { cls := .type "list_iterator", data := .fields #[.ref p, .int 0 0] } := by rw [e2]; exact Heap.get?_push_of_some _ (Heap.get?_push_size _ rfl)
  have gS : h2.get? (s.heap.objs.size + 1) = some { cls := .type "list", data := .seq #[] } := by rw [e2, ← zS]; exact Heap.get?_push_size _ rfl
  rw [zS]
  show wpAny _ _ (pure _) _ _ { s with heap := (s.heap.push { cls := .type "list_iterator", data := .fields #[.ref p, .int 0 0] }).push { cls := .type "list", data := .seq #[] } }
  rw [← e2]
  have W := Walks.list (prog := prog) (w := w) (A := A.in1) hh s.heap.objs.size p (Nat.ne_of_lt lt) its
  have hS : s.heap.objs.size + 1 ∉ [s.heap.objs.size, p] := fun z => by
    rcases List.mem_cons.mp z with z | z
    · exact absurd z (Nat.succ_ne_self _)
    · have y := List.mem_singleton.mp z
      rw [← y] at lt
      exact absurd lt (Nat.not_lt.mpr (Nat.le_succ _))
  have hw : s.heap.objs.size + 1 ∉ [s.heap.objs.size] := fun z => absurd (List.mem_singleton.mp z) (Nat.succ_ne_self _)
  have ofK : ∀ h : Heap, KeepB [s.heap.objs.size] (s.heap.objs.size + 1) h2 h → ∀ b o, s.heap.get? b = some o → h.get? b = some o := fun h k b o e => by
    have l := Heap.lt_size e
    exact k b o (fun z => by rw [List.mem_singleton.mp z] at l; exact Nat.lt_irrefl _ l) (fun z => by rw [z] at l; exact absurd l (Nat.not_lt.mpr (Nat.le_succ _))) (old b o e)
  have hcH : CmpH prog w A.in1 [s.heap.objs.size] (s.heap.objs.size + 1) h2 (fun i v => its[i]? = some v) bt := fun i j vi vj s' k Q' E' hi hj q' => hc i j vi vj s' (ofK _ k) Q' E' hi hj q'
  refine wpAny_pure ⟨plainId_quiet F.plain_min_loop _, codeAny_builtin F.entry_min_loop ?_⟩
  rw [Around.under_plainId F.plain_min_loop _]
  show wpAny _ A.in1 (seqItems? (.ref (s.heap.objs.size + 1)) >>= _) _ _ _
  refine wpAny_bind (wpAny_seqItems gS rfl ?_)
  show wpAny _ A.in1 (tryCatch (pyNext (.ref s.heap.objs.size)) _ >>= _) _ _ _
  refine wpAny_bind (wpAny_tryCatch (W.item 0 _ _ _ hn ⟨⟨_, gI, rfl, rfl⟩, hl.at fun o e => old p o e⟩ fun v h' tk hv hst kp => ?_))
  have g2 := kp _ _ hw gS
  show wpAny _ A.in1 (updateSeq (s.heap.objs.size + 1) (fun _ => #[v, v]) >>= _) _ _ _
  refine wpAny_bind (wpAny_updateSeq g2 rfl ?_)
  rw [nm']
  have k0 : KeepB [s.heap.objs.size] (s.heap.objs.size + 1) h2 h2 := fun b o _ _ e => e
  refine wpAny_pure ⟨plainId_quiet F.plain_min_loop _, min_rest (S := s.heap.objs.size + 1) W hcH hS (its.size - 1) 0 _ v _ (by omega) (W.frame _ _ _ hst fun b hb o e => ?_) hv (k0.upd kp _) (Heap.get?_update_self _ g2 rfl) fun v' h'' tk'' a1 a2 => q v' h'' tk'' a1 (ofK _ a2)⟩
  exact (Heap.get?_update_other _ _ (fun z : s.heap.objs.size + 1 = b => hS (by rw [z]; exact hb))).trans e
end
theorem vals_at : ∀ {xs : List V} {us : List Value} {i : Nat} {u : Value}, Vals xs us → us[i]? = some u → ∃ x, xs[i]? = some x ∧ RelV x u
  | _, _, _, _, .nil, h => by simp at h
  | _, _, 0, _, .cons r t, h => by simp at h; subst h; exact ⟨_, rfl, r⟩
  | _, _, i + 1, _, .cons r t, h => by
    obtain ⟨x, e, q⟩ := vals_at (i := i) t (by simpa using h)
    exact ⟨x, by simpa using e, q⟩
section
variable {X : Cx}
theorem rcLt_pairL {A : Around} {s : Shared} {a b l m : Addr} {p q : Int} {k1 k2 : Tok} {j1 j2 : Array Value} {ns ms : List Int} (t1 : s.heap.IsTuple a #[.int p k1, .ref l]) (t2 : s.heap.IsTuple b #[.int q k2, .ref m])
    (l1 : s.heap.IsList l j1) (l2 : s.heap.IsList m j2) (w1 : IntsAre j1.toList ns) (w2 : IntsAre j2.toList ms) (hu : A.units + 8 < cLine) (prog : Program) (w : World) (E : Value → Shared → Prop) (Q : Value → Shared → Prop)
    (h : Q (.bool (if p = q then HT.lexLt ns ms else decide (p < q))) s) : wpAny (model prog w) A (richCompare .Lt (.ref a) (.ref b)) Q E s := by
  obtain ⟨⟨c1, d1, a1, s1⟩, ho, hc, n, hd⟩ := t1
  obtain ⟨⟨c2, d2, a2, s2⟩, ho2, hc2, n2, hd2⟩ := t2
  dsimp only at hc hd hc2 hd2
  subst hc hd hc2 hd2
  have n1 : j1.size = ns.length := by rw [← w1.length]; simp
  have n2' : j2.size = ms.length := by rw [← w2.length]; simp
  have u1 : A.in1.units < cLine := by show A.units + 1 < cLine; omega
  have u2 : A.in1.in1.units < cLine := by show A.units + 1 + 1 < cLine; omega
  have eqL : l ≠ m → ns.length = ms.length → SeqAt.EqAt A.in1 s (.ref l) (.ref m) (decide (ns = ms)) := fun lm cl => by
    refine SeqAt.EqAt.of_refs lm ?_
    have z := SeqAt.RcAt.lists (A := A.in1) (e := fun j => ns.getD j 0 == ms.getD j 0) l1 l2 (by omega) u1 (fun j h1 h2 => by
      obtain ⟨t1, e1⟩ := ints_at w1 (List.getElem?_eq_getElem (show j < ns.length by omega))
      obtain ⟨t2, e2⟩ := ints_at w2 (List.getElem?_eq_getElem (show j < ms.length by omega))
      have g1 : j1[j] = .int (ns[j]'(by omega)) t1 := by
        rw [Array.getElem?_toList, getElem?_pos j1 j h1] at e1
        exact Option.some.inj e1
      have g2 : j2[j] = .int (ms[j]'(by omega)) t2 := by
        rw [Array.getElem?_toList, getElem?_pos j2 j h2] at e2
        exact Option.some.inj e2
      rw [g1, g2, List.getD_eq_getElem?_getD, List.getD_eq_getElem?_getD, List.getElem?_eq_getElem (show j < ns.length by omega), List.getElem?_eq_getElem (show j < ms.length by omega)]
      exact SeqAt.EqAt.int_int _ _ _ _)
    have f : (List.range j1.size).all (fun j => ns.getD j 0 == ms.getD j 0) = decide (ns = ms) := by
      rw [Bool.eq_iff_iff, decide_eq_true_iff, List.all_eq_true]
      constructor
      · intro h
        refine List.ext_getElem cl fun j h1 h2 => ?_
        have z := h j (List.mem_range.mpr (by omega))
        rw [List.getD_eq_getElem?_getD, List.getD_eq_getElem?_getD, List.getElem?_eq_getElem h1, List.getElem?_eq_getElem h2] at z
        exact beq_iff_eq.mp z
      · rintro rfl j _
        exact beq_self_eq_true _
    rwa [f] at z
  have res : LtRes A.in1 s [Value.int p k1, Value.ref l] [Value.int q k2, Value.ref m] (if p = q then HT.lexLt ns ms else decide (p < q)) := by
    by_cases c : p = q
    · rw [if_pos c]
      refine .eq ?_ ?_
      · have z := SeqAt.EqAt.int_int (A := A.in1) (s := s) p k1 q k2
        rwa [show (p == q) = true from beq_iff_eq.mpr c] at z
      · by_cases lm : l = m
        · subst lm
          have e : ns = ms := by
            obtain ⟨o1, g1, _, _, d1⟩ := l1
            obtain ⟨o2, g2, _, _, d2⟩ := l2
            rw [g1] at g2
            cases g2
            rw [d1] at d2
            injection d2 with d2 _
            subst d2
            rw [← w1.nums, ← w2.nums]
          subst e
          rw [lexLt_self]
          exact .eq (SeqAt.EqAt.same _) .nn
        · by_cases c2 : ns = ms
          · have z := eqL lm (by rw [c2])
            rw [decide_eq_true c2] at z
            rw [c2, lexLt_self]
            exact .eq z .nn
          · refine .lt ?_ (rcLt_list l1 l2 w1 w2 u1)
            by_cases cl : ns.length = ms.length
            · have z := eqL lm cl
              rwa [decide_eq_false c2] at z
            · exact SeqAt.EqAt.of_refs lm (SeqAt.RcAt.lists_lengths l1 l2 (by simp; omega) u1)
    · rw [if_neg c]
      refine .lt ?_ (HT.rcLt_int _ _ p k1 q k2)
      have z := SeqAt.EqAt.int_int (A := A.in1) (s := s) p k1 q k2
      rwa [show (p == q) = false from beq_eq_false_iff_ne.mpr c] at z
  exact richCompare_meets_room (op := .Lt) ⟨_, ho, rfl⟩ ⟨_, ho2, rfl⟩ PySem.F.slot_tuple_lt PySem.F.entry_tuple_lt (PySem.F.args_tuple_lt_2 _ _) (tuple_ltR a b _ _ n n2 d1 d2 s1 s2 _)
    ⟨ho, ho2, res, show Value.bool _ ≠ Value.notImplemented ∧ _ from ⟨(fun x => nomatch x), h⟩⟩ (by omega)
def PrL (H : Hp) (t : Addr) (p : Int × List Int) : Prop := ∃ l, H t = some (.tup [.int p.1, .ref l]) ∧ H l = some (.lst (p.2.map V.int))
def ltP (p q : Int × List Int) : Bool := if p.1 = q.1 then HT.lexLt p.2 q.2 else decide (p.1 < q.1)
theorem call_minP (hc : X.calm = true) (hu : X.A.units + 64 < cLine) : CallR X (.builtin "min") (fun xs H Q => ∃ (p : Addr) (ts : List Addr) (ps : List (Int × List Int)), xs = [.ref p] ∧ SqL X.K H p (ts.map V.ref) ∧ ts.length = ps.length ∧ (∀ (i : Nat) t r, ts[i]? = some t → ps[i]? = some r → PrL H t r) ∧ ts ≠ [] ∧
    ∀ (i : Nat) t, ts[i]? = some t → i = argBest (fun i j => ltP (ps.getD i (0, [])) (ps.getD j (0, []))) (ts.length - 1) → Q (.ref t) H) := by
  intro pins s σ H xs us Q I r h
  obtain ⟨p, ts, ps, rfl, hq, hl, hp, hne, q⟩ := h
  obtain ⟨u, rfl, ru⟩ := vals1 r
  cases ru
  obtain ⟨its, rv, pl, hz⟩ := I.list hq
  have lenV : ts.length = its.length := by have := rv.length; rwa [List.length_map] at this
  have hv : ∀ (i : Nat) v, its[i]? = some v → ∃ t, ts[i]? = some t ∧ v = .ref t := fun i v e => by
    obtain ⟨x, hx, rx⟩ := vals_at rv e
    obtain ⟨t, ht, rfl⟩ := map_ref_get hx
    exact ⟨t, ht, rx⟩
  have hpos : 0 < ts.length := List.length_pos_iff.mpr hne
  refine min_list (bt := fun i j => ltP (ps.getD i (0, [])) (ps.getD j (0, []))) (I.ok.hd hc) pl.isList (by rw [List.size_toArray]; omega) (fun i j vi vj s' keep Q' E' hi hj q' => ?_) fun v h' tk hv' keep => ?_
  · rw [List.getElem?_toArray] at hi hj
    obtain ⟨ti, hti, rfl⟩ := hv i vi hi
    obtain ⟨tj, htj, rfl⟩ := hv j vj hj
    have li : i < ps.length := by have := (List.getElem?_eq_some_iff.mp hti).1; omega
    have lj : j < ps.length := by have := (List.getElem?_eq_some_iff.mp htj).1; omega
    obtain ⟨l1, e1, e2⟩ := hp i ti _ hti (List.getElem?_eq_getElem li)
    obtain ⟨l2, e3, e4⟩ := hp j tj _ htj (List.getElem?_eq_getElem lj)
    have I' : Inv X pins σ H { s with heap := s'.heap, toks := s.toks } := I.kept keep
    obtain ⟨i1, r1, t1, _⟩ := I'.tuple (SqT.of e1)
    obtain ⟨i2, r2, t2, _⟩ := I'.tuple (SqT.of e3)
    obtain ⟨j1, w1, m1, _⟩ := I'.list (SqL.of e2)
    obtain ⟨j2, w2, m2, _⟩ := I'.list (SqL.of e4)
    obtain ⟨u1, u2, rfl, ⟨k1, rfl⟩, z2⟩ := vals2 r1
    obtain ⟨u3, u4, rfl, ⟨k2, rfl⟩, z4⟩ := vals2 r2
    cases z2
    cases z4
    refine rcLt_pairL (s := s') (A := X.A.in1) t1 t2 m1.isList m2.isList (ints_of w1) (ints_of w2) (by show X.A.units + 1 + 8 < cLine; omega) _ _ _ _ ?_
    have eq1 : ps.getD i (0, []) = ps[i] := by rw [List.getD_eq_getElem?_getD, List.getElem?_eq_getElem li]; rfl
    have eq2 : ps.getD j (0, []) = ps[j] := by rw [List.getD_eq_getElem?_getD, List.getElem?_eq_getElem lj]; rfl
    rw [eq1, eq2] at q'
    exact q'
  · rw [List.getElem?_toArray, List.size_toArray, ← lenV] at hv'
    obtain ⟨t, ht, rfl⟩ := hv _ v hv'
    exact ⟨.ref t, H, I.kept keep, rfl, q _ t ht rfl⟩
def tSortR (K : PySem.W.Frag) (ta : TA) : TE := fun σ H Q => ta σ H fun vs H1 => ∃ (l : Addr) (ts : List Addr) (ps : List (Int × Int)), vs = [.ref l] ∧ SqL K H1 l (ts.map V.ref) ∧ Paired (fun t (p : Int × Int) => H1 t = some (.tup [.int p.1, .int p.2])) ts ps ∧ ts.length < 64 ∧ (∀ p ∈ ps, 0 ≤ p.2 ∧ p.2 < 1000) ∧
  ∀ r us qs, H1 r = none → Paired (fun t (p : Int × Int) => H1 t = some (.tup [.int p.1, .int p.2])) us qs → qs.Perm ps → qs.Pairwise (fun a b => b.1 < a.1 ∨ (b.1 = a.1 ∧ b.2 ≤ a.2)) → Q (.ref r) (upd H1 r (.lst (us.map V.ref)))
def numP (H : Hp) : Value → Int
  | .ref a => match H a with
    | some (.tup [.int p, .int q]) => 1000 * p + q
    | _ => 0
  | _ => 0
theorem pe_sortR {e v : Expr} {ta : TA} {p pos kp : Pos} (hg : Gl X "sorted") (hm : X.mg "sorted" = none) (ha : PA X [e] ta) (hv : PE X v (tC (.bl true)))
    (he : backTo pos (starEach [e] X.env) = (false, eval e X.env) :: backTo pos (starEach [] X.env) := by rfl) (hpl : (backTo pos (starEach [e] X.env)).any (·.1) = false := by rfl) : PE X (.Call (.Name "sorted" p) [e] [⟨some "reverse", v, kp⟩] pos) (tSortR X.K ta) := by
  intro pins s σ H Q I h
  refine wpAny_Call_Name_kw (ld_blt I hg hm (show bootBuiltins "sorted" = some (.builtin "sorted") by decide +kernel) ?_)
  refine callWith_kw (thn (ha pos pins s σ H _ I h) fun us s1 ⟨vs, H1, I1, r1, q1⟩ => ?_) he hpl
  obtain ⟨l, ts, ps, rfl, hq, hp, h64, hb, q⟩ := q1
  refine kws_cons (thn (hv pins s1 σ H1 (fun x H' => x = .bl true ∧ H' = H1) I1 ⟨rfl, rfl⟩) fun w s2 ⟨x, H2, I2, rx, ex, eh⟩ => kws_nil ?_)
  subst ex eh
  cases rx
  obtain ⟨u, rfl, ru⟩ := vals1 r1
  cases ru
  obtain ⟨its, rv, pl, hz⟩ := I2.list hq
  have lenV : ts.length = its.length := by have := rv.length; rwa [List.length_map] at this
  have lenP := hp.length
  have hmem : ∀ x ∈ its, ∃ t r, x = .ref t ∧ H2 t = some (.tup [.int r.1, .int r.2]) ∧ r ∈ ps := fun x hx => by
    obtain ⟨i, hi, e⟩ := List.mem_iff_getElem.mp hx
    obtain ⟨y, hy, ry⟩ := vals_at rv (show its[i]? = some x by rw [List.getElem?_eq_getElem hi, e])
    obtain ⟨t, ht, rfl⟩ := map_ref_get hy
    obtain ⟨r, hr, hR⟩ := pget hp ht
    exact ⟨t, r, ry, hR, List.mem_of_getElem? hr⟩
  refine sorted_pairs (ky := numP H2) pl.isList (by omega) (fun x hx => ?_) fun out o1 o2 => ?_
  · obtain ⟨t, r, rfl, hR, hm'⟩ := hmem x hx
    obtain ⟨i1, r1', t1, _⟩ := I2.tuple (SqT.of hR)
    obtain ⟨u1, u2, rfl, ⟨k1, rfl⟩, ⟨k2, rfl⟩⟩ := vals2 r1'
    obtain ⟨o, ho, hc', n, hd⟩ := t1
    refine ⟨r.1, r.2, ⟨t, o, n, k1, k2, rfl, ho, hc', hd⟩, ?_, hb r hm'⟩
    show (match H2 t with | some (.tup [.int p, .int q]) => 1000 * p + q | _ => 0) = _
    rw [hR]
  · obtain ⟨n, hn⟩ := sortedAll_at s2.heap its out
    have build : ∀ (l : List Value), (∀ x ∈ l, x ∈ its) → ∃ (as : List Addr) (rs : List (Int × Int)), Vals (as.map V.ref) l ∧ Paired (fun t (p : Int × Int) => H2 t = some (.tup [.int p.1, .int p.2])) as rs ∧ rs.map (fun r => 1000 * r.1 + r.2) = l.map (numP H2) ∧ ∀ r ∈ rs, r ∈ ps := fun l => by
      induction l with
      | nil => intro _; exact ⟨[], [], .nil, .nil, rfl, fun r hr => nomatch hr⟩
      | cons x l ih =>
        intro hl
        obtain ⟨as, rs, b1, b2, b3, b4⟩ := ih fun y hy => hl y (List.mem_cons_of_mem _ hy)
        obtain ⟨t, r, rfl, hR, hm'⟩ := hmem x (hl x List.mem_cons_self)
        refine ⟨t :: as, r :: rs, .cons rfl b1, .cons hR b2, ?_, fun y hy => ?_⟩
        · rw [List.map_cons, List.map_cons, b3]
          congr 1
          show _ = (match H2 t with | some (.tup [.int p, .int q]) => 1000 * p + q | _ => 0)
          rw [hR]
        · rcases List.mem_cons.mp hy with z | z
          · rw [z]; exact hm'
          · exact b4 y z
    obtain ⟨as, rs, b1, b2, b3, b4⟩ := build out.toList fun x hx => o1.mem_iff.mp hx
    have len2 : as.length = out.toList.length := by have := b1.length; rwa [List.length_map] at this
    have hlen : (as.map V.ref).length ≤ sizeLine := by
      rw [List.length_map, len2, o1.length_eq, ← lenV]
      exact Nat.le_trans (Nat.le_of_lt h64) (by decide)
    -- the pairs are told by their numbers
    have numsOf : ps.map (fun r => 1000 * r.1 + r.2) = its.map (numP H2) := by
      refine List.ext_getElem (by rw [List.length_map, List.length_map]; omega) fun i h1 h2 => ?_
      rw [List.getElem_map, List.getElem_map]
      rw [List.length_map] at h1 h2
      obtain ⟨y, hy, ry⟩ := vals_at rv (List.getElem?_eq_getElem h2)
      obtain ⟨t, ht, rfl⟩ := map_ref_get hy
      obtain ⟨r, hr, hR⟩ := pget hp ht
      rw [List.getElem?_eq_getElem h1] at hr
      cases hr
      rw [show its[i] = Value.ref t from ry]
      show _ = (match H2 t with | some (.tup [.int p, .int q]) => 1000 * p + q | _ => 0)
      rw [hR]
    have back : ∀ l : List (Int × Int), (∀ r ∈ l, r ∈ ps) → (l.map (fun r => 1000 * r.1 + r.2)).map (fun n => (n / 1000, n % 1000)) = l := fun l => by
      induction l with
      | nil => intro _; rfl
      | cons r l ih =>
        intro hl
        rw [List.map_cons, List.map_cons, ih fun y hy => hl y (List.mem_cons_of_mem _ hy)]
        have z := hb r (hl r List.mem_cons_self)
        congr 1
        exact Prod.ext (by show (1000 * r.1 + r.2) / 1000 = r.1; omega) (by show (1000 * r.1 + r.2) % 1000 = r.2; omega)
    have perm : rs.Perm ps := by
      have z := (o1.map (numP H2))
      rw [← b3, ← numsOf] at z
      have z2 := z.map (fun n => (n / 1000, n % 1000))
      rw [back rs b4, back ps fun _ z => z] at z2
      exact z2
    have ord : rs.Pairwise (fun a b => b.1 < a.1 ∨ (b.1 = a.1 ∧ b.2 ≤ a.2)) := by
      have z : (out.toList.map (numP H2)).Pairwise (fun a b => b ≤ a) := List.pairwise_map.mpr o2
      rw [← b3, List.pairwise_map] at z
      refine List.Pairwise.imp_of_mem (fun {a b} ha hb' h => ?_) z
      have z1 := hb a (b4 a ha)
      have z2 := hb b (b4 b hb')
      omega
    refine ⟨.ref (s2.heap.objs.size + 1), _, I2.laid (t' := s2.toks) (a := s2.heap.objs.size + 1) (o := .lst (as.map V.ref)) (fun b o e => sortedAll_old e) (Nat.le_succ _) ⟨hlen, out.toList, n, b1, by simpa [seqObj] using hn⟩, rfl, q _ as rs (I2.hok.fresh (Nat.le_succ _)) b2 perm ord⟩
theorem pe_bmK {o e : Expr} {es : List Expr} {to : TE} {t : TA} {name : Str} {apos cpos : Pos} {T id : String} {r : V → List V → Hp → VK → Prop} (K : PySem.W.Frag) (hK : X.K = K) (pa : PlainAttrs T) (slot : Slot T name id) (hty : typeOf (.builtin id) = pure (.type "method_descriptor")) (hm : MtR X id r) (ho : PE X o to) (ha : PA X (e :: es) t)
    (h1 : attributeBase o name X.env (eval o X.env) = eval o X.env := by rfl)
    (h2 : ((backTo cpos (starEach (e :: es) X.env)).all (fun x => !x.1) && (backToKw cpos (keywordEach [] X.env)).all (fun x => x.1.isSome) && decide ((e :: es).length + ([] : List Keyword).length + (if ([] : List Keyword).isEmpty then 0 else 1) < 30)) = true := by rfl)
    (h3 : (apos.endLine == cpos.line) = true := by rfl) (h4 : starEach (e :: es) X.env = (false, eval e X.env) :: starEach es X.env := by rfl) (h5 : (backTo cpos (starEach es X.env)).any (·.1) = false := by rfl) : PE X (.Call (.Attribute o name apos) (e :: es) [] cpos) (tBM K T r to t) := by
  subst hK
  exact pe_bm pa slot hty hm ho ha h1 h2 h3 h4 h5
theorem mt_countVK (K : PySem.W.Frag) (hK : X.K = K) : MtR X "list.count" (rCountV K) := by
  subst hK
  exact mt_countV
end
theorem for_enum {K : PySem.W.Frag} {a : Addr} {xs : List V} {g : TG} {tb : TS} {D : Ends} {σ : St} {H : Hp} (Pv : Nat → St → Hp → Prop) (h0 : Pv 0 σ H) (hl : ∀ i σ H, Pv i σ H → SqL K H a xs)
    (hs : ∀ i x σ H p, xs[i]? = some x → Pv i σ H → H p = none → g (.ref p) σ (upd H p (.tup [.int (i : Int), x])) fun σ2 H2 => tb { D with nx := Pv (i + 1), ct := Pv (i + 1), bk := D.nx } σ2 H2) (hd : ∀ σ H, Pv xs.length σ H → D.nx σ H) :
    ∃ W : Nat → Nat → St → Hp → Prop, (∃ m, W 0 m σ H) ∧ ∀ i m σ H, W i m σ H → ((Ite K a).stop i H ∧ D.nx σ H) ∨ ((Ite K a).go i H ∧ ∃ N : St → Hp → Prop, (∀ σ' H', N σ' H' → ∃ m', m' < m ∧ W (i + 1) m' σ' H') ∧ ∀ x H', (Ite K a).yld i H x H' → g x σ H' fun σ2 H2 => tb { D with nx := N, ct := N, bk := D.nx } σ2 H2) := by
  refine ⟨fun i m σ H => m = xs.length - i ∧ i ≤ xs.length ∧ Pv i σ H, ⟨xs.length, by simp, Nat.zero_le _, h0⟩, ?_⟩
  rintro i m σ H ⟨rfl, hi, p⟩
  have q1 := hl i σ H p
  by_cases hlt : i < xs.length
  · refine .inr ⟨⟨xs, xs[i], q1, List.getElem?_eq_getElem hlt⟩, Pv (i + 1), fun σ' H' p' => ⟨xs.length - (i + 1), by omega, rfl, hlt, p'⟩, ?_⟩
    rintro v H' ⟨r, x, rfl, hr, rfl, hx⟩
    exact hs i x σ H r (hx xs q1) p hr
  · have e : i = xs.length := by omega
    subst e
    exact .inl ⟨⟨xs, q1, Nat.le_refl _⟩, hd σ H p⟩
end L2
namespace My
open PySem L2 PyProof.Rows
theorem countV_int (g : Int) : ∀ ds : List Int, (ds.map V.int).countP (fun z => eqV z (.int g)) = ds.count g
  | [] => rfl
  | d :: ds => by
    rw [List.map_cons, List.countP_cons, countV_int g ds, List.count_cons]
    rfl
end My
set_option Elab.async false
set_option linter.all false
set_option maxRecDepth 100000
set_option maxHeartbeats 4000000
namespace L2
open PySem PySem.Spec PyProof.Rows
section
variable {X : Cx} (K : PySem.W.Frag)
theorem call_sortedK (hK : X.K = K) : CallR X (.builtin "sorted") (fun xs H Q => ∃ (p : Addr) (ns : List Int), xs = [.ref p] ∧ SqL K H p (ns.map V.int) ∧ ns.length < 64 ∧ ∀ (l : Addr) (ms : List Int), H l = none → ms.Perm ns → ms.Pairwise (· ≤ ·) → Q (.ref l) (upd H l (.lst (ms.map V.int)))) := by
  subst hK
  exact call_sorted
theorem pe_fldK {e : Expr} {f : Str} {pos : Pos} {ta : TE} (hK : X.K = K) (he : PE X e ta) (hb : attributeBase e f X.env (eval e X.env) = eval e X.env) : PE X (.Attribute e f pos) (tFld K ta f) := by
  subst hK
  exact pe_fld he hb
end
section
variable {X : Cx}
theorem pj_s {e : Expr} {n : Nat} {pos : Pos} {es : List Expr} {te : TE} {t : St → Hp → (Hp → Prop) → Prop} (h0 : PE X e te) (h1 : PJ X es n t)
    (he : evalEach (.FormattedValue e (-1) none pos :: es) X.env = eval (.FormattedValue e (-1) none pos) X.env :: evalEach es X.env := by rfl) :
    PJ X (.FormattedValue e (-1) none pos :: es) (1002 + n) (fun σ H R => te σ H fun v H1 => ∃ x : Str, v = .str x ∧ x.length ≤ 1000 ∧ t σ H1 R) := by
  intro pins s σ H out Q I hz h
  rw [he]
  refine joinParts_cons (FormattedValue_plain (thn (h0 pins s σ H _ I h) fun v s1 ⟨x, H1, I1, r, y, e1, hi, q⟩ => ?_))
  subst e1
  obtain ⟨tk, rfl⟩ := r
  refine formatField_str (fun t' tk' => ?_) (Nat.le_trans hi (by decide))
  have hl : (out ++ y).length = out.length + y.length := strLen_append _ _
  refine ⟨by rw [hl]; omega, ?_⟩
  exact h1 pins _ σ H1 _ Q (I1.kept (t' := tk') fun b o e => e) (by rw [hl]; omega) q
end
end L2
namespace My
open PySem L2 PyProof.Rows
theorem lex_iff : ∀ a b : List Int, HT.lexLt a b = true ↔ lexLt a b
  | [], [] => ⟨(fun h => nomatch h), fun h => h.elim⟩
  | [], _ :: _ => ⟨fun _ => trivial, fun _ => rfl⟩
  | _ :: _, [] => ⟨(fun h => nomatch h), fun h => h.elim⟩
  | a :: as, b :: bs => by
    rw [HT.lexLt_cons]
    show _ ↔ (a < b ∨ (a = b ∧ lexLt as bs))
    by_cases e : a = b
    · rw [if_pos e, lex_iff as bs]
      exact ⟨fun h => .inr ⟨e, h⟩, fun h => h.elim (fun z => absurd e (by omega)) fun z => z.2⟩
    · rw [if_neg e, decide_eq_true_iff]
      exact ⟨fun h => .inl h, fun h => h.elim id fun z => absurd z.1 e⟩
theorem ltP_iff (p q : Int × List Int) : ltP p q = true ↔ p.1 < q.1 ∨ (p.1 = q.1 ∧ lexLt p.2 q.2) := by
  unfold ltP
  by_cases e : p.1 = q.1
  · rw [if_pos e, lex_iff]
    exact ⟨fun h => .inr ⟨e, h⟩, fun h => h.elim (fun z => absurd e (by omega)) fun z => z.2⟩
  · rw [if_neg e, decide_eq_true_iff]
    exact ⟨.inl, fun h => h.elim id fun z => absurd z.1 e⟩
theorem ltP_irr (p : Int × List Int) : ltP p p = false := by
  cases q : ltP p p with
  | false => rfl
  | true =>
    rcases (ltP_iff p p).mp q with z | z
    · omega
    · exact (lex_irr _ z.2).elim
theorem ltP_trans {p q r : Int × List Int} (h1 : ltP p q = true) (h2 : ltP q r = true) : ltP p r = true := by
  rw [ltP_iff] at *
  rcases h1 with a | ⟨a, b⟩ <;> rcases h2 with c | ⟨c, d⟩
  · exact .inl (by omega)
  · exact .inl (by omega)
  · exact .inl (by omega)
  · exact .inr ⟨by omega, lex_trans b d⟩
theorem argBest_least {bt : Nat → Nat → Bool} (irr : ∀ i, bt i i = false) (tr : ∀ i j k, bt i j = true → bt j k = true → bt i k = true) : ∀ k j, j ≤ k → bt j (argBest bt k) = false
  | 0, j, h => by
    rw [show j = 0 by omega]
    exact irr 0
  | k + 1, j, h => by
    have ih := argBest_least irr tr k
    unfold argBest
    cases c : bt (k + 1) (argBest bt k) with
    | true =>
      rw [if_pos rfl]
      by_cases e : j = k + 1
      · rw [e]; exact irr _
      · cases q : bt j (k + 1) with
        | false => rfl
        | true =>
          have z := tr _ _ _ q c
          rw [ih j (by omega)] at z
          cases z
    | false =>
      rw [if_neg (by decide)]
      by_cases e : j = k + 1
      · rw [e]; exact c
      · exact ih j (by omega)
end My
set_option Elab.async false
set_option linter.all false
set_option maxRecDepth 100000
set_option maxHeartbeats 4000000
namespace L2
open PySem PySem.Spec PyProof.Rows
section
variable {M : Model} {A : Around} {E : Value → Shared → Prop} {s : Shared} {env : Env} {outer : List Env} {base : Heap} {L e T : Addr} {cls : Value} {dct : Option Addr} {fl : Value} {Q : Unit → Shared → Prop}
theorem st_mark {fr : Option Addr} (x : Exc s.heap e cls dct T fl) (q : ∀ h' fl', Moved s.heap h' [] [T] → h'.objs.size = s.heap.objs.size → Exc h' e cls dct T fl' → Q () { s with heap := h' }) : wpAny M A (setFlight (.ref e) fr) Q E s := by
  obtain ⟨oe, vs, oT, ts, he, rfl, rfl, hd, h1, hne, hT, hdT, h3⟩ := x
  unfold setFlight
  refine wpAny_bind (wpAny_field he hd h1 ?_)
  rw [if_pos (by simp)]
  refine wpAny_setField hT hdT (vs_lt h3) (q _ (fr.elim .none fun f => rawInt f) ⟨fun b o hb _ hc => ?_, fun b o _ hn _ => nomatch hn⟩ (by simp [Heap.update]) ?_)
  · rw [Heap.get?_update_other _ _ (fun z => hc (by simp [z]))]
    exact hb
  · refine ⟨oe, vs, _, _, (Heap.get?_update_other _ _ hne).trans he, rfl, rfl, hd, h1, hne, upd_at hT hdT, mapF_data hdT, ?_⟩
    simp [vs_lt h3]
theorem st_leaveG (hfr : A.frames = some (env :: outer)) (hl : s.heap.FunFrames base (env :: outer)) (hf : env.frame = some L) (x : Exc s.heap e cls dct T fl)
    (q : ∀ h' T', Moved s.heap h' (frs (env :: outer)) [e, T] → (T' = T ∨ T' = s.heap.objs.size) → Exc h' e cls dct T' .none → Q () { s with heap := h' }) : wpAny M A (leaving env (.ref e)) Q E s := by
  by_cases c : (fl == rawInt L) = true
  · unfold leaving
    refine wpAny_bind ?_
    obtain ⟨oe, vs, oT, ts, he, hcl, hdc, hd, h1, hne, hT, hdT, h3⟩ := id x
    unfold noteFrame
    simp only [hf]
    refine wpAny_bind (wpAny_field he hd h1 ?_)
    rw [if_pos (by simp)]
    refine wpAny_bind (wpAny_field hT hdT h3 ?_)
    rw [if_pos c]
    refine wpAny_pure (st_land x fun h' mv _ x2 => q h' T ⟨fun b o hb hn hc => mv.keep b o hb (by simp) fun z => hc (by simp [List.mem_singleton.mp z]), fun b o hb hn hc => ?_⟩ (.inl rfl) x2)
    exact ⟨o.slots, mv.keep b o hb (by simp) fun z => hc (by simp [List.mem_singleton.mp z])⟩
  · have c : (fl == rawInt L) = false := by simpa using c
    unfold leaving
    refine wpAny_bind ?_
    obtain ⟨oe, vs, oT, ts, he, rfl, rfl, hd, h1, hne, hT, hdT, h3⟩ := x
    unfold noteFrame
    simp only [hf]
    refine wpAny_bind (wpAny_field he hd h1 ?_)
    rw [if_pos (by simp)]
    refine wpAny_bind (wpAny_field hT hdT h3 ?_)
    rw [if_neg (by rw [c]; decide)]
    refine wpAny_bind (wpAny_setField hT hdT (vs_lt h3) ?_)
    have oth : ∀ b, b ≠ T → (s.heap.update T (Obj.mapFields fun z => z.setIfInBounds 3 Value.none)).get? b = s.heap.get? b := fun b hb => Heap.get?_update_other _ _ (Ne.symm hb)
    have hsz : (s.heap.update T (Obj.mapFields fun z => z.setIfInBounds 3 Value.none)).objs.size = s.heap.objs.size := by simp [Heap.update]
    refine st_entry hfr (hl.of_keeps fun b o hb hn => ⟨o, (oth b fun z => by rw [z, hT] at hb; cases hb; exact hn ts hdT).trans hb, rfl⟩) hf ((oth e (Ne.symm hne)).trans he) hd (vs_lt h1) fun h1' mv ex => ?_
    rw [hsz] at ex
    refine st_land (s := { s with heap := h1' }) ex fun h2 m2 _ x2 => q h2 _ ?_ (.inr rfl) x2
    have m1 : Moved s.heap h1' (frs (env :: outer)) [e, T] := ⟨fun b o hb hn hc => mv.keep b o ((oth b fun z => hc (by simp [z])).trans hb) hn fun z => hc (List.mem_cons.mpr (.inl (by simpa using z))), fun b o hb hn hc => mv.slot b o ((oth b fun z => hc (by simp [z])).trans hb) hn fun z => hc (List.mem_cons.mpr (.inl (by simpa using z)))⟩
    exact m1.trans m2 (fun _ z => nomatch z) (fun _ z => z) fun b o hb z => by
      have : b = s.heap.objs.size := by simpa using z
      exact absurd (Heap.lt_size hb) (by rw [this]; exact Nat.lt_irrefl _)
end
section
variable {P : Program} {w : World} {K : PySem.W.Frag} {mg : Str → Option Value} {base : Heap} {N : List Str} {qual : Str} {scope : Scope} {f : Addr} {cd : Value} {A : Around} {outer : List Env} {s0 : Shared} {H0 : Hp} {E : XK}
theorem left_cxG {pins : List (Addr × Obj)} {σ : St} {H : Hp} {s : Shared} {h' : Heap} {ea T : Addr} {cls : Value} {dct : Option Addr} {ch : List Addr} (I : Inv (cxOf (CXX P w) P w K mg base N qual scope f cd A outer s0 H0 E) pins σ H s)
    (mv : Moved s.heap h' (frs (envOfC qual scope s0.heap.objs.size f cd :: outer)) ch) (hch : ∀ b ∈ ch, H b = none ∧ s0.heap.get? b = none) (ex : Exc h' ea cls dct T .none) (hHe : H ea = none) (f0 : s0.heap.get? ea = none) (hHT : H T = none) (fT : s0.heap.get? T = none) (hE : E cls dct H) :
    CXX P w outer H0 s0 E (.ref ea) { s with heap := h' } := by
  have nch : ∀ b o, s0.heap.get? b = some o → b ∉ ch := fun b o e z => by rw [(hch b z).2] at e; cases e
  have nst : ∀ b o, s0.heap.get? b = some o → b ∉ frs outer → b ∉ frs (envOfC qual scope s0.heap.objs.size f cd :: outer) := fun b o e hb z => by
    rcases List.mem_cons.mp (I.stkSub b z) with q | q
    · exact absurd (Heap.lt_size e) (by rw [q]; exact Nat.not_lt.mpr I.ok.above)
    · exact hb q
  refine ⟨ea, T, cls, dct, H, rfl, I.os, I.bare, ⟨fun b o e n hb hx => ?_, fun b o e n hb hx => ?_, fun b o e n hx => I.base.free b o e n hx, fun b o e hx => ?_, I.base.tups, I.base.frzs, I.base.tbls⟩, fun b u q => ?_, ex, hHe, hHT, f0, fT, hE⟩
  · exact mv.keep b o (I.base.keep b o e n hb hx) (nst b o e hb) (nch b o e)
  · obtain ⟨sl, k⟩ := I.base.slot b o e n hb hx
    obtain ⟨sl', k'⟩ := mv.any k (nch b o e)
    exact ⟨sl', k'⟩
  · obtain ⟨o', k⟩ := I.base.there b o e hx
    obtain ⟨sl, k'⟩ := mv.any k (nch b o e)
    exact ⟨_, k'⟩
  · refine (I.hok b u q).stay (fun c v hc r => mv.keep c v r (fun z => ?_) fun z => ?_) (fun _ q => q) fun _ _ q => q
    · have := I.stkFree c z
      rcases hc with rfl | hc
      · rw [q] at this; cases this
      · rw [hc] at this; cases this
    · have := (hch c z).1
      rcases hc with rfl | hc
      · rw [q] at this; cases this
      · rw [hc] at this; cases this
end
def TakesF (X : Cx) (E : XK) : Prop := X.ex = [] ∧ (∃ L, X.env.frame = some L) ∧ (∃ o, X.stack = X.env :: o) ∧
  ∀ (pins : List (Addr × Obj)) (σ : St) (H : Hp) (s : Shared) (ea T : Addr) (cls : Value) (dct : Option Addr) (fl : Value), Inv X pins σ H s → Exc s.heap ea cls dct T fl → H ea = none → H T = none → X.s₀.heap.get? ea = none → X.s₀.heap.get? T = none → E cls dct H → X.xe (.ref ea) s
section
variable {P : Program} {w : World} {K : PySem.W.Frag} {mg : Str → Option Value} {base : Heap} {N : List Str} {qual : Str} {scope : Scope} {f : Addr} {cd : Value} {A : Around} {outer : List Env} {s0 : Shared} {H0 : Hp} {E : XK}
theorem takesF_cx : TakesF (cxOf (CXX P w) P w K mg base N qual scope f cd A outer s0 H0 E) E := by
  refine ⟨rfl, ⟨_, rfl⟩, ⟨_, rfl⟩, ?_⟩
  intro pins σ H s ea T cls dct fl I ex hHe hHT f0 fT hE
  show wpAny (model P w) (A.deeper (envOfC qual scope s0.heap.objs.size f cd)) (leaving (envOfC qual scope s0.heap.objs.size f cd) (.ref ea)) _ _ s
  refine st_leaveG (base := base) I.ok.frames I.stack rfl ex fun h' T' mv hT' ex' => ?_
  have hn : H s.heap.objs.size = none := I.hok.fresh (Nat.le_refl _)
  have fn : s0.heap.get? s.heap.objs.size = none := Heap.get?_none_of_le I.sz
  refine left_cxG I mv (fun b z => ?_) ex' hHe f0 ?_ ?_ hE
  · rcases List.mem_cons.mp z with rfl | z
    · exact ⟨hHe, f0⟩
    · rw [List.mem_singleton.mp z]
      exact ⟨hHT, fT⟩
  · rcases hT' with e | e
    · rw [e]; exact hHT
    · rw [e]; exact hn
  · rcases hT' with e | e
    · rw [e]; exact fT
    · rw [e]; exact fn
end
def Fly (Y : Cx) (E : XK) : Value → Shared → Prop := fun e s' => ∃ (pins : List (Addr × Obj)) (σ' : St) (H' : Hp) (ea T : Addr) (cls : Value) (dct : Option Addr), e = .ref ea ∧ Inv Y pins σ' H' s' ∧ Exc s'.heap ea cls dct T .none ∧ H' ea = none ∧ H' T = none ∧
  (ea ∉ Y.ex → Y.s₀.heap.get? ea = none) ∧ (T ∉ Y.ex → Y.s₀.heap.get? T = none) ∧ ea ≠ Y.env.locals ∧ T ≠ Y.env.locals ∧ E cls dct H'
theorem takes_fly {Y : Cx} {E : XK} : Takes (Y.wish (Fly Y E)) (fun c d _ H => E c d H) := by
  intro pins σ H s s' ea T cls dct H' I os bare un hok ex hHe hHT ne nT hE
  have I0 : Inv Y pins σ H s := I.unwish
  have I' : Inv Y pins σ H' s' := I0.call' os un hok bare (fun b z => absurd z (by simp))
  have fr : ∀ b, s.heap.get? b = none → b ∉ Y.ex → Y.s₀.heap.get? b = none := fun b e hx => by
    cases q : Y.s₀.heap.get? b with
    | none => rfl
    | some o =>
      obtain ⟨o', z⟩ := I0.base.there b o q hx
      rw [e] at z; cases z
  have loc : ∃ o, s.heap.get? Y.env.locals = some o := by
    obtain ⟨m, ⟨o, es, ep, ho, _⟩, _⟩ := I0.loc
    exact ⟨o, ho⟩
  obtain ⟨oL, hL⟩ := loc
  exact ⟨pins, σ, H', ea, T, cls, dct, rfl, I', ex, hHe, hHT, fr _ ne, fr _ nT, (fun z => by rw [z, hL] at ne; cases ne), (fun z => by rw [z, hL] at nT; cases nT), hE⟩
theorem compLoop_anyX {prog : Program} {w : World} {A : Around} {R : Result → Shared → Prop} {s : Shared} {elt target iter : Expr} {scope : Scope} {pos : Pos} {it acc : Value} {env : Env} (I : Nat → Shared → Prop) {Fl : Value → Shared → Prop}
    (hx : ∀ e s', Fl e s' → notedBy (model prog w) A env (fun x s'' => R (.error x) s'') e s')
    (turn : ∀ n s, I n s → wpAny (model prog w) A (pyNext it) (fun r s₁ => match r with
      | none => R (.ok .next) s₁
      | some v => wpAny (model prog w) A (letOwnedTupleGo target it v) (fun _ s₀ => wpAny (model prog w) A (assign target env v) (fun _ s₂ =>
            wpAny (model prog w) A (eval elt env) (fun x s₄ => wpAny (model prog w) A (call (.builtin "list.append") [acc, x]) (fun _ s₅ => ∃ m, m < n ∧ I m s₅) (fun _ _ => False) s₄) Fl s₂) (fun _ _ => False) s₀) (fun _ _ => False) s₁) (fun _ _ => False) s)
    (n : Nat) (h : I n s) : codeAny (model prog w) A (.compLoop (.ListComp elt [⟨target, iter, [], 0⟩] scope pos) 0 it acc env) R s := by
  refine codeAny_loop rfl I (fun n s hI => ?_) n h
  show wpAny _ A ((compTurn (.ListComp elt [⟨target, iter, [], 0⟩] scope pos) 0 it acc env).onRaise (fun x => do noteFrame x env; theTreesLotGoes x)) _ _ s
  refine wpAny_noted ?_
  rw [compTurn_list]
  refine wpAny_bind (wpAny_standAt (wpAny_bind (wpAny_mono (turn n s hI) (fun r s₁ h₁ => ?_) fun _ _ h' => False.elim h')))
  cases r with
  | none => exact wpAny_pure h₁
  | some v =>
    refine wpAny_bind (wpAny_mono h₁ (fun _ s₀ h₀ => ?_) fun _ _ h' => False.elim h')
    refine wpAny_bind (wpAny_mono h₀ (fun _ s₂ h₂ => wpAny_bind (wpAny_tests_nil ?_)) fun _ _ h' => False.elim h')
    exact wpAny_bind (wpAny_bind (wpAny_mono h₂ (fun x s₄ h₄ => wpAny_bind (wpAny_mono h₄ (fun _ s₅ h₅ => wpAny_pure (wpAny_pure ⟨rfl, h₅⟩)) fun _ _ h' => False.elim h')) hx))
section
variable {X : Cx} {pins : List (Addr × Obj)} {σ : St} {H H' : Hp} {s : Shared} {h' : Heap}
theorem comp_runX {E : XK} {tg iter elt : Expr} {sc : Scope} {pos : Pos} {N : List Str} {cap : List (Option Nat)} {g : TG} {te : TE} {Q : VK} {it : Addr} {fp : List Addr} {tn : Nat → Heap → Prop} {J : It}
    (I2 : Inv X pins σ H s) (T : Turn X.prog X.w X.K tg J fp it tn) (st2 : tn 0 s.heap) (f2 : ∀ b ∈ fp, FpOk X pins H b) (hc : X.calm = true) (C : CompOk X sc N cap) (hF : TakesF X E)
    (hg : ∀ cl s₀ H₀ ex, PG (cxC X sc N cl s₀ H₀ ex) tg g) (he : ∀ cl s₀ H₀ ex, PE ((cxC X sc N cl s₀ H₀ ex).wish (Fly (cxC X sc N cl s₀ H₀ ex) E)) elt te)
    (W : Nat → List V → Hp → Prop) (n : Nat) (w0 : W 0 [] H) (turn : ∀ i ys H, W i ys H →
      (J.stop i H ∧ ∀ p, H p = none → Q (.ref p) (upd H p (.lst ys))) ∨
      (J.go i H ∧ i < n ∧ ys.length < sizeLine ∧ ∀ x H', J.yld i H x H' → g x (capt cap σ) H' fun σ2 H2 => kst (capt cap σ) σ2 ∧ te σ2 H2 fun y H4 => W (i + 1) (ys ++ [y]) H4))
    {E1 : Value → Shared → Prop} :
    wpAny (model X.prog X.w) X.A (newList []) (fun acc s₃ => wpAny (model X.prog X.w) X.A (newFunctionEnv sc X.env.globals (closOf X.env sc.names) [] X.env.qual none .none (some X.env)) (fun cenv s₄ =>
      codeAny (model X.prog X.w) X.A (.compStart (.ListComp elt [⟨tg, iter, [], 0⟩] sc pos) 0 (.ref it) acc { cenv with scope := relabel sc X.env }) (compPost (model X.prog X.w) X.A X.xe none (EP X pins σ Q) acc cenv.locals) s₄) E1 s₃) E1 s := by
  refine wpAny_newObj_type (wpAny_newFunctionEnv C.ncell (by intro y hy; simp at hy) (fun h₁ hns₁ hsb₁ => ?_) C.kind)
  dsimp only at hns₁ hsb₁ ⊢
  have hD0 : (s.heap.push { cls := .type "list", dict := none, data := .seq ([] : List Value).toArray }).get? s.heap.objs.size = some { cls := .type "list", data := .seq ([] : List Value).toArray 0 } := Heap.get?_push_size _ rfl
  have up : ∀ b o, s.heap.get? b = some o → (s.heap.push { cls := .type "list", dict := none, data := .seq ([] : List Value).toArray }).get? b = some o := fun b o e => Heap.get?_push_of_some _ e
  have I3 : Inv X pins σ H { s with heap := s.heap.push { cls := .type "list", dict := none, data := .seq ([] : List Value).toArray } } := I2.kept (t' := s.toks) up
  have hsz : (s.heap.push { cls := .type "list", dict := none, data := .seq ([] : List Value).toArray }).objs.size = s.heap.objs.size + 1 := Heap.size_push ..
  generalize hH2 : s.heap.push { cls := .type "list", dict := none, data := .seq ([] : List Value).toArray } = G2 at hns₁ hsb₁ hD0 up I3 hsz ⊢
  generalize hDe : s.heap.objs.size = D at hD0 hsz
  have hDfresh : s.heap.objs.size ≤ D := Nat.le_of_eq hDe
  have fpD : FpOk X pins H D := I2.fpOk hDfresh (I2.hok.fresh hDfresh)
  have fplt : ∀ b ∈ fp, b < D := fun b hb => by
    obtain ⟨o, e, _⟩ := T.obj _ _ st2 b hb
    rw [← hDe]; exact Heap.lt_size e
  have hDfp : D ∉ fp := fun z => Nat.lt_irrefl _ (fplt D z)
  have hexF : ∀ b ∈ D :: fp, FpOk X pins H b := fun b hb => (List.mem_cons.mp hb).elim (fun e => e ▸ fpD) (f2 b)
  have hlt : ∀ b ∈ D :: fp, b < G2.objs.size := fun b hb => by
    rw [hsz]
    rcases List.mem_cons.mp hb with e | hb
    · rw [e]; exact Nat.lt_succ_self _
    · exact Nat.lt_succ_of_lt (fplt b hb)
  have I0 := I3.comp0 (tk := s.toks + ([] : List (Str × Value)).length) C (ex := D :: fp) (fun b hb => ⟨hlt b hb, (hexF b hb).2.2.2.2.1, (hexF b hb).nobase I2, (hexF b hb).2.1, (hexF b hb).2.2.1⟩) hns₁ hsb₁
  have keep1 : ∀ b o, G2.get? b = some o → h₁.get? b = some o := fun b o e => hsb₁.extBut b o (Nat.ne_of_lt (Heap.lt_size e)) (Heap.get?_push_of_some _ e)
  -- the records stay the block's own
  have fpY : ∀ {H' : Hp}, (∀ b ∈ D :: fp, H' b = none) → ∀ b ∈ D :: fp, FpOk (cxC X sc N (closOf X.env sc.names) { s with heap := G2 } H (D :: fp)) [] H' b := fun hn b hb =>
    ⟨hn b hb, Nat.ne_of_lt (hlt b hb), fun z => (List.mem_cons.mp (I2.stkSub b z)).elim (hexF b hb).2.1 (hexF b hb).2.2.1, .inl hb, fun x c e => (hexF b hb).2.2.2.2.1 x c (clos_sub I2 C e), fun p hp => absurd (show p ∈ ([] : List (Addr × Obj)) from hp) (by simp)⟩
  have fly : ∀ e s', Fly (cxC X sc N (closOf X.env sc.names) { s with heap := G2 } H (D :: fp)) E e s' → notedBy (model X.prog X.w) X.A (compEnvC sc (closOf X.env sc.names) G2.objs.size X.env) (fun x s'' => compPost (model X.prog X.w) X.A X.xe none (EP X pins σ Q) (.ref D) G2.objs.size (.error x) s'') e s' := by
    rintro e s1 ⟨pins', σ', H', ea, T, cls, dct, rfl, I1, ex, hHe, hHT, fe, fT, neC, nTC, hE⟩
    obtain ⟨hex, ⟨L, hL⟩, ⟨os, hst⟩, taken⟩ := hF
    have hfr : X.A.frames = some (X.env :: os) := by rw [← hst]; exact I1.ok.frames
    have hfun : s1.heap.FunFrames X.base (X.env :: os) := by rw [← hst]; exact I1.stack
    have neC' : ea ≠ G2.objs.size := neC
    have nTC' : T ≠ G2.objs.size := nTC
    show wpAny (model X.prog X.w) X.A (noteFrame (.ref ea) X.env) _ _ s1
    refine st_next hfr hfun hL ex fun h1 m1 x1 => ?_
    obtain ⟨m, ⟨oC, es, ep, hoC, hdC⟩, _⟩ := id I1.loc
    have hoC' : s1.heap.get? G2.objs.size = some oC := hoC
    obtain ⟨sl, hoC1⟩ := m1.any hoC' (fun z => by
      rcases List.mem_cons.mp z with q | q
      · exact neC' q.symm
      · exact nTC' (List.mem_singleton.mp q).symm)
    have T1ne : s1.heap.objs.size ≠ G2.objs.size := fun z => absurd (Heap.lt_size hoC') (by rw [← z]; exact Nat.lt_irrefl _)
    refine ⟨m, ⟨_, es, ep, hoC1, hdC⟩, fun h2 sb cenv _ => ?_⟩
    have hb := sb.extBut
    have x2 : Exc h2 ea cls dct s1.heap.objs.size (rawInt L) := by
      obtain ⟨oe, vs, oT, ts, a1, a2, a3, a4, a5, a6, a7, a8, a9⟩ := x1
      exact ⟨oe, vs, oT, ts, hb _ _ neC' a1, a2, a3, a4, a5, a6, hb _ _ T1ne a7, a8, a9⟩
    unfold PySem.passOn
    obtain ⟨oe, vs, oT, ts, a1, a2, a3, a4, a5, a6, a7, a8, a9⟩ := id x2
    refine wpAny_bind (wpAny_field (s := { s1 with heap := h2 }) a1 a4 a5 ?_)
    rw [if_neg (by simp)]
    refine wpAny_bind (m := pure _) (wpAny_pure ?_)
    refine wpAny_bind (st_mark (s := { s1 with heap := h2 }) x2 fun h3 fl' m3 _ x3 => wpAny_throw ?_)
    -- all the rest stayed
    have tot : ∀ b o, s1.heap.get? b = some o → b ≠ ea → b ≠ T → b ≠ G2.objs.size → (b ∉ frs X.stack → h3.get? b = some o) ∧ ∃ sl, h3.get? b = some { o with slots := sl } := fun b o e n1 n2 n3 => by
      have nb : b ∉ [ea, T] := fun z => by
        rcases List.mem_cons.mp z with q | q
        · exact n1 q
        · exact n2 (List.mem_singleton.mp q)
      have n4 : b ∉ [s1.heap.objs.size] := fun z => absurd (Heap.lt_size e) (by rw [List.mem_singleton.mp z]; exact Nat.lt_irrefl _)
      constructor
      · intro hn
        rw [hst] at hn
        exact m3.keep b o (hb _ _ n3 (m1.keep b o e hn nb)) (by simp) n4
      · obtain ⟨sl, q⟩ := m1.any e nb
        exact ⟨sl, m3.keep b _ (hb _ _ n3 q) (by simp) n4⟩
    have b0 := I1.base
    have ltD : ∀ b o, s.heap.get? b = some o → b < D := fun b o e => by rw [← hDe]; exact Heap.lt_size e
    have nD : ∀ b o, s.heap.get? b = some o → b ∉ fp → b ∉ D :: fp := fun b o e hx z => (List.mem_cons.mp z).elim (fun q => absurd (ltD b o e) (by rw [q]; exact Nat.lt_irrefl _)) hx
    have n3 : ∀ b o, s.heap.get? b = some o → b ∉ fp → b ≠ ea ∧ b ≠ T ∧ b ≠ G2.objs.size := fun b o e hx => by
      refine ⟨fun z => ?_, fun z => ?_, fun z => ?_⟩
      · have q := fe (by rw [← z]; exact nD b o e hx)
        have q' : G2.get? ea = none := q
        rw [← z, up b o e] at q'
        cases q'
      · have q := fT (by rw [← z]; exact nD b o e hx)
        have q' : G2.get? T = none := q
        rw [← z, up b o e] at q'
        cases q'
      · exact absurd (ltD b o e) (by rw [z, hsz]; exact Nat.not_lt.mpr (Nat.le_succ _))
    have un : Un (frs X.stack) fp H H' s.heap h3 := by
      refine ⟨fun b o e hn hb' hx => ?_, fun b o e hn hb' hx => ?_, fun b o e hn hx => b0.free b o (up b o e) hn (nD b o e hx), fun b o e hx => ?_, b0.tups, b0.frzs, b0.tbls⟩
      · obtain ⟨q1, q2, q3⟩ := n3 b o e hx
        exact (tot b o (b0.keep b o (up b o e) hn hb' (nD b o e hx)) q1 q2 q3).1 hb'
      · obtain ⟨q1, q2, q3⟩ := n3 b o e hx
        obtain ⟨sl, k⟩ := b0.slot b o (up b o e) hn hb' (nD b o e hx)
        obtain ⟨sl', k'⟩ := (tot b _ k q1 q2 q3).2
        exact ⟨sl', k'⟩
      · obtain ⟨q1, q2, q3⟩ := n3 b o e hx
        obtain ⟨o', k⟩ := b0.there b o (up b o e) (nD b o e hx)
        obtain ⟨sl', k'⟩ := (tot b _ k q1 q2 q3).2
        exact ⟨_, k'⟩
    have hok3 : HOk X.prog X.w H' h3 := fun b u q => by
      refine (I1.hok b u q).stay (fun c v hc r => ?_) (fun _ q => q) fun _ _ q => q
      have tr : ∃ o, H' c = some o := by
        rcases hc with rfl | hc
        · exact ⟨_, q⟩
        · exact ⟨_, hc⟩
      obtain ⟨ou, hou⟩ := tr
      refine (tot c v r (fun z => by rw [z, hHe] at hou; cases hou) (fun z => by rw [z, hHT] at hou; cases hou) (fun z => ?_)).1 (fun z => ?_)
      · have q' : H' G2.objs.size = none := I1.free
        rw [z, q'] at hou
        cases hou
      · have q' := I1.stkFree c z
        rw [q'] at hou
        cases hou
    have IX : Inv X pins σ H' { s1 with heap := h3 } := I2.call' (s' := { s1 with heap := h3 }) (ch := fp) I1.os un hok3 I1.bare fun b hb => ⟨(f2 b hb).2.2.2.1, (f2 b hb).2.1, (f2 b hb).2.2.2.2.1, (f2 b hb).2.2.2.2.2⟩
    have s0f : ∀ b, (b ∉ D :: fp → G2.get? b = none) → X.s₀.heap.get? b = none := fun b hb' => by
      by_cases c : b ∈ fp
      · rcases (f2 b c).2.2.2.1 with z | z
        · rw [hex] at z; cases z
        · exact Heap.get?_none_of_le z
      · by_cases c2 : b = D
        · exact Heap.get?_none_of_le (by rw [c2, ← hDe]; exact I2.sz)
        · have z := hb' fun y => (List.mem_cons.mp y).elim c2 c
          cases q : X.s₀.heap.get? b with
          | none => rfl
          | some o =>
            obtain ⟨o', k⟩ := I2.base.there b o q (by rw [hex]; simp)
            rw [up b o' k] at z
            cases z
    exact taken pins σ H' _ ea _ cls dct fl' IX x3 hHe (I1.hok.fresh (Nat.le_refl _)) (s0f ea fe) (Heap.get?_none_of_le (Nat.le_trans I2.sz (Nat.le_trans (by rw [hDe]; exact Nat.le_trans (Nat.le_succ _) (Nat.le_of_eq hsz.symm)) I1.sz))) hE
  have loop : codeAny (model X.prog X.w) X.A (.compLoop (.ListComp elt [⟨tg, iter, [], 0⟩] sc pos) 0 (.ref it) (.ref D) (compEnvC sc (closOf X.env sc.names) G2.objs.size X.env)) (compPost (model X.prog X.w) X.A X.xe none (EP X pins σ Q) (.ref D) G2.objs.size) { s with heap := h₁, toks := s.toks + ([] : List (Str × Value)).length } := by
    refine compLoop_anyX (Fl := Fly (cxC X sc N (closOf X.env sc.names) { s with heap := G2 } H (D :: fp)) E) (hx := fly) (fun k s' => ∃ i ys its c H', k = n - i ∧ Inv (cxC X sc N (closOf X.env sc.names) { s with heap := G2 } H (D :: fp)) [] (capt cap σ) H' s' ∧ tn i s'.heap ∧ (∀ b ∈ D :: fp, H' b = none) ∧
      s'.heap.get? D = some { cls := .type "list", data := .seq (List.toArray its) c } ∧ Vals ys its ∧ ys.length ≤ sizeLine ∧ W i ys H') ?_ (n - 0)
      ⟨0, [], [], 0, H, rfl, I0, T.keep _ _ _ st2 (fun b _ o e => keep1 b o (up b o e)), fun b hb => (hexF b hb).1, keep1 _ _ hD0, .nil, Nat.zero_le _, w0⟩
    rintro k s' ⟨i, ys, its, c, H', rfl, I', st', fr', hD', rv, hyl, w'⟩
    have Ip : Inv (cxC X sc N (closOf X.env sc.names) { s with heap := G2 } H (D :: fp)) [(D, { cls := .type "list", data := .seq (List.toArray its) c })] (capt cap σ) H' s' := I'.pins_of fun p hp => by
      have e : p = (D, { cls := .type "list", data := .seq (List.toArray its) c }) := by simpa using hp
      subst e
      have z := fpY fr' D List.mem_cons_self
      exact ⟨hD', z.1, z.2.1, z.2.2.1, fun v q => by cases q⟩
    have fpP : ∀ {H'' : Hp}, (∀ b ∈ fp, H'' b = none) → ∀ b ∈ fp, FpOk (cxC X sc N (closOf X.env sc.names) { s with heap := G2 } H (D :: fp)) [(D, { cls := .type "list", data := .seq (List.toArray its) c })] H'' b := fun {H''} hn b hb => by
      have z := fpY fr' b (List.mem_cons_of_mem _ hb)
      refine ⟨hn b hb, z.2.1, z.2.2.1, z.2.2.2.1, z.2.2.2.2.1, fun p hp q => ?_⟩
      have e : p = (D, { cls := .type "list", data := .seq (List.toArray its) c }) := by
        have hp' : p ∈ ([] : List (Addr × Obj)) ++ [(D, { cls := .type "list", data := .seq (List.toArray its) c })] := hp
        simpa using hp'
      subst e
      have q' : D = b := q
      exact hDfp (by rw [q']; exact hb)
    have frF : ∀ b ∈ fp, H' b = none := fun b hb => fr' b (List.mem_cons_of_mem _ hb)
    rcases turn i ys H' w' with ⟨stop, q⟩ | ⟨go, hin, hys, step⟩
    · refine thn (T.done (cxC X sc N (closOf X.env sc.names) { s with heap := G2 } H (D :: fp)) rfl rfl rfl hc i _ s' (capt cap σ) H' (fun _ _ => False) Ip (fpP frF) st' stop) fun r s1 ⟨hr, I1⟩ => ?_
      subst hr
      have hDs : s1.heap.get? D = some { cls := .type "list", data := .seq (List.toArray its) c } := (I1.pin (D, { cls := .type "list", data := .seq (List.toArray its) c }) (List.mem_append_right _ List.mem_cons_self)).1
      obtain ⟨m1, hn1, _⟩ := id I1.loc
      have un : Un (frs X.stack) fp H H' s.heap s1.heap := by
        have b0 := I1.base
        have nD : ∀ b o, s.heap.get? b = some o → b ∉ fp → b ∉ D :: fp := fun b o e hx z => (List.mem_cons.mp z).elim (fun q => absurd (Heap.lt_size e) (by rw [q, hDe]; exact Nat.lt_irrefl _)) hx
        exact ⟨fun b o e hn hb hx => b0.keep b o (up b o e) hn hb (nD b o e hx), fun b o e hn hb hx => b0.slot b o (up b o e) hn hb (nD b o e hx), fun b o e hn hx => b0.free b o (up b o e) hn (nD b o e hx), fun b o e hx => b0.there b o (up b o e) (nD b o e hx), b0.tups, b0.frzs, b0.tbls⟩
      have IX : Inv X pins σ H' s1 := I2.call' (ch := fp) I1.os un I1.hok I1.bare fun b hb => ⟨(f2 b hb).2.2.2.1, (f2 b hb).2.1, (f2 b hb).2.2.2.2.1, (f2 b hb).2.2.2.2.2⟩
      have fD : FpOk X pins H' D := I2.fpOk hDfresh (fr' D List.mem_cons_self)
      have IT : Inv X pins σ (upd H' D (.lst ys)) s1 := IX.track fD ⟨hyl, its, c, rv, hDs⟩
      have hCD : G2.objs.size ≠ D := by rw [hsz]; exact Nat.succ_ne_self D
      have fC : FpOk X pins (upd H' D (.lst ys)) G2.objs.size := I2.fpOk (by rw [hsz, hDe]; exact Nat.le_succ _) (by rw [upd_ne hCD]; exact I1.free)
      exact ⟨m1, hn1, fun h' hs' => ⟨.ref D, _, IT.turnedL (t' := s1.toks) [G2.objs.size] (fun b hb => by rw [show b = G2.objs.size by simpa using hb]; exact fC) (fun b o hb e => hs'.extBut b o (by simpa using hb) e), rfl, q D (fr' D List.mem_cons_self)⟩⟩
    · refine thn (T.item (cxC X sc N (closOf X.env sc.names) { s with heap := G2 } H (D :: fp)) rfl rfl rfl hc i _ s' (capt cap σ) H' (fun _ _ => False) Ip (fpP frF) st' go) fun r s1 ⟨u, hr, h4⟩ => ?_
      subst hr
      refine thn h4 fun _ s2 ⟨x, H5, I5, r5, y5, st5, fr5⟩ => ?_
      have I5' := I5.pinned (fpP fr5) (T.obj _ _ st5)
      have back : ∀ {s8 : Shared} {σ6 : St} {H8 : Hp}, Inv (cxC X sc N (closOf X.env sc.names) { s with heap := G2 } H (D :: fp)) ([(D, { cls := .type "list", data := .seq (List.toArray its) c })] ++ pinsAt fp s2.heap) σ6 H8 s8 → kst (capt cap σ) σ6 →
          Inv (cxC X sc N (closOf X.env sc.names) { s with heap := G2 } H (D :: fp)) [] (capt cap σ) H8 s8 ∧ tn (i + 1) s8.heap ∧ (∀ b ∈ D :: fp, H8 b = none) ∧ s8.heap.get? D = some { cls := .type "list", data := .seq (List.toArray its) c } := fun {s8 σ6 H8} I8 ks => by
        have pD := I8.pin (D, { cls := .type "list", data := .seq (List.toArray its) c }) (List.mem_append_right _ (List.mem_append_left _ List.mem_cons_self))
        have pF : ∀ b ∈ fp, ∀ o, s2.heap.get? b = some o → s8.heap.get? b = some o ∧ H8 b = none := fun b hb o e => by
          have z := I8.pin (b, o) (List.mem_append_right _ (List.mem_append_right _ (mem_pinsAt hb e)))
          exact ⟨z.1, z.2.1⟩
        refine ⟨(I8.pins_of fun p hp => absurd hp (by simp)).weak (kst_len ks) fun j v e => kst_get j v ks e, T.keep _ _ _ st5 fun b hb o e => (pF b hb o e).1, fun b hb => ?_, pD.1⟩
        rcases List.mem_cons.mp hb with e | hb
        · rw [e]; exact pD.2.1
        · obtain ⟨o, e, _⟩ := T.obj _ _ st5 b hb
          exact (pF b hb o e).2
      refine thn (hg _ _ _ _ _ s2 (capt cap σ) H5 x u _ I5' r5 (step x H5 y5)) fun _ s6 ⟨σ6, H6, I6, ks, q6⟩ => ?_
      refine wpAny_mono (he _ _ _ _ _ s6 σ6 H6 _ (I6.wish _) q6) (fun v s8 hq8 => ?_) fun _ _ z => z
      obtain ⟨y, H8, I8, r8, q8⟩ := hq8
      have I8 := I8.unwish
      obtain ⟨J8, st8, fr8, hD8⟩ := back I8 ks
      have lenV := rv.length
      refine append_at hD8 (fun h9 hs9 hD9 => ?_) (by rw [List.size_toArray]; omega)
      have fY := fpY fr8
      have J9 := J8.turnedL (t' := s8.toks) (h' := h9) [D] (fun b hb => by
        have e : b = D := by simpa using hb
        rw [e]
        exact fY D List.mem_cons_self) fun b o hb e => hs9.extBut b o (by simpa using hb) e
      refine ⟨n - (i + 1), by omega, i + 1, ys ++ [y], its ++ [v], c + 1, H8, rfl, J9, T.keep _ _ _ st8 fun b hb o e => hs9.extBut b o (fun q => hDfp (q ▸ hb)) e, fr8, by rw [hD9, List.push_toArray], rv.append (.cons r8 .nil), ?_, q8⟩
      rw [List.length_append, List.length_singleton]
      omega
  exact codeAny_compStart_list loop (T.self X.A 0 _ _ _ (T.keep _ _ _ st2 (fun b _ o e => keep1 b o (up b o e))) loop)
theorem pe_compX {E : XK} {tg iter elt : Expr} {sc : Scope} {pos : Pos} {N : List Str} {cap : List (Option Nat)} {wi : TI} {g : TG} {te : TE} (hc : X.calm = true) (C : CompOk X sc N cap) (hF : TakesF X E) (hi : PI X tg iter wi)
    (hg : ∀ cl s₀ H₀ ex, PG (cxC X sc N cl s₀ H₀ ex) tg g) (he : ∀ cl s₀ H₀ ex, PE ((cxC X sc N cl s₀ H₀ ex).wish (Fly (cxC X sc N cl s₀ H₀ ex) E)) elt te)
    (hs : ∀ x, foldedSetIterable iter X.env x = pure x := by intro _; rfl) : PE X (.ListComp elt [⟨tg, iter, [], 0⟩] sc pos) (tComp cap wi g tYes te) := by
  intro pins s σ H Q I h
  rw [eval_ListComp]
  refine wpAny_comprehension_free (use := none) rfl hs (closureFor_own (clos_of I C)) C.kind C.names (thn (hi pins s σ H _ I h) fun xv s1 h1 => thn h1 fun itv s2 h2 => ?_)
  obtain ⟨it, fp, tn, J, H2, e, I2, T, st2, f2, W, n, w0, turn⟩ := h2
  subst e
  exact comp_runX (Q := Q) I2 T st2 f2 hc C hF hg he W n w0 fun i ys H3 w' => (turn i ys H3 w').imp id fun ⟨a, b, c, d⟩ => ⟨a, b, c, d⟩
end
end L2
set_option Elab.async false
set_option linter.all false
set_option maxRecDepth 100000
set_option maxHeartbeats 4000000
namespace My
open PySem L2 PyProof.Rows
seal L2.PSs L2.PS L2.PE L2.PT L2.PW L2.PA L2.PG L2.PGs L2.PI L2.PTs L2.PO L2.OpR L2.UnR L2.CallR L2.IxR L2.SlR
seal L2.PJ L2.PH L2.Takes L2.Raises
def top (i : Nat) : Stmt := PySem.Challenge.pw_truthtoll_k14_whole_pay_by_what_one_gets.main.body.getD i (.Pass ⟨0, 0, 0, 0⟩)
def classBody (s : Stmt) : List Stmt := match s with
  | .ClassDef _ _ _ b _ _ _ _ _ _ _ => b
  | _ => []
abbrev sWithin : Stmt := top 2
abbrev sWithout : Stmt := top 3
abbrev sGood : Stmt := top 63
abbrev sDealW : Stmt := top 61
abbrev sMore : Stmt := top 60
abbrev sAll : Stmt := top 59
abbrev sFirst : Stmt := top 57
abbrev sRow : Stmt := top 55
abbrev sCheck : Stmt := top 53
abbrev sBest : Stmt := top 51
abbrev sLoss : Stmt := top 64
abbrev sPays : Stmt := top 52
abbrev tRow : Stmt := top 19
abbrev tCheck : Stmt := top 17
abbrev tPieces : Stmt := top 21
abbrev tFirst : Stmt := top 22
abbrev tBest : Stmt := top 15
abbrev tPieW : Stmt := top 26
abbrev tDealW : Stmt := top 24
abbrev tLoss : Stmt := top 27
abbrev tPays : Stmt := top 16
abbrev uRoad : Stmt := top 37
abbrev uCheck : Stmt := top 36
abbrev uInit : Stmt := (classBody (top 33)).getD 0 (.Pass ⟨0, 0, 0, 0⟩)
abbrev sAInit : Stmt := (classBody (top 10)).getD 0 (.Pass ⟨0, 0, 0, 0⟩)
abbrev uJoins : Stmt := top 43
abbrev uWith : Stmt := top 44
abbrev uTrees : Stmt := top 42
abbrev uOn : Stmt := top 41
abbrev uWays : Stmt := top 40
abbrev uCosts : Stmt := top 38
abbrev uChoices : Stmt := top 39
abbrev uCost : Stmt := top 46
abbrev uCheap : Stmt := top 45
abbrev uBest : Stmt := top 34
abbrev uOwner : Stmt := top 47
abbrev uGets : Stmt := top 35
abbrev sCell : Stmt := top 67
abbrev sMix : Stmt := top 68
abbrev sWorths : Stmt := top 69
abbrev sSize : Stmt := top 70
abbrev sHeap : Stmt := top 71
abbrev sHeapSize : Stmt := top 72
abbrev sWebBy : Stmt := top 73
abbrev sCostsBy : Stmt := top 74
abbrev sKindBy : Stmt := top 75
abbrev sShelf : Stmt := top 76
abbrev sPile : Stmt := top 77
abbrev sGets : Stmt := top 78
abbrev sLaw : Stmt := top 79
abbrev nRow : Str := "check_row_shelf"
abbrev nCheck : Str := "check_worths_shelf"
abbrev nFirst : Str := "first_best_shelf"
abbrev nDealW : Str := "dealing_worth_shelf"
abbrev nLoss : Str := "loss_of_others_shelf"
abbrev nMostP : Str := "MOST_PEOPLE_shelf"
abbrev pRow : Str := "check_row_pile"
abbrev pCheck : Str := "check_worths_pile"
abbrev pFirst : Str := "first_best_pile"
abbrev pDealW : Str := "dealing_worth_pile"
abbrev pLoss : Str := "loss_of_others_pile"
abbrev pMostP : Str := "MOST_PEOPLE_pile"
def spWithin : Sp := fun vs H Q _ => ∃ n : Int, vs = [.int n] ∧ Q (.bl (decide (0 ≤ n ∧ n ≤ 1000))) H
section
variable {P : Program} {w : World} {K : PySem.W.Frag} {mg : Str → Option Value} {base : Heap}
theorem scWithin : FnScope ["told"] ["told"] (defScope sWithin) := ⟨rfl, rfl, rfl, by decide +kernel, rfl, by decide +kernel, by decide +kernel⟩
theorem ok_within {f : Addr} {fd : FuncData} {tT : Tok} (F : Fun K "within_bounds" "within_bounds" sWithin f fd) (mT : mg "MOST_TOLD" = some (.int 1000 tT)) : FnOk P w K mg base CX0 1 f fd ["told"] spWithin := by
  refine F.ok scWithin (fun vs H Q E h => ?_) (fun cdv A outer s H vs Q E hr h => ?_)
  · obtain ⟨_, rfl, _⟩ := h
    rfl
  obtain ⟨n, rfl, q⟩ := h
  refine ⟨_, pss_one (ps_ret (pe_chain op_le op_le pe_int (pv 0) (pe_glob (v := .int 1000) rfl mT ⟨_, rfl⟩))), ?_⟩
  refine ⟨_, rfl, _, _, rfl, rfl, _, rfl, ?_⟩
  refine dec2 (fun c => ?_) (fun c => ?_)
  · refine ⟨_, _, rfl, rfl, ?_⟩
    rw [show decide (0 ≤ n ∧ n ≤ 1000) = decide (n ≤ 1000) by simp [c]] at q
    exact q
  · rw [show decide (0 ≤ n ∧ n ≤ 1000) = false from decide_eq_false fun z => c z.1] at q
    exact q
end
def spGood : Sp := fun vs H Q _ => ∃ (r : Addr) (g : Int) (row : List Int), vs = [.ref r, .int g] ∧ IL H r row ∧ okG row g ∧ Q (.int (goodW row g)) H
def spDealW : Sp := fun vs H Q _ => ∃ (w d : Addr) (ws : List (List Int)) (ds : List Int), vs = [.ref w, .ref d] ∧ ILL H w ws ∧ IL H d ds ∧ ws.length ≤ 1000 ∧ (∀ (i : Nat) row g, ws[i]? = some row → ds[i]? = some g → okG row g) ∧
  ∀ H', Same H H' → Q (.int (dealW ws ds)) H'
def spMore : Sp := fun vs H Q _ => ∃ (d : Addr) (ds : List Int) (goods : Int), vs = [.ref d, .int goods] ∧ IL H d ds ∧ ds.length ≤ 10 ∧ 0 ≤ goods ∧ goods ≤ 4 ∧ ∀ r H', Same H H' → ILLn H H' r (moreD goods ds) → Q (.ref r) H'
def spAll : Sp := fun vs H Q _ => ∃ (people goods : Int), vs = [.int people, .int goods] ∧ 0 ≤ people ∧ people ≤ 4 ∧ 0 ≤ goods ∧ goods ≤ 4 ∧ ∀ r H', Same H H' → ILLn H H' r (allD goods people.toNat) → Q (.ref r) H'
def spFirst : Sp := fun vs H Q _ => ∃ (w : Addr) (ws : List (List Int)) (goods : Int), vs = [.ref w, .int goods] ∧ ILL H w ws ∧ ws.length ≤ 4 ∧ 0 ≤ goods ∧ goods ≤ 4 ∧ okW goods ws ∧
  ∀ r d H', Same H H' → H r = none → H d = none → H' r = some (.tup [.int (best ws goods).1, .ref d]) → IL H' d (best ws goods).2 → Q (.ref r) H'
def spRow : Sp := fun vs H Q _ => ∃ (r : Addr) (row : List Int) (goods : Int), vs = [.ref r, .int goods] ∧ IL H r row ∧ (row.length : Int) = goods ∧ (∀ v ∈ row, 0 ≤ v ∧ v ≤ 1000) ∧ Q .non H
def spCheck : Sp := fun vs H Q _ => ∃ (w : Addr) (ws : List (List Int)) (goods : Int), vs = [.ref w] ∧ ILL H w ws ∧ 1 ≤ ws.length ∧ ws.length ≤ 4 ∧ 1 ≤ goods ∧ goods ≤ 4 ∧ okW goods ws ∧ Q .non H
def spBest : Sp := fun vs H Q _ => ∃ (w : Addr) (ws : List (List Int)) (goods : Int), vs = [.ref w] ∧ ILL H w ws ∧ 1 ≤ ws.length ∧ ws.length ≤ 4 ∧ 1 ≤ goods ∧ goods ≤ 4 ∧ okW goods ws ∧
  ∀ r d H', Same H H' → H r = none → H d = none → H' r = some (.tup [.int (best ws goods).1, .ref d]) → IL H' d (best ws goods).2 → Q (.ref r) H'
section
variable {P : Program} {w : World} {K : PySem.W.Frag} {mg : Str → Option Value} {base : Heap}
theorem scGood : FnScope ["row", "good"] ["row", "good"] (defScope sGood) := ⟨rfl, rfl, rfl, by decide +kernel, rfl, by decide +kernel, by decide +kernel⟩
theorem ok_good {f : Addr} {fd : FuncData} (F : Fun K "good_worth" "good_worth" sGood f fd) : FnOk P w K mg base CX0 1 f fd ["row", "good"] spGood := by
  refine F.ok scGood (fun vs H Q E h => ?_) (fun cdv A outer s H vs Q E hr h => ?_)
  · obtain ⟨r, g, row, rfl, _⟩ := h
    rfl
  obtain ⟨r, g, row, rfl, hR, hg, q⟩ := h
  refine ⟨_, pss_cons (ps_if (pt_cmpR op_eq (pv 1) (pe_un un_neg pe_int) (nomark _)) (pss_one (ps_ret pe_int)) pss_nil)
    (pss_one (ps_ret (pe_ix ix_list (pv 0) (pv 1) (fun _ _ => rfl)))), ?_⟩
  refine ⟨_, rfl, _, rfl, rfl, _, rfl, ?_⟩
  refine dec2 (fun c => ?_) (fun c => ?_)
  · have e : g = -1 := by injection c
    subst e
    exact q
  · have e : g ≠ -1 := fun z => c (by rw [z])
    have hg' : 0 ≤ g ∧ g < (row.length : Int) := hg.resolve_left e
    obtain ⟨v, hv, hv2⟩ := atI_of (xs := row.map V.int) hg'.1 (by rw [List.length_map]; exact hg'.2)
    obtain ⟨n, hn, rfl⟩ := map_int_get hv2
    have eq : goodW row g = n := by
      unfold goodW
      rw [if_neg e, List.getD_eq_getElem?_getD, hn]
      rfl
    rw [eq] at q
    exact ⟨_, rfl, _, rfl, r, _, g, _, rfl, rfl, SqL.of hR, hv, q⟩
theorem scDealW : FnScope ["worths", "dealing"] ["worths", "dealing"] (defScope sDealW) := ⟨rfl, rfl, rfl, by decide +kernel, rfl, by decide +kernel, by decide +kernel⟩
theorem ok_dealW {f f1 : Addr} {fd fd1 : FuncData} (F : Fun K "dealing_worth" "dealing_worth" sDealW f fd) (G : FnOk P w K mg base CX0 1 f1 fd1 ["row", "good"] spGood) (b1 : Binds K fd1 ["row", "good"] []) (k1 : PySem.W.keepIn K (.ref f1) = true) (m1 : mg "good_worth" = some (.ref f1))
    (ms : mg "sum" = none) (mz : mg "zip" = none) : FnOk P w K mg base CX0 2 f fd ["worths", "dealing"] spDealW := by
  refine F.ok scDealW (fun vs H Q E h => ?_) (fun cdv A outer s H vs Q E hr h => ?_)
  · obtain ⟨_, _, _, _, rfl, _⟩ := h
    rfl
  obtain ⟨wa, da, ws, ds, rfl, hW, hD, hlen, hok, q⟩ := h
  refine ⟨_, pss_one (ps_ret (pe_callB (call_sum rfl) rfl ms boot_sum (pa_cons (pe_comp (N := ["row", "good"]) (cap := [none, none]) rfl (compOk_of (by rfl)) (pi_zip rfl mz (pa_cons (pv 0) (pa_cons (pv 1) pa_nil)))
    (fun _ _ _ _ => pg_tupK K (n := 2) rfl rfl (pgs_cons (pg_name (i := 0) (nd2 (by decide +kernel)) rfl (Or.inl rfl)) (pgs_cons (pg_name (i := 1) (nd2 (by decide +kernel)) rfl (Or.inl rfl)) pgs_nil))) (fun _ _ _ _ => pts_nil)
    (fun _ _ _ _ => pe_call G hr rfl m1 k1 b1 .nil pass0 (pa_cons (pv 0) (pa_cons (pv 1) pa_nil)))) pa_nil))), ?_⟩
  obtain ⟨as, hw, hp⟩ := hW
  have hpl := hp.length
  refine ⟨_, rfl, _, rfl, wa, da, rfl, ⟨_, SqL.of hw⟩, ⟨_, SqL.of hD⟩, ?_⟩
  refine comp_zip (K := K) (xs := as.map V.ref) (ys := ds.map V.int) (fun i zs H' => Same H H' ∧ zs = ((ws.zip ds).take i).map fun p => V.int (goodW p.1 p.2)) ⟨Same.refl _, rfl⟩ (by rw [List.length_map, hpl]; exact small hlen)
    (fun i zs H' ⟨s1, e⟩ => ⟨SqL.of (s1 _ _ hw), SqL.of (s1 _ _ hD), by rw [e, List.length_map, List.length_take]; omega⟩) ?_ ?_
  · rintro i x y zs H1 p hx hy ⟨s1, e⟩ hp1
    obtain ⟨a, ha, rfl⟩ := map_ref_get hx
    obtain ⟨g, hg, rfl⟩ := map_int_get hy
    obtain ⟨row, hrow, hA⟩ := pget hp ha
    have s2 : Same H (upd H1 p (.tup [.ref a, .int g])) := s1.trans (same_new hp1 _)
    refine ⟨p, _, rfl, SqT.of upd_same, rfl, _, _, rfl, _, _, rfl, rfl, ⟨.inl rfl, .inl rfl, trivial⟩, ?_⟩
    refine ⟨_, rfl, _, rfl, a, g, row, rfl, hA.mono s2, hok i row g hrow hg, s2, ?_⟩
    have hz : (ws.zip ds)[i]? = some (row, g) := by rw [List.getElem?_zip_eq_some]; exact ⟨hrow, hg⟩
    rw [e, take_snoc hz, List.map_append]
    rfl
  · rintro zs H1 ⟨s1, e⟩ p hp1
    refine ⟨p, (ws.zip ds).map fun p => goodW p.1 p.2, rfl, SqL.of (by rw [upd_same, e, List.length_map, List.length_map, hpl, ← List.length_zip, List.take_length, List.map_map]; rfl), ?_⟩
    exact q _ (s1.trans (same_new hp1 _))
theorem scMore : FnScope ["dealing", "goods", "free"] ["dealing", "goods"] (defScope sMore) := ⟨rfl, rfl, rfl, by decide +kernel, rfl, by decide +kernel, by decide +kernel⟩
theorem ok_more {f : Addr} {fd : FuncData} (F : Fun K "dealings_with_one_more" "dealings_with_one_more" sMore f fd) (mr : mg "range" = none) : FnOk P w K mg base CX0 1 f fd ["dealing", "goods"] spMore := by
  refine F.ok scMore (fun vs H Q E h => ?_) (fun cdv A outer s H vs Q E hr h => ?_)
  · obtain ⟨_, _, _, rfl, _⟩ := h
    rfl
  obtain ⟨da, ds, goods, rfl, hD, hlen, g0, g4, q⟩ := h
  refine ⟨_, pss_cons (ps_setC (i := 2) (N := ["good", "dealing"]) (cap := [none, some 0]) scMore.nd rfl (Or.inl rfl) rfl (compOk_of (by rfl)) (pi_range1 rfl mr (pa_cons (pv 1) pa_nil))
      (fun _ _ _ _ => pg_name (i := 0) (nd2 (by decide +kernel)) rfl (Or.inl rfl)) (fun _ _ _ _ => pts_one (pt_cmpR (op_notInK K rfl) (pv 0) (pv 1) (by rfl))) (fun _ _ _ _ => pv 0))
    (pss_one (ps_ret (pe_comp (N := ["good", "dealing"]) (cap := [none, some 0]) rfl (compOk_of (by rfl)) (pi_list (pe_op op_cat (pe_lst (pa_cons (pe_un un_neg pe_int) pa_nil)) (pv 2)))
      (fun _ _ _ _ => pg_name (i := 0) (nd2 (by decide +kernel)) rfl (Or.inl rfl)) (fun _ _ _ _ => pts_nil) (fun _ _ _ _ => pe_op op_cat (pv 1) (pe_lst (pa_cons (pv 0) pa_nil)))))), ?_⟩
  refine ⟨_, rfl, goods, rfl, by omega, by omega, ?_⟩
  -- free
  refine comp_range (fun i zs H' => H' = H ∧ zs = ((rangeI 0 i).filter (fun g => !decide (g ∈ ds))).map V.int) ⟨rfl, rfl⟩ (small (by omega)) (fun i zs H' _ h => ?_) ?_ ?_
  · rw [h.2, List.length_map]
    have z := List.length_filter_le (fun g => !decide (g ∈ ds)) (rangeI 0 i)
    rwa [rangeI_len] at z
  · rintro i zs H1 hi ⟨rfl, e⟩
    refine ⟨⟨.inl rfl, .inr rfl, trivial⟩, ?_⟩
    refine ⟨_, rfl, _, rfl, da, _, rfl, .inl (SqL.of hD), rfl, flat_ints ds, _, rfl, ?_⟩
    rw [if_pos rfl, inV_int]
    refine ite2 (fun c => ?_) (fun c => ?_)
    · have c' : (!decide ((0 : Int) + (i : Int) ∈ ds)) = true := c
      refine ⟨_, rfl, rfl, ?_⟩
      rw [e, rangeI_succ, List.filter_append, List.map_append, List.filter_cons, if_pos c']
      rfl
    · have c' : ¬ (!decide ((0 : Int) + (i : Int) ∈ ds)) = true := c
      refine ⟨rfl, ?_⟩
      rw [e, rangeI_succ, List.filter_append, List.map_append, List.filter_cons, if_neg c']
      simp
  rintro zs H1 ⟨rfl, e⟩ p hp
  -- [-1] + free
  have s1 : Same H1 (upd H1 p (.lst zs)) := same_new hp _
  refine ⟨_, rfl, (by show 1 ≤ sizeLine; decide), fun l hl => ?_⟩
  have s2 : Same (upd H1 p (.lst zs)) (upd (upd H1 p (.lst zs)) l (.lst [.int (-1)])) := same_new hl _
  have hzl : zs.length ≤ 4 := by
    rw [e, List.length_map]
    have z := List.length_filter_le (fun g => !decide (g ∈ ds)) (rangeI 0 (goods.toNat))
    rw [rangeI_len] at z
    omega
  refine ⟨_, rfl, l, p, _, zs, rfl, rfl, upd_same, s2 _ _ upd_same, (by show 1 + zs.length ≤ sizeLine; exact small (by omega)), fun m hm => ?_⟩
  have s23 : Same H1 (upd (upd H1 p (.lst zs)) l (.lst [.int (-1)])) := s1.trans s2
  have s3 : Same H1 (upd (upd (upd H1 p (.lst zs)) l (.lst [.int (-1)])) m (.lst ([.int (-1)] ++ zs))) := s23.trans (same_new hm _)
  have eF : ([.int (-1)] ++ zs : List V) = (freeG ds goods).map V.int := by
    rw [e]
    rfl
  refine ⟨m, rfl, ⟨_, SqL.of upd_same⟩, ?_⟩
  refine comp_list (K := K) (a := m) (xs := (freeG ds goods).map V.int) (fun i zs' H' => ∃ as : List Addr, zs' = as.map V.ref ∧ Paired (IL H') as (((freeG ds goods).take i).map fun g => ds ++ [g]) ∧ (∀ b ∈ as, H1 b = none) ∧ Same H1 H' ∧ H' m = some (.lst ((freeG ds goods).map V.int)))
    ⟨[], rfl, .nil, (fun b hb => nomatch hb), s3, upd_same.trans (congrArg (fun l => some (HO.lst l)) eF)⟩ (by rw [List.length_map]; have z := len_freeG ds goods; exact small (by omega)) (fun i zs' H' hi ⟨as, e1, e2, e3, e4, e5⟩ => ⟨SqL.of e5, ?_⟩) ?_ ?_
  · have z := e2.length
    rw [List.length_map, List.length_take] at z
    rw [e1, List.length_map, z]
    exact Nat.min_le_left _ _
  · rintro i x zs' H' hx ⟨as, e1, e2, e3, e4, e5⟩
    obtain ⟨g, hg, rfl⟩ := map_int_get hx
    refine ⟨⟨.inl rfl, .inr rfl, trivial⟩, ?_⟩
    refine ⟨_, rfl, _, rfl, (by show 1 ≤ sizeLine; decide), fun l2 hl2 => ?_⟩
    have s5 : Same H' (upd H' l2 (.lst [.int g])) := same_new hl2 _
    refine ⟨da, l2, ds.map V.int, [.int g], rfl, rfl, s5 _ _ (e4 _ _ hD), upd_same, (by rw [List.length_map]; show ds.length + 1 ≤ sizeLine; exact small (by omega)), fun r hr2 => ?_⟩
    have s6 : Same H' (upd (upd H' l2 (.lst [.int g])) r (.lst (ds.map V.int ++ [.int g]))) := s5.trans (same_new hr2 _)
    refine ⟨as ++ [r], by rw [e1, List.map_append]; rfl, ?_, fun b hb => ?_, e4.trans s6, s6 _ _ e5⟩
    · rw [take_snoc hg, List.map_append]
      refine papp (pmono s6 e2) (.cons ?_ .nil)
      show upd _ r _ r = _
      rw [upd_same, List.map_append]
      rfl
    · rcases List.mem_append.mp hb with hb | hb
      · exact e3 b hb
      · rw [List.mem_singleton.mp hb]
        exact (e4.trans s5).free hr2
  · rintro zs' H' ⟨as, e1, e2, e3, e4, e5⟩ p2 hp2
    rw [List.length_map, List.take_length] at e2
    have s7 : Same H' (upd H' p2 (.lst zs')) := same_new hp2 _
    exact q p2 _ (e4.trans s7) ⟨e4.free hp2, as, by rw [upd_same, e1], pmono s7 e2, e3⟩
theorem scAll : FnScope ["people", "goods", "dealings", "person", "longer", "dealing"] ["people", "goods"] (defScope sAll) := ⟨rfl, rfl, rfl, by decide +kernel, rfl, by decide +kernel, by decide +kernel⟩
theorem ok_all {f f1 : Addr} {fd fd1 : FuncData} (F : Fun K "all_dealings" "all_dealings" sAll f fd) (G : FnOk P w K mg base CX0 1 f1 fd1 ["dealing", "goods"] spMore) (b1 : Binds K fd1 ["dealing", "goods"] []) (k1 : PySem.W.keepIn K (.ref f1) = true) (m1 : mg "dealings_with_one_more" = some (.ref f1))
    (mr : mg "range" = none) : FnOk P w K mg base CX0 2 f fd ["people", "goods"] spAll := by
  refine F.ok scAll (fun vs H Q E h => ?_) (fun cdv A outer s H vs Q E hr h => ?_)
  · obtain ⟨_, _, rfl, _⟩ := h
    rfl
  obtain ⟨people, goods, rfl, p0, p4, g0, g4, q⟩ := h
  refine ⟨_, pss_cons (ps_set (i := 2) scAll.nd rfl (Or.inl rfl) (pe_lst (pa_cons (pe_lst pa_nil) pa_nil)))
    (pss_cons (ps_for PassesOwn.never rfl (pi_range1 rfl mr (pa_cons (pv 0) pa_nil)) (pg_name (i := 3) scAll.nd rfl (Or.inl rfl))
      (pss_cons (ps_set (i := 4) scAll.nd rfl (Or.inl rfl) (pe_lst pa_nil))
      (pss_cons (ps_for PassesOwn.never rfl (pi_list (pv 2)) (pg_name (i := 5) scAll.nd rfl (Or.inl rfl))
        (pss_one (ps_expr (pe_bm PySem.F.plainAttrs_list PySem.F.slot_list_extend PySem.F.type_list_extend mt_extend (pv 4) (pa_cons (pe_call G hr rfl m1 k1 b1 .nil pass0 (pa_cons (pv 5) (pa_cons (pv 1) pa_nil))) pa_nil)))))
      (pss_one (ps_set (i := 2) scAll.nd rfl (Or.inl rfl) (pv 4))))))
    (pss_one (ps_ret (pv 2)))), ?_⟩
  refine ⟨(by show 0 ≤ sizeLine; decide), fun e0 he0 => ?_⟩
  refine ⟨(by show 1 ≤ sizeLine; decide), fun a0 ha0 => ?_⟩
  have s1 : Same H (upd H e0 (.lst [])) := same_new he0 _
  have s2 : Same (upd H e0 (.lst [])) (upd (upd H e0 (.lst [])) a0 (.lst [.ref e0])) := same_new ha0 _
  refine ⟨_, rfl, people, rfl, by omega, by omega, ?_⟩
  refine for_range (fun i σ H' => ∃ (a : Addr) (v3 v4 v5 : Option V), σ = [some (.int people), some (.int goods), some (.ref a), v3, v4, v5] ∧ Same H H' ∧ ILLn H H' a (allD goods i))
    ⟨a0, none, none, none, rfl, s1.trans s2, s1.free ha0, [e0], upd_same, .cons (s2 _ _ upd_same) .nil, fun b hb => by rw [List.mem_singleton.mp hb]; exact he0⟩ ?_ ?_
  · rintro i σ H1 hi ⟨a, v3, v4, v5, rfl, sH, h0, as, ha, hp, hf⟩
    refine ⟨(by show 0 ≤ sizeLine; decide), fun l hl => ?_⟩
    have t1 : Same H1 (upd H1 l (.lst [])) := same_new hl _
    have hlH : H l = none := sH.free hl
    have hpl := hp.length
    have hbig : ∀ n, n ≤ 4 → (allD goods n).length ≤ 625 := fun n hn => by
      have z := len_allD g4 n
      have z2 : 5 ^ n ≤ 5 ^ 4 := Nat.pow_le_pow_right (by decide) hn
      omega
    refine ⟨_, rfl, a, rfl, ⟨_, SqL.of (t1 _ _ ha)⟩, ?_⟩
    refine for_list (K := K) (a := a) (xs := as.map V.ref) (fun j σ H2 => ∃ (v5 : Option V) (bs : List Addr), σ = [some (.int people), some (.int goods), some (.ref a), some (.int (0 + (i : Int))), some (.ref l), v5] ∧ Same H1 H2 ∧ H2 l = some (.lst (bs.map V.ref)) ∧
        Paired (IL H2) bs (((allD goods i).take j).flatMap (moreD goods)) ∧ ∀ b ∈ bs, b ≠ l ∧ H b = none)
      ⟨v5, [], rfl, t1, upd_same, .nil, (fun b hb => nomatch hb)⟩ (fun j σ H2 _ ⟨_, _, _, s3, _⟩ => SqL.of (s3 _ _ ha)) ?_ ?_
    · rintro j x σ H2 hx ⟨v5, bs, rfl, s3, hl2, hp2, hf2⟩
      obtain ⟨d, hd, rfl⟩ := map_ref_get hx
      obtain ⟨ds, hds, hD⟩ := pget hp hd
      have hdm : ds ∈ allD goods i := List.mem_of_getElem? hds
      have hdl : ds.length = i := (mem_allD.mp hdm).1
      refine ⟨_, rfl, .inl ⟨rfl, _, SqL.of hl2⟩, ?_⟩
      refine ⟨_, rfl, _, rfl, d, ds, goods, rfl, hD.mono s3, by omega, g0, g4, fun r H3 s4 hn => ?_⟩
      obtain ⟨hr0, cs, hr, hp3, hf3⟩ := hn
      have lne : ∀ b ∈ cs, b ≠ l := fun b hb e => by
        have z := hf3 b hb
        rw [e, hl2] at z
        cases z
      have l2 := hp2.length
      have l3 := hp3.length
      have lenB : bs.length ≤ 3125 := by
        rw [l2]
        have z := len_flatMap (moreD goods) 5 (fun a => by have := len_moreD goods a; omega) ((allD goods i).take j)
        have z2 := hbig i (by omega)
        rw [List.length_take] at z
        have z3 : min j (allD goods i).length * 5 ≤ 625 * 5 := Nat.mul_le_mul_right 5 (by omega)
        omega
      have lenC : cs.length ≤ 5 := by
        rw [l3]
        have := len_moreD goods ds
        omega
      refine ⟨l, r, _, _, rfl, rfl, s4 _ _ hl2, hr, (by rw [List.length_map, List.length_map]; exact Nat.le_trans (by omega) (show 4000 ≤ sizeLine by decide)), ?_⟩
      have s5 : Same H1 (upd H3 l (.lst (bs.map V.ref ++ cs.map V.ref))) := same_upd (s3.trans s4) hl _
      refine ⟨some (.ref d), bs ++ cs, rfl, s5, by rw [upd_same, List.map_append], ?_, fun b hb => ?_⟩
      · rw [take_snoc hds, List.flatMap_append, List.flatMap_cons, List.flatMap_nil, List.append_nil]
        refine papp (pimp hp2 fun b hb ns z => ?_) (pimp hp3 fun b hb ns z => ?_)
        · show upd _ l _ b = _
          rw [upd_ne (hf2 b hb).1]
          exact s4 _ _ z
        · show upd _ l _ b = _
          rw [upd_ne (lne b hb)]
          exact z
      · rcases List.mem_append.mp hb with hb | hb
        · exact hf2 b hb
        · exact ⟨lne b hb, (sH.trans s3).free (hf3 b hb)⟩
    · rintro σ H2 ⟨v5, bs, rfl, s3, hl2, hp2, hf2⟩
      rw [List.length_map, hpl, List.take_length] at hp2
      refine ⟨_, rfl, ?_⟩
      exact ⟨l, some (.int (0 + (i : Int))), some (.ref l), v5, rfl, sH.trans s3, hlH, bs, hl2, hp2, fun b hb => (hf2 b hb).2⟩
  · rintro σ H1 ⟨a, v3, v4, v5, rfl, sH, hn⟩
    exact ⟨_, rfl, q a H1 sH hn⟩
theorem deal_ok {goods : Int} {ws : List (List Int)} {ds : List Int} (h : okW goods ws) (hd : okD goods ds) : ∀ (i : Nat) row g, ws[i]? = some row → ds[i]? = some g → okG row g := fun i row g h1 h2 => by
  have z := (h row (List.mem_of_getElem? h1)).1
  rcases hd g (List.mem_of_getElem? h2) with e | ⟨e1, e2⟩
  · exact .inl e
  · exact .inr ⟨e1, by omega⟩
theorem scFirst : FnScope ["worths", "goods", "greatest", "best", "dealing", "worth"] ["worths", "goods"] (defScope sFirst) := ⟨rfl, rfl, rfl, by decide +kernel, rfl, by decide +kernel, by decide +kernel⟩
theorem ok_first {f f1 f2 : Addr} {fd fd1 fd2 : FuncData} (F : Fun K "first_best" "first_best" sFirst f fd) (G1 : FnOk P w K mg base CX0 2 f1 fd1 ["people", "goods"] spAll) (b1 : Binds K fd1 ["people", "goods"] []) (k1 : PySem.W.keepIn K (.ref f1) = true) (m1 : mg "all_dealings" = some (.ref f1))
    (G2 : FnOk P w K mg base CX0 2 f2 fd2 ["worths", "dealing"] spDealW) (b2 : Binds K fd2 ["worths", "dealing"] []) (k2 : PySem.W.keepIn K (.ref f2) = true) (m2 : mg nDealW = some (.ref f2)) (ml : mg "len" = none) : FnOk P w K mg base CX0 3 f fd ["worths", "goods"] spFirst := by
  refine F.ok scFirst (fun vs H Q E h => ?_) (fun cdv A outer s H vs Q E hr h => ?_)
  · obtain ⟨_, _, _, rfl, _⟩ := h
    rfl
  obtain ⟨wa, ws, goods, rfl, hW, hl, g0, g4, hok, q⟩ := h
  refine ⟨_, pss_cons (ps_set (i := 2) scFirst.nd rfl (Or.inl rfl) (pe_un un_neg pe_int))
    (pss_cons (ps_set (i := 3) scFirst.nd rfl (Or.inl rfl) (pe_lst pa_nil))
    (pss_cons (ps_for PassesOwn.never rfl (pi_list (pe_call G1 hr rfl m1 k1 b1 .nil pass0 (pa_cons (pe_callB call_len_seq rfl ml PySem.boot_len (pa_cons (pv 0) pa_nil)) (pa_cons (pv 1) pa_nil)))) (pg_name (i := 4) scFirst.nd rfl (Or.inl rfl))
      (pss_cons (ps_set (i := 5) scFirst.nd rfl (Or.inl rfl) (pe_call G2 hr rfl m2 k2 b2 .nil pass0 (pa_cons (pv 0) (pa_cons (pv 4) pa_nil))))
      (pss_one (ps_if (pt_cmpR op_gt (pv 5) (pv 2) (nomark _)) (pss_cons (ps_set (i := 2) scFirst.nd rfl (Or.inl rfl) (pv 5)) (pss_one (ps_set (i := 3) scFirst.nd rfl (Or.inl rfl) (pv 4)))) pss_nil))))
    (pss_one (ps_ret (pe_tup (pa_cons (pv 2) (pa_cons (pv 3) pa_nil))))))), ?_⟩
  refine ⟨_, rfl, (by show 0 ≤ sizeLine; decide), fun e0 he0 => ?_⟩
  have s1 : Same H (upd H e0 (.lst [])) := same_new he0 _
  obtain ⟨as, hw, hp⟩ := hW
  have hpl := hp.length
  refine ⟨_, rfl, wa, _, rfl, .inl (SqL.of (s1 _ _ hw)), _, rfl, ?_⟩
  refine ⟨((as.map V.ref).length : Int), goods, rfl, by omega, by rw [List.length_map]; omega, g0, g4, fun r H1 s2 hn => ?_⟩
  obtain ⟨hr0, ls, hr1, hpD, hf⟩ := hn
  rw [List.length_map, hpl, Int.toNat_natCast] at hpD
  have sH : Same H H1 := s1.trans s2
  have hplD := hpD.length
  refine ⟨r, rfl, ⟨_, SqL.of hr1⟩, ?_⟩
  refine for_list (K := K) (a := r) (xs := ls.map V.ref) (fun i σ H2 => ∃ (b : Int × List Int) (d : Addr) (v4 v5 : Option V), σ = [some (.ref wa), some (.int goods), some (.int b.1), some (.ref d), v4, v5] ∧ b = ((allD goods ws.length).take i).foldl (stepB ws) (-1, []) ∧ Same H1 H2 ∧ IL H2 d b.2 ∧ H d = none)
    ⟨(-1, []), e0, none, none, rfl, rfl, Same.refl _, s2 _ _ upd_same, he0⟩ (fun j σ H2 _ ⟨_, _, _, _, _, _, s3, _⟩ => SqL.of (s3 _ _ hr1)) ?_ ?_
  · rintro i x σ H2 hx ⟨b, d, v4, v5, rfl, hb, s3, hd, hdn⟩
    obtain ⟨c, hc, rfl⟩ := map_ref_get hx
    obtain ⟨ds, hds, hD⟩ := pget hpD hc
    have hdm : ds ∈ allD goods ws.length := List.mem_of_getElem? hds
    have hdd := (mem_allD.mp hdm).2
    refine ⟨_, rfl, _, rfl, wa, c, ws, ds, rfl, ILL.mono (sH.trans s3) ⟨as, hw, hp⟩, hD.mono s3, by omega, deal_ok hok hdd.1, fun H3 s4 => ?_⟩
    refine ⟨_, rfl, _, rfl, _, _, rfl, rfl, _, rfl, ?_⟩
    have hstep : ((allD goods ws.length).take (i + 1)).foldl (stepB ws) (-1, []) = stepB ws b ds := by rw [take_snoc hds, List.foldl_append, ← hb]; rfl
    refine dec2 (fun cc => ?_) (fun cc => ?_)
    · refine ⟨_, rfl, _, rfl, ?_⟩
      refine ⟨(dealW ws ds, ds), c, _, _, rfl, ?_, s3.trans s4, (hD.mono s3).mono s4, ?_⟩
      · rw [hstep]
        unfold stepB
        rw [if_pos cc]
      · exact s1.free (hf c (List.mem_of_getElem? hc))
    · refine ⟨b, d, _, _, rfl, ?_, s3.trans s4, hd.mono s4, hdn⟩
      rw [hstep]
      unfold stepB
      rw [if_neg cc]
  · rintro σ H2 ⟨b, d, v4, v5, rfl, hb, s3, hd, hdn⟩
    rw [List.length_map, hplD, List.take_length] at hb
    have eb : b = best ws goods := hb
    subst eb
    refine ⟨_, rfl, _, rfl, (by show 2 ≤ sizeLine; decide), fun p hp => ?_⟩
    have s5 : Same H2 (upd H2 p (.tup [.int (best ws goods).1, .ref d])) := same_new hp _
    exact q p d _ (sH.trans (s3.trans s5)) ((sH.trans s3).free hp) hdn upd_same (hd.mono s5)
theorem scRow : FnScope ["row", "goods", "worth"] ["row", "goods"] (defScope sRow) := ⟨rfl, rfl, rfl, by decide +kernel, rfl, by decide +kernel, by decide +kernel⟩
theorem ok_row {f f0 : Addr} {fd fd0 : FuncData} (F : Fun K "check_row" "check_row" sRow f fd) (G0 : FnOk P w K mg base CX0 1 f0 fd0 ["told"] spWithin) (b0 : Binds K fd0 ["told"] []) (k0 : PySem.W.keepIn K (.ref f0) = true) (m0 : mg "within_bounds" = some (.ref f0)) (ml : mg "len" = none) : FnOk P w K mg base CX0 2 f fd ["row", "goods"] spRow := by
  refine F.ok scRow (fun vs H Q E h => ?_) (fun cdv A outer s H vs Q E hr h => ?_)
  · obtain ⟨_, _, _, rfl, _⟩ := h
    rfl
  obtain ⟨r, row, goods, rfl, hR, hl, hv, q⟩ := h
  refine ⟨_, pss_cons (ps_if (pt_cmpR op_ne (pe_callB call_len_seq rfl ml PySem.boot_len (pa_cons (pv 0) pa_nil)) (pv 1) (nomark _)) pss_never pss_nil)
    (pss_one (ps_for PassesOwn.never rfl (pi_list (pv 0)) (pg_name (i := 2) scRow.nd rfl (Or.inl rfl))
      (pss_one (ps_if (pt_not (pt_val (pe_call G0 hr rfl m0 k0 b0 .nil pass0 (pa_cons (pv 2) pa_nil)))) pss_never pss_nil)))), ?_⟩
  refine ⟨_, rfl, r, _, rfl, .inl (SqL.of hR), _, rfl, rfl, _, rfl, ?_⟩
  refine ndecF (by rw [List.length_map, hl]) ?_
  refine ⟨_, rfl, r, rfl, ⟨_, SqL.of hR⟩, ?_⟩
  refine for_list (K := K) (a := r) (xs := row.map V.int) (fun i σ H2 => ∃ v : Option V, σ = [some (.ref r), some (.int goods), v] ∧ H2 = H) ⟨none, rfl, rfl⟩ (fun j σ H2 _ ⟨_, _, e⟩ => by rw [e]; exact SqL.of hR) ?_ ?_
  · rintro i x σ H2 hx ⟨v, rfl, rfl⟩
    obtain ⟨n, hn, rfl⟩ := map_int_get hx
    have hn2 := hv n (List.mem_of_getElem? hn)
    refine ⟨_, rfl, n, rfl, _, rfl, ?_⟩
    refine ndecF hn2 ?_
    exact ⟨_, rfl, rfl⟩
  · rintro σ H2 ⟨v, rfl, rfl⟩
    exact q
theorem scCheck : FnScope ["worths", "goods", "row"] ["worths"] (defScope sCheck) := ⟨rfl, rfl, rfl, by decide +kernel, rfl, by decide +kernel, by decide +kernel⟩
theorem ok_check {f f1 : Addr} {fd fd1 : FuncData} {tP tG : Tok} (F : Fun K "check_worths" "check_worths" sCheck f fd) (G : FnOk P w K mg base CX0 2 f1 fd1 ["row", "goods"] spRow) (b1 : Binds K fd1 ["row", "goods"] []) (k1 : PySem.W.keepIn K (.ref f1) = true) (m1 : mg nRow = some (.ref f1)) (ml : mg "len" = none)
    (mP : mg nMostP = some (.int 4 tP)) (mG : mg "MOST_GOODS" = some (.int 4 tG)) : FnOk P w K mg base CX0 3 f fd ["worths"] spCheck := by
  refine F.ok scCheck (fun vs H Q E h => ?_) (fun cdv A outer s H vs Q E hr h => ?_)
  · obtain ⟨_, _, _, rfl, _⟩ := h
    rfl
  obtain ⟨wa, ws, goods, rfl, hW, hl1, hl4, g1, g4, hok, q⟩ := h
  refine ⟨_, pss_cons (ps_if (pt_not (pt_chain op_le op_le pe_int (pe_callB call_len_seq rfl ml PySem.boot_len (pa_cons (pv 0) pa_nil)) (pe_glob (v := .int 4) rfl mP ⟨_, rfl⟩))) pss_never pss_nil)
    (pss_cons (ps_set (i := 1) scCheck.nd rfl (Or.inl rfl) (pe_callB call_len_seq rfl ml PySem.boot_len (pa_cons (pe_ix ix_list (pv 0) pe_int (fun _ _ => rfl)) pa_nil)))
    (pss_cons (ps_if (pt_not (pt_chain op_le op_le pe_int (pv 1) (pe_glob (v := .int 4) rfl mG ⟨_, rfl⟩))) pss_never pss_nil)
    (pss_one (ps_for PassesOwn.never rfl (pi_list (pv 0)) (pg_name (i := 2) scCheck.nd rfl (Or.inl rfl))
      (pss_one (ps_expr (pe_call G hr rfl m1 k1 b1 .nil pass0 (pa_cons (pv 2) (pa_cons (pv 1) pa_nil))))))))), ?_⟩
  obtain ⟨as, hw, hp⟩ := hW
  have hpl := hp.length
  obtain ⟨a0, h0⟩ : ∃ a0, as[0]? = some a0 := ⟨_, List.getElem?_eq_getElem (show 0 < as.length by omega)⟩
  obtain ⟨row0, hr0, hR0⟩ := pget hp h0
  have hg0 := (hok row0 (List.mem_of_getElem? hr0)).1
  refine ⟨_, rfl, wa, _, rfl, .inl (SqL.of hw), _, _, rfl, rfl, _, rfl, ?_⟩
  refine decT (by rw [List.length_map]; omega) ?_
  refine ⟨_, _, rfl, rfl, _, rfl, ?_⟩
  refine ndecF (by rw [List.length_map]; omega) ?_
  refine ⟨_, rfl, wa, _, 0, .ref a0, rfl, rfl, SqL.of hw, atI_nat (j := 0) (by rw [List.getElem?_map, h0]; rfl), a0, _, rfl, .inl (SqL.of hR0), ?_⟩
  refine ⟨_, rfl, _, _, rfl, rfl, _, rfl, ?_⟩
  refine decT (by rw [List.length_map]; omega) ?_
  refine ⟨_, _, rfl, rfl, _, rfl, ?_⟩
  refine ndecF (by rw [List.length_map]; omega) ?_
  refine ⟨_, rfl, wa, rfl, ⟨_, SqL.of hw⟩, ?_⟩
  refine for_list (K := K) (a := wa) (xs := as.map V.ref) (fun i σ H2 => ∃ v : Option V, σ = [some (.ref wa), some (.int ((row0.map V.int).length : Int)), v] ∧ H2 = H) ⟨none, rfl, rfl⟩ (fun j σ H2 _ ⟨_, _, e⟩ => by rw [e]; exact SqL.of hw) ?_ ?_
  · rintro i x σ H2 hx ⟨v, rfl, rfl⟩
    obtain ⟨c, hc, rfl⟩ := map_ref_get hx
    obtain ⟨row, hrow, hR⟩ := pget hp hc
    have hz := hok row (List.mem_of_getElem? hrow)
    exact ⟨_, rfl, _, rfl, c, row, _, rfl, hR, by rw [List.length_map]; omega, hz.2, _, rfl, rfl⟩
  · rintro σ H2 ⟨v, rfl, rfl⟩
    exact q
theorem scBest : FnScope ["worths"] ["worths"] (defScope sBest) := ⟨rfl, rfl, rfl, by decide +kernel, rfl, by decide +kernel, by decide +kernel⟩
theorem ok_best {f f1 f2 : Addr} {fd fd1 fd2 : FuncData} (F : Fun K "shelf_best" "shelf_best" sBest f fd) (G1 : FnOk P w K mg base CX0 3 f1 fd1 ["worths"] spCheck) (b1 : Binds K fd1 ["worths"] []) (k1 : PySem.W.keepIn K (.ref f1) = true) (m1 : mg nCheck = some (.ref f1))
    (G2 : FnOk P w K mg base CX0 3 f2 fd2 ["worths", "goods"] spFirst) (b2 : Binds K fd2 ["worths", "goods"] []) (k2 : PySem.W.keepIn K (.ref f2) = true) (m2 : mg nFirst = some (.ref f2)) (ml : mg "len" = none) : FnOk P w K mg base CX0 4 f fd ["worths"] spBest := by
  refine F.ok scBest (fun vs H Q E h => ?_) (fun cdv A outer s H vs Q E hr h => ?_)
  · obtain ⟨_, _, _, rfl, _⟩ := h
    rfl
  obtain ⟨wa, ws, goods, rfl, hW, hl1, hl4, g1, g4, hok, q⟩ := h
  refine ⟨_, pss_cons (ps_expr (pe_call G1 (hr.mono (by decide)) rfl m1 k1 b1 .nil pass0 (pa_cons (pv 0) pa_nil)))
    (pss_one (ps_ret (pe_call G2 hr rfl m2 k2 b2 .nil pass0 (pa_cons (pv 0) (pa_cons (pe_callB call_len_seq rfl ml PySem.boot_len (pa_cons (pe_ix ix_list (pv 0) pe_int (fun _ _ => rfl)) pa_nil)) pa_nil))))), ?_⟩
  obtain ⟨as, hw, hp⟩ := id hW
  have hpl := hp.length
  obtain ⟨a0, h0⟩ : ∃ a0, as[0]? = some a0 := ⟨_, List.getElem?_eq_getElem (show 0 < as.length by omega)⟩
  obtain ⟨row0, hr0, hR0⟩ := pget hp h0
  have hg0 := (hok row0 (List.mem_of_getElem? hr0)).1
  have hg0' : ((row0.map V.int).length : Int) = goods := by rw [List.length_map]; exact hg0
  refine ⟨_, rfl, wa, ws, goods, rfl, hW, hl1, hl4, g1, g4, hok, ?_⟩
  refine ⟨_, rfl, _, rfl, wa, _, 0, .ref a0, rfl, rfl, SqL.of hw, atI_nat (j := 0) (by rw [List.getElem?_map, h0]; rfl), a0, _, rfl, .inl (SqL.of hR0), ?_⟩
  rw [hg0']
  exact ⟨wa, ws, goods, rfl, hW, hl4, by omega, g4, hok, q⟩
end
def spWithout : Sp := fun vs H Q _ => ∃ (a : Addr) (xs : List V) (k : Int), vs = [.ref a, .int k] ∧ H a = some (.lst xs) ∧ xs.length ≤ 100 ∧ 0 ≤ k ∧ k < (xs.length : Int) ∧ ∀ r H', Same H H' → H r = none → H' r = some (.lst (xs.eraseIdx k.toNat)) → Q (.ref r) H'
section
variable {P : Program} {w : World} {K : PySem.W.Frag} {mg : Str → Option Value} {base : Heap}
theorem scWithout : FnScope ["rows", "place"] ["rows", "place"] (defScope sWithout) := ⟨rfl, rfl, rfl, by decide +kernel, rfl, by decide +kernel, by decide +kernel⟩
theorem ok_without {f : Addr} {fd : FuncData} (F : Fun K "without" "without" sWithout f fd) : FnOk P w K mg base CX0 1 f fd ["rows", "place"] spWithout := by
  refine F.ok scWithout (fun vs H Q E h => ?_) (fun cdv A outer s H vs Q E hr h => ?_)
  · obtain ⟨_, _, _, rfl, _⟩ := h
    rfl
  obtain ⟨a, xs, k, rfl, hA, hl, k0, k1, q⟩ := h
  refine ⟨_, pss_one (ps_ret (pe_op op_cat (pe_slice sl_list (pv 0) po_none (po_some (pv 1))) (pe_slice sl_list (pv 0) (po_some (pe_op op_add (pv 1) pe_int)) po_none))), ?_⟩
  exact cut_read (K := K) rfl rfl hA hl k0 k1 q
end
def spLoss : Sp := fun vs H Q _ => ∃ (w d : Addr) (ws : List (List Int)) (ds : List Int) (k goods : Int), vs = [.ref w, .ref d, .int k] ∧ ILL H w ws ∧ IL H d ds ∧ ws.length ≤ 4 ∧ ds.length = ws.length ∧ 0 ≤ k ∧ k < (ws.length : Int) ∧ 0 ≤ goods ∧ goods ≤ 4 ∧ okW goods ws ∧ okD goods ds ∧
  ∀ H', Same H H' → Q (.int ((best (ws.eraseIdx k.toNat) goods).1 - dealW (ws.eraseIdx k.toNat) (ds.eraseIdx k.toNat))) H'
def paysZ (ws : List (List Int)) (goods : Int) : List Int := (List.range ws.length).map (payZ ws goods)
def spPays : Sp := fun vs H Q _ => ∃ (w : Addr) (ws : List (List Int)) (goods : Int), vs = [.ref w] ∧ ILL H w ws ∧ 1 ≤ ws.length ∧ ws.length ≤ 4 ∧ 1 ≤ goods ∧ goods ≤ 4 ∧ okW goods ws ∧
  ∀ r H', Same H H' → H r = none → IL H' r (paysZ ws goods) → Q (.ref r) H'
section
variable {P : Program} {w : World} {K : PySem.W.Frag} {mg : Str → Option Value} {base : Heap}
theorem okD_erase {goods : Int} {ds : List Int} (h : okD goods ds) (k : Nat) : okD goods (ds.eraseIdx k) := fun g hg => h g (List.mem_of_mem_eraseIdx hg)
theorem scLoss : FnScope ["worths", "dealing", "person", "others", "greatest"] ["worths", "dealing", "person"] (defScope sLoss) := ⟨rfl, rfl, rfl, by decide +kernel, rfl, by decide +kernel, by decide +kernel⟩
theorem ok_loss {f f1 f2 f3 : Addr} {fd fd1 fd2 fd3 : FuncData} (F : Fun K "loss_of_others" "loss_of_others" sLoss f fd) (G1 : FnOk P w K mg base CX0 1 f1 fd1 ["rows", "place"] spWithout) (b1 : Binds K fd1 ["rows", "place"] []) (k1 : PySem.W.keepIn K (.ref f1) = true) (m1 : mg "without" = some (.ref f1))
    (G2 : FnOk P w K mg base CX0 3 f2 fd2 ["worths", "goods"] spFirst) (b2 : Binds K fd2 ["worths", "goods"] []) (k2 : PySem.W.keepIn K (.ref f2) = true) (m2 : mg nFirst = some (.ref f2))
    (G3 : FnOk P w K mg base CX0 2 f3 fd3 ["worths", "dealing"] spDealW) (b3 : Binds K fd3 ["worths", "dealing"] []) (k3 : PySem.W.keepIn K (.ref f3) = true) (m3 : mg nDealW = some (.ref f3)) (ml : mg "len" = none) : FnOk P w K mg base CX0 4 f fd ["worths", "dealing", "person"] spLoss := by
  refine F.ok scLoss (fun vs H Q E h => ?_) (fun cdv A outer s H vs Q E hr h => ?_)
  · obtain ⟨_, _, _, _, _, _, rfl, _⟩ := h
    rfl
  obtain ⟨wa, da, ws, ds, k, goods, rfl, hW, hD, hl4, hld, k0, k1', g0, g4, hok, hod, q⟩ := h
  have hr1 := hr.mono (j := 1) (by decide)
  have hr2 := hr.mono (j := 2) (by decide)
  refine ⟨_, pss_cons (ps_set (i := 3) scLoss.nd rfl (Or.inl rfl) (pe_call G1 hr1 rfl m1 k1 b1 .nil pass0 (pa_cons (pv 0) (pa_cons (pv 2) pa_nil))))
    (pss_cons (ps_set (i := 4) scLoss.nd rfl (Or.inl rfl) (pe_ix ix_tup (pe_call G2 hr rfl m2 k2 b2 .nil pass0 (pa_cons (pv 3) (pa_cons (pe_callB call_len_seq rfl ml PySem.boot_len (pa_cons (pe_ix ix_list (pv 0) (pv 2) (fun _ _ => rfl)) pa_nil)) pa_nil))) pe_int (fun _ _ => rfl)))
    (pss_one (ps_ret (pe_op op_sub (pv 4) (pe_call G3 hr2 rfl m3 k3 b3 .nil pass0 (pa_cons (pv 3) (pa_cons (pe_call G1 hr1 rfl m1 k1 b1 .nil pass0 (pa_cons (pv 1) (pa_cons (pv 2) pa_nil))) pa_nil))))))), ?_⟩
  obtain ⟨as, hw, hp⟩ := hW
  have hpl := hp.length
  refine ⟨_, rfl, _, rfl, wa, _, k, rfl, hw, by rw [List.length_map]; omega, k0, by rw [List.length_map]; omega, fun o H1 s1 ho ho2 => ?_⟩
  rw [erase_map] at ho2
  have hpo : Paired (IL H1) (as.eraseIdx k.toNat) (ws.eraseIdx k.toNat) := perase _ (pmono s1 hp)
  have hO : ILL H1 o (ws.eraseIdx k.toNat) := ⟨_, ho2, hpo⟩
  obtain ⟨rv, hrv, hrv2⟩ := atI_of (xs := as.map V.ref) k0 (by rw [List.length_map]; omega)
  obtain ⟨ra, hra, rfl⟩ := map_ref_get hrv2
  obtain ⟨row, hrow, hR⟩ := pget hp hra
  have hrl := (hok row (List.mem_of_getElem? hrow)).1
  have hlo : (ws.eraseIdx k.toNat).length ≤ 4 := Nat.le_trans (List.length_eraseIdx_le _ _) hl4
  refine ⟨_, rfl, _, rfl, _, rfl, wa, _, k, .ref ra, rfl, rfl, SqL.of (s1 _ _ hw), hrv, ra, _, rfl, .inl (SqL.of (s1 _ _ hR)), ?_⟩
  refine ⟨o, ws.eraseIdx k.toNat, goods, by rw [List.length_map, hrl]; rfl, hO, hlo, g0, g4, okW_erase hok _, fun r d H2 s2 hr0 hd0 hr2' hd2 => ?_⟩
  refine ⟨r, _, 0, _, rfl, rfl, SqT.of hr2', rfl, ?_⟩
  refine ⟨_, rfl, _, rfl, _, rfl, _, rfl, da, _, k, rfl, (s1.trans s2) _ _ hD, by rw [List.length_map]; omega, k0, by rw [List.length_map]; omega, fun e H3 s3 he he2 => ?_⟩
  rw [erase_map] at he2
  refine ⟨o, e, ws.eraseIdx k.toNat, ds.eraseIdx k.toNat, rfl, (hO.mono s2).mono s3, he2, by omega, deal_ok (okW_erase hok _) (okD_erase hod _), fun H4 s4 => ?_⟩
  exact ⟨_, _, rfl, rfl, q _ (s1.trans (s2.trans (s3.trans s4)))⟩
theorem best_okD {goods : Int} {ws : List (List Int)} (h : okW goods ws) : okD goods (best ws goods).2 := (mem_allD.mp (best_mem h)).2.1
theorem scPays : FnScope ["worths", "dealing"] ["worths"] (defScope sPays) := ⟨rfl, rfl, rfl, by decide +kernel, rfl, by decide +kernel, by decide +kernel⟩
theorem ok_pays {f f1 f2 : Addr} {fd fd1 fd2 : FuncData} (F : Fun K "shelf_pays" "shelf_pays" sPays f fd) (G1 : FnOk P w K mg base CX0 4 f1 fd1 ["worths"] spBest) (b1 : Binds K fd1 ["worths"] []) (k1 : PySem.W.keepIn K (.ref f1) = true) (m1 : mg "shelf_best" = some (.ref f1))
    (G2 : FnOk P w K mg base CX0 4 f2 fd2 ["worths", "dealing", "person"] spLoss) (b2 : Binds K fd2 ["worths", "dealing", "person"] []) (k2 : PySem.W.keepIn K (.ref f2) = true) (m2 : mg nLoss = some (.ref f2)) (ml : mg "len" = none) (mr : mg "range" = none) : FnOk P w K mg base CX0 5 f fd ["worths"] spPays := by
  refine F.ok scPays (fun vs H Q E h => ?_) (fun cdv A outer s H vs Q E hr h => ?_)
  · obtain ⟨_, _, _, rfl, _⟩ := h
    rfl
  obtain ⟨wa, ws, goods, rfl, hW, hl1, hl4, g1, g4, hok, q⟩ := h
  refine ⟨_, pss_cons (ps_set (i := 1) scPays.nd rfl (Or.inr rfl) (pe_ix ix_tup (pe_call G1 hr rfl m1 k1 b1 .nil pass0 (pa_cons (pv 0) pa_nil)) pe_int (fun _ _ => rfl)))
    (pss_one (ps_ret (pe_comp (N := ["person", "worths", "dealing"]) (cap := [none, some 0, some 1]) rfl (compOk_of (by rfl)) (pi_range1 rfl mr (pa_cons (pe_callB call_len_seq rfl ml PySem.boot_len (pa_cons (pv 0) pa_nil)) pa_nil)) (fun _ _ _ _ => pg_name (i := 0) (nd3 (by decide +kernel) (by decide +kernel) (by decide +kernel)) rfl (Or.inl rfl)) (fun _ _ _ _ => pts_nil)
      (fun _ _ _ _ => pe_call G2 hr rfl m2 k2 b2 .nil pass0 (pa_cons (pv 1) (pa_cons (pv 2) (pa_cons (pv 0) pa_nil))))))), ?_⟩
  refine ⟨_, rfl, wa, ws, goods, rfl, hW, hl1, hl4, g1, g4, hok, fun r d H1 s1 hr0 hd0 hr1 hd1 => ?_⟩
  refine ⟨r, _, 1, _, rfl, rfl, SqT.of hr1, rfl, ?_⟩
  obtain ⟨as, hw, hp⟩ := hW.mono s1
  have hpl := hp.length
  have eN : ((as.map V.ref).length : Int).toNat = ws.length := by rw [List.length_map, hpl, Int.toNat_natCast]
  refine ⟨_, rfl, wa, _, rfl, .inl (SqL.of hw), ((as.map V.ref).length : Int), rfl, by omega, by rw [List.length_map]; omega, ?_⟩
  rw [eN]
  refine comp_range (fun i zs H' => Same H1 H' ∧ zs = ((List.range i).map (payZ ws goods)).map V.int) ⟨Same.refl _, rfl⟩ (small (by omega)) (fun i zs H' _ ⟨_, e⟩ => by rw [e, List.length_map, List.length_map, List.length_range]; exact Nat.le_refl _) ?_ ?_
  · rintro i zs H2 hi ⟨t1, e⟩
    refine ⟨⟨.inl rfl, .inr rfl, .inr rfl, trivial⟩, ?_⟩
    refine ⟨_, rfl, _, rfl, _, rfl, wa, d, ws, (best ws goods).2, _, goods, rfl, ILL.mono t1 ⟨as, hw, hp⟩, hd1.mono t1, hl4, best_len hok, by omega, by omega, by omega, g4, hok, best_okD hok, fun H3 t2 => ⟨t1.trans t2, ?_⟩⟩
    rw [e, List.range_succ, List.map_append, List.map_append, show (0 + (i : Int)).toNat = i by omega]
    rfl
  · rintro zs H2 ⟨t1, e⟩ p hp2
    exact q p _ (s1.trans (t1.trans (same_new hp2 _))) ((s1.trans t1).free hp2) (by show upd _ p _ p = _; rw [upd_same, e]; rfl)
end
def cellZ (ns : List Int) (k : Int) : Int := ns.getD k.toNat 0
def spCell (K : PySem.W.Frag) : Sp := fun vs H Q _ => ∃ (a : Addr) (ns : List Int) (k : Int), vs = [.ref a, .int k] ∧ SqL K H a (ns.map V.int) ∧ 0 ≤ k ∧ Q (.int (cellZ ns k)) H
def spMix : Sp := fun vs H Q _ => ∃ (c k m : Int), vs = [.int c, .int k, .int m] ∧ 0 ≤ k ∧ 0 < m ∧ ∀ v H', Same H H' → 0 ≤ v → v < m → Q (.int v) H'
def spWorths (K : PySem.W.Frag) : Sp := fun vs H Q _ => ∃ (a : Addr) (ns : List Int) (st people goods : Int), vs = [.ref a, .int st, .int people, .int goods] ∧ SqL K H a (ns.map V.int) ∧ 0 ≤ st ∧ 0 ≤ people ∧ people ≤ 8 ∧ 0 ≤ goods ∧ goods ≤ 8 ∧
  ∀ r H' ws, Same H H' → ILLn H H' r ws → (ws.length : Int) = people → okW goods ws → Q (.ref r) H'
def spSize (K : PySem.W.Frag) : Sp := fun vs H Q _ => ∃ (a : Addr) (ns : List Int), vs = [.ref a] ∧ SqL K H a (ns.map V.int) ∧ ∀ r H' p g, Same H H' → H' r = some (.tup [.int p, .int g]) → 1 ≤ p → p ≤ 4 → 1 ≤ g → g ≤ 4 → Q (.ref r) H'
structure Kit (K : PySem.W.Frag) : Prop where
  ii : PySem.W.kitOne K (.type "int") (.type "int") = some true
  ib : PySem.W.kitOne K (.type "int") (.type "bool") = some false
  ll : PySem.W.kitOne K (.type "list") (.type "list") = some true
  tt : PySem.W.kitOne K (.type "tuple") (.type "tuple") = some true
section
variable {P : Program} {w : World} {K : PySem.W.Frag} {mg : Str → Option Value} {base : Heap}
theorem scCell : FnScope ["script", "k"] ["script", "k"] (defScope sCell) := ⟨rfl, rfl, rfl, by decide +kernel, rfl, by decide +kernel, by decide +kernel⟩
theorem ok_cell {f : Addr} {fd : FuncData} (F : Fun K "_law_cell_at" "_law_cell_at" sCell f fd) (ml : mg "len" = none) : FnOk P w K mg base CX0 1 f fd ["script", "k"] (spCell K) := by
  refine F.ok scCell (fun vs H Q E h => ?_) (fun cdv A outer s H vs Q E hr h => ?_)
  · obtain ⟨_, _, _, rfl, _⟩ := h
    rfl
  obtain ⟨a, ns, k, rfl, hS, k0, q⟩ := h
  refine ⟨_, pss_cons (ps_if (pt_cmpR op_lt (pv 1) (pe_callB call_len_seq rfl ml PySem.boot_len (pa_cons (pv 0) pa_nil)) (nomark _)) (pss_one (ps_ret (pe_ix ix_list (pv 0) (pv 1) (fun _ _ => rfl)))) pss_nil)
    (pss_one (ps_ret pe_int)), ?_⟩
  refine ⟨_, rfl, _, rfl, a, _, rfl, .inl hS, _, _, rfl, rfl, _, rfl, ?_⟩
  refine dec2 (fun c => ?_) (fun c => ?_)
  · obtain ⟨v, hv, hv2⟩ := atI_of (xs := ns.map V.int) k0 c
    obtain ⟨n, hn, rfl⟩ := map_int_get hv2
    have e : cellZ ns k = n := by
      unfold cellZ
      rw [List.getD_eq_getElem?_getD, hn]
      rfl
    rw [e] at q
    exact ⟨_, rfl, _, rfl, a, _, k, _, rfl, rfl, hS, hv, q⟩
  · have e : cellZ ns k = 0 := by
      unfold cellZ
      rw [List.length_map] at c
      rw [List.getD_eq_getElem?_getD, List.getElem?_eq_none (by omega)]
      rfl
    rw [e] at q
    exact q
theorem scMix : FnScope ["cell", "k", "many", "some", "stir"] ["cell", "k", "many"] (defScope sMix) := ⟨rfl, rfl, rfl, by decide +kernel, rfl, by decide +kernel, by decide +kernel⟩
theorem ok_mix {f : Addr} {fd : FuncData} (F : Fun K "_law_mix" "_law_mix" sMix f fd) : FnOk P w K mg base CX0 1 f fd ["cell", "k", "many"] spMix := by
  refine F.ok scMix (fun vs H Q E h => ?_) (fun cdv A outer s H vs Q E hr h => ?_)
  · obtain ⟨_, _, _, rfl, _⟩ := h
    rfl
  obtain ⟨c, k, m, rfl, k0, m0, q⟩ := h
  refine ⟨_, pss_cons (ps_set (i := 3) scMix.nd rfl (Or.inl rfl) (pe_lst (pa_cons pe_int (pa_cons pe_int (pa_cons pe_int (pa_cons pe_int (pa_cons pe_int (pa_cons pe_int (pa_cons pe_int (pa_cons pe_int (pa_cons pe_int (pa_cons pe_int (pa_cons pe_int (pa_cons pe_int (pa_cons pe_int pa_nil)))))))))))))))
    (pss_cons (ps_set (i := 4) scMix.nd rfl (Or.inl rfl) (pe_op op_add (pe_op op_add (pe_op op_mul (pe_op op_add (pe_op op_mod (pv 0) pe_int) pe_int) (pe_ix ix_list (pv 3) (pe_op op_mod (pv 1) pe_int) (fun _ _ => rfl))) (pe_op op_mul pe_int (pv 1))) (pe_op op_mul pe_int (pe_op op_fdiv (pv 1) pe_int))))
    (pss_cons (ps_set (i := 4) scMix.nd rfl (Or.inl rfl) (pe_op op_mod (pv 4) pe_int))
    (pss_one (ps_ret (pe_op op_mod (pe_op op_fdiv (pe_op op_mod (pe_op op_add (pe_op op_mul (pv 4) (pv 4)) (pe_op op_mul pe_int (pv 1))) pe_int) pe_int) (pv 2)))))), ?_⟩
  refine ⟨(by show 13 ≤ sizeLine; decide), fun l hl => ?_⟩
  have s1 := same_new hl (HO.lst ([48271, 69621, 16807, 39373, 30269, 40014, 40692, 50021, 61687, 71993, 83869, 95561, 30307].map V.int))
  have hm := Int.emod_nonneg k (show (13 : Int) ≠ 0 by decide)
  have hm2 := Int.emod_lt_of_pos k (show (0 : Int) < 13 by decide)
  obtain ⟨v, hv, hv2⟩ := atI_of (xs := [48271, 69621, 16807, 39373, 30269, 40014, 40692, 50021, 61687, 71993, 83869, 95561, 30307].map V.int) hm hm2
  obtain ⟨n, hn, rfl⟩ := map_int_get hv2
  have b1 := Int.emod_nonneg c (show (2147483647 : Int) ≠ 0 by decide)
  have b2 := Int.emod_lt_of_pos c (show (0 : Int) < 2147483647 by decide)
  refine ⟨_, rfl, _, _, rfl, rfl, (by show (0 : Int) < 2147483647; decide), _, _, rfl, rfl, _, rfl, _, rfl, _, _, rfl, rfl, (by show (0 : Int) < 13; decide), l, _, _, _, rfl, rfl, SqL.of upd_same, hv, _, _, rfl, rfl, .inl ⟨by omega, by omega⟩, ?_⟩
  refine ⟨_, rfl, _, _, rfl, rfl, .inl ⟨by decide, by decide⟩, _, _, rfl, rfl, _, rfl, _, _, rfl, rfl, ⟨by decide, by decide⟩, _, _, rfl, rfl, .inl ⟨by decide, by decide⟩, _, _, rfl, rfl, ?_⟩
  refine ⟨_, rfl, _, _, rfl, rfl, (by show (0 : Int) < 1000000007; decide), ?_⟩
  generalize (c % 2147483647 + 12345) * n + 977 * k + 7919 * (k / 13) = z
  have d1 := Int.emod_nonneg z (show (1000000007 : Int) ≠ 0 by decide)
  have d2 := Int.emod_lt_of_pos z (show (0 : Int) < 1000000007 by decide)
  refine ⟨_, rfl, _, rfl, _, _, rfl, rfl, .inl ⟨by omega, by omega⟩, _, rfl, _, _, rfl, rfl, .inl ⟨by decide, by decide⟩, _, _, rfl, rfl, _, _, rfl, rfl, (by show (0 : Int) < 1000000007; decide), _, _, rfl, rfl, ⟨by decide, by decide⟩, _, rfl, _, _, rfl, rfl, m0, ?_⟩
  exact q _ _ s1 (Int.emod_nonneg _ (by omega)) (Int.emod_lt_of_pos _ m0)
end
section
variable {P : Program} {w : World} {K : PySem.W.Frag} {mg : Str → Option Value} {base : Heap}
theorem scWorths : FnScope ["script", "start", "people", "goods", "worths", "k", "cell", "most"] ["script", "start", "people", "goods"] (defScope sWorths) := ⟨rfl, rfl, rfl, by decide +kernel, rfl, by decide +kernel, by decide +kernel⟩
theorem ok_worths {f f1 f2 : Addr} {fd fd1 fd2 : FuncData} (F : Fun K "_law_worths_by" "_law_worths_by" sWorths f fd) (G1 : FnOk P w K mg base CX0 1 f1 fd1 ["script", "k"] (spCell K)) (b1 : Binds K fd1 ["script", "k"] []) (k1 : PySem.W.keepIn K (.ref f1) = true) (m1 : mg "_law_cell_at" = some (.ref f1))
    (G2 : FnOk P w K mg base CX0 1 f2 fd2 ["cell", "k", "many"] spMix) (b2 : Binds K fd2 ["cell", "k", "many"] []) (k2 : PySem.W.keepIn K (.ref f2) = true) (m2 : mg "_law_mix" = some (.ref f2)) (mr : mg "range" = none) : FnOk P w K mg base CX0 2 f fd ["script", "start", "people", "goods"] (spWorths K) := by
  refine F.ok scWorths (fun vs H Q E h => ?_) (fun cdv A outer s H vs Q E hr h => ?_)
  · obtain ⟨_, _, _, _, _, rfl, _⟩ := h
    rfl
  obtain ⟨a, ns, st, people, goods, rfl, hS, st0, p0, p8, g0, g8, q⟩ := h
  refine ⟨_, pss_cons (ps_set (i := 4) scWorths.nd rfl (Or.inl rfl) (pe_lst pa_nil))
    (pss_cons (ps_for PassesOwn.never rfl (pi_range1 rfl mr (pa_cons (pv 2) pa_nil)) (pg_name (i := 5) scWorths.nd rfl (Or.inl rfl))
      (pss_cons (ps_set (i := 6) scWorths.nd rfl (Or.inr rfl) (pe_call G1 hr rfl m1 k1 b1 .nil pass0 (pa_cons (pv 0) (pa_cons (pe_op op_add (pv 1) (pv 5)) pa_nil))))
      (pss_cons (ps_set (i := 7) scWorths.nd rfl (Or.inr rfl) (pe_ix ix_list (pe_lst (pa_cons pe_int (pa_cons pe_int (pa_cons pe_int pa_nil)))) (pe_call G2 hr rfl m2 k2 b2 .nil pass0 (pa_cons (pv 6) (pa_cons pe_int (pa_cons pe_int pa_nil)))) (fun _ _ => rfl)))
      (pss_one (ps_expr (pe_bm PySem.F.plainAttrs_list PySem.F.slot_list_append PySem.F.type_list_append mt_append (pv 4)
        (pa_cons (pe_comp (N := ["j", "cell", "most"]) (cap := [none, some 6, some 7]) rfl (compOk_of (by rfl)) (pi_range1 rfl mr (pa_cons (pv 3) pa_nil)) (fun _ _ _ _ => pg_name (i := 0) (nd3 (by decide +kernel) (by decide +kernel) (by decide +kernel)) rfl (Or.inl rfl)) (fun _ _ _ _ => pts_nil)
          (fun _ _ _ _ => pe_call G2 hr rfl m2 k2 b2 .nil pass0 (pa_cons (pv 1) (pa_cons (pv 0) (pa_cons (pv 2) pa_nil))))) pa_nil)))))))
    (pss_one (ps_ret (pv 4)))), ?_⟩
  refine ⟨(by show 0 ≤ sizeLine; decide), fun l hl => ?_⟩
  have s1 : Same H (upd H l (.lst [])) := same_new hl _
  refine ⟨_, rfl, people, rfl, by omega, by omega, ?_⟩
  refine for_range (fun i σ H' => ∃ (as : List Addr) (ws : List (List Int)) (v5 v6 v7 : Option V), σ = [some (.ref a), some (.int st), some (.int people), some (.int goods), some (.ref l), v5, v6, v7] ∧ Same H H' ∧ H' l = some (.lst (as.map V.ref)) ∧ Paired (IL H') as ws ∧ (∀ b ∈ as, b ≠ l ∧ H b = none) ∧ ws.length = i ∧ okW goods ws)
    ⟨[], [], none, none, none, rfl, s1, upd_same, .nil, (fun b hb => nomatch hb), rfl, (fun r hr => nomatch hr)⟩ ?_ ?_
  · rintro i σ H1 hi ⟨as, ws, v5, v6, v7, rfl, sH, hl1, hp, hf, hwl, hok⟩
    have hpl := hp.length
    refine ⟨_, rfl, _, rfl, _, rfl, _, _, rfl, rfl, a, ns, _, rfl, sH.seq hS, by omega, ?_⟩
    -- most
    refine ⟨(by show 3 ≤ sizeLine; decide), fun m hm => ?_⟩
    have t1 : Same H1 (upd H1 m (.lst [.int 3, .int 11, .int 1001])) := same_new hm _
    refine ⟨_, rfl, _, _, _, rfl, by decide, by decide, fun v H2 t2 v0 v3 => ?_⟩
    obtain ⟨mv, hmv, hmv2⟩ := atI_of (xs := [3, 11, 1001].map V.int) v0 (by simpa using v3)
    obtain ⟨mo, hmo, rfl⟩ := map_int_get hmv2
    have hmo2 : 0 < mo ∧ mo ≤ 1001 := by
      have z := List.mem_of_getElem? hmo
      simp only [List.mem_cons, List.not_mem_nil, or_false] at z
      omega
    refine ⟨m, _, _, _, rfl, rfl, SqL.of (t2 _ _ upd_same), hmv, ?_⟩
    have t3 : Same H1 H2 := t1.trans t2
    refine ⟨_, rfl, .inl ⟨rfl, _, SqL.of (t3 _ _ hl1)⟩, ?_⟩
    refine ⟨_, rfl, goods, rfl, by omega, by omega, ?_⟩
    refine comp_range (fun j zs H' => ∃ row : List Int, zs = row.map V.int ∧ Same H2 H' ∧ row.length = j ∧ ∀ v ∈ row, 0 ≤ v ∧ v ≤ 1000) ⟨[], rfl, Same.refl _, rfl, (fun v hv => nomatch hv)⟩ (small (by omega)) (fun j zs H' _ ⟨row, e1, _, e3, _⟩ => by rw [e1, List.length_map, e3]; exact Nat.le_refl _) ?_ ?_
    · rintro j zs H3 hj ⟨row, e1, e2, e3, e4⟩
      refine ⟨⟨.inl rfl, .inr rfl, .inr rfl, trivial⟩, ?_⟩
      refine ⟨_, rfl, _, rfl, _, rfl, _, _, _, rfl, by omega, hmo2.1, fun u H4 e5 u0 u1 => ?_⟩
      refine ⟨row ++ [u], by rw [e1, List.map_append]; rfl, e2.trans e5, by rw [List.length_append, e3]; rfl, fun v hv => ?_⟩
      rcases List.mem_append.mp hv with hv | hv
      · exact e4 v hv
      · rw [List.mem_singleton.mp hv]
        omega
    · rintro zs H3 ⟨row, e1, e2, e3, e4⟩ r hr
      have t4 : Same H1 H3 := t3.trans e2
      have t5 : Same H3 (upd H3 r (.lst zs)) := same_new hr _
      have rl : r ≠ l := fun e => by
        have z := t4 _ _ hl1
        rw [← e, hr] at z
        cases z
      refine ⟨l, _, .ref r, rfl, rfl, t5 _ _ (t4 _ _ hl1), (by rw [List.length_map, hpl, hwl]; exact small1000 (by omega)), ?_⟩
      have lH : H l = none := hl
      have t6 : Same H (upd (upd H3 r (.lst zs)) l (.lst (as.map V.ref ++ [.ref r]))) := same_upd (sH.trans (t4.trans t5)) lH _
      refine ⟨as ++ [r], ws ++ [row], _, _, _, rfl, t6, by rw [upd_same, List.map_append]; rfl, ?_, fun b hb => ?_, by rw [List.length_append, hwl]; rfl, fun rw' hrw => ?_⟩
      · refine papp (pimp hp fun b hb nn z => ?_) (.cons ?_ .nil)
        · show upd _ l _ b = _
          rw [upd_ne (hf b hb).1]
          exact t5 _ _ (t4 _ _ z)
        · show upd _ l _ r = _
          rw [upd_ne rl, upd_same, e1]
      · rcases List.mem_append.mp hb with hb | hb
        · exact hf b hb
        · rw [List.mem_singleton.mp hb]
          exact ⟨rl, (sH.trans t4).free hr⟩
      · rcases List.mem_append.mp hrw with hrw | hrw
        · exact hok rw' hrw
        · rw [List.mem_singleton.mp hrw]
          exact ⟨by omega, e4⟩
  · rintro σ H1 ⟨as, ws, v5, v6, v7, rfl, sH, hl1, hp, hf, hwl, hok⟩
    exact ⟨_, rfl, q l H1 ws sH ⟨hl, as, hl1, hp, fun b hb => (hf b hb).2⟩ (by omega) hok⟩
theorem scSize : FnScope ["script"] ["script"] (defScope sSize) := ⟨rfl, rfl, rfl, by decide +kernel, rfl, by decide +kernel, by decide +kernel⟩
theorem ok_size {f f1 : Addr} {fd fd1 : FuncData} (F : Fun K "_law_size_by" "_law_size_by" sSize f fd) (G1 : FnOk P w K mg base CX0 1 f1 fd1 ["script", "k"] (spCell K)) (b1 : Binds K fd1 ["script", "k"] []) (k1 : PySem.W.keepIn K (.ref f1) = true) (m1 : mg "_law_cell_at" = some (.ref f1)) : FnOk P w K mg base CX0 2 f fd ["script"] (spSize K) := by
  refine F.ok scSize (fun vs H Q E h => ?_) (fun cdv A outer s H vs Q E hr h => ?_)
  · obtain ⟨_, _, rfl, _⟩ := h
    rfl
  obtain ⟨a, ns, rfl, hS, q⟩ := h
  refine ⟨_, pss_one (ps_ret (pe_tup (pa_cons (pe_op op_add pe_int (pe_op op_mod (pe_call G1 hr rfl m1 k1 b1 .nil pass0 (pa_cons (pv 0) (pa_cons pe_int pa_nil))) pe_int))
    (pa_cons (pe_op op_add pe_int (pe_op op_mod (pe_call G1 hr rfl m1 k1 b1 .nil pass0 (pa_cons (pv 0) (pa_cons pe_int pa_nil))) pe_int)) pa_nil)))), ?_⟩
  refine ⟨_, rfl, a, ns, _, rfl, hS, by decide, _, _, rfl, rfl, (by show (0 : Int) < 4; decide), _, _, rfl, rfl, ?_⟩
  refine ⟨_, rfl, a, ns, _, rfl, hS, by decide, _, _, rfl, rfl, (by show (0 : Int) < 4; decide), _, _, rfl, rfl, ?_⟩
  refine ⟨(by show 2 ≤ sizeLine; decide), fun p hp => ?_⟩
  exact q p _ _ _ (same_new hp _) upd_same (by omega) (by omega) (by omega) (by omega)
end
def spHeap (K : PySem.W.Frag) : Sp := fun vs H Q _ => ∃ (a : Addr) (ns : List Int) (st people : Int), vs = [.ref a, .int st, .int people] ∧ SqL K H a (ns.map V.int) ∧ 0 ≤ st ∧ 0 ≤ people ∧ people ≤ 8 ∧
  ∀ r H' ws, Same H H' → ILLn H H' r ws → (ws.length : Int) = people → okH ws → Q (.ref r) H'
def spHeapSize (K : PySem.W.Frag) : Sp := fun vs H Q _ => ∃ (a : Addr) (ns : List Int) (m : Int), vs = [.ref a, .int m] ∧ SqL K H a (ns.map V.int) ∧ 0 < m ∧ ∀ r H' p g, Same H H' → H' r = some (.tup [.int p, .int g]) → 0 ≤ p → p ≤ 12 → 1 ≤ g → g ≤ m → Q (.ref r) H'
section
variable {P : Program} {w : World} {K : PySem.W.Frag} {mg : Str → Option Value} {base : Heap}
theorem scHeap : FnScope ["script", "start", "people", "worths", "k", "cell", "most"] ["script", "start", "people"] (defScope sHeap) := ⟨rfl, rfl, rfl, by decide +kernel, rfl, by decide +kernel, by decide +kernel⟩
theorem ok_heap {f f1 f2 : Addr} {fd fd1 fd2 : FuncData} (F : Fun K "_law_heap_by" "_law_heap_by" sHeap f fd) (G1 : FnOk P w K mg base CX0 1 f1 fd1 ["script", "k"] (spCell K)) (b1 : Binds K fd1 ["script", "k"] []) (k1 : PySem.W.keepIn K (.ref f1) = true) (m1 : mg "_law_cell_at" = some (.ref f1))
    (G2 : FnOk P w K mg base CX0 1 f2 fd2 ["cell", "k", "many"] spMix) (b2 : Binds K fd2 ["cell", "k", "many"] []) (k2 : PySem.W.keepIn K (.ref f2) = true) (m2 : mg "_law_mix" = some (.ref f2)) (mr : mg "range" = none) (mS : mg "sorted" = none) : FnOk P w K mg base CX0 2 f fd ["script", "start", "people"] (spHeap K) := by
  refine F.ok scHeap (fun vs H Q E h => ?_) (fun cdv A outer s H vs Q E hr h => ?_)
  · obtain ⟨_, _, _, _, rfl, _⟩ := h
    rfl
  obtain ⟨a, ns, st, people, rfl, hS, st0, p0, p8, q⟩ := h
  refine ⟨_, pss_cons (ps_set (i := 3) scHeap.nd rfl (Or.inl rfl) (pe_lst pa_nil))
    (pss_cons (ps_for PassesOwn.never rfl (pi_range1 rfl mr (pa_cons (pv 2) pa_nil)) (pg_name (i := 4) scHeap.nd rfl (Or.inl rfl))
      (pss_cons (ps_set (i := 5) scHeap.nd rfl (Or.inr rfl) (pe_call G1 hr rfl m1 k1 b1 .nil pass0 (pa_cons (pv 0) (pa_cons (pe_op op_add (pv 1) (pv 4)) pa_nil))))
      (pss_cons (ps_set (i := 6) scHeap.nd rfl (Or.inr rfl) (pe_ix ix_list (pe_lst (pa_cons pe_int (pa_cons pe_int (pa_cons pe_int pa_nil)))) (pe_call G2 hr rfl m2 k2 b2 .nil pass0 (pa_cons (pv 5) (pa_cons pe_int (pa_cons pe_int pa_nil)))) (fun _ _ => rfl)))
      (pss_one (ps_expr (pe_bm PySem.F.plainAttrs_list PySem.F.slot_list_append PySem.F.type_list_append mt_append (pv 3)
        (pa_cons (pe_rev (pe_callB call_sorted rfl mS boot_sorted (pa_cons (pe_comp (N := ["j", "cell", "most"]) (cap := [none, some 5, some 6]) rfl (compOk_of (by rfl)) (pi_range1 rfl mr (pa_cons (pe_call G2 hr rfl m2 k2 b2 .nil pass0 (pa_cons (pv 5) (pa_cons pe_int (pa_cons pe_int pa_nil)))) pa_nil)) (fun _ _ _ _ => pg_name (i := 0) (nd3 (by decide +kernel) (by decide +kernel) (by decide +kernel)) rfl (Or.inl rfl)) (fun _ _ _ _ => pts_nil)
          (fun _ _ _ _ => pe_call G2 hr rfl m2 k2 b2 .nil pass0 (pa_cons (pv 1) (pa_cons (pv 0) (pa_cons (pv 2) pa_nil))))) pa_nil)) (po_some (pe_un un_neg pe_int))) pa_nil)))))))
    (pss_one (ps_ret (pv 3)))), ?_⟩
  refine ⟨(by show 0 ≤ sizeLine; decide), fun l hl => ?_⟩
  have s1 : Same H (upd H l (.lst [])) := same_new hl _
  refine ⟨_, rfl, people, rfl, by omega, by omega, ?_⟩
  refine for_range (fun i σ H' => ∃ (as : List Addr) (ws : List (List Int)) (v5 v6 v7 : Option V), σ = [some (.ref a), some (.int st), some (.int people), some (.ref l), v5, v6, v7] ∧ Same H H' ∧ H' l = some (.lst (as.map V.ref)) ∧ Paired (IL H') as ws ∧ (∀ b ∈ as, b ≠ l ∧ H b = none) ∧ ws.length = i ∧ okH ws)
    ⟨[], [], none, none, none, rfl, s1, upd_same, .nil, (fun b hb => nomatch hb), rfl, (fun r hr => nomatch hr)⟩ ?_ ?_
  · rintro i σ H1 hi ⟨as, ws, v5, v6, v7, rfl, sH, hl1, hp, hf, hwl, hok⟩
    have hpl := hp.length
    refine ⟨_, rfl, _, rfl, _, rfl, _, _, rfl, rfl, a, ns, _, rfl, sH.seq hS, by omega, ?_⟩
    -- most
    refine ⟨(by show 3 ≤ sizeLine; decide), fun m hm => ?_⟩
    have t1 : Same H1 (upd H1 m (.lst [.int 3, .int 11, .int 1001])) := same_new hm _
    refine ⟨_, rfl, _, _, _, rfl, by decide, by decide, fun v H2 t2 v0 v3 => ?_⟩
    obtain ⟨mv, hmv, hmv2⟩ := atI_of (xs := [3, 11, 1001].map V.int) v0 (by simpa using v3)
    obtain ⟨mo, hmo, rfl⟩ := map_int_get hmv2
    have hmo2 : 0 < mo ∧ mo ≤ 1001 := by
      have z := List.mem_of_getElem? hmo
      simp only [List.mem_cons, List.not_mem_nil, or_false] at z
      omega
    refine ⟨m, _, _, _, rfl, rfl, SqL.of (t2 _ _ upd_same), hmv, ?_⟩
    have t3 : Same H1 H2 := t1.trans t2
    refine ⟨_, rfl, .inl ⟨rfl, _, SqL.of (t3 _ _ hl1)⟩, ?_⟩
    refine ⟨_, rfl, _, _, _, rfl, by decide, by decide, fun ho H2' t2' ho0 ho6 => ?_⟩
    refine ⟨ho, rfl, by omega, by omega, ?_⟩
    have t3' : Same H1 H2' := t3.trans t2'
    refine comp_range (fun j zs H' => ∃ row : List Int, zs = row.map V.int ∧ Same H2' H' ∧ row.length = j ∧ ∀ v ∈ row, 0 ≤ v ∧ v ≤ 1000) ⟨[], rfl, Same.refl _, rfl, (fun v hv => nomatch hv)⟩ (small (by omega)) (fun j zs H' _ ⟨row, e1, _, e3, _⟩ => by rw [e1, List.length_map, e3]; exact Nat.le_refl _) ?_ ?_
    · rintro j zs H3 hj ⟨row, e1, e2, e3, e4⟩
      refine ⟨⟨.inl rfl, .inr rfl, .inr rfl, trivial⟩, ?_⟩
      refine ⟨_, rfl, _, rfl, _, rfl, _, _, _, rfl, by omega, hmo2.1, fun u H4 e5 u0 u1 => ?_⟩
      refine ⟨row ++ [u], by rw [e1, List.map_append]; rfl, e2.trans e5, by rw [List.length_append, e3]; rfl, fun v hv => ?_⟩
      rcases List.mem_append.mp hv with hv | hv
      · exact e4 v hv
      · rw [List.mem_singleton.mp hv]
        omega
    · rintro zs H3 ⟨row, e1, e2, e3, e4⟩ r0 hr0
      have t4 : Same H1 H3 := t3'.trans e2
      have t5 : Same H3 (upd H3 r0 (.lst zs)) := same_new hr0 _
      refine ⟨r0, row, rfl, SqL.of (by rw [upd_same, e1]), by omega, fun r1 ms hr1 hperm hasc => ?_⟩
      have t6 := t5.trans (same_new hr1 (HO.lst (ms.map V.int)))
      refine ⟨_, rfl, _, rfl, rfl, r1, _, rfl, SqL.of upd_same, fun r hr => ?_⟩
      rw [← List.map_reverse]
      have t7 := t6.trans (same_new hr (HO.lst (ms.reverse.map V.int)))
      have hr3 : H3 r = none := t6.free hr
      have hI : IL (upd (upd (upd H3 r0 (.lst zs)) r1 (.lst (ms.map V.int))) r (.lst (ms.reverse.map V.int))) r ms.reverse := upd_same
      generalize upd (upd (upd H3 r0 (.lst zs)) r1 (.lst (ms.map V.int))) r (.lst (ms.reverse.map V.int)) = H4 at t7 hI ⊢
      have rl : r ≠ l := fun e => by
        have z := t4 _ _ hl1
        rw [← e, hr3] at z
        cases z
      refine ⟨l, _, .ref r, rfl, rfl, t7 _ _ (t4 _ _ hl1), (by rw [List.length_map, hpl, hwl]; exact small1000 (by omega)), ?_⟩
      have lH : H l = none := hl
      have t8 : Same H (upd H4 l (.lst (as.map V.ref ++ [.ref r]))) := same_upd (sH.trans (t4.trans t7)) lH _
      refine ⟨as ++ [r], ws ++ [ms.reverse], _, _, _, rfl, t8, by rw [upd_same, List.map_append]; rfl, ?_, fun b hb => ?_, by rw [List.length_append, hwl]; rfl, fun rw' hrw => ?_⟩
      · refine papp (pimp hp fun b hb nn z => ?_) (.cons ?_ .nil)
        · show upd _ l _ b = _
          rw [upd_ne (hf b hb).1]
          exact t7 _ _ (t4 _ _ z)
        · show upd _ l _ r = _
          rw [upd_ne rl]
          exact hI
      · rcases List.mem_append.mp hb with hb | hb
        · exact hf b hb
        · rw [List.mem_singleton.mp hb]
          exact ⟨rl, (sH.trans t4).free hr3⟩
      · rcases List.mem_append.mp hrw with hrw | hrw
        · exact hok rw' hrw
        · rw [List.mem_singleton.mp hrw]
          refine ⟨by rw [List.length_reverse, hperm.length_eq]; omega, fun v hv => e4 v (hperm.mem_iff.mp (List.mem_reverse.mp hv)), ?_⟩
          rw [List.pairwise_reverse]
          exact hasc
  · rintro σ H1 ⟨as, ws, v5, v6, v7, rfl, sH, hl1, hp, hf, hwl, hok⟩
    exact ⟨_, rfl, q l H1 ws sH ⟨hl, as, hl1, hp, fun b hb => (hf b hb).2⟩ (by omega) hok⟩
theorem scHeapSize : FnScope ["script", "most"] ["script", "most"] (defScope sHeapSize) := ⟨rfl, rfl, rfl, by decide +kernel, rfl, by decide +kernel, by decide +kernel⟩
theorem ok_heapSize {f f1 : Addr} {fd fd1 : FuncData} (F : Fun K "_law_heap_size_by" "_law_heap_size_by" sHeapSize f fd) (G1 : FnOk P w K mg base CX0 1 f1 fd1 ["script", "k"] (spCell K)) (b1 : Binds K fd1 ["script", "k"] []) (k1 : PySem.W.keepIn K (.ref f1) = true) (m1 : mg "_law_cell_at" = some (.ref f1)) : FnOk P w K mg base CX0 2 f fd ["script", "most"] (spHeapSize K) := by
  refine F.ok scHeapSize (fun vs H Q E h => ?_) (fun cdv A outer s H vs Q E hr h => ?_)
  · obtain ⟨_, _, _, rfl, _⟩ := h
    rfl
  obtain ⟨a, ns, m, rfl, hS, m0, q⟩ := h
  refine ⟨_, pss_one (ps_ret (pe_tup (pa_cons (pe_op op_mod (pe_call G1 hr rfl m1 k1 b1 .nil pass0 (pa_cons (pv 0) (pa_cons pe_int pa_nil))) pe_int)
    (pa_cons (pe_op op_add pe_int (pe_op op_mod (pe_call G1 hr rfl m1 k1 b1 .nil pass0 (pa_cons (pv 0) (pa_cons pe_int pa_nil))) (pv 1))) pa_nil)))), ?_⟩
  refine ⟨_, rfl, a, ns, _, rfl, hS, by decide, _, _, rfl, rfl, (by show (0 : Int) < 13; decide), ?_⟩
  refine ⟨_, rfl, a, ns, _, rfl, hS, by decide, _, rfl, _, _, rfl, rfl, m0, _, _, rfl, rfl, ?_⟩
  refine ⟨(by show 2 ≤ sizeLine; decide), fun p hp => ?_⟩
  have z1 := Int.emod_nonneg (cellZ ns 0) (show m ≠ 0 by omega)
  have z2 := Int.emod_lt_of_pos (cellZ ns 0) m0
  exact q p _ _ _ (same_new hp _) upd_same (by omega) (by omega) (by omega) (by omega)
end
def spWebBy (K : PySem.W.Frag) : Sp := fun vs H Q _ => ∃ (a : Addr) (ns : List Int) (m : Int), vs = [.ref a, .int m] ∧ SqL K H a (ns.map V.int) ∧ 0 < m ∧ m ≤ 10 ∧ ∀ r ra H' places rds, Same H H' → H ra = none → H' r = some (.tup [.int places, .ref ra]) → RdL H' ra rds → 2 ≤ places → places ≤ 6 → 1 ≤ rds.length → (rds.length : Int) ≤ m → okRds places rds → Q (.ref r) H'
section
variable {P : Program} {w : World} {K : PySem.W.Frag} {mg : Str → Option Value} {base : Heap}
theorem scWebBy : FnScope ["script", "most", "places", "many", "roads", "k", "cell", "one"] ["script", "most"] (defScope sWebBy) := ⟨rfl, rfl, rfl, by decide +kernel, rfl, by decide +kernel, by decide +kernel⟩
theorem ok_webBy {f f1 f2 : Addr} {fd fd1 fd2 : FuncData} (F : Fun K "_law_web_by" "_law_web_by" sWebBy f fd) (G1 : FnOk P w K mg base CX0 1 f1 fd1 ["script", "k"] (spCell K)) (b1 : Binds K fd1 ["script", "k"] []) (k1 : PySem.W.keepIn K (.ref f1) = true) (m1 : mg "_law_cell_at" = some (.ref f1))
    (G2 : FnOk P w K mg base CX0 1 f2 fd2 ["cell", "k", "many"] spMix) (b2 : Binds K fd2 ["cell", "k", "many"] []) (k2 : PySem.W.keepIn K (.ref f2) = true) (m2 : mg "_law_mix" = some (.ref f2)) (mr : mg "range" = none) : FnOk P w K mg base CX0 2 f fd ["script", "most"] (spWebBy K) := by
  refine F.ok scWebBy (fun vs H Q E h => ?_) (fun cdv A outer s H vs Q E hr h => ?_)
  · obtain ⟨_, _, _, rfl, _⟩ := h
    rfl
  obtain ⟨a, ns, m, rfl, hS, m0, m10, q⟩ := h
  have pl0 : 2 ≤ 2 + cellZ ns 0 % 5 ∧ 2 + cellZ ns 0 % 5 ≤ 6 := by omega
  have mn0 := Int.emod_nonneg (cellZ ns 1) (show m ≠ 0 by omega)
  have mn1 := Int.emod_lt_of_pos (cellZ ns 1) m0
  obtain ⟨pl, hpl⟩ : ∃ x, x = 2 + cellZ ns 0 % 5 := ⟨_, rfl⟩
  obtain ⟨mn, hmn⟩ : ∃ x, x = 1 + cellZ ns 1 % m := ⟨_, rfl⟩
  rw [← hpl] at pl0
  have mn2 : 1 ≤ mn ∧ mn ≤ m := by omega
  -- the row appended
  obtain ⟨t3, hT3, hI3⟩ : ∃ t, PSs (cxOf CX0 P w K mg base ["script", "most", "places", "many", "roads", "k", "cell", "one"] "_law_web_by" (defScope sWebBy) f cdv A outer s H E).nox ((forBody ((defBody sWebBy).getD 3 (.Pass ⟨0, 0, 0, 0⟩))).drop 3) t ∧
      ∀ (D : L2.Ends) (σ : L2.St) (H1 : Hp) (l : Addr) (as : List Addr) (rds : List (Int × Int)) (k c o : Int), σ = [some (.ref a), some (.int m), some (.int pl), some (.int mn), some (.ref l), some (.int k), some (.int c), some (.int o)] → 0 ≤ o → o < pl → H1 l = some (.lst (as.map V.ref)) → H l = none → Same H H1 → Paired (RdT H1) as rds → (∀ b ∈ as, b ≠ l) → as.length ≤ 20 →
        (∀ H2 p r, Same H H2 → H2 l = some (.lst ((as ++ [p]).map V.ref)) → Paired (RdT H2) (as ++ [p]) (rds ++ [r]) → p ≠ l → (0 ≤ r.1 ∧ r.1 < pl) ∧ (0 ≤ r.2 ∧ r.2 < pl) ∧ r.1 ≠ r.2 → D.nx σ H2) → t D σ H1 := by
    refine ⟨_, pss_one (ps_expr (pe_bm PySem.F.plainAttrs_list PySem.F.slot_list_append PySem.F.type_list_append mt_append (pv 4)
        (pa_cons (pe_tup (pa_cons (pv 7) (pa_cons (pe_op op_mod (pe_op op_add (pe_op op_add (pv 7) pe_int) (pe_call G2 hr rfl m2 k2 b2 .nil pass0 (pa_cons (pv 6) (pa_cons pe_int (pa_cons (pe_op op_sub (pv 2) pe_int) pa_nil))))) (pv 2)) pa_nil))) pa_nil))), ?_⟩
    rintro D σ H1 l as rds k c o rfl o0 o1 hl hlH sH hp hne h20 qq
    refine ⟨_, rfl, .inl ⟨rfl, _, SqL.of hl⟩, _, rfl, _, rfl, _, _, rfl, rfl, _, rfl, _, rfl, _, _, rfl, rfl, _, _, _, rfl, by decide, by omega, fun v H2 t2 v0 v3 => ?_⟩
    refine ⟨_, _, rfl, rfl, _, rfl, _, _, rfl, rfl, (by show (0 : Int) < pl; omega), (by show 2 ≤ sizeLine; decide), fun p hp2 => ?_⟩
    have z := mod_off o0 o1 (show 0 < 1 + v by omega) (show 1 + v < pl by omega)
    rw [show o + (1 + v) = o + 1 + v by omega] at z
    have s3 := same_new hp2 (.tup [.int o, .int ((o + 1 + v) % pl)])
    have hl2 := (t2.trans s3) _ _ hl
    have pl' : p ≠ l := fun e => by
      have z2 := t2 _ _ hl
      rw [← e, hp2] at z2
      cases z2
    refine ⟨l, _, .ref p, rfl, rfl, hl2, (by rw [List.length_map]; exact small1000 (by omega)), ?_⟩
    have s4 : Same H (upd (upd H2 p (.tup [.int o, .int ((o + 1 + v) % pl)])) l (.lst (as.map V.ref ++ [.ref p]))) := same_upd (sH.trans (t2.trans s3)) hlH _
    refine qq _ p (o, (o + 1 + v) % pl) s4 (by rw [upd_same, List.map_append]; rfl) (papp (pimp hp fun b hb r y => ?_) (.cons ?_ .nil)) pl' ⟨⟨o0, o1⟩, ⟨z.1, z.2.1⟩, z.2.2⟩
    · show upd _ l _ b = _
      rw [upd_ne (hne b hb)]
      exact (t2.trans s3) _ _ y
    · show upd _ l _ p = _
      rw [upd_ne pl', upd_same]
  refine ⟨_, pss_cons (ps_set (i := 2) scWebBy.nd rfl (Or.inl rfl) (pe_op op_add pe_int (pe_op op_mod (pe_call G1 hr rfl m1 k1 b1 .nil pass0 (pa_cons (pv 0) (pa_cons pe_int pa_nil))) pe_int)))
    (pss_cons (ps_set (i := 3) scWebBy.nd rfl (Or.inl rfl) (pe_op op_add pe_int (pe_op op_mod (pe_call G1 hr rfl m1 k1 b1 .nil pass0 (pa_cons (pv 0) (pa_cons pe_int pa_nil))) (pv 1))))
    (pss_cons (ps_set (i := 4) scWebBy.nd rfl (Or.inl rfl) (pe_lst pa_nil))
    (pss_cons (ps_for PassesOwn.never rfl (pi_range1 rfl mr (pa_cons (pv 3) pa_nil)) (pg_name (i := 5) scWebBy.nd rfl (Or.inl rfl))
      (pss_cons (ps_set (i := 6) scWebBy.nd rfl (Or.inl rfl) (pe_call G1 hr rfl m1 k1 b1 .nil pass0 (pa_cons (pv 0) (pa_cons (pe_op op_add pe_int (pv 5)) pa_nil))))
      (pss_cons (ps_set (i := 7) scWebBy.nd rfl (Or.inl rfl) (pe_call G2 hr rfl m2 k2 b2 .nil pass0 (pa_cons (pv 6) (pa_cons pe_int (pa_cons (pv 2) pa_nil)))))
      (pss_cons (ps_if (PW.pt (pw_and (pt_cmpR op_lt (pv 5) (pv 2) (nomark _)) (pw_and1 (pt_cmpR op_gt (pe_op op_mod (pe_call G1 hr rfl m1 k1 b1 .nil pass0 (pa_cons (pv 0) (pa_cons pe_int pa_nil))) pe_int) pe_int (nomark _))))) (pss_one (ps_set (i := 7) scWebBy.nd rfl (Or.inl rfl) (pv 5))) pss_nil)
      hT3))))
    (pss_one (ps_ret (pe_tup (pa_cons (pv 2) (pa_cons (pv 4) pa_nil)))))))), ?_⟩
  refine ⟨_, rfl, a, ns, _, rfl, hS, by decide, _, _, rfl, rfl, (by show (0 : Int) < 5; decide), _, _, rfl, rfl, ?_⟩
  refine ⟨_, rfl, a, ns, _, rfl, hS, by decide, _, rfl, _, _, rfl, rfl, m0, _, _, rfl, rfl, ?_⟩
  dsimp only
  rw [← hpl, ← hmn]
  refine ⟨(by show 0 ≤ sizeLine; decide), fun l hl => ?_⟩
  have s1 : Same H (upd H l (.lst [])) := same_new hl _
  refine ⟨_, rfl, mn, rfl, by omega, by omega, ?_⟩
  refine for_range (fun i σ H' => ∃ (as : List Addr) (rds : List (Int × Int)) (v5 v6 v7 : Option V), σ = [some (.ref a), some (.int m), some (.int pl), some (.int mn), some (.ref l), v5, v6, v7] ∧ Same H H' ∧ H' l = some (.lst (as.map V.ref)) ∧ Paired (RdT H') as rds ∧ (∀ b ∈ as, b ≠ l) ∧ rds.length = i ∧ okRds pl rds)
    ⟨[], [], none, none, none, rfl, s1, upd_same, .nil, (fun b hb => nomatch hb), rfl, (fun r hr => nomatch hr)⟩ ?_ ?_
  · rintro i σ H1 hi ⟨as, rds, v5, v6, v7, rfl, sH, hl1, hp, hf, hwl, hok⟩
    have hpl2 := hp.length
    refine ⟨_, rfl, _, rfl, _, _, rfl, rfl, a, ns, _, rfl, sH.seq hS, by omega, ?_⟩
    refine ⟨_, rfl, _, rfl, _, _, _, rfl, by decide, by omega, fun v H2 t2 v0 v3 => ?_⟩
    have fin : ∀ (D : L2.Ends) (σ : L2.St) (o : Int) (H3 : Hp), Same H2 H3 → σ = [some (.ref a), some (.int m), some (.int pl), some (.int mn), some (.ref l), some (.int (0 + (i : Int))), some (.int (cellZ ns (2 + (0 + (i : Int))))), some (.int o)] → 0 ≤ o → o < pl →
        (∀ σ H', (∃ (as : List Addr) (rds : List (Int × Int)) (v5 v6 v7 : Option V), σ = [some (.ref a), some (.int m), some (.int pl), some (.int mn), some (.ref l), v5, v6, v7] ∧ Same H H' ∧ H' l = some (.lst (as.map V.ref)) ∧ Paired (RdT H') as rds ∧ (∀ b ∈ as, b ≠ l) ∧ rds.length = i + 1 ∧ okRds pl rds) → D.nx σ H') → t3 D σ H3 := by
      rintro D σ o H3 t3' rfl o0 o1 hD
      refine hI3 D _ H3 l as rds _ _ o rfl o0 o1 ((t2.trans t3') _ _ hl1) hl (sH.trans (t2.trans t3')) (rmono (t2.trans t3') hp) hf (by omega) fun H4 p r s4 hl4 hp4 hne hr => ?_
      refine hD _ _ ⟨as ++ [p], rds ++ [r], _, _, _, rfl, s4, hl4, hp4, fun b hb => ?_, by rw [List.length_append, hwl]; rfl, fun x hx => ?_⟩
      · rcases List.mem_append.mp hb with hb | hb
        · exact hf b hb
        · rw [List.mem_singleton.mp hb]; exact hne
      · rcases List.mem_append.mp hx with hx | hx
        · exact hok x hx
        · rw [List.mem_singleton.mp hx]; exact hr
    refine ⟨_, rfl, _, rfl, _, _, rfl, rfl, _, rfl, ?_⟩
    refine dec2 (fun c => ?_) (fun c => ?_)
    · refine ⟨_, rfl, a, ns, _, rfl, (sH.trans t2).seq hS, by decide, _, _, rfl, rfl, (by show (0 : Int) < 4; decide), _, _, rfl, rfl, _, rfl, ?_⟩
      refine dec2 (fun c2 => ?_) (fun c2 => ?_)
      · exact ⟨_, rfl, fin _ _ _ _ (Same.refl _) rfl (by omega) (by omega) fun _ _ z => z⟩
      · exact fin _ _ _ _ (Same.refl _) rfl v0 v3 fun _ _ z => z
    · exact fin _ _ _ _ (Same.refl _) rfl v0 v3 fun _ _ z => z
  · rintro σ H1 ⟨as, rds, v5, v6, v7, rfl, sH, hl1, hp, hf, hwl, hok⟩
    refine ⟨_, rfl, _, rfl, (by show 2 ≤ sizeLine; decide), fun r hr => ?_⟩
    have s5 := same_new hr (.tup [.int pl, .ref l])
    exact q r l _ pl rds (sH.trans s5) hl upd_same ⟨as, s5 _ _ hl1, rmono s5 hp⟩ pl0.1 pl0.2 (by omega) (by omega) hok
end
def spCostsBy (K : PySem.W.Frag) : Sp := fun vs H Q _ => ∃ (a : Addr) (ns : List Int) (m : Int), vs = [.ref a, .int m] ∧ SqL K H a (ns.map V.int) ∧ 0 ≤ m ∧ m ≤ 20 ∧ ∀ r H' cs, Same H H' → H r = none → IL H' r cs → (cs.length : Int) = m → (∀ c ∈ cs, 0 ≤ c ∧ c ≤ 1000) → Q (.ref r) H'
def kindS (b : Bool) : Str := if b then "tree" else "way"
def spKindBy (K : PySem.W.Frag) : Sp := fun vs H Q _ => ∃ (a : Addr) (ns : List Int), vs = [.ref a] ∧ SqL K H a (ns.map V.int) ∧ ∀ b H', Same H H' → Q (.str (kindS b)) H'
section
variable {P : Program} {w : World} {K : PySem.W.Frag} {mg : Str → Option Value} {base : Heap}
theorem scCostsBy : FnScope ["script", "many", "cell", "most"] ["script", "many"] (defScope sCostsBy) := ⟨rfl, rfl, rfl, by decide +kernel, rfl, by decide +kernel, by decide +kernel⟩
theorem ok_costsBy {f f1 f2 : Addr} {fd fd1 fd2 : FuncData} (F : Fun K "_law_costs_by" "_law_costs_by" sCostsBy f fd) (G1 : FnOk P w K mg base CX0 1 f1 fd1 ["script", "k"] (spCell K)) (b1 : Binds K fd1 ["script", "k"] []) (k1 : PySem.W.keepIn K (.ref f1) = true) (m1 : mg "_law_cell_at" = some (.ref f1))
    (G2 : FnOk P w K mg base CX0 1 f2 fd2 ["cell", "k", "many"] spMix) (b2 : Binds K fd2 ["cell", "k", "many"] []) (k2 : PySem.W.keepIn K (.ref f2) = true) (m2 : mg "_law_mix" = some (.ref f2)) (mr : mg "range" = none) : FnOk P w K mg base CX0 2 f fd ["script", "many"] (spCostsBy K) := by
  refine F.ok scCostsBy (fun vs H Q E h => ?_) (fun cdv A outer s H vs Q E hr h => ?_)
  · obtain ⟨_, _, _, rfl, _⟩ := h
    rfl
  obtain ⟨a, ns, m, rfl, hS, m0, m10, q⟩ := h
  refine ⟨_, pss_cons (ps_set (i := 2) scCostsBy.nd rfl (Or.inr rfl) (pe_call G1 hr rfl m1 k1 b1 .nil pass0 (pa_cons (pv 0) (pa_cons pe_int pa_nil))))
    (pss_cons (ps_set (i := 3) scCostsBy.nd rfl (Or.inr rfl) (pe_ix ix_list (pe_lst (pa_cons pe_int (pa_cons pe_int (pa_cons pe_int pa_nil)))) (pe_op op_mod (pe_call G1 hr rfl m1 k1 b1 .nil pass0 (pa_cons (pv 0) (pa_cons pe_int pa_nil))) pe_int) (fun _ _ => rfl)))
    (pss_one (ps_ret (pe_comp (N := ["k", "cell", "most"]) (cap := [none, some 2, some 3]) rfl (compOk_of (by rfl)) (pi_range1 rfl mr (pa_cons (pv 1) pa_nil)) (fun _ _ _ _ => pg_name (i := 0) (nd3 (by decide +kernel) (by decide +kernel) (by decide +kernel)) rfl (Or.inl rfl)) (fun _ _ _ _ => pts_nil)
      (fun _ _ _ _ => pe_call G2 hr rfl m2 k2 b2 .nil pass0 (pa_cons (pv 1) (pa_cons (pe_op op_mul pe_int (pv 0)) (pa_cons (pv 2) pa_nil)))))))), ?_⟩
  refine ⟨_, rfl, a, ns, _, rfl, hS, by decide, ?_⟩
  refine ⟨(by show 3 ≤ sizeLine; decide), fun l hl => ?_⟩
  have t1 : Same H (upd H l (.lst [.int 3, .int 11, .int 1001])) := same_new hl _
  refine ⟨_, rfl, a, ns, _, rfl, t1.seq hS, by decide, _, _, rfl, rfl, (by show (0 : Int) < 3; decide), ?_⟩
  obtain ⟨mv, hmv, hmv2⟩ := atI_of (xs := [3, 11, 1001].map V.int) (i := cellZ ns 22 % 3) (by omega) (by show _ < (3 : Int); omega)
  obtain ⟨mo, hmo, rfl⟩ := map_int_get hmv2
  have hmo2 : 0 < mo ∧ mo ≤ 1001 := by
    have z := List.mem_of_getElem? hmo
    simp only [List.mem_cons, List.not_mem_nil, or_false] at z
    omega
  refine ⟨l, _, _, _, rfl, rfl, SqL.of upd_same, hmv, ?_⟩
  refine ⟨_, rfl, m, rfl, by omega, by omega, ?_⟩
  refine comp_range (fun j zs H' => ∃ row : List Int, zs = row.map V.int ∧ Same H H' ∧ row.length = j ∧ ∀ v ∈ row, 0 ≤ v ∧ v ≤ 1000) ⟨[], rfl, t1, rfl, (fun v hv => nomatch hv)⟩ (small (by omega)) (fun j zs H' _ ⟨row, e1, _, e3, _⟩ => by rw [e1, List.length_map, e3]; exact Nat.le_refl _) ?_ ?_
  · rintro j zs H3 hj ⟨row, e1, e2, e3, e4⟩
    refine ⟨⟨.inl rfl, .inr rfl, .inr rfl, trivial⟩, ?_⟩
    refine ⟨_, rfl, _, rfl, _, _, rfl, rfl, .inl ⟨by decide, by decide⟩, _, rfl, _, _, _, rfl, by omega, hmo2.1, fun u H4 e5 u0 u1 => ?_⟩
    refine ⟨row ++ [u], by rw [e1, List.map_append]; rfl, e2.trans e5, by rw [List.length_append, e3]; rfl, fun v hv => ?_⟩
    rcases List.mem_append.mp hv with hv | hv
    · exact e4 v hv
    · rw [List.mem_singleton.mp hv]
      omega
  · rintro zs H3 ⟨row, e1, e2, e3, e4⟩ r hr
    exact q r _ row (e2.trans (same_new hr _)) (e2.free hr) (by show upd _ r _ r = _; rw [upd_same, e1]) (by omega) e4
theorem scKindBy : FnScope ["script"] ["script"] (defScope sKindBy) := ⟨rfl, rfl, rfl, by decide +kernel, rfl, by decide +kernel, by decide +kernel⟩
theorem ok_kindBy {f f1 : Addr} {fd fd1 : FuncData} (F : Fun K "_law_kind_by" "_law_kind_by" sKindBy f fd) (G1 : FnOk P w K mg base CX0 1 f1 fd1 ["script", "k"] (spCell K)) (b1 : Binds K fd1 ["script", "k"] []) (k1 : PySem.W.keepIn K (.ref f1) = true) (m1 : mg "_law_cell_at" = some (.ref f1)) : FnOk P w K mg base CX0 2 f fd ["script"] (spKindBy K) := by
  refine F.ok scKindBy (fun vs H Q E h => ?_) (fun cdv A outer s H vs Q E hr h => ?_)
  · obtain ⟨_, _, rfl, _⟩ := h
    rfl
  obtain ⟨a, ns, rfl, hS, q⟩ := h
  refine ⟨_, pss_one (ps_ret (pe_ix ix_list (pe_lst (pa_cons pe_str (pa_cons pe_str pa_nil))) (pe_op op_mod (pe_call G1 hr rfl m1 k1 b1 .nil pass0 (pa_cons (pv 0) (pa_cons pe_int pa_nil))) pe_int) (fun _ _ => rfl))), ?_⟩
  refine ⟨(by show 2 ≤ sizeLine; decide), fun l hl => ?_⟩
  have t1 := same_new hl (.lst [.str "way", .str "tree"])
  refine ⟨_, rfl, a, ns, _, rfl, t1.seq hS, by decide, _, _, rfl, rfl, (by show (0 : Int) < 2; decide), ?_⟩
  rcases (show cellZ ns 23 % 2 = 0 ∨ cellZ ns 23 % 2 = 1 by omega) with e | e
  · exact ⟨l, _, _, .str "way", rfl, rfl, SqL.of upd_same, (by show atI [V.str "way", V.str "tree"] (cellZ ns 23 % 2) = _; rw [e]; rfl), q false _ t1⟩
  · exact ⟨l, _, _, .str "tree", rfl, rfl, SqL.of upd_same, (by show atI [V.str "way", V.str "tree"] (cellZ ns 23 % 2) = _; rw [e]; rfl), q true _ t1⟩
end
def okR (tr : List Int) : Prop := tr.length ≤ 5 ∧ (∀ v ∈ tr, 0 ≤ v ∧ v ≤ 1000) ∧ tr.Pairwise (fun a b => b ≤ a)
def plOk (p : Int) (ws : List (List Int)) : Prop := (1 ≤ ws.length ∧ ws.length ≤ 5 ∧ okH ws) ∧ 0 ≤ p ∧ p ≤ 12
def spPBestX (C : Addr) : Sp := fun vs H Q E => ∃ (wa : Addr) (ws : List (List Int)) (p : Int), vs = [.int p, .ref wa] ∧ ILL H wa ws ∧ ws.length ≤ 100 ∧ (∀ r ∈ ws, r.length ≤ 100) ∧
  (plOk p ws → ∀ r d H', Same H H' → H r = none → H d = none → H' r = some (.tup [.int (bestP p ws).1, .ref d]) → IL H' d (bestP p ws).2 → Q (.ref r) H') ∧ (¬ plOk p ws → ∀ H', Same H H' → E (.ref C) none H')
def spPBest : Sp := fun vs H Q _ => ∃ (wa : Addr) (ws : List (List Int)) (p : Int), vs = [.int p, .ref wa] ∧ ILL H wa ws ∧ 0 ≤ p ∧ p ≤ 12 ∧ 1 ≤ ws.length ∧ ws.length ≤ 5 ∧ okH ws ∧
  ∀ r d H', Same H H' → H r = none → H d = none → H' r = some (.tup [.int (bestP p ws).1, .ref d]) → IL H' d (bestP p ws).2 → Q (.ref r) H'
def paysP (p : Int) (ws : List (List Int)) : List Int := (List.range ws.length).map (payP p ws)
def spPPaysX (C : Addr) : Sp := fun vs H Q E => ∃ (wa : Addr) (ws : List (List Int)) (p : Int), vs = [.int p, .ref wa] ∧ ILL H wa ws ∧ ws.length ≤ 100 ∧ (∀ r ∈ ws, r.length ≤ 100) ∧
  (plOk p ws → ∀ r H', Same H H' → H r = none → IL H' r (paysP p ws) → Q (.ref r) H') ∧ (¬ plOk p ws → ∀ H', Same H H' → E (.ref C) none H')
def spPPays : Sp := fun vs H Q _ => ∃ (wa : Addr) (ws : List (List Int)) (p : Int), vs = [.int p, .ref wa] ∧ ILL H wa ws ∧ 0 ≤ p ∧ p ≤ 12 ∧ 1 ≤ ws.length ∧ ws.length ≤ 5 ∧ okH ws ∧
  ∀ r H', Same H H' → H r = none → IL H' r (paysP p ws) → Q (.ref r) H'
theorem okH_small {ws : List (List Int)} (h : okH ws) : ∀ r ∈ ws, r.length ≤ 100 := fun r hr => Nat.le_trans (h r hr).1 (by decide)
section
variable {P : Program} {w : World} {K : PySem.W.Frag} {mg : Str → Option Value} {base : Heap} {k : Nat} {f C : Addr} {fd : FuncData}
theorem calm_pbest (F : FnOk P w K mg base (CXX P w) k f fd ["pieces", "worths"] (spPBestX C)) : FnOk P w K mg base CX0 k f fd ["pieces", "worths"] spPBest :=
  F.calm fun vs H Q E ⟨wa, ws, p, e, hW, p0, p12, l1, l5, ok, q⟩ => ⟨wa, ws, p, e, hW, by omega, okH_small ok, fun _ => q, fun no => absurd ⟨⟨l1, l5, ok⟩, p0, p12⟩ no⟩
theorem calm_ppays (F : FnOk P w K mg base (CXX P w) k f fd ["pieces", "worths"] (spPPaysX C)) : FnOk P w K mg base CX0 k f fd ["pieces", "worths"] spPPays :=
  F.calm fun vs H Q E ⟨wa, ws, p, e, hW, p0, p12, l1, l5, ok, q⟩ => ⟨wa, ws, p, e, hW, by omega, okH_small ok, fun _ => q, fun no => absurd ⟨⟨l1, l5, ok⟩, p0, p12⟩ no⟩
end
theorem cut_fromX {xs : List V} {k : Int} (h0 : 0 ≤ k) : cutV xs (some k) none = xs.drop k.toNat := by
  by_cases h : k ≤ (xs.length : Int)
  · exact cut_from h0 h
  obtain ⟨n, rfl⟩ : ∃ n : Nat, k = (n : Int) := ⟨k.toNat, by omega⟩
  unfold cutV
  rw [HT.sIx_nat, HT.sIx_none, Nat.min_eq_right (by omega), Int.toNat_natCast, List.drop_of_length_le (Nat.le_refl _), List.drop_of_length_le (by omega), List.take_nil]
theorem fall_adj : ∀ {row : List Int}, (∀ (i : Nat) a b, row[i]? = some a → row[i + 1]? = some b → b ≤ a) → row.Pairwise (fun a b => b ≤ a)
  | [], _ => .nil
  | [a], _ => List.pairwise_singleton _ _
  | a :: b :: r, h => by
    have ih := fall_adj (row := b :: r) fun i x y hx hy => h (i + 1) x y (by simpa using hx) (by simpa using hy)
    have hab := h 0 a b rfl rfl
    refine List.pairwise_cons.mpr ⟨fun x hx => ?_, ih⟩
    rcases List.mem_cons.mp hx with z | z
    · rw [z]; exact hab
    · have := (List.pairwise_cons.mp ih).1 x z
      omega
theorem adj_fall {row : List Int} (h : row.Pairwise (fun a b => b ≤ a)) {i : Nat} {a b : Int} (ha : row[i]? = some a) (hb : row[i + 1]? = some b) : b ≤ a := by
  obtain ⟨h1, e1⟩ := List.getElem?_eq_some_iff.mp ha
  obtain ⟨h2, e2⟩ := List.getElem?_eq_some_iff.mp hb
  have z := List.pairwise_iff_getElem.mp h i (i + 1) h1 h2 (by omega)
  rw [e1, e2] at z
  exact z
theorem ptake {α β : Type} {F : α → β → Prop} : ∀ (n : Nat) {as : List α} {bs : List β}, Paired F as bs → Paired F (as.take n) (bs.take n)
  | 0, _, _, _ => .nil
  | _ + 1, _, _, .nil => .nil
  | n + 1, _, _, .cons h t => .cons h (ptake n t)
def spTRow (C : Addr) : Sp := fun vs H Q E => ∃ (r : Addr) (row : List Int), vs = [.ref r] ∧ IL H r row ∧ row.length ≤ 100 ∧ (okR row → ∀ H', Same H H' → Q .non H') ∧ (¬ okR row → ∀ H', Same H H' → E (.ref C) none H')
def spTCheck (C : Addr) : Sp := fun vs H Q E => ∃ (wa : Addr) (ws : List (List Int)), vs = [.ref wa] ∧ ILL H wa ws ∧ ws.length ≤ 100 ∧ (∀ r ∈ ws, r.length ≤ 100) ∧ ((1 ≤ ws.length ∧ ws.length ≤ 5 ∧ okH ws) → ∀ H', Same H H' → Q .non H') ∧ (¬ (1 ≤ ws.length ∧ ws.length ≤ 5 ∧ okH ws) → ∀ H', Same H H' → E (.ref C) none H')
def spTPieces (C : Addr) : Sp := fun vs H Q E => ∃ p : Int, vs = [.int p] ∧ ((0 ≤ p ∧ p ≤ 12) → Q .non H) ∧ (¬ (0 ≤ p ∧ p ≤ 12) → E (.ref C) none H)
def spTFirst : Sp := fun vs H Q _ => ∃ (wa : Addr) (ws : List (List Int)) (p : Int), vs = [.int p, .ref wa] ∧ ILL H wa ws ∧ 0 ≤ p ∧ p ≤ 12 ∧ ws.length ≤ 5 ∧ okH ws ∧
  ∀ r d H', Same H H' → H r = none → H d = none → H' r = some (.tup [.int (bestP p ws).1, .ref d]) → IL H' d (bestP p ws).2 → Q (.ref r) H'
def spTPieW : Sp := fun vs H Q _ => ∃ (r : Addr) (row : List Int) (c : Int), vs = [.ref r, .int c] ∧ IL H r row ∧ 0 ≤ c ∧ ∀ H', Same H H' → Q (.int (pieW row c)) H'
def spTDealW : Sp := fun vs H Q _ => ∃ (wa da : Addr) (ws : List (List Int)) (ds : List Int), vs = [.ref wa, .ref da] ∧ ILL H wa ws ∧ IL H da ds ∧ ws.length ≤ 100 ∧ (∀ c ∈ ds, 0 ≤ c) ∧ ∀ H', Same H H' → Q (.int (totP ws ds)) H'
def spTLoss : Sp := fun vs H Q _ => ∃ (wa da : Addr) (ws : List (List Int)) (ds : List Int) (p k : Int), vs = [.int p, .ref wa, .ref da, .int k] ∧ ILL H wa ws ∧ IL H da ds ∧ 0 ≤ p ∧ p ≤ 12 ∧ ws.length ≤ 5 ∧ okH ws ∧ ds.length = ws.length ∧ (∀ c ∈ ds, 0 ≤ c) ∧ 0 ≤ k ∧ k < (ws.length : Int) ∧
  ∀ H', Same H H' → Q (.int ((bestP p (ws.eraseIdx k.toNat)).1 - totP (ws.eraseIdx k.toNat) (ds.eraseIdx k.toNat))) H'
section
variable {P : Program} {w : World} {K : PySem.W.Frag} {mg : Str → Option Value} {base : Heap}
theorem scTRow : FnScope ["row", "worth", "ahead"] ["row"] (defScope tRow) := ⟨rfl, rfl, rfl, by decide +kernel, rfl, by decide +kernel, by decide +kernel⟩
theorem ok_tRow {f f0 C : Addr} {fd fd0 : FuncData} {tW tT : Tok} (F : Fun K "check_row" "check_row" tRow f fd) (G0 : FnOk P w K mg base CX0 1 f0 fd0 ["told"] spWithin) (b0 : Binds K fd0 ["told"] []) (k0 : PySem.W.keepIn K (.ref f0) = true) (m0 : mg "within_bounds" = some (.ref f0))
    (ml : mg "len" = none) (mz : mg "zip" = none) (mW : mg "MOST_WORTHS" = some (.int 5 tW)) (mT : mg "MOST_TOLD" = some (.int 1000 tT)) (hC : ExcK K C) (mC : mg "BadWorths" = some (.ref C)) : FnOk P w K mg base (CXX P w) 2 f fd ["row"] (spTRow C) := by
  refine F.okX scTRow (fun vs H Q E h => ?_) (fun _ cdv A outer s H vs Q E _ hr h => ?_)
  · obtain ⟨_, _, rfl, _⟩ := h
    rfl
  obtain ⟨r, row, rfl, hR, hl, q, qE⟩ := h
  refine ⟨_, pss_cons (ps_if (pt_cmpR op_gt (pe_callB call_len_seq rfl ml PySem.boot_len (pa_cons (pv 0) pa_nil)) (pe_glob (v := .int 5) rfl mW ⟨_, rfl⟩) (nomark _))
      (pss_one (ps_raise hC rfl mC rfl rfl raises_cx (pa_cons (pe_fstr (pj_str (m := 100) (pj_int (pe_glob (v := .int 5) rfl mW ⟨_, rfl⟩) (pj_str (m := 100) pj_nil (by decide +kernel))) (by decide +kernel)) (by decide)) pa_nil))) pss_nil)
    (pss_cons (ps_for passes_cx rfl (pi_list (pv 0)) (pg_name (i := 1) scTRow.nd rfl (Or.inl rfl))
      (pss_one (ps_if (pt_not (pt_val (pe_call G0 hr rfl m0 k0 b0 .nil pass0 (pa_cons (pv 1) pa_nil))))
        (pss_one (ps_raise hC rfl mC rfl rfl raises_cx (pa_cons (pe_fstr (pj_str (m := 100) (pj_int (pe_glob (v := .int 1000) rfl mT ⟨_, rfl⟩) pj_nil) (by decide +kernel)) (by decide)) pa_nil))) pss_nil)))
    (pss_one (ps_for passes_cx rfl (pi_zip rfl mz (pa_cons (pv 0) (pa_cons (pe_slice sl_list (pv 0) (po_some pe_int) po_none) pa_nil)))
      (pg_tup rfl (pgs_cons (pg_name (i := 2) scTRow.nd rfl (Or.inl rfl)) (pgs_cons (pg_name (i := 1) scTRow.nd rfl (Or.inl rfl)) pgs_nil)))
      (pss_one (ps_if (pt_cmpR op_gt (pv 1) (pv 2) (nomark _)) (pss_one (ps_raise hC rfl mC rfl rfl raises_cx (pa_cons pe_str pa_nil))) pss_nil))))), ?_⟩
  refine ⟨_, rfl, r, _, rfl, .inl (SqL.of hR), _, _, rfl, rfl, _, rfl, ?_⟩
  rw [List.length_map]
  refine dec2 (fun c => ?_) (fun c => ?_)
  · refine ⟨5, rfl, by decide, fun y => ⟨(by show 1 ≤ sizeLine; decide), qE (fun z => ?_) _ (Same.refl _)⟩⟩
    have := z.1
    omega
  have h5 : row.length ≤ 5 := by omega
  refine ⟨_, rfl, r, rfl, ⟨_, SqL.of hR⟩, ?_⟩
  refine for_list (K := K) (a := r) (xs := row.map V.int) (fun i σ H2 => (∃ v : Option V, σ = [some (.ref r), v, none]) ∧ H2 = H ∧ ∀ v ∈ row.take i, 0 ≤ v ∧ v ≤ 1000) ⟨⟨none, rfl⟩, rfl, (fun v hv => by simp at hv)⟩ (fun j σ H2 _ ⟨_, e, _⟩ => by rw [e]; exact SqL.of hR) ?_ ?_
  · rintro i x σ H2 hx ⟨⟨v, rfl⟩, rfl, hv⟩
    obtain ⟨n, hn, rfl⟩ := map_int_get hx
    have hm := List.mem_of_getElem? hn
    refine ⟨_, rfl, n, rfl, _, rfl, ?_⟩
    by_cases c2 : 0 ≤ n ∧ n ≤ 1000
    · refine ndecF c2 ⟨⟨_, rfl⟩, rfl, fun v hv' => ?_⟩
      rw [take_snoc hn] at hv'
      rcases List.mem_append.mp hv' with z | z
      · exact hv v z
      · rw [List.mem_singleton.mp z]
        exact c2
    · refine ndecT c2 ?_
      exact ⟨1000, rfl, by decide, fun y => ⟨(by show 1 ≤ sizeLine; decide), qE (fun z => c2 (z.2.1 n hm)) _ (Same.refl _)⟩⟩
  rintro σ H2 ⟨⟨v, rfl⟩, rfl, hv⟩
  rw [List.length_map, List.take_length] at hv
  refine ⟨_, rfl, _, rfl, 1, rfl, r, _, rfl, SqL.of hR, fun p hp => ?_⟩
  rw [cut_fromX (by decide)]
  have s1 := same_new hp (.lst ((row.map V.int).drop (1 : Int).toNat))
  have hP : upd H2 p (.lst ((row.map V.int).drop (1 : Int).toNat)) p = some (.lst ((row.map V.int).drop (1 : Int).toNat)) := upd_same
  refine ⟨r, p, rfl, ⟨_, SqL.of (s1 _ _ hR)⟩, ⟨_, SqL.of hP⟩, ?_⟩
  have eD : (row.map V.int).drop (1 : Int).toNat = (row.drop 1).map V.int := by rw [List.map_drop]; rfl
  rw [eD] at hP s1 ⊢
  refine for_zip (K := K) (a := r) (b := p) (xs := row.map V.int) (ys := (row.drop 1).map V.int) (fun i σ H3 => (∃ v2 v3 : Option V, σ = [some (.ref r), v2, v3]) ∧ Same (upd H2 p (.lst ((row.drop 1).map V.int))) H3 ∧ ∀ (j : Nat) a b, j < i → row[j]? = some a → row[j + 1]? = some b → b ≤ a) ⟨⟨_, _, rfl⟩, Same.refl _, fun j _ _ h => absurd h (Nat.not_lt_zero _)⟩
    (fun i σ H3 ⟨_, t1, _⟩ => ⟨SqL.of (t1 _ _ (s1 _ _ hR)), SqL.of (t1 _ _ hP)⟩) ?_ ?_
  · rintro i x y σ H3 t hx hy ⟨⟨v2, v3, rfl⟩, t1, hadj⟩ ht
    obtain ⟨a, ha, rfl⟩ := map_int_get hx
    obtain ⟨b, hb, rfl⟩ := map_int_get hy
    have hb' : row[i + 1]? = some b := by rw [List.getElem?_drop] at hb; rwa [Nat.add_comm] at hb
    have t2 := same_new ht (.tup [.int a, .int b])
    refine ⟨t, _, rfl, SqT.of upd_same, rfl, _, _, rfl, _, _, rfl, rfl, _, rfl, _, rfl, _, _, rfl, rfl, _, rfl, ?_⟩
    by_cases c2 : a < b
    · refine decT c2 ?_
      refine ⟨(by show 1 ≤ sizeLine; decide), qE (fun z => ?_) _ (s1.trans (t1.trans t2))⟩
      have := adj_fall z.2.2 ha hb'
      omega
    · refine decF c2 ⟨⟨_, _, rfl⟩, t1.trans t2, fun j a' b' hj ha' hb2 => ?_⟩
      by_cases e : j = i
      · subst e
        rw [ha] at ha'
        rw [hb'] at hb2
        cases ha'
        cases hb2
        omega
      · exact hadj j a' b' (by omega) ha' hb2
  · rintro σ H3 ⟨⟨v2, v3, rfl⟩, t1, hadj⟩
    refine q ⟨h5, hv, fall_adj fun i a b ha hb => hadj i a b ?_ ha hb⟩ _ (s1.trans t1)
    have := (List.getElem?_eq_some_iff.mp hb).1
    rw [List.length_map, List.length_map, List.length_drop]
    omega
theorem scTCheck : FnScope ["worths", "row"] ["worths"] (defScope tCheck) := ⟨rfl, rfl, rfl, by decide +kernel, rfl, by decide +kernel, by decide +kernel⟩
theorem ok_tCheck {f f1 C : Addr} {fd fd1 : FuncData} {tP : Tok} (F : Fun K "check_worths" "check_worths" tCheck f fd) (G : FnOk P w K mg base (CXX P w) 2 f1 fd1 ["row"] (spTRow C)) (b1 : Binds K fd1 ["row"] []) (k1 : PySem.W.keepIn K (.ref f1) = true) (m1 : mg pRow = some (.ref f1)) (ml : mg "len" = none)
    (mP : mg pMostP = some (.int 5 tP)) (hC : ExcK K C) (mC : mg "BadWorths" = some (.ref C)) : FnOk P w K mg base (CXX P w) 3 f fd ["worths"] (spTCheck C) := by
  refine F.okX scTCheck (fun vs H Q E h => ?_) (fun _ cdv A outer s H vs Q E _ hr h => ?_)
  · obtain ⟨_, _, rfl, _⟩ := h
    rfl
  obtain ⟨wa, ws, rfl, hW, hl, hrl, q, qE⟩ := h
  refine ⟨_, pss_cons (ps_if (pt_not (pt_chain op_le op_le pe_int (pe_callB call_len_seq rfl ml PySem.boot_len (pa_cons (pv 0) pa_nil)) (pe_glob (v := .int 5) rfl mP ⟨_, rfl⟩)))
      (pss_one (ps_raise hC rfl mC rfl rfl raises_cx (pa_cons (pe_fstr (pj_str (m := 100) (pj_int (pe_glob (v := .int 5) rfl mP ⟨_, rfl⟩) (pj_str (m := 100) pj_nil (by decide +kernel))) (by decide +kernel)) (by decide)) pa_nil))) pss_nil)
    (pss_one (ps_for passes_cx rfl (pi_list (pv 0)) (pg_name (i := 1) scTCheck.nd rfl (Or.inl rfl))
      (pss_one (ps_expr (pe_callX G hr rfl m1 k1 b1 .nil takes_cx (pa_cons (pv 1) pa_nil)))))), ?_⟩
  obtain ⟨as, hw, hp⟩ := hW
  have hpl := hp.length
  refine ⟨_, rfl, wa, _, rfl, .inl (SqL.of hw), _, _, rfl, rfl, _, rfl, ?_⟩
  rw [List.length_map, hpl]
  refine dec2 (fun c1 => ?_) (fun c1 => ?_)
  · refine ⟨_, _, rfl, rfl, _, rfl, ?_⟩
    by_cases c5 : (ws.length : Int) ≤ 5
    · refine ndecF c5 ?_
      refine ⟨_, rfl, wa, rfl, ⟨_, SqL.of hw⟩, ?_⟩
      refine for_list (K := K) (a := wa) (xs := as.map V.ref) (fun i σ H2 => (∃ v : Option V, σ = [some (.ref wa), v]) ∧ Same H H2 ∧ ∀ row ∈ ws.take i, okR row) ⟨⟨none, rfl⟩, Same.refl _, (fun v hv => by simp at hv)⟩ (fun j σ H2 _ ⟨_, t, _⟩ => SqL.of (t _ _ hw)) ?_ ?_
      · rintro i x σ H2 hx ⟨⟨v, rfl⟩, t1, hv⟩
        obtain ⟨c, hc, rfl⟩ := map_ref_get hx
        obtain ⟨row, hrow, hR⟩ := pget hp hc
        have hm := List.mem_of_getElem? hrow
        refine ⟨_, rfl, c, row, rfl, hR.mono t1, hrl row hm, fun ok H3 t2 => ⟨⟨_, rfl⟩, t1.trans t2, fun r hr' => ?_⟩, fun no H3 t2 => qE (fun z => no (z.2.2 row hm)) _ (t1.trans t2)⟩
        rw [take_snoc hrow] at hr'
        rcases List.mem_append.mp hr' with z | z
        · exact hv r z
        · rw [List.mem_singleton.mp z]
          exact ok
      · rintro σ H2 ⟨⟨v, rfl⟩, t1, hv⟩
        rw [List.length_map, hpl, List.take_length] at hv
        exact q ⟨by omega, by omega, hv⟩ _ t1
    · refine ndecT c5 ?_
      exact ⟨5, rfl, by decide, fun y => ⟨(by show 1 ≤ sizeLine; decide), qE (fun z => c5 (by have := z.2.1; omega)) _ (Same.refl _)⟩⟩
  · exact ⟨_, rfl, 5, rfl, by decide, fun y => ⟨(by show 1 ≤ sizeLine; decide), qE (fun z => c1 (by have := z.1; omega)) _ (Same.refl _)⟩⟩
theorem scTPieces : FnScope ["pieces"] ["pieces"] (defScope tPieces) := ⟨rfl, rfl, rfl, by decide +kernel, rfl, by decide +kernel, by decide +kernel⟩
theorem ok_tPieces {f C : Addr} {fd : FuncData} {tP : Tok} (F : Fun K "check_pieces" "check_pieces" tPieces f fd) (mP : mg "MOST_PIECES" = some (.int 12 tP)) (hC : ExcK K C) (mC : mg "BadWorths" = some (.ref C)) : FnOk P w K mg base (CXX P w) 1 f fd ["pieces"] (spTPieces C) := by
  refine F.okX scTPieces (fun vs H Q E h => ?_) (fun _ cdv A outer s H vs Q E _ hr h => ?_)
  · obtain ⟨_, rfl, _⟩ := h
    rfl
  obtain ⟨p, rfl, q, qE⟩ := h
  refine ⟨_, pss_one (ps_if (pt_not (pt_chain op_le op_le pe_int (pv 0) (pe_glob (v := .int 12) rfl mP ⟨_, rfl⟩)))
      (pss_one (ps_raise hC rfl mC rfl rfl raises_cx (pa_cons (pe_fstr (pj_str (m := 100) (pj_int (pe_glob (v := .int 12) rfl mP ⟨_, rfl⟩) (pj_str (m := 100) pj_nil (by decide +kernel))) (by decide +kernel)) (by decide)) pa_nil))) pss_nil), ?_⟩
  refine ⟨_, rfl, _, _, rfl, rfl, _, rfl, ?_⟩
  refine dec2 (fun c1 => ?_) (fun c1 => ?_)
  · refine ⟨_, _, rfl, rfl, _, rfl, ?_⟩
    by_cases c5 : p ≤ 12
    · exact ndecF c5 (q ⟨c1, c5⟩)
    · refine ndecT c5 ?_
      exact ⟨12, rfl, by decide, fun y => ⟨(by show 1 ≤ sizeLine; decide), qE fun z => c5 z.2⟩⟩
  · exact ⟨_, rfl, 12, rfl, by decide, fun y => ⟨(by show 1 ≤ sizeLine; decide), qE fun z => c1 z.1⟩⟩
end
section
variable {P : Program} {w : World} {K : PySem.W.Frag} {mg : Str → Option Value} {base : Heap}
theorem scTFirst : FnScope ["pieces", "worths", "wanted", "person", "row", "dealt", "getters", "dealing"] ["pieces", "worths"] (defScope tFirst) := ⟨rfl, rfl, rfl, by decide +kernel, rfl, by decide +kernel, by decide +kernel⟩
theorem ok_tFirst {f : Addr} {fd : FuncData} (F : Fun K "first_best" "first_best" tFirst f fd) (me : mg "enumerate" = none) (mS : mg "sorted" = none) (ml : mg "len" = none) (mr : mg "range" = none) (ms : mg "sum" = none) : FnOk P w K mg base CX0 1 f fd ["pieces", "worths"] spTFirst := by
  refine F.ok scTFirst (fun vs H Q E h => ?_) (fun cdv A outer s H vs Q E hr h => ?_)
  · obtain ⟨_, _, _, rfl, _⟩ := h
    rfl
  obtain ⟨wa, ws, p, rfl, hW, p0, p12, l5, ok, q⟩ := h
  refine ⟨_, pss_cons (ps_set (i := 2) scTFirst.nd rfl (Or.inl rfl) (pe_lst pa_nil))
    (pss_cons (ps_for PassesOwn.never rfl (pi_enum rfl me (pa_cons (pv 1) pa_nil)) (pg_tup rfl (pgs_cons (pg_name (i := 3) scTFirst.nd rfl (Or.inr rfl)) (pgs_cons (pg_name (i := 4) scTFirst.nd rfl (Or.inl rfl)) pgs_nil)))
      (pss_one (ps_expr (pe_bm PySem.F.plainAttrs_list PySem.F.slot_list_extend PySem.F.type_list_extend mt_extend (pv 2) (pa_cons
        (pe_comp (N := ["worth", "person"]) (cap := [none, some 3]) rfl (compOk_of (by rfl)) (pi_list (pv 4)) (fun _ _ _ _ => pg_name (i := 0) (nd2 (by decide +kernel)) rfl (Or.inl rfl)) (fun _ _ _ _ => pts_one (pt_cmpR op_gt (pv 0) pe_int (nomark _))) (fun _ _ _ _ => pe_tup (pa_cons (pv 0) (pa_cons (pv 1) pa_nil)))) pa_nil)))))
    (pss_cons (ps_set (i := 5) scTFirst.nd rfl (Or.inl rfl) (pe_slice sl_list (pe_sortR rfl mS (pa_cons (pv 2) pa_nil) pe_bl) po_none (po_some (pv 0))))
    (pss_cons (ps_set (i := 6) scTFirst.nd rfl (Or.inr rfl) (pe_comp (N := ["worth", "person"]) (cap := [none, none]) rfl (compOk_of (by rfl)) (pi_list (pv 5)) (fun _ _ _ _ => pg_tupK K (n := 2) rfl rfl (pgs_cons (pg_name (i := 0) (nd2 (by decide +kernel)) rfl (Or.inl rfl)) (pgs_cons (pg_name (i := 1) (nd2 (by decide +kernel)) rfl (Or.inl rfl)) pgs_nil))) (fun _ _ _ _ => pts_nil) (fun _ _ _ _ => pv 1)))
    (pss_cons (ps_setC (i := 7) (N := ["person", "getters"]) (cap := [none, some 6]) scTFirst.nd rfl (Or.inl rfl) rfl (compOk_of (by rfl)) (pi_range1 rfl mr (pa_cons (pe_callB call_len_seq rfl ml PySem.boot_len (pa_cons (pv 1) pa_nil)) pa_nil)) (fun _ _ _ _ => pg_name (i := 0) (nd2 (by decide +kernel)) rfl (Or.inl rfl)) (fun _ _ _ _ => pts_nil)
        (fun _ _ _ _ => pe_bmK K rfl PySem.F.plainAttrs_list PySem.F.slot_list_count PySem.F.type_list_count (mt_countVK K rfl) (pv 1) (pa_cons (pv 0) pa_nil)))
    (pss_one (ps_ret (pe_tup (pa_cons (pe_callB (call_sum rfl) rfl ms boot_sum (pa_cons (pe_comp (N := ["worth", "person"]) (cap := [none, none]) rfl (compOk_of (by rfl)) (pi_list (pv 5)) (fun _ _ _ _ => pg_tupK K (n := 2) rfl rfl (pgs_cons (pg_name (i := 0) (nd2 (by decide +kernel)) rfl (Or.inl rfl)) (pgs_cons (pg_name (i := 1) (nd2 (by decide +kernel)) rfl (Or.inl rfl)) pgs_nil))) (fun _ _ _ _ => pts_nil) (fun _ _ _ _ => pv 0)) pa_nil)) (pa_cons (pv 7) pa_nil))))))))), ?_⟩
  obtain ⟨as, hw, hp⟩ := hW
  have hpl := hp.length
  refine ⟨(by show 0 ≤ sizeLine; decide), fun wl hwl => ?_⟩
  have s0 := same_new hwl (.lst [])
  have okt : ∀ i, okH (ws.take i) := fun i r hr' => ok r (List.mem_of_mem_take hr')
  refine ⟨_, rfl, wa, rfl, ⟨_, s0 _ _ hw⟩, ?_⟩
  refine for_enum (K := K) (a := wa) (xs := as.map V.ref) (fun i σ H' => ∃ (v3 v4 : Option V) (bs : List Addr), σ = [some (.int p), some (.ref wa), some (.ref wl), v3, v4, none, none, none] ∧ Same H H' ∧ H' wl = some (.lst (bs.map V.ref)) ∧ Paired (RdT H') bs (wantF 0 (ws.take i)) ∧ ∀ b ∈ bs, b ≠ wl)
    ⟨none, none, [], rfl, s0, upd_same, .nil, (fun b hb => nomatch hb)⟩ (fun i σ H' ⟨_, _, _, _, t, _⟩ => SqL.of (t _ _ hw)) ?_ ?_
  · rintro i x σ H1 t hx ⟨v3, v4, bs, rfl, s1, hl, hb, hbn⟩ ht
    obtain ⟨ra, hra, rfl⟩ := map_ref_get hx
    obtain ⟨row, hrow, hR⟩ := pget hp hra
    have hrl := (ok row (List.mem_of_getElem? hrow)).1
    have t1 := same_new ht (.tup [.int (i : Int), .ref ra])
    refine ⟨t, _, rfl, SqT.of upd_same, rfl, _, _, rfl, _, _, rfl, rfl, ?_⟩
    obtain ⟨H2, e2⟩ : ∃ H2, H2 = upd H1 t (.tup [.int (i : Int), .ref ra]) := ⟨_, rfl⟩
    rw [← e2] at t1 ⊢
    have hl2 := t1 _ _ hl
    have s12 := s1.trans t1
    refine ⟨_, rfl, .inl ⟨rfl, _, SqL.of hl2⟩, ?_⟩
    refine ⟨_, rfl, ra, rfl, ⟨_, SqL.of (s12 _ _ hR)⟩, ?_⟩
    refine comp_list (K := K) (a := ra) (xs := row.map V.int) (fun j zs H' => ∃ cs : List Addr, zs = cs.map V.ref ∧ Same H2 H' ∧ Paired (RdT H') cs ((posR (row.take j)).map fun v => (v, (i : Int))) ∧ ∀ c ∈ cs, H2 c = none)
      ⟨[], rfl, Same.refl _, .nil, (fun b hb => nomatch hb)⟩ (by rw [List.length_map]; exact small (by omega)) (fun j zs H' _ ⟨cs, e, u1, u2, _⟩ => ⟨SqL.of (u1 _ _ (s12 _ _ hR)), ?_⟩) ?_ ?_
    · have z := u2.length
      rw [List.length_map] at z
      have z2 := List.length_filter_le (fun v => decide (0 < v)) (row.take j)
      rw [List.length_take] at z2
      rw [e, List.length_map, z]
      unfold posR
      omega
    · rintro j y zs H3 hy ⟨cs, e, u1, u2, u3⟩
      obtain ⟨n, hn, rfl⟩ := map_int_get hy
      refine ⟨⟨.inl rfl, .inr rfl, trivial⟩, ?_⟩
      refine ⟨_, rfl, _, _, rfl, rfl, _, rfl, ?_⟩
      refine dec2 (fun c => ?_) (fun c => ?_)
      · refine ⟨_, rfl, _, rfl, (by show 2 ≤ sizeLine; decide), fun tp htp => ?_⟩
        have u4 := same_new htp (.tup [.int n, .int (i : Int)])
        refine ⟨cs ++ [tp], by rw [e, List.map_append]; rfl, u1.trans u4, ?_, fun b hb' => ?_⟩
        · rw [take_snoc hn, posR_snoc, if_pos c, List.map_append]
          exact papp (rmono u4 u2) (.cons upd_same .nil)
        · rcases List.mem_append.mp hb' with z | z
          · exact u3 b z
          · rw [List.mem_singleton.mp z]
            exact u1.free htp
      · refine ⟨cs, e, u1, ?_, u3⟩
        rw [take_snoc hn, posR_snoc, if_neg c, List.append_nil]
        exact u2
    · rintro zs H3 ⟨cs, e, u1, u2, u3⟩ l2 hl2'
      rw [List.length_map, List.take_length] at u2
      have u4 := same_new hl2' (.lst zs)
      have hb1 := hb.length
      have hc1 := u2.length
      rw [List.length_map] at hc1
      have lb : bs.length ≤ 25 := by
        have z := wantF_len 0 (okt i)
        rw [List.length_take] at z
        omega
      have lc : cs.length ≤ 5 := by
        have z := List.length_filter_le (fun v => decide (0 < v)) row
        unfold posR at hc1
        omega
      refine ⟨wl, l2, _, _, rfl, rfl, (u1.trans u4) _ _ hl2, upd_same, (by rw [e, List.length_map, List.length_map]; exact small (by omega)), ?_⟩
      have cne : ∀ c ∈ cs, c ≠ wl := fun c hc z => by
        have y := u3 c hc
        rw [z, hl2] at y
        cases y
      have ne : ∀ b, b ≠ wl → ∀ o, upd H3 l2 (.lst zs) b = some o → upd (upd H3 l2 (.lst zs)) wl (.lst (bs.map V.ref ++ zs)) b = some o := fun b hne o ho => by rw [upd_ne hne]; exact ho
      refine ⟨_, _, bs ++ cs, rfl, same_upd (s12.trans (u1.trans u4)) hwl _, by rw [upd_same, e, List.map_append], ?_, fun b hb' => ?_⟩
      · rw [take_snoc hrow, wantF_snoc, List.length_take, Int.zero_add]
        have hi : i < ws.length := (List.getElem?_eq_some_iff.mp hrow).1
        rw [Nat.min_eq_left (by omega)]
        refine papp (pimp hb fun b hb' r z => ?_) (pimp u2 fun b hb' r z => ?_)
        · exact ne b (hbn b hb') _ ((t1.trans (u1.trans u4)) _ _ z)
        · exact ne b (cne b hb') _ (u4 _ _ z)
      · rcases List.mem_append.mp hb' with z | z
        · exact hbn b z
        · exact cne b z
  rintro σ H1 ⟨v3, v4, bs, rfl, s1, hl, hb, hbn⟩
  rw [List.length_map, hpl, List.take_length] at hb
  have hb1 := hb.length
  have lb : bs.length ≤ 25 := by
    have z := wantF_len 0 ok
    omega
  refine ⟨_, rfl, wl, bs, wantF 0 ws, rfl, SqL.of hl, hb, by omega, fun x hx => ?_, fun so us qs hso hus hperm hord => ?_⟩
  · have := wantF_ge hx
    omega
  have s2 := same_new hso (.lst (us.map V.ref))
  refine ⟨_, rfl, p, rfl, so, _, rfl, SqL.of upd_same, fun da hda => ?_⟩
  rw [cut_toX p0]
  have s3 := same_new hda (.lst ((us.map V.ref).take p.toNat))
  obtain ⟨H2, e2⟩ : ∃ H2, H2 = upd (upd H1 so (.lst (us.map V.ref))) da (.lst ((us.map V.ref).take p.toNat)) := ⟨_, rfl⟩
  have hD : H2 da = some (.lst ((us.take p.toNat).map V.ref)) := by rw [e2, upd_same, List.map_take]
  rw [← e2] at s3 ⊢
  have hus2 : Paired (RdT H2) (us.take p.toNat) (qs.take p.toNat) := ptake _ (rmono (s2.trans s3) hus)
  have hul := hus.length
  have hql := hperm.length_eq
  have lq : (qs.take p.toNat).length ≤ 25 := by rw [List.length_take]; omega
  have lu : (us.take p.toNat).length = (qs.take p.toNat).length := hus2.length
  have sH2 := s1.trans (s2.trans s3)
  have greed := greedy p0 ok hperm hord
  obtain ⟨L, eL⟩ : ∃ L, L = qs.take p.toNat := ⟨_, rfl⟩
  obtain ⟨ul, eu⟩ : ∃ ul, ul = us.take p.toNat := ⟨_, rfl⟩
  rw [← eL] at hus2 lq lu greed
  rw [← eu] at hus2 lu hD
  -- getters
  refine ⟨_, rfl, da, rfl, ⟨_, SqL.of hD⟩, ?_⟩
  refine comp_list (K := K) (a := da) (xs := ul.map V.ref) (fun i zs H' => H' = H2 ∧ zs = ((L.take i).map (·.2)).map V.int) ⟨rfl, rfl⟩ (by rw [List.length_map]; exact small (by omega)) (fun i zs H' _ h => ⟨by rw [h.1]; exact SqL.of hD, by rw [h.2, List.length_map, List.length_map, List.length_take]; exact Nat.min_le_left _ _⟩) ?_ ?_
  · rintro i x zs H' hx ⟨rfl, e⟩
    obtain ⟨t, ht, rfl⟩ := map_ref_get hx
    obtain ⟨r, hr', hT⟩ := pget hus2 ht
    refine ⟨t, _, rfl, SqT.of hT, rfl, _, _, rfl, _, _, rfl, rfl, ⟨.inl rfl, .inl rfl, trivial⟩, ?_⟩
    refine ⟨_, rfl, rfl, ?_⟩
    rw [e, take_snoc hr', List.map_append, List.map_append]
    rfl
  rintro zs H' ⟨rfl, e⟩ ga hga
  rw [List.length_map, lu, List.take_length] at e
  have s4 := same_new hga (.lst zs)
  obtain ⟨H3, e3⟩ : ∃ H3, H3 = upd H' ga (.lst zs) := ⟨_, rfl⟩
  have hG : IL H3 ga (L.map (·.2)) := by show H3 ga = _; rw [e3, upd_same, e]
  rw [← e3] at s4 ⊢
  have sH3 := sH2.trans s4
  -- dealing
  refine ⟨_, rfl, wa, _, rfl, .inl (SqL.of (sH3 _ _ hw)), ((as.map V.ref).length : Int), rfl, by omega, by rw [List.length_map]; omega, ?_⟩
  have eN : ((as.map V.ref).length : Int).toNat = ws.length := by rw [List.length_map, hpl, Int.toNat_natCast]
  rw [eN]
  refine comp_range (fun i zs H' => H' = H3 ∧ zs = ((List.range i).map fun (k : Nat) => (((L.map (·.2)).count (k : Int) : Nat) : Int)).map V.int) ⟨rfl, rfl⟩ (small (by omega)) (fun i zs H' _ h => by rw [h.2, List.length_map, List.length_map, List.length_range]; exact Nat.le_refl _) ?_ ?_
  · rintro i zs H'' hi ⟨rfl, e'⟩
    refine ⟨⟨.inl rfl, .inr rfl, trivial⟩, ?_⟩
    refine ⟨_, rfl, .inl ⟨rfl, _, SqL.of hG⟩, _, rfl, ga, _, _, rfl, rfl, SqL.of hG, rfl, flat_ints _, ?_⟩
    rw [countV_int]
    refine ⟨rfl, ?_⟩
    rw [e', List.range_succ, List.map_append, List.map_append, Int.zero_add]
    rfl
  rintro zs2 H'' ⟨rfl, e'⟩ dl hdl
  have s5 := same_new hdl (.lst zs2)
  obtain ⟨H4, e4⟩ : ∃ H4, H4 = upd H'' dl (.lst zs2) := ⟨_, rfl⟩
  have hDl : IL H4 dl ((List.range ws.length).map fun (k : Nat) => (((L.map (·.2)).count (k : Int) : Nat) : Int)) := by show H4 dl = _; rw [e4, upd_same, e']
  rw [← e4] at s5 ⊢
  have sH4 := sH3.trans s5
  have hD4 := (s4.trans s5) _ _ hD
  have hus4 := rmono (s4.trans s5) hus2
  -- the sum
  refine ⟨_, rfl, da, rfl, ⟨_, SqL.of hD4⟩, ?_⟩
  refine comp_list (K := K) (a := da) (xs := ul.map V.ref) (fun i zs H' => H' = H4 ∧ zs = ((L.take i).map (·.1)).map V.int) ⟨rfl, rfl⟩ (by rw [List.length_map]; exact small (by omega)) (fun i zs H' _ h => ⟨by rw [h.1]; exact SqL.of hD4, by rw [h.2, List.length_map, List.length_map, List.length_take]; exact Nat.min_le_left _ _⟩) ?_ ?_
  · rintro i x zs H5 hx ⟨rfl, e5⟩
    obtain ⟨t, ht, rfl⟩ := map_ref_get hx
    obtain ⟨r, hr', hT⟩ := pget hus4 ht
    refine ⟨t, _, rfl, SqT.of hT, rfl, _, _, rfl, _, _, rfl, rfl, ⟨.inl rfl, .inl rfl, trivial⟩, ?_⟩
    refine ⟨_, rfl, rfl, ?_⟩
    rw [e5, take_snoc hr', List.map_append, List.map_append]
    rfl
  rintro zs3 H5 ⟨rfl, e5⟩ sl hsl
  rw [List.length_map, lu, List.take_length] at e5
  have s6 := same_new hsl (.lst zs3)
  refine ⟨sl, L.map (·.1), rfl, SqL.of (by rw [upd_same, e5]), ?_⟩
  refine ⟨_, rfl, (by show 2 ≤ sizeLine; decide), fun rt hrt => ?_⟩
  have s7 := same_new hrt (.tup [.int (L.map (·.1)).sum, .ref dl])
  rw [greed] at q
  exact q rt dl _ (sH4.trans (s6.trans s7)) ((sH4.trans s6).free hrt) (sH3.free hdl) upd_same ((hDl.mono s6).mono s7)
theorem scTBest : FnScope ["pieces", "worths"] ["pieces", "worths"] (defScope tBest) := ⟨rfl, rfl, rfl, by decide +kernel, rfl, by decide +kernel, by decide +kernel⟩
theorem ok_tBest {f f1 f2 f3 C : Addr} {fd fd1 fd2 fd3 : FuncData} (F : Fun K "pile_best" "pile_best" tBest f fd) (G1 : FnOk P w K mg base (CXX P w) 3 f1 fd1 ["worths"] (spTCheck C)) (b1 : Binds K fd1 ["worths"] []) (k1 : PySem.W.keepIn K (.ref f1) = true) (m1 : mg pCheck = some (.ref f1))
    (G2 : FnOk P w K mg base (CXX P w) 1 f2 fd2 ["pieces"] (spTPieces C)) (b2 : Binds K fd2 ["pieces"] []) (k2 : PySem.W.keepIn K (.ref f2) = true) (m2 : mg "check_pieces" = some (.ref f2))
    (G3 : FnOk P w K mg base CX0 1 f3 fd3 ["pieces", "worths"] spTFirst) (b3 : Binds K fd3 ["pieces", "worths"] []) (k3 : PySem.W.keepIn K (.ref f3) = true) (m3 : mg pFirst = some (.ref f3)) : FnOk P w K mg base (CXX P w) 4 f fd ["pieces", "worths"] (spPBestX C) := by
  refine F.okX scTBest (fun vs H Q E h => ?_) (fun _ cdv A outer s H vs Q E _ hr h => ?_)
  · obtain ⟨_, _, _, rfl, _⟩ := h
    rfl
  obtain ⟨wa, ws, p, rfl, hW, l100, hrl, q, qE⟩ := h
  have hr1 := hr.mono (j := 1) (by decide)
  refine ⟨_, pss_cons (ps_expr (pe_callX G1 hr rfl m1 k1 b1 .nil takes_cx (pa_cons (pv 1) pa_nil)))
    (pss_cons (ps_expr (pe_callX G2 hr1 rfl m2 k2 b2 .nil takes_cx (pa_cons (pv 0) pa_nil)))
    (pss_one (ps_ret (pe_call G3 hr1 rfl m3 k3 b3 .nil pass0 (pa_cons (pv 0) (pa_cons (pv 1) pa_nil)))))), ?_⟩
  refine ⟨_, rfl, wa, ws, rfl, hW, l100, hrl, fun ok1 H1 s1 => ?_, fun no H1 s1 => qE (fun z => no z.1) _ s1⟩
  refine ⟨_, rfl, p, rfl, fun ok2 => ?_, fun no => qE (fun z => no z.2) _ s1⟩
  exact ⟨_, rfl, _, rfl, wa, ws, p, rfl, hW.mono s1, ok2.1, ok2.2, ok1.2.1, ok1.2.2, fun r d H2 s2 hr0 hd0 hr2 hd2 => q ⟨ok1, ok2⟩ r d _ (s1.trans s2) (s1.free hr0) (s1.free hd0) hr2 hd2⟩
end
section
variable {P : Program} {w : World} {K : PySem.W.Frag} {mg : Str → Option Value} {base : Heap}
theorem scTPieW : FnScope ["row", "count"] ["row", "count"] (defScope tPieW) := ⟨rfl, rfl, rfl, by decide +kernel, rfl, by decide +kernel, by decide +kernel⟩
theorem ok_tPieW {f : Addr} {fd : FuncData} (F : Fun K "pieces_worth" "pieces_worth" tPieW f fd) (ms : mg "sum" = none) : FnOk P w K mg base CX0 1 f fd ["row", "count"] spTPieW := by
  refine F.ok scTPieW (fun vs H Q E h => ?_) (fun cdv A outer s H vs Q E hr h => ?_)
  · obtain ⟨_, _, _, rfl, _⟩ := h
    rfl
  obtain ⟨r, row, c, rfl, hR, c0, q⟩ := h
  refine ⟨_, pss_one (ps_ret (pe_callB (call_sum rfl) rfl ms boot_sum (pa_cons (pe_slice sl_list (pv 0) po_none (po_some (pv 1))) pa_nil))), ?_⟩
  refine ⟨_, rfl, _, rfl, c, rfl, r, _, rfl, SqL.of hR, fun p hp => ?_⟩
  rw [cut_toX c0]
  have s1 := same_new hp (.lst ((row.map V.int).take c.toNat))
  exact ⟨p, row.take c.toNat, rfl, SqL.of (by rw [upd_same, List.map_take]), q _ s1⟩
theorem scTDealW : FnScope ["worths", "dealing"] ["worths", "dealing"] (defScope tDealW) := ⟨rfl, rfl, rfl, by decide +kernel, rfl, by decide +kernel, by decide +kernel⟩
theorem ok_tDealW {f f1 : Addr} {fd fd1 : FuncData} (F : Fun K "dealing_worth" "dealing_worth" tDealW f fd) (G : FnOk P w K mg base CX0 1 f1 fd1 ["row", "count"] spTPieW) (b1 : Binds K fd1 ["row", "count"] []) (k1 : PySem.W.keepIn K (.ref f1) = true) (m1 : mg "pieces_worth" = some (.ref f1))
    (ms : mg "sum" = none) (mz : mg "zip" = none) : FnOk P w K mg base CX0 2 f fd ["worths", "dealing"] spTDealW := by
  refine F.ok scTDealW (fun vs H Q E h => ?_) (fun cdv A outer s H vs Q E hr h => ?_)
  · obtain ⟨_, _, _, _, rfl, _⟩ := h
    rfl
  obtain ⟨wa, da, ws, ds, rfl, hW, hD, hlen, hok, q⟩ := h
  refine ⟨_, pss_one (ps_ret (pe_callB (call_sum rfl) rfl ms boot_sum (pa_cons (pe_comp (N := ["row", "count"]) (cap := [none, none]) rfl (compOk_of (by rfl)) (pi_zip rfl mz (pa_cons (pv 0) (pa_cons (pv 1) pa_nil)))
    (fun _ _ _ _ => pg_tupK K (n := 2) rfl rfl (pgs_cons (pg_name (i := 0) (nd2 (by decide +kernel)) rfl (Or.inl rfl)) (pgs_cons (pg_name (i := 1) (nd2 (by decide +kernel)) rfl (Or.inl rfl)) pgs_nil))) (fun _ _ _ _ => pts_nil)
    (fun _ _ _ _ => pe_call G hr rfl m1 k1 b1 .nil pass0 (pa_cons (pv 0) (pa_cons (pv 1) pa_nil)))) pa_nil))), ?_⟩
  obtain ⟨as, hw, hp⟩ := hW
  have hpl := hp.length
  refine ⟨_, rfl, _, rfl, wa, da, rfl, ⟨_, SqL.of hw⟩, ⟨_, SqL.of hD⟩, ?_⟩
  refine comp_zip (K := K) (xs := as.map V.ref) (ys := ds.map V.int) (fun i zs H' => Same H H' ∧ zs = ((ws.zip ds).take i).map fun p => V.int (pieW p.1 p.2)) ⟨Same.refl _, rfl⟩ (by rw [List.length_map, hpl]; exact small (by omega))
    (fun i zs H' ⟨s1, e⟩ => ⟨SqL.of (s1 _ _ hw), SqL.of (s1 _ _ hD), by rw [e, List.length_map, List.length_take]; omega⟩) ?_ ?_
  · rintro i x y zs H1 p hx hy ⟨s1, e⟩ hp1
    obtain ⟨a, ha, rfl⟩ := map_ref_get hx
    obtain ⟨g, hg, rfl⟩ := map_int_get hy
    obtain ⟨row, hrow, hA⟩ := pget hp ha
    have s2 : Same H (upd H1 p (.tup [.ref a, .int g])) := s1.trans (same_new hp1 _)
    refine ⟨p, _, rfl, SqT.of upd_same, rfl, _, _, rfl, _, _, rfl, rfl, ⟨.inl rfl, .inl rfl, trivial⟩, ?_⟩
    refine ⟨_, rfl, _, rfl, a, row, g, rfl, hA.mono s2, hok g (List.mem_of_getElem? hg), fun H2 s3 => ⟨s2.trans s3, ?_⟩⟩
    have hz : (ws.zip ds)[i]? = some (row, g) := by rw [List.getElem?_zip_eq_some]; exact ⟨hrow, hg⟩
    rw [e, take_snoc hz, List.map_append]
    rfl
  · rintro zs H1 ⟨s1, e⟩ p hp1
    refine ⟨p, (ws.zip ds).map fun p => pieW p.1 p.2, rfl, SqL.of (by rw [upd_same, e, List.length_map, List.length_map, hpl, ← List.length_zip, List.take_length, List.map_map]; rfl), ?_⟩
    exact q _ (s1.trans (same_new hp1 _))
theorem nn_erase {ds : List Int} (h : ∀ c ∈ ds, 0 ≤ c) (k : Nat) : ∀ c ∈ ds.eraseIdx k, 0 ≤ c := fun c hc => h c (List.mem_of_mem_eraseIdx hc)
theorem scTLoss : FnScope ["pieces", "worths", "dealing", "person", "others", "greatest"] ["pieces", "worths", "dealing", "person"] (defScope tLoss) := ⟨rfl, rfl, rfl, by decide +kernel, rfl, by decide +kernel, by decide +kernel⟩
theorem ok_tLoss {f f1 f2 f3 : Addr} {fd fd1 fd2 fd3 : FuncData} (F : Fun K "loss_of_others" "loss_of_others" tLoss f fd) (G1 : FnOk P w K mg base CX0 1 f1 fd1 ["rows", "place"] spWithout) (b1 : Binds K fd1 ["rows", "place"] []) (k1 : PySem.W.keepIn K (.ref f1) = true) (m1 : mg "without" = some (.ref f1))
    (G2 : FnOk P w K mg base CX0 1 f2 fd2 ["pieces", "worths"] spTFirst) (b2 : Binds K fd2 ["pieces", "worths"] []) (k2 : PySem.W.keepIn K (.ref f2) = true) (m2 : mg pFirst = some (.ref f2))
    (G3 : FnOk P w K mg base CX0 2 f3 fd3 ["worths", "dealing"] spTDealW) (b3 : Binds K fd3 ["worths", "dealing"] []) (k3 : PySem.W.keepIn K (.ref f3) = true) (m3 : mg pDealW = some (.ref f3)) : FnOk P w K mg base CX0 3 f fd ["pieces", "worths", "dealing", "person"] spTLoss := by
  refine F.ok scTLoss (fun vs H Q E h => ?_) (fun cdv A outer s H vs Q E hr h => ?_)
  · obtain ⟨_, _, _, _, _, _, rfl, _⟩ := h
    rfl
  obtain ⟨wa, da, ws, ds, p, k, rfl, hW, hD, p0, p12, l5, ok, hld, hnn, k0, k1', q⟩ := h
  have hr1 := hr.mono (j := 1) (by decide)
  refine ⟨_, pss_cons (ps_set (i := 4) scTLoss.nd rfl (Or.inl rfl) (pe_call G1 hr1 rfl m1 k1 b1 .nil pass0 (pa_cons (pv 1) (pa_cons (pv 3) pa_nil))))
    (pss_cons (ps_set (i := 5) scTLoss.nd rfl (Or.inl rfl) (pe_ix ix_tup (pe_call G2 hr1 rfl m2 k2 b2 .nil pass0 (pa_cons (pv 0) (pa_cons (pv 4) pa_nil))) pe_int (fun _ _ => rfl)))
    (pss_one (ps_ret (pe_op op_sub (pv 5) (pe_call G3 hr rfl m3 k3 b3 .nil pass0 (pa_cons (pv 4) (pa_cons (pe_call G1 hr1 rfl m1 k1 b1 .nil pass0 (pa_cons (pv 2) (pa_cons (pv 3) pa_nil))) pa_nil))))))), ?_⟩
  obtain ⟨as, hw, hp⟩ := hW
  have hpl := hp.length
  refine ⟨_, rfl, _, rfl, wa, _, k, rfl, hw, by rw [List.length_map]; omega, k0, by rw [List.length_map]; omega, fun o H1 s1 ho ho2 => ?_⟩
  rw [erase_map] at ho2
  have hO : ILL H1 o (ws.eraseIdx k.toNat) := ⟨_, ho2, perase _ (pmono s1 hp)⟩
  have hlo : (ws.eraseIdx k.toNat).length ≤ 5 := Nat.le_trans (List.length_eraseIdx_le _ _) l5
  refine ⟨_, rfl, _, rfl, o, ws.eraseIdx k.toNat, p, rfl, hO, p0, p12, hlo, okH_erase ok _, fun r d H2 s2 hr0 hd0 hr2' hd2 => ?_⟩
  refine ⟨r, _, 0, _, rfl, rfl, SqT.of hr2', rfl, ?_⟩
  refine ⟨_, rfl, _, rfl, _, rfl, _, rfl, da, _, k, rfl, (s1.trans s2) _ _ hD, by rw [List.length_map]; omega, k0, by rw [List.length_map]; omega, fun e H3 s3 he he2 => ?_⟩
  rw [erase_map] at he2
  refine ⟨o, e, ws.eraseIdx k.toNat, ds.eraseIdx k.toNat, rfl, (hO.mono s2).mono s3, he2, by omega, nn_erase hnn _, fun H4 s4 => ?_⟩
  exact ⟨_, _, rfl, rfl, q _ (s1.trans (s2.trans (s3.trans s4)))⟩
theorem best_nn {p : Int} {ws : List (List Int)} (p0 : 0 ≤ p) (ok : okH ws) : ∀ c ∈ (bestP p ws).2, 0 ≤ c := fun c hc => by
  obtain ⟨i, hi, e⟩ := List.mem_iff_getElem.mp hc
  have hl := bestP_len p0 ok
  obtain ⟨t, ht⟩ : ∃ t, ws[i]? = some t := ⟨_, List.getElem?_eq_getElem (by omega)⟩
  exact (feas_get (bestP_spec p0 ok).feas ht (show (bestP p ws).2[i]? = some c by rw [List.getElem?_eq_getElem hi, e])).1
theorem scTPays : FnScope ["pieces", "worths", "dealing"] ["pieces", "worths"] (defScope tPays) := ⟨rfl, rfl, rfl, by decide +kernel, rfl, by decide +kernel, by decide +kernel⟩
theorem ok_tPays {f f1 f2 C : Addr} {fd fd1 fd2 : FuncData} (F : Fun K "pile_pays" "pile_pays" tPays f fd) (G1 : FnOk P w K mg base (CXX P w) 4 f1 fd1 ["pieces", "worths"] (spPBestX C)) (b1 : Binds K fd1 ["pieces", "worths"] []) (k1 : PySem.W.keepIn K (.ref f1) = true) (m1 : mg "pile_best" = some (.ref f1))
    (G2 : FnOk P w K mg base CX0 3 f2 fd2 ["pieces", "worths", "dealing", "person"] spTLoss) (b2 : Binds K fd2 ["pieces", "worths", "dealing", "person"] []) (k2 : PySem.W.keepIn K (.ref f2) = true) (m2 : mg pLoss = some (.ref f2)) (ml : mg "len" = none) (mr : mg "range" = none) : FnOk P w K mg base (CXX P w) 5 f fd ["pieces", "worths"] (spPPaysX C) := by
  refine F.okX scTPays (fun vs H Q E h => ?_) (fun _ cdv A outer s H vs Q E _ hr h => ?_)
  · obtain ⟨_, _, _, rfl, _⟩ := h
    rfl
  obtain ⟨wa, ws, p, rfl, hW, l100, hrl, q, qE⟩ := h
  have hr3 := hr.mono (j := 3) (by decide)
  refine ⟨_, pss_cons (ps_set (i := 2) scTPays.nd rfl (Or.inr rfl) (pe_ix ix_tup (pe_callX G1 hr rfl m1 k1 b1 .nil takes_cx (pa_cons (pv 0) (pa_cons (pv 1) pa_nil))) pe_int (fun _ _ => rfl)))
    (pss_one (ps_ret (pe_comp (N := ["person", "pieces", "worths", "dealing"]) (cap := [none, some 0, some 1, some 2]) rfl (compOk_of (by rfl)) (pi_range1 rfl mr (pa_cons (pe_callB call_len_seq rfl ml PySem.boot_len (pa_cons (pv 1) pa_nil)) pa_nil)) (fun _ _ _ _ => pg_name (i := 0) (nd4 (by decide +kernel) (by decide +kernel) (by decide +kernel) (by decide +kernel) (by decide +kernel) (by decide +kernel)) rfl (Or.inl rfl)) (fun _ _ _ _ => pts_nil)
      (fun _ _ _ _ => pe_call G2 hr3 rfl m2 k2 b2 .nil pass0 (pa_cons (pv 1) (pa_cons (pv 2) (pa_cons (pv 3) (pa_cons (pv 0) pa_nil)))))))), ?_⟩
  refine ⟨_, rfl, _, rfl, wa, ws, p, rfl, hW, l100, hrl, fun ok r d H1 s1 hr0 hd0 hr1 hd1 => ?_, fun no H1 s1 => qE no _ s1⟩
  have q := q ok
  obtain ⟨⟨l1, l5, okh⟩, p0, p12⟩ := ok
  refine ⟨r, _, 1, _, rfl, rfl, SqT.of hr1, rfl, ?_⟩
  obtain ⟨as, hw, hp⟩ := hW.mono s1
  have hpl := hp.length
  have eN : ((as.map V.ref).length : Int).toNat = ws.length := by rw [List.length_map, hpl, Int.toNat_natCast]
  refine ⟨_, rfl, wa, _, rfl, .inl (SqL.of hw), ((as.map V.ref).length : Int), rfl, by omega, by rw [List.length_map]; omega, ?_⟩
  rw [eN]
  refine comp_range (fun i zs H' => Same H1 H' ∧ zs = ((List.range i).map (payP p ws)).map V.int) ⟨Same.refl _, rfl⟩ (small (by omega)) (fun i zs H' _ ⟨_, e⟩ => by rw [e, List.length_map, List.length_map, List.length_range]; exact Nat.le_refl _) ?_ ?_
  · rintro i zs H2 hi ⟨t1, e⟩
    refine ⟨⟨.inl rfl, .inr rfl, .inr rfl, .inr rfl, trivial⟩, ?_⟩
    refine ⟨_, rfl, _, rfl, _, rfl, _, rfl, wa, d, ws, (bestP p ws).2, p, _, rfl, ILL.mono t1 ⟨as, hw, hp⟩, hd1.mono t1, p0, p12, l5, okh, bestP_len p0 okh, best_nn p0 okh, by omega, by omega, fun H3 t2 => ⟨t1.trans t2, ?_⟩⟩
    rw [e, List.range_succ, List.map_append, List.map_append, Int.zero_add, Int.toNat_natCast]
    rfl
  · rintro zs H2 ⟨t1, e⟩ p2 hp2
    have s3 := same_new hp2 (.lst zs)
    exact q p2 _ (s1.trans (t1.trans s3)) ((s1.trans t1).free hp2) (by show upd _ p2 _ p2 = _; rw [upd_same, e]; rfl)
end
def WebAt (CW : Addr) (H : Hp) (wb : Addr) (places : Int) (rds : List (Int × Int)) : Prop := ∃ dx fs ra, H wb = some (.ins CW dx fs) ∧ fs.lookup ("places" : Str) = some (.int places) ∧ fs.lookup ("roads" : Str) = some (.ref ra) ∧ RdL H ra rds
def WebAtN (CW : Addr) (H0 H : Hp) (wb : Addr) (places : Int) (rds : List (Int × Int)) : Prop := ∃ dx fs ra, H wb = some (.ins CW dx fs) ∧ fs.lookup ("places" : Str) = some (.int places) ∧ fs.lookup ("roads" : Str) = some (.ref ra) ∧ RdL H ra rds ∧ H0 ra = none
def webOk (places : Int) (rds : List (Int × Int)) : Prop := (2 ≤ places ∧ places ≤ 6) ∧ (1 ≤ rds.length ∧ rds.length ≤ 10) ∧ okRds places rds
def Kept (x : Addr) (H H' : Hp) : Prop := ∀ b o, b ≠ x → H b = some o → H' b = some o
theorem WebAt.mono {CW : Addr} {H H' : Hp} {wb : Addr} {places : Int} {rds : List (Int × Int)} (s : Same H H') (h : WebAt CW H wb places rds) : WebAt CW H' wb places rds := let ⟨dx, fs, ra, a, b, c, d⟩ := h; ⟨dx, fs, ra, s _ _ a, b, c, d.mono s⟩
theorem WebAtN.at {CW : Addr} {H H' : Hp} {wb : Addr} {places : Int} {rds : List (Int × Int)} (h : WebAtN CW H H' wb places rds) : WebAt CW H' wb places rds := let ⟨dx, fs, ra, a, b, c, d, _⟩ := h; ⟨dx, fs, ra, a, b, c, d⟩
def spWInit (CW CB : Addr) : Sp := fun vs H Q E => ∃ x dx rl places rds, vs = [.ref x, .int places, .ref rl] ∧ H x = some (.ins CW dx []) ∧ H dx = some (.own x) ∧ RdL H rl rds ∧ rds.length ≤ 100 ∧
  (webOk places rds → ∀ H', Kept x H H' → WebAtN CW H H' x places rds → Q .non H') ∧ (¬ webOk places rds → ∀ H', Kept x H H' → E (.ref CB) none H')
theorem web_read {CW CB rl x dx : Addr} {H1 : Hp} {Q0 : VK} {E0 : XK} {places : Int} {rds : List (Int × Int)} (hx : H1 x = none) (hdx : H1 dx = none) (hne : dx ≠ x) (hR : RdL H1 rl rds) (hl : rds.length ≤ 100)
    (ok : webOk places rds → ∀ H', Same H1 H' → WebAtN CW H1 H' x places rds → Q0 .non H') (no : ¬ webOk places rds → ∀ H', Same H1 H' → E0 (.ref CB) none H') :
    spWInit CW CB (.ref x :: [.int places, .ref rl]) (upd (upd H1 dx (.own x)) x (.ins CW dx [])) Q0 E0 := by
  have s1 : Same H1 (upd (upd H1 dx (.own x)) x (.ins CW dx [])) := (same_new hdx _).trans (same_new (by rw [upd_ne (Ne.symm hne)]; exact hx) _)
  have kp : ∀ H', Kept x (upd (upd H1 dx (.own x)) x (.ins CW dx [])) H' → Same H1 H' := fun H' k b o e => k b o (fun z => by rw [z, hx] at e; cases e) (s1 _ _ e)
  refine ⟨x, dx, rl, places, rds, rfl, upd_same, by rw [upd_ne hne, upd_same], hR.mono s1, hl, fun w H' k hW => ok w H' (kp H' k) ?_, fun w H' k => no w H' (kp H' k)⟩
  obtain ⟨dx', fs, ra, a, b, c, d, e⟩ := hW
  exact ⟨dx', fs, ra, a, b, c, d, s1.free e⟩
section
variable {P : Program} {w : World} {K : PySem.W.Frag} {mg : Str → Option Value} {base : Heap}
structure WebK (K : PySem.W.Frag) (CW fI : Addr) : Prop where
  made : Mk K CW fI
  cls : Cls K CW
  np : NoAttr K CW "places"
  nr : NoAttr K CW "roads"
end
def costOk (n : Nat) (cs : List Int) : Prop := cs.length = n ∧ ∀ c ∈ cs, 0 ≤ c ∧ c ≤ 1000
abbrev Cand := Int → List (Int × Int) → Bool → List Int → Prop
def CandOk (cand : Cand) : Prop := ∀ places rds b, webOk places rds → Rows rds.length (cand places rds b)
def spRBest (CW CC CN : Addr) (cand : Cand) : Sp := fun vs H Q E => ∃ wb ca places rds b cs, vs = [.ref wb, .str (kindS b), .ref ca] ∧ WebAt CW H wb places rds ∧ webOk places rds ∧ IL H ca cs ∧ cs.length ≤ 100 ∧
  (costOk rds.length cs → ∀ m d, LeastR (cand places rds b) cs (some (m, d)) → ∀ r da H', Same H H' → H r = none → H da = none → H' r = some (.tup [.int m, .ref da]) → IL H' da d → Q (.ref r) H') ∧
  (costOk rds.length cs → LeastR (cand places rds b) cs none → ∀ H', Same H H' → E (.ref CN) none H') ∧
  (¬ costOk rds.length cs → ∀ H', Same H H' → E (.ref CC) none H')
def spRGets (CW CC CN CA : Addr) (cand : Cand) : Sp := fun vs H Q E => ∃ wb ca places rds b cs, vs = [.ref wb, .str (kindS b), .ref ca] ∧ WebAt CW H wb places rds ∧ webOk places rds ∧ IL H ca cs ∧ cs.length ≤ 100 ∧
  (costOk rds.length cs → ∀ m d gs, LeastR (cand places rds b) cs (some (m, d)) → GetsR (cand places rds b) cs rds.length m d (.inl gs) → ∀ r H', Same H H' → H r = none → IL H' r gs → Q (.ref r) H') ∧
  (costOk rds.length cs → ∀ m d r, LeastR (cand places rds b) cs (some (m, d)) → GetsR (cand places rds b) cs rds.length m d (.inr r) → ∀ dx fs H', Same H H' → H dx = none → H' dx = some (.xd fs) → fs.lookup ("road" : Str) = some (.int r) → E (.ref CA) (some dx) H') ∧
  (costOk rds.length cs → LeastR (cand places rds b) cs none → ∀ H', Same H H' → E (.ref CN) none H') ∧
  (¬ costOk rds.length cs → ∀ H', Same H H' → E (.ref CC) none H')
def rdOk (places : Int) (r : Int × Int) : Prop := (0 ≤ r.1 ∧ r.1 < places) ∧ (0 ≤ r.2 ∧ r.2 < places) ∧ r.1 ≠ r.2
def spURoad (CB : Addr) : Sp := fun vs H Q E => ∃ (ra : Addr) (rd : Int × Int) (places : Int), vs = [.int places, .ref ra] ∧ RdT H ra rd ∧ (rdOk places rd → Q .non H) ∧ (¬ rdOk places rd → E (.ref CB) none H)
def spUCheck (CB : Addr) : Sp := fun vs H Q E => ∃ (rl : Addr) (rds : List (Int × Int)) (places : Int), vs = [.int places, .ref rl] ∧ RdL H rl rds ∧ (webOk places rds → Q .non H) ∧ (¬ webOk places rds → E (.ref CB) none H)
section
variable {P : Program} {w : World} {K : PySem.W.Frag} {mg : Str → Option Value} {base : Heap}
theorem scURoad : FnScope ["places", "road", "place"] ["places", "road"] (defScope uRoad) := ⟨rfl, rfl, rfl, by decide +kernel, rfl, by decide +kernel, by decide +kernel⟩
theorem ok_uRoad {f C : Addr} {fd : FuncData} (F : Fun K "check_road" "check_road" uRoad f fd) (ml : mg "len" = none) (hC : ExcK K C) (mC : mg "BadWeb" = some (.ref C)) : FnOk P w K mg base (CXX P w) 1 f fd ["places", "road"] (spURoad C) := by
  refine F.okX scURoad (fun vs H Q E h => ?_) (fun _ cdv A outer s H vs Q E _ hr h => ?_)
  · obtain ⟨_, _, _, rfl, _⟩ := h
    rfl
  obtain ⟨ra, rd, places, rfl, hR, q, qE⟩ := h
  refine ⟨_, pss_cons (ps_if (PW.pt (pw_or (pt_cmpR op_ne (pe_callB call_len_seq rfl ml PySem.boot_len (pa_cons (pv 1) pa_nil)) pe_int (nomark _)) (pw_or1 (pt_cmpR op_eq (pe_ix ix_tup (pv 1) pe_int (fun _ _ => rfl)) (pe_ix ix_tup (pv 1) pe_int (fun _ _ => rfl)) (nomark _)))))
      (pss_one (ps_raise hC rfl mC rfl rfl raises_cx (pa_cons pe_str pa_nil))) pss_nil)
    (pss_one (ps_for passes_cx rfl (pi_tup (pv 1)) (pg_name (i := 2) scURoad.nd rfl (Or.inl rfl))
      (pss_one (ps_if (pt_not (pt_chain op_le op_lt pe_int (pv 2) (pv 0))) (pss_one (ps_raise hC rfl mC rfl rfl raises_cx (pa_cons pe_str pa_nil))) pss_nil)))), ?_⟩
  have hR' : H ra = some (.tup [.int rd.1, .int rd.2]) := hR
  refine ⟨_, rfl, ra, _, rfl, .inr (SqT.of hR'), rfl, _, rfl, ?_⟩
  refine ndecF rfl ?_
  refine ⟨_, rfl, ra, _, 0, .int rd.1, rfl, rfl, SqT.of hR', rfl, _, rfl, ra, _, 1, .int rd.2, rfl, rfl, SqT.of hR', rfl, rfl, _, rfl, ?_⟩
  by_cases ce : rd.1 = rd.2
  · refine decT (by rw [ce]) ?_
    exact ⟨(by show 1 ≤ sizeLine; decide), qE fun z => z.2.2 ce⟩
  refine decF (fun z => ce (by injection z)) ?_
  refine ⟨_, rfl, ra, rfl, ⟨_, SqT.of hR'⟩, ?_⟩
  refine for_tup (K := K) (a := ra) (xs := [.int rd.1, .int rd.2]) (fun i σ H2 => (∃ v : Option V, σ = [some (.int places), some (.ref ra), v]) ∧ H2 = H ∧ (1 ≤ i → 0 ≤ rd.1 ∧ rd.1 < places) ∧ (2 ≤ i → 0 ≤ rd.2 ∧ rd.2 < places)) ⟨⟨none, rfl⟩, rfl, (fun h => absurd h (by omega)), fun h => absurd h (by omega)⟩ (fun j σ H2 _ ⟨_, e, _⟩ => by rw [e]; exact SqT.of hR') ?_ ?_
  · rintro i x σ H2 hx ⟨⟨v, rfl⟩, rfl, h1, h2⟩
    obtain ⟨n, en, bad, good⟩ : ∃ n : Int, x = .int n ∧ (¬ (0 ≤ n ∧ n < places) → ¬ rdOk places rd) ∧ ((0 ≤ n ∧ n < places) → (1 ≤ i + 1 → 0 ≤ rd.1 ∧ rd.1 < places) ∧ (2 ≤ i + 1 → 0 ≤ rd.2 ∧ rd.2 < places)) := by
      match i, hx with
      | 0, hx => exact ⟨rd.1, (Option.some.inj hx).symm, fun no z => no z.1, fun ok => ⟨fun _ => ok, fun h => absurd h (by omega)⟩⟩
      | 1, hx => exact ⟨rd.2, (Option.some.inj hx).symm, fun no z => no z.2.1, fun ok => ⟨fun _ => h1 (by omega), fun _ => ok⟩⟩
    subst en
    refine ⟨_, rfl, _, _, rfl, rfl, _, rfl, ?_⟩
    refine dec2 (fun c => ?_) (fun c => ?_)
    · refine ⟨_, rfl, _, _, rfl, rfl, _, rfl, ?_⟩
      by_cases c2 : n < places
      · exact ndecF c2 ⟨⟨_, rfl⟩, rfl, good ⟨c, c2⟩⟩
      · refine ndecT c2 ?_
        exact ⟨(by show 1 ≤ sizeLine; decide), qE (bad fun z => c2 z.2)⟩
    · exact ⟨_, rfl, (by show 1 ≤ sizeLine; decide), qE (bad fun z => c z.1)⟩
  · rintro σ H2 ⟨⟨v, rfl⟩, rfl, h1, h2⟩
    exact q ⟨h1 (by show 1 ≤ 2; decide), h2 (by show 2 ≤ 2; decide), ce⟩
theorem scUCheck : FnScope ["places", "roads", "road"] ["places", "roads"] (defScope uCheck) := ⟨rfl, rfl, rfl, by decide +kernel, rfl, by decide +kernel, by decide +kernel⟩
theorem ok_uCheck {f f1 C : Addr} {fd fd1 : FuncData} {t1 t2 t3 : Tok} (F : Fun K "check_web" "check_web" uCheck f fd) (G : FnOk P w K mg base (CXX P w) 1 f1 fd1 ["places", "road"] (spURoad C)) (b1 : Binds K fd1 ["places", "road"] []) (k1 : PySem.W.keepIn K (.ref f1) = true) (m1 : mg "check_road" = some (.ref f1)) (ml : mg "len" = none)
    (c2 : mg "LEAST_PLACES" = some (.int 2 t1)) (c6 : mg "MOST_PLACES" = some (.int 6 t2)) (c10 : mg "MOST_ROADS" = some (.int 10 t3)) (hC : ExcK K C) (mC : mg "BadWeb" = some (.ref C)) : FnOk P w K mg base (CXX P w) 2 f fd ["places", "roads"] (spUCheck C) := by
  refine F.okX scUCheck (fun vs H Q E h => ?_) (fun _ cdv A outer s H vs Q E _ hr h => ?_)
  · obtain ⟨_, _, _, rfl, _⟩ := h
    rfl
  obtain ⟨rl, rds, places, rfl, hR, q, qE⟩ := h
  refine ⟨_, pss_cons (ps_if (pt_not (pt_chain op_le op_le (pe_glob (v := .int 2) rfl c2 ⟨_, rfl⟩) (pv 0) (pe_glob (v := .int 6) rfl c6 ⟨_, rfl⟩)))
      (pss_one (ps_raise hC rfl mC rfl rfl raises_cx (pa_cons (pe_fstr (pj_str (m := 100) (pj_int (pe_glob (v := .int 2) rfl c2 ⟨_, rfl⟩) (pj_str (m := 100) (pj_int (pe_glob (v := .int 6) rfl c6 ⟨_, rfl⟩) (pj_str (m := 100) pj_nil (by decide +kernel))) (by decide +kernel))) (by decide +kernel)) (by decide)) pa_nil))) pss_nil)
    (pss_cons (ps_if (pt_not (pt_chain op_le op_le pe_int (pe_callB call_len_seq rfl ml PySem.boot_len (pa_cons (pv 1) pa_nil)) (pe_glob (v := .int 10) rfl c10 ⟨_, rfl⟩)))
      (pss_one (ps_raise hC rfl mC rfl rfl raises_cx (pa_cons (pe_fstr (pj_str (m := 100) (pj_int (pe_glob (v := .int 10) rfl c10 ⟨_, rfl⟩) (pj_str (m := 100) pj_nil (by decide +kernel))) (by decide +kernel)) (by decide)) pa_nil))) pss_nil)
    (pss_one (ps_for passes_cx rfl (pi_list (pv 1)) (pg_name (i := 2) scUCheck.nd rfl (Or.inl rfl))
      (pss_one (ps_expr (pe_callX G hr rfl m1 k1 b1 .nil takes_cx (pa_cons (pv 0) (pa_cons (pv 2) pa_nil)))))))), ?_⟩
  obtain ⟨as, hw, hp⟩ := hR
  have hpl := hp.length
  refine ⟨_, rfl, _, _, rfl, rfl, _, rfl, ?_⟩
  refine dec2 (fun d1 => ?_) (fun d1 => ?_)
  · refine ⟨_, _, rfl, rfl, _, rfl, ?_⟩
    by_cases d2 : places ≤ 6
    · refine ndecF d2 ?_
      refine ⟨_, rfl, rl, _, rfl, .inl (SqL.of hw), _, _, rfl, rfl, _, rfl, ?_⟩
      rw [List.length_map, hpl]
      refine dec2 (fun d3 => ?_) (fun d3 => ?_)
      · refine ⟨_, _, rfl, rfl, _, rfl, ?_⟩
        by_cases d4 : (rds.length : Int) ≤ 10
        · refine ndecF d4 ?_
          refine ⟨_, rfl, rl, rfl, ⟨_, SqL.of hw⟩, ?_⟩
          refine for_list (K := K) (a := rl) (xs := as.map V.ref) (fun i σ H2 => (∃ v : Option V, σ = [some (.int places), some (.ref rl), v]) ∧ H2 = H ∧ ∀ r ∈ rds.take i, rdOk places r) ⟨⟨none, rfl⟩, rfl, (fun v hv => by simp at hv)⟩ (fun j σ H2 _ ⟨_, e, _⟩ => by rw [e]; exact SqL.of hw) ?_ ?_
          · rintro i x σ H2 hx ⟨⟨v, rfl⟩, rfl, hv⟩
            obtain ⟨c, hc, rfl⟩ := map_ref_get hx
            obtain ⟨rd, hrd, hT⟩ := pget hp hc
            refine ⟨_, rfl, _, rfl, c, rd, places, rfl, hT, fun ok => ⟨⟨_, rfl⟩, rfl, fun r hr' => ?_⟩, fun no => qE fun z => no (z.2.2 rd (List.mem_of_getElem? hrd))⟩
            rw [take_snoc hrd] at hr'
            rcases List.mem_append.mp hr' with z | z
            · exact hv r z
            · rw [List.mem_singleton.mp z]
              exact ok
          · rintro σ H2 ⟨⟨v, rfl⟩, rfl, hv⟩
            rw [List.length_map, hpl, List.take_length] at hv
            exact q ⟨⟨d1, d2⟩, ⟨by omega, by omega⟩, hv⟩
        · refine ndecT d4 ?_
          exact ⟨10, rfl, by decide, fun y => ⟨(by show 1 ≤ sizeLine; decide), qE fun z => d4 (by have := z.2.1.2; omega)⟩⟩
      · exact ⟨_, rfl, 10, rfl, by decide, fun y => ⟨(by show 1 ≤ sizeLine; decide), qE fun z => d3 (by have := z.2.1.1; omega)⟩⟩
    · refine ndecT d2 ?_
      exact ⟨2, rfl, by decide, 6, rfl, by decide, fun y => ⟨(by show 1 ≤ sizeLine; decide), qE fun z => d2 z.1.2⟩⟩
  · exact ⟨_, rfl, 2, rfl, by decide, 6, rfl, by decide, fun y => ⟨(by show 1 ≤ sizeLine; decide), qE fun z => d1 z.1.1⟩⟩
theorem scUInit : FnScope ["self", "places", "roads"] ["self", "places", "roads"] (defScope uInit) := ⟨rfl, rfl, rfl, by decide +kernel, rfl, by decide +kernel, by decide +kernel⟩
theorem ok_uInit {f f1 C CW fI : Addr} {fd fd1 : FuncData} (F : Fun K "__init__" "Web.__init__" uInit f fd) (G : FnOk P w K mg base (CXX P w) 2 f1 fd1 ["places", "roads"] (spUCheck C)) (b1 : Binds K fd1 ["places", "roads"] []) (k1 : PySem.W.keepIn K (.ref f1) = true) (m1 : mg "check_web" = some (.ref f1)) (mL : mg "list" = none)
    (WK : WebK K CW fI) : FnOk P w K mg base (CXX P w) 3 f fd ["self", "places", "roads"] (spWInit CW C) := by
  refine F.okX scUInit (fun vs H Q E h => ?_) (fun _ cdv A outer s H vs Q E _ hr h => ?_)
  · obtain ⟨_, _, _, _, _, rfl, _⟩ := h
    rfl
  obtain ⟨x, dx, rl, places, rds, rfl, hx, hdx, hR, hl, q, qE⟩ := h
  refine ⟨_, pss_cons (ps_expr (pe_callX G hr rfl m1 k1 b1 .nil takes_cx (pa_cons (pv 1) (pa_cons (pv 2) pa_nil))))
    (pss_cons (ps_fld (pv 0) (pv 1) rfl)
    (pss_one (ps_fld (pv 0) (pe_callTy call_list_of rfl mL PyProof.Rows.boot_list (pa_cons (pv 2) pa_nil)) rfl))), ?_⟩
  have kself : Kept x H H := fun b o _ e => e
  refine ⟨_, rfl, _, rfl, rl, rds, places, rfl, hR, fun ok => ?_, fun no => qE no _ kself⟩
  obtain ⟨as, hw, hp⟩ := hR
  have xne : rl ≠ x := fun e => by rw [e, hx] at hw; cases hw
  refine ⟨_, rfl, _, rfl, x, CW, dx, [], rfl, hx, WK.cls, WK.np, by decide, ?_⟩
  have u1 : upd H x (.ins CW dx (putF "places" (.int places) [])) rl = some (.lst (as.map V.ref)) := by rw [upd_ne xne]; exact hw
  refine ⟨_, rfl, rl, _, rfl, .inl (SqL.of u1), fun l hl' => ?_⟩
  have lx : x ≠ l := fun e => by rw [← e, upd_same] at hl'; cases hl'
  refine ⟨_, rfl, x, CW, dx, _, rfl, by rw [upd_ne lx, upd_same], WK.cls, WK.nr, (by show 1 < 1000; decide), ?_⟩
  have hlH : H l = none := by rw [upd_ne (Ne.symm lx)] at hl'; exact hl'
  have keep : Kept x H (upd (upd (upd H x (.ins CW dx (putF "places" (.int places) []))) l (.lst (as.map V.ref))) x (.ins CW dx (putF "roads" (.ref l) (putF "places" (.int places) [])))) := fun b o hb e => by
    rw [upd_ne hb, upd_ne (fun z => by rw [z, hlH] at e; cases e), upd_ne hb]
    exact e
  refine q ok _ keep ⟨dx, _, l, upd_same, rfl, rfl, ⟨as, by rw [upd_ne (Ne.symm lx), upd_same], pimp hp fun b hb r z => ?_⟩, hlH⟩
  have hbx : b ≠ x := fun e => by have z' : H b = some _ := z; rw [e, hx] at z'; cases z'
  exact keep b _ hbx z
end
def FoT (H0 H : Hp) (t : Addr) (f : List Int × List Int) : Prop := ∃ ra pa, H t = some (.tup [.ref ra, .ref pa]) ∧ IL H ra f.1 ∧ IL H pa f.2 ∧ H0 ra = none
theorem FoT.mono {H0 H H' : Hp} {t : Addr} {f : List Int × List Int} (s : Same H H') (h : FoT H0 H t f) : FoT H0 H' t f := let ⟨ra, pa, a, b, c, d⟩ := h; ⟨ra, pa, s _ _ a, s _ _ b, s _ _ c, d⟩
theorem fmono {H0 H H' : Hp} {as : List Addr} {fs : List (List Int × List Int)} (s : Same H H') (h : Paired (FoT H0 H) as fs) : Paired (FoT H0 H') as fs := pimp h fun _ _ _ z => z.mono s
def spUJoins (H0 : Hp) : Sp := fun vs H Q _ => ∃ (fo ea : Addr) (f : List Int × List Int) (rd : Int × Int), vs = [.ref fo, .ref ea] ∧ FoT H0 H fo f ∧ RdT H ea rd ∧ (0 ≤ rd.1 ∧ rd.1 < (f.2.length : Int)) ∧ (0 ≤ rd.2 ∧ rd.2 < (f.2.length : Int)) ∧ Q (.bl (decide (nm f.2 rd.1 ≠ nm f.2 rd.2))) H
def spUJ : Sp := fun vs H Q E => ∃ H0, spUJoins H0 vs H Q E
def spUWith : Sp := fun vs H Q _ => ∃ (fo ea : Addr) (f : List Int × List Int) (rd : Int × Int) (n : Nat) (H0 : Hp), vs = [.ref fo, .int (n : Int), .ref ea] ∧ FoT H0 H fo f ∧ RdT H ea rd ∧ (0 ≤ rd.1 ∧ rd.1 < (f.2.length : Int)) ∧ (0 ≤ rd.2 ∧ rd.2 < (f.2.length : Int)) ∧ f.1.length ≤ 100 ∧ f.2.length ≤ 100 ∧
  ∀ r H', Same H H' → FoT H H' r (addF n rd f) → Q (.ref r) H'
def spUTrees (CW : Addr) : Sp := fun vs H Q _ => ∃ (wb : Addr) (places : Int) (rds : List (Int × Int)), vs = [.ref wb] ∧ WebAt CW H wb places rds ∧ webOk places rds ∧ ∀ r H', Same H H' → ILLn H H' r (treesL places rds) → Q (.ref r) H'
theorem nm_at {l : List Int} {p : Int} (h0 : 0 ≤ p) (h1 : p < (l.length : Int)) : atI (l.map V.int) p = some (.int (nm l p)) := by
  obtain ⟨v, hv, hv2⟩ := atI_of (xs := l.map V.int) h0 (by rw [List.length_map]; exact h1)
  obtain ⟨n, hn, rfl⟩ := map_int_get hv2
  rw [hv]
  unfold nm
  rw [List.getD_eq_getElem?_getD, hn]
  rfl
theorem forests_len (places : Int) (rds : List (Int × Int)) : ∀ n, (forestsL places rds n).length ≤ 2 ^ n
  | 0 => Nat.le_refl 1
  | n + 1 => by
    show (forestsL places rds n ++ _).length ≤ _
    rw [List.length_append, List.length_map, Nat.pow_succ]
    have h1 := forests_len places rds n
    have h2 := List.length_filter_le (fun f : List Int × List Int => decide (nm f.2 (endsR rds (n : Int)).1 ≠ nm f.2 (endsR rds (n : Int)).2)) (forestsL places rds n)
    omega
theorem row_len {n : Nat} {row : List Int} (h1 : ∀ v ∈ row, 0 ≤ v ∧ v < (n : Int)) (h2 : row.Pairwise (· < ·)) : row.length ≤ n := by
  have z := nodup_sub (l := row) (m := rangeI 0 n) (h2.imp fun {a b} h e => by have : a < b := h; omega) fun x hx => mem_rangeI.mpr (by have := h1 x hx; omega)
  rwa [rangeI_len] at z
section
variable {P : Program} {w : World} {K : PySem.W.Frag} {mg : Str → Option Value} {base : Heap}
theorem scUJoins : FnScope ["forest", "ends", "parts"] ["forest", "ends"] (defScope uJoins) := ⟨rfl, rfl, rfl, by decide +kernel, rfl, by decide +kernel, by decide +kernel⟩
theorem ok_uJoins {f : Addr} {fd : FuncData} (F : Fun K "joins_parts" "joins_parts" uJoins f fd) : FnOk P w K mg base CX0 1 f fd ["forest", "ends"] spUJ := by
  refine F.ok scUJoins (fun vs H Q E h => ?_) (fun cdv A outer s H vs Q E hr h => ?_)
  · obtain ⟨_, _, _, _, _, rfl, _⟩ := h
    rfl
  obtain ⟨H0, fo, ea, fo', rd, rfl, ⟨ra, pa, hF, hA, hB, _⟩, hR, r1, r2, q⟩ := h
  have hR' : H ea = some (.tup [.int rd.1, .int rd.2]) := hR
  refine ⟨_, pss_cons (ps_set (i := 2) scUJoins.nd rfl (Or.inl rfl) (pe_ix ix_tup (pv 0) pe_int (fun _ _ => rfl)))
    (pss_one (ps_ret (pe_cmpR op_ne (pe_ix ix_list (pv 2) (pe_ix ix_tup (pv 1) pe_int (fun _ _ => rfl)) (fun _ _ => rfl)) (pe_ix ix_list (pv 2) (pe_ix ix_tup (pv 1) pe_int (fun _ _ => rfl)) (fun _ _ => rfl)) (nomark _)))), ?_⟩
  refine ⟨_, rfl, fo, _, 1, .ref pa, rfl, rfl, SqT.of hF, rfl, ?_⟩
  refine ⟨_, rfl, _, rfl, ea, _, 0, .int rd.1, rfl, rfl, SqT.of hR', rfl, pa, _, _, _, rfl, rfl, SqL.of hB, nm_at r1.1 r1.2, ?_⟩
  refine ⟨_, rfl, _, rfl, ea, _, 1, .int rd.2, rfl, rfl, SqT.of hR', rfl, pa, _, _, _, rfl, rfl, SqL.of hB, nm_at r2.1 r2.2, rfl, ?_⟩
  have e : (!decide (V.int (nm fo'.2 rd.1) = V.int (nm fo'.2 rd.2))) = decide (nm fo'.2 rd.1 ≠ nm fo'.2 rd.2) := by
    by_cases c : nm fo'.2 rd.1 = nm fo'.2 rd.2
    · rw [c]; simp
    · rw [decide_eq_false (fun z => c (by injection z)), decide_eq_true c]; rfl
  rw [← e] at q
  exact q
theorem scUWith : FnScope ["forest", "road", "ends", "parts", "kept", "joined"] ["forest", "road", "ends"] (defScope uWith) := ⟨rfl, rfl, rfl, by decide +kernel, rfl, by decide +kernel, by decide +kernel⟩
theorem ok_uWith {f : Addr} {fd : FuncData} (F : Fun K "with_road" "with_road" uWith f fd) : FnOk P w K mg base CX0 1 f fd ["forest", "road", "ends"] spUWith := by
  refine F.ok scUWith (fun vs H Q E h => ?_) (fun cdv A outer s H vs Q E hr h => ?_)
  · obtain ⟨_, _, _, _, _, _, rfl, _⟩ := h
    rfl
  obtain ⟨fo, ea, fo', rd, n, H0, rfl, ⟨ra, pa, hF, hA, hB, _⟩, hR, r1, r2, l1, l2, q⟩ := h
  have hR' : H ea = some (.tup [.int rd.1, .int rd.2]) := hR
  refine ⟨_, pss_cons (ps_set (i := 3) scUWith.nd rfl (Or.inl rfl) (pe_ix ix_tup (pv 0) pe_int (fun _ _ => rfl)))
    (pss_cons (ps_set (i := 4) scUWith.nd rfl (Or.inr rfl) (pe_ix ix_list (pv 3) (pe_ix ix_tup (pv 2) pe_int (fun _ _ => rfl)) (fun _ _ => rfl)))
    (pss_cons (ps_set (i := 5) scUWith.nd rfl (Or.inr rfl) (pe_ix ix_list (pv 3) (pe_ix ix_tup (pv 2) pe_int (fun _ _ => rfl)) (fun _ _ => rfl)))
    (pss_one (ps_ret (pe_tup (pa_cons (pe_op op_cat (pe_ix ix_tup (pv 0) pe_int (fun _ _ => rfl)) (pe_lst (pa_cons (pv 1) pa_nil)))
      (pa_cons (pe_comp (N := ["part", "kept", "joined"]) (cap := [none, some 4, some 5]) rfl (compOk_of (by rfl)) (pi_list (pv 3)) (fun _ _ _ _ => pg_name (i := 0) (nd3 (by decide +kernel) (by decide +kernel) (by decide +kernel)) rfl (Or.inl rfl)) (fun _ _ _ _ => pts_nil) (fun _ _ _ _ => pe_ifExp (pt_cmpR op_eq (pv 0) (pv 2) (nomark _)) (pv 1) (pv 0))) pa_nil))))))), ?_⟩
  refine ⟨_, rfl, fo, _, 1, .ref pa, rfl, rfl, SqT.of hF, rfl, ?_⟩
  refine ⟨_, rfl, _, rfl, ea, _, 0, .int rd.1, rfl, rfl, SqT.of hR', rfl, pa, _, _, _, rfl, rfl, SqL.of hB, nm_at r1.1 r1.2, ?_⟩
  refine ⟨_, rfl, _, rfl, ea, _, 1, .int rd.2, rfl, rfl, SqT.of hR', rfl, pa, _, _, _, rfl, rfl, SqL.of hB, nm_at r2.1 r2.2, ?_⟩
  refine ⟨_, rfl, fo, _, 0, .ref ra, rfl, rfl, SqT.of hF, rfl, _, rfl, (by show 1 ≤ sizeLine; decide), fun l hl => ?_⟩
  have s1 := same_new hl (.lst [.int (n : Int)])
  refine ⟨ra, l, _, _, rfl, rfl, s1 _ _ hA, upd_same, (by rw [List.length_map]; show _ + 1 ≤ sizeLine; exact small (by omega)), fun m hm => ?_⟩
  have s2 := same_new hm (.lst (fo'.1.map V.int ++ [.int (n : Int)]))
  obtain ⟨H2, e2⟩ : ∃ H2, H2 = upd (upd H l (.lst [.int (n : Int)])) m (.lst (fo'.1.map V.int ++ [.int (n : Int)])) := ⟨_, rfl⟩
  have hM : IL H2 m (fo'.1 ++ [(n : Int)]) := by show H2 m = _; rw [e2, upd_same, List.map_append]; rfl
  rw [← e2] at s2 ⊢
  have s12 := s1.trans s2
  have hB2 : H2 pa = some (.lst (fo'.2.map V.int)) := s12 _ _ hB
  refine ⟨_, rfl, pa, rfl, ⟨_, SqL.of hB2⟩, ?_⟩
  refine comp_list (K := K) (a := pa) (xs := fo'.2.map V.int) (fun i zs H' => H' = H2 ∧ zs = ((fo'.2.take i).map fun x => if x = nm fo'.2 rd.2 then nm fo'.2 rd.1 else x).map V.int) ⟨rfl, rfl⟩ (by rw [List.length_map]; exact small (by omega)) (fun i zs H' _ h => ⟨by rw [h.1]; exact SqL.of hB2, by rw [h.2, List.length_map, List.length_map, List.length_take]; exact Nat.min_le_left _ _⟩) ?_ ?_
  · rintro i x zs H' hx ⟨rfl, e⟩
    obtain ⟨y, hy, rfl⟩ := map_int_get hx
    refine ⟨⟨.inl rfl, .inr rfl, .inr rfl, trivial⟩, ?_⟩
    refine ⟨_, rfl, _, rfl, rfl, _, rfl, ?_⟩
    by_cases c : y = nm fo'.2 rd.2
    · refine decT (by rw [c]) ?_
      refine ⟨_, rfl, rfl, ?_⟩
      rw [e, take_snoc hy, List.map_append, List.map_append]
      show _ ++ [V.int (nm fo'.2 rd.1)] = _ ++ [V.int (if y = nm fo'.2 rd.2 then nm fo'.2 rd.1 else y)]
      rw [if_pos c]
    · refine decF (fun z => c (by injection z)) ?_
      refine ⟨_, rfl, rfl, ?_⟩
      rw [e, take_snoc hy, List.map_append, List.map_append]
      show _ ++ [V.int y] = _ ++ [V.int (if y = nm fo'.2 rd.2 then nm fo'.2 rd.1 else y)]
      rw [if_neg c]
  · rintro zs H' ⟨rfl, e⟩ p hp
    rw [List.length_map, List.take_length] at e
    have s3 := same_new hp (.lst zs)
    refine ⟨(by show 2 ≤ sizeLine; decide), fun r hr' => ?_⟩
    have s4 := same_new hr' (.tup [.ref m, .ref p])
    exact q r _ (s12.trans (s3.trans s4)) ⟨m, p, upd_same, (hM.mono s3).mono s4, s4 _ _ (by rw [upd_same, e]; rfl), s1.free hm⟩
theorem scUTrees : FnScope ["web", "forests", "road", "ends"] ["web"] (defScope uTrees) := ⟨rfl, rfl, rfl, by decide +kernel, rfl, by decide +kernel, by decide +kernel⟩
theorem ok_uTrees {f f1 f2 CW fI : Addr} {fd fd1 fd2 : FuncData} (F : Fun K "all_trees" "all_trees" uTrees f fd) (G1 : FnOk P w K mg base CX0 1 f1 fd1 ["forest", "ends"] spUJ) (b1 : Binds K fd1 ["forest", "ends"] []) (k1 : PySem.W.keepIn K (.ref f1) = true) (m1 : mg "joins_parts" = some (.ref f1))
    (G2 : FnOk P w K mg base CX0 1 f2 fd2 ["forest", "road", "ends"] spUWith) (b2 : Binds K fd2 ["forest", "road", "ends"] []) (k2 : PySem.W.keepIn K (.ref f2) = true) (m2 : mg "with_road" = some (.ref f2)) (WK : WebK K CW fI)
    (mL : mg "list" = none) (mr : mg "range" = none) (me : mg "enumerate" = none) (ml : mg "len" = none) : FnOk P w K mg base CX0 2 f fd ["web"] (spUTrees CW) := by
  refine F.ok scUTrees (fun vs H Q E h => ?_) (fun cdv A outer s H vs Q E hr h => ?_)
  · obtain ⟨_, _, _, rfl, _⟩ := h
    rfl
  obtain ⟨wb, places, rds, rfl, hW, wok, q⟩ := h
  obtain ⟨⟨p2, p6⟩, ⟨l1, l10⟩, ok⟩ := id wok
  refine ⟨_, pss_cons (ps_set (i := 1) scUTrees.nd rfl (Or.inl rfl) (pe_lst (pa_cons (pe_tup (pa_cons (pe_lst pa_nil) (pa_cons (pe_callTy (call_listRng rfl) rfl mL PyProof.Rows.boot_list (pa_cons (pe_rangeV rfl mr (pa_cons (pe_fld (pv 0) rfl) pa_nil)) pa_nil)) pa_nil))) pa_nil)))
    (pss_cons (ps_for PassesOwn.never rfl (pi_enum rfl me (pa_cons (pe_fld (pv 0) rfl) pa_nil)) (pg_tup rfl (pgs_cons (pg_name (i := 2) scUTrees.nd rfl (Or.inr rfl)) (pgs_cons (pg_name (i := 3) scUTrees.nd rfl (Or.inr rfl)) pgs_nil)))
      (pss_one (ps_set (i := 1) scUTrees.nd rfl (Or.inl rfl) (pe_op op_cat (pv 1) (pe_comp (N := ["forest", "ends", "road"]) (cap := [none, some 3, some 2]) rfl (compOk_of (by rfl)) (pi_list (pv 1)) (fun _ _ _ _ => pg_name (i := 0) (nd3 (by decide +kernel) (by decide +kernel) (by decide +kernel)) rfl (Or.inl rfl))
        (fun _ _ _ _ => pts_one (pt_val (pe_call G1 hr rfl m1 k1 b1 .nil pass0 (pa_cons (pv 0) (pa_cons (pv 1) pa_nil))))) (fun _ _ _ _ => pe_call G2 hr rfl m2 k2 b2 .nil pass0 (pa_cons (pv 0) (pa_cons (pv 2) (pa_cons (pv 1) pa_nil)))))))))
    (pss_one (ps_ret (pe_comp (N := ["roads", "parts", "web"]) (cap := [none, none, some 0]) rfl (compOk_of (by rfl)) (pi_list (pv 1)) (fun _ _ _ _ => pg_tupK K (n := 2) rfl rfl (pgs_cons (pg_name (i := 0) (nd3 (by decide +kernel) (by decide +kernel) (by decide +kernel)) rfl (Or.inl rfl)) (pgs_cons (pg_name (i := 1) (nd3 (by decide +kernel) (by decide +kernel) (by decide +kernel)) rfl (Or.inl rfl)) pgs_nil)))
      (fun _ _ _ _ => pts_one (pt_cmpR op_eq (pe_callB (call_lenK K rfl) rfl ml PySem.boot_len (pa_cons (pv 0) pa_nil)) (pe_op op_sub (pe_fldK K rfl (pv 2) rfl) pe_int) (nomark _))) (fun _ _ _ _ => pv 0))))), ?_⟩
  obtain ⟨dx, fs, ra, hw, hfp, hfr, as, hra, hp⟩ := hW
  have hpl := hp.length
  refine ⟨(by show 0 ≤ sizeLine; decide), fun e0 he0 => ?_⟩
  have s0 := same_new he0 (.lst [])
  refine ⟨_, rfl, wb, CW, dx, fs, .int places, rfl, s0 _ _ hw, WK.cls, WK.np, hfp, places, rfl, fun rg hrg => ?_⟩
  have s1 := same_new hrg (.rng 0 places)
  refine ⟨rg, places, rfl, upd_same, by omega, by omega, fun pl hpl' => ?_⟩
  have s2 := same_new hpl' (.lst ((List.range places.toNat).map fun (i : Nat) => V.int (i : Int)))
  refine ⟨(by show 2 ≤ sizeLine; decide), fun t0 ht0 => ?_⟩
  have s3 := same_new ht0 (.tup [.ref e0, .ref pl])
  refine ⟨(by show 1 ≤ sizeLine; decide), fun fa0 hfa0 => ?_⟩
  have s4 := same_new hfa0 (.lst [.ref t0])
  have hP : IL (upd (upd (upd (upd H e0 (.lst [])) rg (.rng 0 places)) pl (.lst ((List.range places.toNat).map fun (i : Nat) => V.int (i : Int)))) t0 (.tup [.ref e0, .ref pl])) pl (rangeI 0 places.toNat) := by
    show upd _ t0 _ pl = _
    refine (s3 _ _ upd_same).trans ?_
    unfold rangeI
    rw [List.map_map]
    congr 2
    refine List.map_congr_left fun i _ => ?_
    show V.int (i : Int) = V.int (0 + (i : Int))
    rw [Int.zero_add]
  have hE := (s1.trans (s2.trans s3)) _ _ (show upd H e0 (.lst []) e0 = some (.lst []) from upd_same)
  have s14 := s0.trans (s1.trans (s2.trans (s3.trans s4)))
  refine ⟨_, rfl, wb, CW, dx, fs, .ref ra, rfl, s14 _ _ hw, WK.cls, WK.nr, hfr, ra, rfl, ⟨_, s14 _ _ hra⟩, ?_⟩
  refine for_enum (K := K) (a := ra) (xs := as.map V.ref) (fun i σ H' => ∃ (fa : Addr) (v2 v3 : Option V) (cs : List Addr), σ = [some (.ref wb), some (.ref fa), v2, v3] ∧ Same H H' ∧ H' fa = some (.lst (cs.map V.ref)) ∧ Paired (FoT H H') cs (forestsL places rds i))
    ⟨fa0, none, none, [t0], rfl, s14, upd_same, .cons ⟨e0, pl, s4 _ _ upd_same, s4 _ _ hE, s4 _ _ hP, he0⟩ .nil⟩ (fun i σ H' ⟨_, _, _, _, _, t, _⟩ => SqL.of (t _ _ hra)) ?_ ?_
  · rintro i x σ H1 t hx ⟨fa, v2, v3, cs, rfl, u1, hfa, hfo⟩ ht
    obtain ⟨ea, hea, rfl⟩ := map_ref_get hx
    obtain ⟨rd, hrd, hE'⟩ := pget hp hea
    have hi : i < rds.length := (List.getElem?_eq_some_iff.mp hrd).1
    have eR : endsR rds (i : Int) = rd := by unfold endsR; rw [Int.toNat_natCast, List.getD_eq_getElem?_getD, hrd]; rfl
    have hrok := ok rd (List.mem_of_getElem? hrd)
    have t1 := same_new ht (.tup [.int (i : Int), .ref ea])
    refine ⟨t, _, rfl, SqT.of upd_same, rfl, _, _, rfl, _, _, rfl, rfl, ?_⟩
    obtain ⟨H2, e2⟩ : ∃ H2, H2 = upd H1 t (.tup [.int (i : Int), .ref ea]) := ⟨_, rfl⟩
    rw [← e2] at t1 ⊢
    have hfa2 := t1 _ _ hfa
    have hfo2 := fmono t1 hfo
    have u2 := u1.trans t1
    have hfl := hfo.length
    have hpow : (forestsL places rds i).length ≤ 1024 := by
      have z := forests_len places rds i
      have z2 : 2 ^ i ≤ 2 ^ 10 := Nat.pow_le_pow_right (by decide) (by omega)
      omega
    refine ⟨_, rfl, _, rfl, fa, rfl, ⟨_, SqL.of hfa2⟩, ?_⟩
    refine comp_list (K := K) (a := fa) (xs := cs.map V.ref) (fun j zs H' => ∃ ds : List Addr, zs = ds.map V.ref ∧ Same H2 H' ∧ Paired (FoT H H') ds ((((forestsL places rds i).take j).filter fun f => decide (nm f.2 (endsR rds (i : Int)).1 ≠ nm f.2 (endsR rds (i : Int)).2)).map (addF i (endsR rds (i : Int)))))
      ⟨[], rfl, Same.refl _, .nil⟩ (by rw [List.length_map]; exact Nat.le_trans (by omega) (show 1024 ≤ sizeLine by decide)) (fun j zs H' _ ⟨ds, e, w1, w2⟩ => ⟨SqL.of (w1 _ _ hfa2), ?_⟩) ?_ ?_
    · have z := w2.length
      rw [List.length_map] at z
      have z2 := List.length_filter_le (fun f : List Int × List Int => decide (nm f.2 (endsR rds (i : Int)).1 ≠ nm f.2 (endsR rds (i : Int)).2)) ((forestsL places rds i).take j)
      rw [List.length_take] at z2
      rw [e, List.length_map, z]
      omega
    · rintro j y zs H3 hy ⟨ds, e, w1, w2⟩
      obtain ⟨fo, hfo', rfl⟩ := map_ref_get hy
      obtain ⟨fr, hfr', hF⟩ := pget hfo2 hfo'
      have hmem := List.mem_of_getElem? hfr'
      obtain ⟨q1, q2, _, q4⟩ := forest_mem (by omega) ok (by omega) hmem
      have q3 := row_len q1 q2
      have hl2 : (fr.2.length : Int) = places := by have := q4.1; omega
      have hF3 := hF.mono w1
      have hR3 : RdT H3 ea rd := hE'.mono (u2.trans w1)
      refine ⟨⟨.inl rfl, .inr rfl, .inr rfl, trivial⟩, ?_⟩
      refine ⟨_, rfl, _, rfl, H, fo, ea, fr, rd, rfl, hF3, hR3, ⟨hrok.1.1, by omega⟩, ⟨hrok.2.1.1, by omega⟩, _, rfl, ?_⟩
      by_cases c : nm fr.2 rd.1 ≠ nm fr.2 rd.2
      · refine decT c ?_
        refine ⟨_, rfl, _, rfl, _, rfl, fo, ea, fr, rd, i, H, rfl, hF3, hR3, ⟨hrok.1.1, by omega⟩, ⟨hrok.2.1.1, by omega⟩, by omega, by omega, fun r H4 w3 hN => ?_⟩
        refine ⟨ds ++ [r], by rw [e, List.map_append]; rfl, w1.trans w3, ?_⟩
        rw [take_snoc hfr', List.filter_append, List.filter_cons, if_pos (decide_eq_true (by rw [eR]; exact c)), List.map_append]
        refine papp (fmono w3 w2) (.cons ?_ .nil)
        obtain ⟨ra', pa', n1, n2, n3, n4⟩ := hN
        rw [eR]
        exact ⟨ra', pa', n1, n2, n3, (u2.trans w1).free n4⟩
      · refine decF c ?_
        refine ⟨ds, e, w1, ?_⟩
        rw [take_snoc hfr', List.filter_append, List.filter_cons, if_neg (by rw [decide_eq_true_iff, eR]; exact c)]
        simpa using w2
    · rintro zs H3 ⟨ds, e, w1, w2⟩ pz hpz
      rw [List.length_map, hfl, List.take_length] at w2
      have w3 := same_new hpz (.lst zs)
      have hdl := w2.length
      rw [List.length_map] at hdl
      have z2 := List.length_filter_le (fun f : List Int × List Int => decide (nm f.2 (endsR rds (i : Int)).1 ≠ nm f.2 (endsR rds (i : Int)).2)) (forestsL places rds i)
      refine ⟨fa, pz, _, _, rfl, rfl, (w1.trans w3) _ _ hfa2, upd_same, (by rw [e, List.length_map, List.length_map]; exact Nat.le_trans (by omega) (show 2048 ≤ sizeLine by decide)), fun nf hnf => ?_⟩
      have w4 := same_new hnf (.lst (cs.map V.ref ++ zs))
      have w14 := w1.trans (w3.trans w4)
      refine ⟨nf, _, _, cs ++ ds, rfl, u2.trans w14, by rw [upd_same, e, List.map_append], ?_⟩
      exact papp (fmono w14 hfo2) (fmono (w3.trans w4) w2)
  rintro σ H1 ⟨fa, v2, v3, cs, rfl, u1, hfa, hfo⟩
  rw [List.length_map, hpl] at hfo
  have hfl := hfo.length
  have hpow : (forestsL places rds rds.length).length ≤ 1024 := by
    have z := forests_len places rds rds.length
    have z2 : 2 ^ rds.length ≤ 2 ^ 10 := Nat.pow_le_pow_right (by decide) (by omega)
    omega
  refine ⟨_, rfl, fa, rfl, ⟨_, SqL.of hfa⟩, ?_⟩
  refine comp_list (K := K) (a := fa) (xs := cs.map V.ref) (fun j zs H' => H' = H1 ∧ ∃ ds : List Addr, zs = ds.map V.ref ∧ Paired (IL H1) ds ((((forestsL places rds rds.length).take j).filter fun f => decide ((f.1.length : Int) = places - 1)).map (·.1)) ∧ ∀ b ∈ ds, H b = none)
    ⟨rfl, [], rfl, .nil, (fun b hb => nomatch hb)⟩ (by rw [List.length_map]; exact Nat.le_trans (by omega) (show 1024 ≤ sizeLine by decide)) (fun j zs H' _ ⟨e1, ds, e, w2, _⟩ => ⟨by rw [e1]; exact SqL.of hfa, ?_⟩) ?_ ?_
  · have z := w2.length
    rw [List.length_map] at z
    have z2 := List.length_filter_le (fun f : List Int × List Int => decide ((f.1.length : Int) = places - 1)) ((forestsL places rds rds.length).take j)
    rw [List.length_take] at z2
    rw [e, List.length_map, z]
    omega
  · rintro j y zs H3 hy ⟨rfl, ds, e, w2, w3⟩
    obtain ⟨fo, hfo', rfl⟩ := map_ref_get hy
    obtain ⟨fr, hfr', ra', pa', n1, n2, n3, n4⟩ := pget hfo hfo'
    refine ⟨fo, _, rfl, SqT.of n1, rfl, _, _, rfl, _, _, rfl, rfl, ⟨.inl rfl, .inl rfl, .inr rfl, trivial⟩, ?_⟩
    refine ⟨_, rfl, ra', _, rfl, .inl (SqL.of n2), _, rfl, wb, CW, dx, fs, .int places, rfl, u1 _ _ hw, WK.cls, WK.np, hfp, _, _, rfl, rfl, rfl, _, rfl, ?_⟩
    rw [List.length_map]
    by_cases c : (fr.1.length : Int) = places - 1
    · refine decT (by rw [c]) ?_
      refine ⟨_, rfl, rfl, ds ++ [ra'], by rw [e, List.map_append]; rfl, ?_, fun b hb => ?_⟩
      · rw [take_snoc hfr', List.filter_append, List.filter_cons, if_pos (decide_eq_true c), List.map_append]
        exact papp w2 (.cons n2 .nil)
      · rcases List.mem_append.mp hb with z | z
        · exact w3 b z
        · rw [List.mem_singleton.mp z]; exact n4
    · refine decF (fun z => c (by injection z)) ?_
      refine ⟨rfl, ds, e, ?_, w3⟩
      rw [take_snoc hfr', List.filter_append, List.filter_cons, if_neg (by rw [decide_eq_true_iff]; exact c)]
      simpa using w2
  · rintro zs H3 ⟨rfl, ds, e, w2, w3⟩ pz hpz
    rw [List.length_map, hfl, List.take_length] at w2
    have w4 := same_new hpz (.lst zs)
    exact q pz _ (u1.trans w4) ⟨u1.free hpz, ds, by rw [upd_same, e], pmono w4 w2, w3⟩
end
def stepW (places : Int) (rds : List (Int × Int)) (k : Nat) (place : Int) (seen : List Int) (r : Nat) : List (List Int) :=
  if place = (endsR rds (r : Int)).1 ∨ place = (endsR rds (r : Int)).2 then
    (if (endsR rds (r : Int)).1 + (endsR rds (r : Int)).2 - place ∈ seen then [] else (waysOn places rds k ((endsR rds (r : Int)).1 + (endsR rds (r : Int)).2 - place) (seen ++ [(endsR rds (r : Int)).1 + (endsR rds (r : Int)).2 - place])).map fun rest => (r : Int) :: rest)
  else []
theorem waysOn_succ (places : Int) (rds : List (Int × Int)) (k : Nat) (place : Int) (seen : List Int) : waysOn places rds (k + 1) place seen = if place = places - 1 then [[]] else (List.range rds.length).flatMap (stepW places rds k place seen) := rfl
theorem ways_len {places : Int} {rds : List (Int × Int)} (h1 : 1 ≤ rds.length) : ∀ (k : Nat) (place : Int) (seen : List Int), (waysOn places rds k place seen).length ≤ rds.length ^ k
  | 0, _, _ => Nat.zero_le _
  | k + 1, place, seen => by
    rw [waysOn_succ]
    by_cases c : place = places - 1
    · rw [if_pos c]
      exact Nat.one_le_pow _ _ h1
    · rw [if_neg c]
      have z := len_flatMap (stepW places rds k place seen) (rds.length ^ k) (fun r => ?_) (List.range rds.length)
      · rw [List.length_range] at z
        rw [Nat.pow_succ, Nat.mul_comm]
        exact z
      · unfold stepW
        split
        · split
          · exact Nat.zero_le _
          · rw [List.length_map]
            exact ways_len h1 k _ _
        · exact Nat.zero_le _
theorem pow_small {n k : Nat} (hn : n ≤ 10) (hk : k ≤ 7) : n ^ k ≤ 10000000 := Nat.le_trans (Nat.pow_le_pow_left hn k) (Nat.le_trans (Nat.pow_le_pow_right (by decide) hk) (by decide))
theorem ways_elen {places : Int} {rds : List (Int × Int)} (ok : okRds places rds) (hp : 0 ≤ places) {k : Nat} {place : Int} {seen rs : List Int} (hpl : place ∈ seen) (hn : seen.Nodup) (hr : ∀ v ∈ seen, 0 ≤ v ∧ v < places) (h : rs ∈ waysOn places rds k place seen) : seen.length + rs.length ≤ places.toNat :=
  pth_len ok hp (pth_of_ways h) hpl hn hr
def spUOn (CW : Addr) (j : Nat) : Sp := fun vs H Q _ => ∃ (wb sa : Addr) (places : Int) (rds : List (Int × Int)) (place : Int) (seen : List Int), vs = [.ref wb, .int place, .ref sa] ∧ WebAt CW H wb places rds ∧ webOk places rds ∧ IL H sa seen ∧ seen.Nodup ∧ (∀ v ∈ seen, 0 ≤ v ∧ v < places) ∧ place ∈ seen ∧ places.toNat < seen.length + j ∧ j ≤ 7 ∧
  ∀ r H', Same H H' → ILLn H H' r (waysOn places rds j place seen) → Q (.ref r) H'
def spUWays (CW : Addr) : Sp := fun vs H Q _ => ∃ (wb : Addr) (places : Int) (rds : List (Int × Int)), vs = [.ref wb] ∧ WebAt CW H wb places rds ∧ webOk places rds ∧
  ∀ r H' cs, Same H H' → ILLn H H' r cs → (∀ e, e ∈ cs ↔ wayP places rds e) → cs.length ≤ 10000000 → Q (.ref r) H'
section
variable {P : Program} {w : World} {K : PySem.W.Frag} {mg : Str → Option Value} {base : Heap}
theorem scUOn : FnScope ["web", "place", "seen", "ways", "road", "ends", "there"] ["web", "place", "seen"] (defScope uOn) := ⟨rfl, rfl, rfl, by decide +kernel, rfl, by decide +kernel, by decide +kernel⟩
theorem ok_uOn {f CW fI : Addr} {fd : FuncData} (F : Fun K "ways_onward" "ways_onward" uOn f fd) (k1 : PySem.W.keepIn K (.ref f) = true) (m1 : mg "ways_onward" = some (.ref f)) (b1 : Binds K fd ["web", "place", "seen"] []) (WK : WebK K CW fI) (me : mg "enumerate" = none) : ∀ j : Nat, FnOk P w K mg base CX0 j f fd ["web", "place", "seen"] (spUOn CW j)
  | 0 => by
    have no : ∀ vs H Q E, ¬ spUOn CW 0 vs H Q E := by
      rintro vs H Q E ⟨wb, sa, places, rds, place, seen, _, _, _, _, hn, hr, _, hl, _⟩
      have z := nodup_sub (m := rangeI 0 places.toNat) hn fun x hx => mem_rangeI.mpr (by have := hr x hx; omega)
      rw [rangeI_len] at z
      omega
    exact ⟨fun vs H Q E h => absurd h (no _ _ _ _), fun A outer s H args us vs Q E _ _ _ _ h => absurd h (no _ _ _ _)⟩
  | j + 1 => by
    have G := ok_uOn (CW := CW) F k1 m1 b1 WK me j
    refine F.ok scUOn (fun vs H Q E h => ?_) (fun cdv A outer s H vs Q E hr h => ?_)
    · obtain ⟨_, _, _, _, _, _, rfl, _⟩ := h
      rfl
    obtain ⟨wb, sa, places, rds, place, seen, rfl, hW, wok, hS, hn, hrg, hpl, hl, hj, q⟩ := h
    obtain ⟨⟨p2, p6⟩, ⟨l1, l10⟩, ok⟩ := id wok
    refine ⟨_, pss_cons (ps_if (pt_cmpR op_eq (pv 1) (pe_op op_sub (pe_fld (pv 0) rfl) pe_int) (nomark _)) (pss_one (ps_ret (pe_lst (pa_cons (pe_lst pa_nil) pa_nil)))) pss_nil)
      (pss_cons (ps_set (i := 3) scUOn.nd rfl (Or.inl rfl) (pe_lst pa_nil))
      (pss_cons (ps_for PassesOwn.never rfl (pi_enum rfl me (pa_cons (pe_fld (pv 0) rfl) pa_nil)) (pg_tup rfl (pgs_cons (pg_name (i := 4) scUOn.nd rfl (Or.inr rfl)) (pgs_cons (pg_name (i := 5) scUOn.nd rfl (Or.inl rfl)) pgs_nil)))
        (pss_one (ps_if (pt_cmpR op_in_seq (pv 1) (pv 5) (by rfl))
          (pss_cons (ps_set (i := 6) scUOn.nd rfl (Or.inl rfl) (pe_op op_sub (pe_op op_add (pe_ix ix_tup (pv 5) pe_int (fun _ _ => rfl)) (pe_ix ix_tup (pv 5) pe_int (fun _ _ => rfl))) (pv 1)))
          (pss_one (ps_if (pt_cmpR op_notIn_seq (pv 6) (pv 2) (by rfl))
            (pss_one (ps_expr (pe_bm PySem.F.plainAttrs_list PySem.F.slot_list_extend PySem.F.type_list_extend mt_extend (pv 3) (pa_cons
              (pe_comp (N := ["rest", "road"]) (cap := [none, some 4]) rfl (compOk_of (by rfl)) (pi_list (pe_call G hr rfl m1 k1 b1 .nil pass0 (pa_cons (pv 0) (pa_cons (pv 6) (pa_cons (pe_op op_cat (pv 2) (pe_lst (pa_cons (pv 6) pa_nil))) pa_nil)))))
                (fun _ _ _ _ => pg_name (i := 0) (nd2 (by decide +kernel)) rfl (Or.inl rfl)) (fun _ _ _ _ => pts_nil) (fun _ _ _ _ => pe_op op_cat (pe_lst (pa_cons (pv 1) pa_nil)) (pv 0))) pa_nil)))) pss_nil))) pss_nil)))
      (pss_one (ps_ret (pv 3))))), ?_⟩
    obtain ⟨dx, fs, ra, hw, hfp, hfr, as, hra, hp⟩ := id hW
    have hpl' := hp.length
    rw [waysOn_succ] at q
    refine ⟨_, rfl, _, rfl, wb, CW, dx, fs, .int places, rfl, hw, WK.cls, WK.np, hfp, _, _, rfl, rfl, rfl, _, rfl, ?_⟩
    by_cases ce : place = places - 1
    · refine decT (by rw [ce]) ?_
      rw [if_pos ce] at q
      refine ⟨(by show 0 ≤ sizeLine; decide), fun e0 he0 => ⟨(by show 1 ≤ sizeLine; decide), fun a0 ha0 => ?_⟩⟩
      have s1 := same_new he0 (.lst [])
      have s2 := same_new ha0 (.lst [.ref e0])
      exact q a0 _ (s1.trans s2) ⟨s1.free ha0, [e0], upd_same, .cons (s2 _ _ upd_same) .nil, fun b hb => by rw [List.mem_singleton.mp hb]; exact he0⟩
    refine decF (fun z => ce (by injection z)) ?_
    rw [if_neg ce] at q
    refine ⟨(by show 0 ≤ sizeLine; decide), fun wl hwl => ?_⟩
    have s0 := same_new hwl (.lst [])
    refine ⟨_, rfl, wb, CW, dx, fs, .ref ra, rfl, s0 _ _ hw, WK.cls, WK.nr, hfr, ra, rfl, ⟨_, s0 _ _ hra⟩, ?_⟩
    refine for_enum (K := K) (a := ra) (xs := as.map V.ref) (fun i σ H' => ∃ (v4 v5 v6 : Option V) (bs : List Addr), σ = [some (.ref wb), some (.int place), some (.ref sa), some (.ref wl), v4, v5, v6] ∧ Same H H' ∧ H' wl = some (.lst (bs.map V.ref)) ∧ Paired (IL H') bs ((List.range i).flatMap (stepW places rds j place seen)) ∧ ∀ b ∈ bs, b ≠ wl ∧ H b = none)
      ⟨none, none, none, [], rfl, s0, upd_same, .nil, (fun b hb => nomatch hb)⟩ (fun i σ H' ⟨_, _, _, _, _, t, _⟩ => SqL.of (t _ _ hra)) ?_ ?_
    · rintro i x σ H1 t hx ⟨v4, v5, v6, bs, rfl, u1, hwl1, hb, hbn⟩ ht
      obtain ⟨ea, hea, rfl⟩ := map_ref_get hx
      obtain ⟨rd, hrd, hE⟩ := pget hp hea
      have hi : i < rds.length := (List.getElem?_eq_some_iff.mp hrd).1
      have eR : endsR rds (i : Int) = rd := by unfold endsR; rw [Int.toNat_natCast, List.getD_eq_getElem?_getD, hrd]; rfl
      have hrok := ok rd (List.mem_of_getElem? hrd)
      have t1 := same_new ht (.tup [.int (i : Int), .ref ea])
      refine ⟨t, _, rfl, SqT.of upd_same, rfl, _, _, rfl, _, _, rfl, rfl, ?_⟩
      obtain ⟨H2, e2⟩ : ∃ H2, H2 = upd H1 t (.tup [.int (i : Int), .ref ea]) := ⟨_, rfl⟩
      rw [← e2] at t1 ⊢
      have u2 := u1.trans t1
      have hwl2 := t1 _ _ hwl1
      have hb2 := pmono t1 hb
      have hE2 : H2 ea = some (.tup [.int rd.1, .int rd.2]) := hE.mono u2
      have eS : stepW places rds j place seen i = if place = rd.1 ∨ place = rd.2 then (if rd.1 + rd.2 - place ∈ seen then [] else (waysOn places rds j (rd.1 + rd.2 - place) (seen ++ [rd.1 + rd.2 - place])).map fun rest => (i : Int) :: rest) else [] := by unfold stepW; rw [eR]
      have eR1 : ∀ L, stepW places rds j place seen i = L → (List.range (i + 1)).flatMap (stepW places rds j place seen) = (List.range i).flatMap (stepW places rds j place seen) ++ L := fun L e => by
        rw [List.range_succ, List.flatMap_append, List.flatMap_cons, List.flatMap_nil, List.append_nil, e]
      refine ⟨_, rfl, _, rfl, ea, [.int rd.1, .int rd.2], rfl, .inr (SqT.of hE2), rfl, rfl, _, rfl, ?_⟩
      have ein : (if false = true then !inV (V.int place) [.int rd.1, .int rd.2] else inV (V.int place) [.int rd.1, .int rd.2]) = decide (place = rd.1 ∨ place = rd.2) := by
        rw [if_neg (by decide), show ([.int rd.1, .int rd.2] : List V) = [rd.1, rd.2].map V.int from rfl, inV_int]
        simp
      rw [ein]
      by_cases c1 : place = rd.1 ∨ place = rd.2
      · refine decT c1 ?_
        refine ⟨_, rfl, ea, _, 0, .int rd.1, rfl, rfl, SqT.of hE2, rfl, _, rfl, ea, _, 1, .int rd.2, rfl, rfl, SqT.of hE2, rfl, _, _, rfl, rfl, _, rfl, _, _, rfl, rfl, ?_⟩
        dsimp only
        refine ⟨_, rfl, _, rfl, sa, _, rfl, .inl (SqL.of (u2 _ _ hS)), rfl, flat_ints seen, _, rfl, ?_⟩
        rw [if_pos rfl, inV_int]
        obtain ⟨th, eth⟩ : ∃ th, th = rd.1 + rd.2 - place := ⟨_, rfl⟩
        rw [← eth] at eS ⊢
        by_cases c2 : th ∈ seen
        · refine ndecF c2 ?_
          rw [if_pos c1, if_pos c2] at eS
          refine ⟨_, _, _, bs, rfl, u2, hwl2, ?_, hbn⟩
          rw [eR1 [] eS, List.append_nil]
          exact hb2
        · refine ndecT c2 ?_
          rw [if_pos c1, if_neg c2] at eS
          have hth : 0 ≤ th ∧ th < places := by rcases c1 with z | z <;> omega
          refine ⟨_, rfl, .inl ⟨rfl, _, SqL.of hwl2⟩, ?_⟩
          refine ⟨_, rfl, _, rfl, _, rfl, _, rfl, (by show 1 ≤ sizeLine; decide), fun l1' hl1' => ?_⟩
          have y1 := same_new hl1' (.lst [.int th])
          have sl : seen.length ≤ 6 := by
            have z := nodup_sub (m := rangeI 0 places.toNat) hn fun x hx => mem_rangeI.mpr (by have := hrg x hx; omega)
            rw [rangeI_len] at z
            omega
          refine ⟨sa, l1', _, _, rfl, rfl, (u2.trans y1) _ _ hS, upd_same, (by rw [List.length_map]; show _ + 1 ≤ sizeLine; exact small (by omega)), fun ns hns => ?_⟩
          have y2 := same_new hns (.lst (seen.map V.int ++ [.int th]))
          have hNS : IL (upd (upd H2 l1' (.lst [.int th])) ns (.lst (seen.map V.int ++ [.int th]))) ns (seen ++ [th]) := by show upd _ ns _ ns = _; rw [upd_same, List.map_append]; rfl
          obtain ⟨H3, e3⟩ : ∃ H3, H3 = upd (upd H2 l1' (.lst [.int th])) ns (.lst (seen.map V.int ++ [.int th])) := ⟨_, rfl⟩
          rw [← e3] at y2 hNS ⊢
          have u3 := u2.trans (y1.trans y2)
          have hn2 : (seen ++ [th]).Nodup := List.nodup_append.mpr ⟨hn, List.nodup_cons.mpr ⟨(fun z => nomatch z), .nil⟩, fun a ha b hb' e => c2 (by rw [List.mem_singleton.mp hb'] at e; exact e ▸ ha)⟩
          have hrg2 : ∀ v ∈ seen ++ [th], 0 ≤ v ∧ v < places := fun v hv => by
            rcases List.mem_append.mp hv with z | z
            · exact hrg v z
            · rw [List.mem_singleton.mp z]; exact hth
          have hpl2 : th ∈ seen ++ [th] := List.mem_append_right _ List.mem_cons_self
          refine ⟨wb, ns, places, rds, th, seen ++ [th], rfl, hW.mono u3, wok, hNS, hn2, hrg2, hpl2, by rw [List.length_append, List.length_singleton]; omega, by omega, fun rl H4 y3 hN => ?_⟩
          obtain ⟨hrl0, as2, hrl, hp2, hf2⟩ := hN
          have hpl2' := hp2.length
          have lenW := ways_len (places := places) l1 j th (seen ++ [th])
          have lenW2 := pow_small (n := rds.length) (k := j) l10 (by omega)
          have u4 := u3.trans y3
          refine ⟨rl, rfl, ⟨_, SqL.of hrl⟩, ?_⟩
          refine comp_list (K := K) (a := rl) (xs := as2.map V.ref) (fun m zs H' => ∃ cs : List Addr, zs = cs.map V.ref ∧ Same H4 H' ∧ Paired (IL H') cs (((waysOn places rds j th (seen ++ [th])).take m).map fun rest => (i : Int) :: rest) ∧ ∀ c ∈ cs, H4 c = none)
            ⟨[], rfl, Same.refl _, .nil, (fun b hb => nomatch hb)⟩ (by rw [List.length_map]; exact Nat.le_trans (by omega) (show 10000000 ≤ sizeLine by decide)) (fun m zs H' _ ⟨cs, e, w1, w2, _⟩ => ⟨SqL.of (w1 _ _ hrl), ?_⟩) ?_ ?_
          · have z := w2.length
            rw [List.length_map, List.length_take] at z
            rw [e, List.length_map, z]
            exact Nat.min_le_left _ _
          · rintro m y zs H5 hy ⟨cs, e, w1, w2, w3⟩
            obtain ⟨re, hre, rfl⟩ := map_ref_get hy
            obtain ⟨rest, hrest, hRe⟩ := pget hp2 hre
            have lre := ways_elen ok (by omega) hpl2 hn2 hrg2 (List.mem_of_getElem? hrest)
            refine ⟨⟨.inl rfl, .inr rfl, trivial⟩, ?_⟩
            refine ⟨_, rfl, (by show 1 ≤ sizeLine; decide), fun l2' hl2' => ?_⟩
            have z1 := same_new hl2' (.lst [.int (i : Int)])
            refine ⟨_, rfl, l2', re, _, _, rfl, rfl, upd_same, (w1.trans z1) _ _ hRe, (by rw [List.length_map]; show 1 + _ ≤ sizeLine; exact small (by omega)), fun nl hnl => ?_⟩
            have z2 := same_new hnl (.lst ([.int (i : Int)] ++ rest.map V.int))
            refine ⟨cs ++ [nl], by rw [e, List.map_append]; rfl, w1.trans (z1.trans z2), ?_, fun c hc => ?_⟩
            · rw [take_snoc hrest, List.map_append]
              exact papp (pmono (z1.trans z2) w2) (.cons upd_same .nil)
            · rcases List.mem_append.mp hc with z | z
              · exact w3 c z
              · rw [List.mem_singleton.mp z]
                exact (w1.trans z1).free hnl
          · rintro zs H5 ⟨cs, e, w1, w2, w3⟩ l3 hl3
            rw [List.length_map, hpl2', List.take_length] at w2
            have w4 := same_new hl3 (.lst zs)
            have hcl := w2.length
            rw [List.length_map] at hcl
            have hbl := hb.length
            have lenT : ((List.range i).flatMap (stepW places rds j place seen)).length ≤ 10000000 := by
              have z := len_flatMap (stepW places rds j place seen) (rds.length ^ j) (fun r => by
                unfold stepW
                split
                · split
                  · exact Nat.zero_le _
                  · rw [List.length_map]; exact ways_len l1 j _ _
                · exact Nat.zero_le _) (List.range i)
              rw [List.length_range] at z
              have z2 : i * rds.length ^ j ≤ rds.length * rds.length ^ j := Nat.mul_le_mul_right _ (by omega)
              have z3 := pow_small (n := rds.length) (k := j + 1) l10 hj
              rw [Nat.pow_succ, Nat.mul_comm] at z3
              omega
            have hwl5 := (y1.trans (y2.trans (y3.trans (w1.trans w4)))) _ _ hwl2
            refine ⟨wl, l3, _, _, rfl, rfl, hwl5, upd_same, ?_, ?_⟩
            · rw [e, List.length_map, List.length_map]
              have lenJ : (waysOn places rds j th (seen ++ [th])).length ≤ 1000000 := by
                have z4 : j ≤ 6 := by omega
                have z5 : rds.length ^ j ≤ 10 ^ 6 := Nat.le_trans (Nat.pow_le_pow_left l10 j) (Nat.pow_le_pow_right (by decide) z4)
                omega
              exact Nat.le_trans (show _ ≤ 11000000 by omega) (show 11000000 ≤ sizeLine by decide)
            · have cne : ∀ c ∈ cs, c ≠ wl := fun c hc z => by
                have y := w3 c hc
                rw [z, (y1.trans (y2.trans y3)) _ _ hwl2] at y
                cases y
              have big := y1.trans (y2.trans (y3.trans (w1.trans w4)))
              refine ⟨_, _, _, bs ++ cs, rfl, same_upd (u2.trans big) hwl _, by rw [upd_same, e, List.map_append], ?_, fun b hb' => ?_⟩
              · rw [eR1 _ eS]
                refine papp (pimp hb2 fun b hb' r z => ?_) (pimp w2 fun b hb' r z => ?_)
                · show upd _ wl _ b = _
                  rw [upd_ne (hbn b hb').1]
                  exact big _ _ z
                · show upd _ wl _ b = _
                  rw [upd_ne (cne b hb')]
                  exact w4 _ _ z
              · rcases List.mem_append.mp hb' with z | z
                · exact hbn b z
                · exact ⟨cne b z, u4.free (w3 b z)⟩
      · refine decF c1 ?_
        rw [if_neg c1] at eS
        refine ⟨_, _, _, bs, rfl, u2, hwl2, ?_, hbn⟩
        rw [eR1 [] eS, List.append_nil]
        exact hb2
    · rintro σ H1 ⟨v4, v5, v6, bs, rfl, u1, hwl1, hb, hbn⟩
      rw [List.length_map, hpl'] at hb
      exact ⟨_, rfl, q wl _ u1 ⟨hwl, bs, hwl1, hb, fun b hb' => (hbn b hb').2⟩⟩
theorem scUWays : FnScope ["web"] ["web"] (defScope uWays) := ⟨rfl, rfl, rfl, by decide +kernel, rfl, by decide +kernel, by decide +kernel⟩
theorem ok_uWays {f f1 CW : Addr} {fd fd1 : FuncData} (F : Fun K "all_ways" "all_ways" uWays f fd) (G : FnOk P w K mg base CX0 7 f1 fd1 ["web", "place", "seen"] (spUOn CW 7)) (b1 : Binds K fd1 ["web", "place", "seen"] []) (k1 : PySem.W.keepIn K (.ref f1) = true) (m1 : mg "ways_onward" = some (.ref f1)) (mS : mg "sorted" = none) : FnOk P w K mg base CX0 8 f fd ["web"] (spUWays CW) := by
  refine F.ok scUWays (fun vs H Q E h => ?_) (fun cdv A outer s H vs Q E hr h => ?_)
  · obtain ⟨_, _, _, rfl, _⟩ := h
    rfl
  obtain ⟨wb, places, rds, rfl, hW, wok, q⟩ := h
  obtain ⟨⟨p2, p6⟩, ⟨l1, l10⟩, ok⟩ := id wok
  refine ⟨_, pss_one (ps_ret (pe_comp (N := ["way"]) (cap := [none]) rfl (compOk_of (by rfl)) (pi_list (pe_call G hr rfl m1 k1 b1 .nil pass0 (pa_cons (pv 0) (pa_cons pe_int (pa_cons (pe_lst (pa_cons pe_int pa_nil)) pa_nil)))))
    (fun _ _ _ _ => pg_name (i := 0) nd1 rfl (Or.inl rfl)) (fun _ _ _ _ => pts_nil) (fun _ _ _ _ => pe_callB (call_sortedK K rfl) rfl mS boot_sorted (pa_cons (pv 0) pa_nil)))), ?_⟩
  refine ⟨_, rfl, (by show 1 ≤ sizeLine; decide), fun sl hsl => ?_⟩
  have s1 := same_new hsl (.lst [.int 0])
  have n0 : ([0] : List Int).Nodup := List.nodup_cons.mpr ⟨(fun z => nomatch z), .nil⟩
  have r0 : ∀ v ∈ ([0] : List Int), 0 ≤ v ∧ v < places := fun v hv => by rw [List.mem_singleton.mp hv]; omega
  refine ⟨wb, sl, places, rds, 0, [0], rfl, hW.mono s1, wok, upd_same, n0, r0, List.mem_cons_self, by rw [List.length_singleton]; omega, by decide, fun rl H1 s2 hN => ?_⟩
  obtain ⟨hrl0, as, hrl, hp, hf⟩ := hN
  have hpl := hp.length
  have lenW := ways_len (places := places) l1 7 0 [0]
  have lenW2 := pow_small (n := rds.length) (k := 7) l10 (by decide)
  refine ⟨rl, rfl, ⟨_, SqL.of hrl⟩, ?_⟩
  refine comp_list (K := K) (a := rl) (xs := as.map V.ref) (fun m zs H' => ∃ (ds : List Addr) (cs : List (List Int)), zs = ds.map V.ref ∧ Same H1 H' ∧ Paired (IL H') ds cs ∧ (∀ c ∈ ds, H1 c = none) ∧ Paired (fun c w => c.Perm w ∧ c.Pairwise (· ≤ ·)) cs ((waysOn places rds 7 0 [0]).take m))
    ⟨[], [], rfl, Same.refl _, .nil, (fun b hb => nomatch hb), .nil⟩ (by rw [List.length_map]; exact Nat.le_trans (by omega) (show 10000000 ≤ sizeLine by decide)) (fun m zs H' _ ⟨ds, cs, e, w1, w2, _, w4⟩ => ⟨SqL.of (w1 _ _ hrl), ?_⟩) ?_ ?_
  · have z := w2.length
    have z2 := w4.length
    rw [List.length_take] at z2
    rw [e, List.length_map, z, z2]
    exact Nat.min_le_left _ _
  · rintro m y zs H2 hy ⟨ds, cs, e, w1, w2, w3, w4⟩
    obtain ⟨wa, hwa, rfl⟩ := map_ref_get hy
    obtain ⟨way, hway, hWa⟩ := pget hp hwa
    have lw := ways_elen ok (by omega) List.mem_cons_self n0 r0 (List.mem_of_getElem? hway)
    refine ⟨⟨.inl rfl, trivial⟩, ?_⟩
    refine ⟨_, rfl, wa, way, rfl, SqL.of (w1 _ _ hWa), by omega, fun l ms hl hperm hord => ?_⟩
    have w5 := same_new hl (.lst (ms.map V.int))
    refine ⟨ds ++ [l], cs ++ [ms], by rw [e, List.map_append]; rfl, w1.trans w5, papp (pmono w5 w2) (.cons upd_same .nil), fun c hc => ?_, ?_⟩
    · rcases List.mem_append.mp hc with z | z
      · exact w3 c z
      · rw [List.mem_singleton.mp z]; exact w1.free hl
    · rw [take_snoc hway]
      exact papp w4 (.cons ⟨hperm, hord⟩ .nil)
  · rintro zs H2 ⟨ds, cs, e, w1, w2, w3, w4⟩ r hr'
    rw [List.length_map, hpl, List.take_length] at w4
    have w5 := same_new hr' (.lst zs)
    have s12 := s1.trans s2
    have lcs := w4.length
    refine q r _ cs (s12.trans (w1.trans w5)) ⟨(s12.trans w1).free hr', ds, by rw [upd_same, e], pmono w5 w2, fun b hb => s12.free (w3 b hb)⟩ (fun e' => ?_) (by omega)
    unfold wayP
    constructor
    · intro he'
      obtain ⟨i, hi, ei⟩ := List.mem_iff_getElem.mp he'
      obtain ⟨y, hy, hy2⟩ := pget w4 (show cs[i]? = some e' by rw [List.getElem?_eq_getElem hi, ei])
      exact ⟨y, List.mem_of_getElem? hy, hy2⟩
    · rintro ⟨y, hy, hperm, hord⟩
      obtain ⟨i, hi, ei⟩ := List.mem_iff_getElem.mp hy
      obtain ⟨c, hc⟩ : ∃ c, cs[i]? = some c := ⟨_, List.getElem?_eq_getElem (show i < cs.length by omega)⟩
      obtain ⟨y2, hy2, h1, h2⟩ := pget w4 hc
      rw [List.getElem?_eq_getElem hi, ei] at hy2
      cases hy2
      have ee : e' = c := by
        have z := perm_desc (l := e'.reverse) (m := c.reverse) (((List.reverse_perm _).trans (hperm.trans h1.symm)).trans (List.reverse_perm _).symm) (List.pairwise_reverse.mpr hord) (List.pairwise_reverse.mpr h2)
        exact List.reverse_inj.mp z
      rw [ee]
      exact List.mem_of_getElem? hc
end
def candP : Cand := fun places rds b row => if b = true then row ∈ treesL places rds else wayP places rds row
theorem candP_ok : CandOk candP := fun places rds b wok e he => by
  obtain ⟨⟨p2, p6⟩, _, ok⟩ := wok
  have z : e ∈ setsL (places - 1) rds.length := by
    unfold candP at he
    cases b with
    | true => rw [if_pos rfl] at he; exact ((trees_iff (by omega) ok).mp he).1
    | false => rw [if_neg (by decide)] at he; exact ((ways_iff p2 p6 ok).mp he).1
  exact ⟨(mem_sets z).1, (mem_sets z).2.imp fun {a b} h => by have : a < b := h; omega⟩
def spUCosts (CW CC : Addr) : Sp := fun vs H Q E => ∃ (wb ca : Addr) (places : Int) (rds : List (Int × Int)) (cs : List Int), vs = [.ref wb, .ref ca] ∧ WebAt CW H wb places rds ∧ IL H ca cs ∧ (costOk rds.length cs → Q .non H) ∧ (¬ costOk rds.length cs → E (.ref CC) none H)
def spUChoices (CW CC CN : Addr) : Sp := fun vs H Q E => ∃ (wb ca : Addr) (places : Int) (rds : List (Int × Int)) (b : Bool) (cs : List Int), vs = [.ref wb, .str (kindS b), .ref ca] ∧ WebAt CW H wb places rds ∧ webOk places rds ∧ IL H ca cs ∧
  (costOk rds.length cs → ∀ r H' L, Same H H' → ILLn H H' r L → (∀ e, e ∈ L ↔ candP places rds b e) → L ≠ [] → L.length ≤ 10000000 → Q (.ref r) H') ∧
  (costOk rds.length cs → (∀ e, ¬ candP places rds b e) → ∀ H', Same H H' → E (.ref CN) none H') ∧ (¬ costOk rds.length cs → ∀ H', Same H H' → E (.ref CC) none H')
def spUCost : Sp := fun vs H Q _ => ∃ (ch ca : Addr) (row cs : List Int), vs = [.ref ch, .ref ca] ∧ IL H ch row ∧ IL H ca cs ∧ row.length ≤ 1000 ∧ (∀ r ∈ row, 0 ≤ r ∧ r < (cs.length : Int)) ∧ ∀ H', Same H H' → Q (.int (costR cs row)) H'
def spUCheap : Sp := fun vs H Q _ => ∃ (la ca : Addr) (as : List Addr) (L : List (List Int)) (cs : List Int), vs = [.ref la, .ref ca] ∧ H la = some (.lst (as.map V.ref)) ∧ Paired (IL H) as L ∧ IL H ca cs ∧ L ≠ [] ∧ L.length ≤ 10000000 ∧ (∀ e ∈ L, e.length ≤ 1000 ∧ ∀ r ∈ e, 0 ≤ r ∧ r < (cs.length : Int)) ∧
  ∀ m d, LeastR (· ∈ L) cs (some (m, d)) → ∀ r da H', Same H H' → H r = none → da ∈ as → H' r = some (.tup [.int m, .ref da]) → IL H' da d → Q (.ref r) H'
section
variable {P : Program} {w : World} {K : PySem.W.Frag} {mg : Str → Option Value} {base : Heap}
theorem scUCosts : FnScope ["web", "costs", "cost"] ["web", "costs"] (defScope uCosts) := ⟨rfl, rfl, rfl, by decide +kernel, rfl, by decide +kernel, by decide +kernel⟩
theorem ok_uCosts {f f0 C CW fI : Addr} {fd fd0 : FuncData} {tT : Tok} (F : Fun K "check_costs" "check_costs" uCosts f fd) (G0 : FnOk P w K mg base CX0 1 f0 fd0 ["told"] spWithin) (b0 : Binds K fd0 ["told"] []) (k0 : PySem.W.keepIn K (.ref f0) = true) (m0 : mg "within_bounds" = some (.ref f0)) (WK : WebK K CW fI)
    (ml : mg "len" = none) (mT : mg "MOST_TOLD" = some (.int 1000 tT)) (hC : ExcK K C) (mC : mg "BadCosts" = some (.ref C)) : FnOk P w K mg base (CXX P w) 2 f fd ["web", "costs"] (spUCosts CW C) := by
  refine F.okX scUCosts (fun vs H Q E h => ?_) (fun _ cdv A outer s H vs Q E _ hr h => ?_)
  · obtain ⟨_, _, _, _, _, rfl, _⟩ := h
    rfl
  obtain ⟨wb, ca, places, rds, cs, rfl, hW, hC', q, qE⟩ := h
  refine ⟨_, pss_cons (ps_if (pt_cmpR op_ne (pe_callB call_len_seq rfl ml PySem.boot_len (pa_cons (pv 1) pa_nil)) (pe_callB call_len_seq rfl ml PySem.boot_len (pa_cons (pe_fld (pv 0) rfl) pa_nil)) (nomark _))
      (pss_one (ps_raise hC rfl mC rfl rfl raises_cx (pa_cons pe_str pa_nil))) pss_nil)
    (pss_one (ps_for passes_cx rfl (pi_list (pv 1)) (pg_name (i := 2) scUCosts.nd rfl (Or.inl rfl))
      (pss_one (ps_if (pt_not (pt_val (pe_call G0 hr rfl m0 k0 b0 .nil pass0 (pa_cons (pv 2) pa_nil))))
        (pss_one (ps_raise hC rfl mC rfl rfl raises_cx (pa_cons (pe_fstr (pj_str (m := 100) (pj_int (pe_glob (v := .int 1000) rfl mT ⟨_, rfl⟩) pj_nil) (by decide +kernel)) (by decide)) pa_nil))) pss_nil)))), ?_⟩
  obtain ⟨dx, fs, ra, hw, hfp, hfr, as, hra, hp⟩ := hW
  have hpl := hp.length
  refine ⟨_, rfl, ca, _, rfl, .inl (SqL.of hC'), _, rfl, wb, CW, dx, fs, .ref ra, rfl, hw, WK.cls, WK.nr, hfr, ra, _, rfl, .inl (SqL.of hra), rfl, _, rfl, ?_⟩
  rw [List.length_map, List.length_map, hpl]
  by_cases hl : cs.length = rds.length
  · refine ndecF (by rw [hl]) ?_
    refine ⟨_, rfl, ca, rfl, ⟨_, SqL.of hC'⟩, ?_⟩
    refine for_list (K := K) (a := ca) (xs := cs.map V.int) (fun i σ H2 => (∃ v : Option V, σ = [some (.ref wb), some (.ref ca), v]) ∧ H2 = H ∧ ∀ v ∈ cs.take i, 0 ≤ v ∧ v ≤ 1000) ⟨⟨none, rfl⟩, rfl, (fun v hv => by simp at hv)⟩ (fun j σ H2 _ ⟨_, e, _⟩ => by rw [e]; exact SqL.of hC') ?_ ?_
    · rintro i x σ H2 hx ⟨⟨v, rfl⟩, rfl, hv⟩
      obtain ⟨n, hn, rfl⟩ := map_int_get hx
      have hm := List.mem_of_getElem? hn
      refine ⟨_, rfl, n, rfl, _, rfl, ?_⟩
      by_cases c : 0 ≤ n ∧ n ≤ 1000
      · refine ndecF c ⟨⟨_, rfl⟩, rfl, fun v hv' => ?_⟩
        rw [take_snoc hn] at hv'
        rcases List.mem_append.mp hv' with z | z
        · exact hv v z
        · rw [List.mem_singleton.mp z]
          exact c
      · refine ndecT c ?_
        exact ⟨1000, rfl, by decide, fun y => ⟨(by show 1 ≤ sizeLine; decide), qE fun z => c (z.2 n hm)⟩⟩
    · rintro σ H2 ⟨⟨v, rfl⟩, rfl, hv⟩
      rw [List.length_map, List.take_length] at hv
      exact q ⟨hl, hv⟩
  · refine ndecT (fun z => hl (by injection z with z; omega)) ?_
    exact ⟨(by show 1 ≤ sizeLine; decide), qE fun z => hl z.1⟩
theorem trees_len {places : Int} {rds : List (Int × Int)} (h : rds.length ≤ 10) : (treesL places rds).length ≤ 10000000 := by
  unfold treesL
  rw [List.length_map]
  have z := forests_len places rds rds.length
  have z2 : 2 ^ rds.length ≤ 2 ^ 10 := Nat.pow_le_pow_right (by decide) h
  have z3 := List.length_filter_le (fun f : List Int × List Int => decide ((f.1.length : Int) = places - 1)) (forestsL places rds rds.length)
  omega
theorem scUChoices : FnScope ["web", "kind", "costs", "choices"] ["web", "kind", "costs"] (defScope uChoices) := ⟨rfl, rfl, rfl, by decide +kernel, rfl, by decide +kernel, by decide +kernel⟩
theorem ok_uChoices {f f1 f2 f3 CW CC CN : Addr} {fd fd1 fd2 fd3 : FuncData} (F : Fun K "choices_to_make" "choices_to_make" uChoices f fd) (G1 : FnOk P w K mg base (CXX P w) 2 f1 fd1 ["web", "costs"] (spUCosts CW CC)) (b1 : Binds K fd1 ["web", "costs"] []) (k1 : PySem.W.keepIn K (.ref f1) = true) (m1 : mg "check_costs" = some (.ref f1))
    (G2 : FnOk P w K mg base CX0 8 f2 fd2 ["web"] (spUWays CW)) (b2 : Binds K fd2 ["web"] []) (k2 : PySem.W.keepIn K (.ref f2) = true) (m2 : mg "all_ways" = some (.ref f2))
    (G3 : FnOk P w K mg base CX0 2 f3 fd3 ["web"] (spUTrees CW)) (b3 : Binds K fd3 ["web"] []) (k3 : PySem.W.keepIn K (.ref f3) = true) (m3 : mg "all_trees" = some (.ref f3)) (ml : mg "len" = none) (hN : ExcK K CN) (mN : mg "NoWay" = some (.ref CN)) : FnOk P w K mg base (CXX P w) 9 f fd ["web", "kind", "costs"] (spUChoices CW CC CN) := by
  refine F.okX scUChoices (fun vs H Q E h => ?_) (fun _ cdv A outer s H vs Q E _ hr h => ?_)
  · obtain ⟨_, _, _, _, _, _, rfl, _⟩ := h
    rfl
  obtain ⟨wb, ca, places, rds, b, cs, rfl, hW, wok, hC, q, qN, qC⟩ := h
  have hr2 := hr.mono (j := 2) (by decide)
  have l10 := wok.2.1.2
  refine ⟨_, pss_cons (ps_expr (pe_callX G1 hr2 rfl m1 k1 b1 .nil takes_cx (pa_cons (pv 0) (pa_cons (pv 2) pa_nil))))
    (pss_cons (ps_set (i := 3) scUChoices.nd rfl (Or.inl rfl) (pe_ifExp (pt_cmpR op_eq (pv 1) pe_str (nomark _)) (pe_call G2 hr rfl m2 k2 b2 .nil pass0 (pa_cons (pv 0) pa_nil)) (pe_call G3 hr2 rfl m3 k3 b3 .nil pass0 (pa_cons (pv 0) pa_nil))))
    (pss_cons (ps_if (pt_cmpR op_eq (pe_callB call_len_seq rfl ml PySem.boot_len (pa_cons (pv 3) pa_nil)) pe_int (nomark _))
      (pss_one (ps_raise hN rfl mN rfl rfl raises_cx (pa_cons (pe_fstr (pj_str (m := 100) (pj_s (pv 1) pj_nil) (by decide +kernel)) (by decide)) pa_nil))) pss_nil)
    (pss_one (ps_ret (pv 3))))), ?_⟩
  refine ⟨_, rfl, _, rfl, wb, ca, places, rds, cs, rfl, hW, hC, fun cok => ?_, fun no => qC no _ (Same.refl _)⟩
  have q := q cok
  have qN := qN cok
  have kl : (kindS b).length ≤ 1000 := by cases b <;> decide +kernel
  -- what comes behind the choice
  have fin : ∀ (L : List (List Int)) (r : Addr) (H1 : Hp), Same H H1 → ILLn H H1 r L → (∀ e, e ∈ L ↔ candP places rds b e) → L.length ≤ 10000000 → ∃ ys, SqL K H1 r ys ∧ ys.length = L.length := fun L r H1 s1 hL _ _ => by
    obtain ⟨_, as, h1, h2, _⟩ := hL
    exact ⟨_, SqL.of h1, by rw [List.length_map, h2.length]⟩
  cases b with
  | false =>
    refine ⟨_, rfl, rfl, _, rfl, ?_⟩
    refine decT rfl ?_
    refine ⟨_, rfl, wb, places, rds, rfl, hW, wok, fun r H1 L s1 hL hiff hlen => ?_⟩
    have hiff' : ∀ e, e ∈ L ↔ candP places rds false e := fun e => by unfold candP; rw [if_neg (by decide)]; exact hiff e
    obtain ⟨ys, hy, hyl⟩ := fin L r H1 s1 hL hiff' hlen
    refine ⟨_, rfl, r, ys, rfl, .inl hy, rfl, _, rfl, ?_⟩
    rw [hyl]
    by_cases c : L = []
    · refine decT (by rw [c]; rfl) ?_
      exact ⟨_, rfl, _, rfl, kl, fun y => ⟨(by show 1 ≤ sizeLine; decide), qN (fun e he => by have z := (hiff' e).mpr he; rw [c] at z; cases z) _ s1⟩⟩
    · refine decF (fun z => c (List.length_eq_zero_iff.mp (by injection z with z; omega))) ?_
      exact ⟨_, rfl, q r _ L s1 hL hiff' c hlen⟩
  | true =>
    refine ⟨_, rfl, rfl, _, rfl, ?_⟩
    refine decF (fun z => by injection z with z; exact absurd z (by decide +kernel)) ?_
    refine ⟨_, rfl, wb, places, rds, rfl, hW, wok, fun r H1 s1 hL => ?_⟩
    have hiff' : ∀ e, e ∈ treesL places rds ↔ candP places rds true e := fun e => by unfold candP; rw [if_pos rfl]
    have hlen := trees_len (places := places) l10
    obtain ⟨ys, hy, hyl⟩ := fin _ r H1 s1 hL hiff' hlen
    refine ⟨_, rfl, r, ys, rfl, .inl hy, rfl, _, rfl, ?_⟩
    rw [hyl]
    by_cases c : treesL places rds = []
    · refine decT (by rw [c]; rfl) ?_
      exact ⟨_, rfl, _, rfl, kl, fun y => ⟨(by show 1 ≤ sizeLine; decide), qN (fun e he => by have z := (hiff' e).mpr he; rw [c] at z; cases z) _ s1⟩⟩
    · refine decF (fun z => c (List.length_eq_zero_iff.mp (by injection z with z; omega))) ?_
      exact ⟨_, rfl, q r _ _ s1 hL hiff' c hlen⟩
theorem scUCost : FnScope ["choice", "costs"] ["choice", "costs"] (defScope uCost) := ⟨rfl, rfl, rfl, by decide +kernel, rfl, by decide +kernel, by decide +kernel⟩
theorem ok_uCost {f : Addr} {fd : FuncData} (F : Fun K "choice_cost" "choice_cost" uCost f fd) (ms : mg "sum" = none) : FnOk P w K mg base CX0 1 f fd ["choice", "costs"] spUCost := by
  refine F.ok scUCost (fun vs H Q E h => ?_) (fun cdv A outer s H vs Q E hr h => ?_)
  · obtain ⟨_, _, _, _, rfl, _⟩ := h
    rfl
  obtain ⟨ch, ca, row, cs, rfl, hR, hC, hl, hok, q⟩ := h
  refine ⟨_, pss_one (ps_ret (pe_callB (call_sum rfl) rfl ms boot_sum (pa_cons (pe_comp (N := ["road", "costs"]) (cap := [none, some 1]) rfl (compOk_of (by rfl)) (pi_list (pv 0)) (fun _ _ _ _ => pg_name (i := 0) (nd2 (by decide +kernel)) rfl (Or.inl rfl)) (fun _ _ _ _ => pts_nil) (fun _ _ _ _ => pe_ix (ix_listK K rfl) (pv 1) (pv 0) (fun _ _ => rfl))) pa_nil))), ?_⟩
  refine ⟨_, rfl, ch, rfl, ⟨_, SqL.of hR⟩, ?_⟩
  refine comp_list (K := K) (a := ch) (xs := row.map V.int) (fun i zs H' => H' = H ∧ zs = ((row.take i).map fun r => cs.getD r.toNat 0).map V.int) ⟨rfl, rfl⟩ (by rw [List.length_map]; exact small hl) (fun i zs H' _ h => ⟨by rw [h.1]; exact SqL.of hR, by rw [h.2, List.length_map, List.length_map, List.length_take]; exact Nat.min_le_left _ _⟩) ?_ ?_
  · rintro i x zs H' hx ⟨rfl, e⟩
    obtain ⟨r, hr', rfl⟩ := map_int_get hx
    have z := hok r (List.mem_of_getElem? hr')
    refine ⟨⟨.inl rfl, .inr rfl, trivial⟩, ?_⟩
    refine ⟨_, rfl, _, rfl, ca, _, r, _, rfl, rfl, SqL.of hC, nm_at z.1 z.2, rfl, ?_⟩
    rw [e, take_snoc hr', List.map_append, List.map_append]
    rfl
  · rintro zs H' ⟨rfl, e⟩ l hl'
    rw [List.length_map, List.take_length] at e
    have q2 := q _ (same_new hl' (.lst zs))
    unfold costR at q2
    exact ⟨l, row.map fun (r : Int) => cs.getD r.toNat 0, rfl, SqL.of (by rw [upd_same, e]), q2⟩
theorem scUCheap : FnScope ["choices", "costs"] ["choices", "costs"] (defScope uCheap) := ⟨rfl, rfl, rfl, by decide +kernel, rfl, by decide +kernel, by decide +kernel⟩
theorem ok_uCheap {f f1 : Addr} {fd fd1 : FuncData} (F : Fun K "cheapest" "cheapest" uCheap f fd) (G : FnOk P w K mg base CX0 1 f1 fd1 ["choice", "costs"] spUCost) (b1 : Binds K fd1 ["choice", "costs"] []) (k1 : PySem.W.keepIn K (.ref f1) = true) (m1 : mg "choice_cost" = some (.ref f1)) (mn : mg "min" = none) : FnOk P w K mg base CX0 2 f fd ["choices", "costs"] spUCheap := by
  refine F.ok scUCheap (fun vs H Q E h => ?_) (fun cdv A outer s H vs Q E hr h => ?_)
  · obtain ⟨_, _, _, _, _, rfl, _⟩ := h
    rfl
  obtain ⟨la, ca, as, L, cs, rfl, hla, hp, hC, hne, hlen, hok, q⟩ := h
  have hu := hr.units
  refine ⟨_, pss_one (ps_ret (pe_callB (call_minP rfl hu) rfl mn boot_min (pa_cons (pe_comp (N := ["choice", "costs"]) (cap := [none, some 1]) rfl (compOk_of (by rfl)) (pi_list (pv 0)) (fun _ _ _ _ => pg_name (i := 0) (nd2 (by decide +kernel)) rfl (Or.inl rfl)) (fun _ _ _ _ => pts_nil)
    (fun _ _ _ _ => pe_tup (pa_cons (pe_call G hr rfl m1 k1 b1 .nil pass0 (pa_cons (pv 0) (pa_cons (pv 1) pa_nil))) (pa_cons (pv 0) pa_nil)))) pa_nil))), ?_⟩
  have hpl := hp.length
  refine ⟨_, rfl, la, rfl, ⟨_, SqL.of hla⟩, ?_⟩
  refine comp_list (K := K) (a := la) (xs := as.map V.ref) (fun i zs H' => ∃ ts : List Addr, zs = ts.map V.ref ∧ Same H H' ∧ ts.length = i ∧ (∀ t ∈ ts, H t = none) ∧ ∀ (j : Nat) t a e, ts[j]? = some t → as[j]? = some a → L[j]? = some e → H' t = some (.tup [.int (costR cs e), .ref a]))
    ⟨[], rfl, Same.refl _, rfl, (fun b hb => nomatch hb), fun j t a e h => by simp at h⟩ (by rw [List.length_map]; exact Nat.le_trans (by omega) (show 10000000 ≤ sizeLine by decide)) (fun i zs H' _ ⟨ts, e, w1, w2, _⟩ => ⟨SqL.of (w1 _ _ hla), by rw [e, List.length_map, w2]; exact Nat.le_refl _⟩) ?_ ?_
  · rintro i x zs H' hx ⟨ts, e, w1, w2, w3, w4⟩
    obtain ⟨a, ha, rfl⟩ := map_ref_get hx
    obtain ⟨row, hrow, hA⟩ := pget hp ha
    have hrok := hok row (List.mem_of_getElem? hrow)
    refine ⟨⟨.inl rfl, .inr rfl, trivial⟩, ?_⟩
    refine ⟨_, rfl, _, rfl, a, ca, row, cs, rfl, hA.mono w1, hC.mono w1, hrok.1, hrok.2, fun H2 w5 => ?_⟩
    refine ⟨_, rfl, (by show 2 ≤ sizeLine; decide), fun t ht => ?_⟩
    have w6 := same_new ht (.tup [.int (costR cs row), .ref a])
    refine ⟨ts ++ [t], by rw [e, List.map_append]; rfl, w1.trans (w5.trans w6), by rw [List.length_append, w2]; rfl, fun t' ht' => ?_, fun j t' a' e' h1 h2 h3 => ?_⟩
    · rcases List.mem_append.mp ht' with z | z
      · exact w3 t' z
      · rw [List.mem_singleton.mp z]; exact (w1.trans w5).free ht
    · by_cases c : j < ts.length
      · rw [List.getElem?_append_left c] at h1
        exact (w5.trans w6) _ _ (w4 j t' a' e' h1 h2 h3)
      · have hj : j = i := by
          have := (List.getElem?_eq_some_iff.mp h1).1
          rw [List.length_append, List.length_singleton] at this
          omega
        subst hj
        rw [← w2, List.getElem?_append_right (Nat.le_refl _), Nat.sub_self] at h1
        rw [ha] at h2
        rw [hrow] at h3
        cases h1
        cases h2
        cases h3
        exact upd_same
  · rintro zs H' ⟨ts, e, w1, w2, w3, w4⟩ p hp'
    rw [List.length_map] at w2
    have w5 := same_new hp' (.lst zs)
    have hpos : 0 < L.length := List.length_pos_iff.mpr hne
    refine ⟨p, ts, L.map fun e => (costR cs e, e), rfl, SqL.of (by rw [upd_same, e]), by rw [List.length_map]; omega, fun i t r h1 h2 => ?_, fun z => by rw [z] at w2; simp at w2; omega, fun i t hi ei => ?_⟩
    · rw [List.getElem?_map] at h2
      cases q2 : L[i]? with
      | none => rw [q2] at h2; cases h2
      | some row =>
        rw [q2] at h2
        cases h2
        have hi : i < as.length := by have := (List.getElem?_eq_some_iff.mp q2).1; omega
        obtain ⟨row', hrow', hA⟩ := pget hp (List.getElem?_eq_getElem hi)
        rw [q2] at hrow'
        cases hrow'
        exact ⟨as[i], w5 _ _ (w4 i t _ row h1 (List.getElem?_eq_getElem hi) q2), w5 _ _ (w1 _ _ hA)⟩
    · have hi2 : i < L.length := by have := (List.getElem?_eq_some_iff.mp hi).1; omega
      have hi3 : i < as.length := by omega
      obtain ⟨row, hrow, hA⟩ := pget hp (List.getElem?_eq_getElem hi3)
      have gd : ∀ j, j < L.length → (L.map fun e => (costR cs e, e)).getD j (0, []) = (costR cs (L.getD j []), L.getD j []) := fun j hj => by
        rw [List.getD_eq_getElem?_getD, List.getElem?_map, List.getD_eq_getElem?_getD, List.getElem?_eq_getElem hj]
        rfl
      have least : ∀ j, j < L.length → ltP (costR cs (L.getD j []), L.getD j []) (costR cs row, row) = false := fun j hj => by
        have z := argBest_least (bt := fun i j => ltP ((L.map fun e => (costR cs e, e)).getD i (0, [])) ((L.map fun e => (costR cs e, e)).getD j (0, []))) (fun i => ltP_irr _) (fun i j k => ltP_trans) (ts.length - 1) j (by omega)
        rw [← ei] at z
        rw [gd j hj, gd i hi2] at z
        have e1 : L.getD i [] = row := by rw [List.getD_eq_getElem?_getD, hrow]; rfl
        rw [e1] at z
        exact z
      refine q (costR cs row) row ⟨List.mem_of_getElem? hrow, rfl, fun e' he' => ?_⟩ t as[i] _ (w1.trans w5) (w3 t (List.mem_of_getElem? hi)) (List.getElem_mem hi3) (w5 _ _ (w4 i t _ row hi (List.getElem?_eq_getElem hi3) hrow)) ((hA.mono w1).mono w5)
      obtain ⟨j, hj, ej⟩ := List.mem_iff_getElem.mp he'
      have z := least j hj
      have e2 : L.getD j [] = e' := by rw [List.getD_eq_getElem?_getD, List.getElem?_eq_getElem hj, ej]; rfl
      rw [e2] at z
      have z2 : ¬ (costR cs e' < costR cs row ∨ (costR cs e' = costR cs row ∧ lexLt e' row)) := fun y => by
        rw [(ltP_iff (costR cs e', e') (costR cs row, row)).mpr y] at z
        cases z
      by_cases c : costR cs row < costR cs e'
      · exact .inl c
      · have c2 : costR cs row = costR cs e' := by
          by_cases c3 : costR cs e' < costR cs row
          · exact absurd (.inl c3) z2
          · omega
        refine .inr ⟨c2, ?_⟩
        rcases lex_total e' row with y | y | y
        · exact .inl y
        · exact absurd (.inr ⟨c2.symm, y⟩) z2
        · exact .inr y
theorem cand_rows {places : Int} {rds : List (Int × Int)} {b : Bool} {L : List (List Int)} {cs : List Int} (wok : webOk places rds) (hL : ∀ e, e ∈ L ↔ candP places rds b e) (hc : cs.length = rds.length) : ∀ e ∈ L, e.length ≤ 1000 ∧ ∀ r ∈ e, 0 ≤ r ∧ r < (cs.length : Int) := fun e he => by
  obtain ⟨h1, h2⟩ := candP_ok places rds b wok e ((hL e).mp he)
  refine ⟨?_, fun r hr => by have := h1 r hr; omega⟩
  have z := nodup_sub (l := e) (m := rangeI 0 rds.length) h2 fun x hx => mem_rangeI.mpr (by have := h1 x hx; omega)
  rw [rangeI_len] at z
  have := wok.2.1.2
  omega
end
def spAInit (C : Addr) (K : PySem.W.Frag) : Sp := fun vs H Q _ => ∃ (e fI : Addr) (r : Int), vs = [.ref e, .int r] ∧ H e = some (xnO e (.ref C)) ∧ excOwn K C fI = true ∧ ExcSet K C "road" ∧ r.natAbs ≤ 1000 ∧
  ∀ dx, H dx = none → dx ≠ e → Q .non (upd (upd H dx (.xd [("road", .int r)])) e (xfO e (.ref C) dx))
section
variable {P : Program} {w : World} {K : PySem.W.Frag} {mg : Str → Option Value} {base : Heap}
theorem scAInit : FnScope ["self", "road"] ["self", "road"] (defScope sAInit) := ⟨rfl, rfl, rfl, by decide +kernel, rfl, by decide +kernel, by decide +kernel⟩
theorem ok_ainit {f C D : Addr} {fd : FuncData} (F : Fun K "__init__" "Alone.__init__" sAInit f fd) (B : ExcBase K D) (mD : mg "TollError" = some (.ref D)) : FnOk P w K mg base CX0 1 f fd ["self", "road"] (spAInit C K) := by
  refine F.ok scAInit (fun vs H Q E h => ?_) (fun cdv A outer s H vs Q E hr h => ?_)
  · obtain ⟨_, _, _, rfl, _⟩ := h
    rfl
  obtain ⟨e, fI, r, rfl, he, ho, S, hr2, q⟩ := h
  refine ⟨_, pss_cons (ps_expr (pe_binit B rfl mD (pa_cons (pv 0) (pa_cons (pe_fstr (pj_str (m := 100) (pj_int (pv 1) pj_nil) (by decide +kernel)) (by decide)) pa_nil))))
    (pss_one (ps_xfld (pv 0) (pv 1) rfl)), ?_⟩
  refine ⟨_, rfl, _, rfl, r, rfl, hr2, fun y => ⟨e, y, C, fI, rfl, he, ho, ?_⟩⟩
  exact ⟨_, rfl, _, rfl, e, C, fI, rfl, he, ho, S, q⟩
end
theorem candP_rise {places : Int} {rds : List (Int × Int)} {b : Bool} {e : List Int} (wok : webOk places rds) (he : candP places rds b e) : e.Pairwise (· < ·) := by
  obtain ⟨⟨p2, p6⟩, _, ok⟩ := wok
  unfold candP at he
  cases b with
  | true => rw [if_pos rfl] at he; exact (mem_sets ((trees_iff (by omega) ok).mp he).1).2
  | false => rw [if_neg (by decide)] at he; exact (mem_sets ((ways_iff p2 p6 ok).mp he).1).2
def spUOwner (CA : Addr) : Sp := fun vs H Q E => ∃ (la ca ba da : Addr) (as : List Addr) (L : List (List Int)) (cs d : List Int) (m r : Int), vs = [.ref la, .ref ca, .ref ba, .int r] ∧ H la = some (.lst (as.map V.ref)) ∧ Paired (IL H) as L ∧ IL H ca cs ∧ H ba = some (.tup [.int m, .ref da]) ∧ IL H da d ∧ L.length ≤ 10000000 ∧
  (∀ e ∈ L, e.length ≤ 1000 ∧ ∀ v ∈ e, 0 ≤ v ∧ v < (cs.length : Int)) ∧ 0 ≤ r ∧ r < (cs.length : Int) ∧ r ≤ 1000 ∧
  (r ∉ d → ∀ H', Same H H' → Q (.int 0) H') ∧ (r ∈ d → ∀ o e, LeastR (without (· ∈ L) r) cs (some (o, e)) → ∀ H', Same H H' → Q (.int (o - m + cs.getD r.toNat 0)) H') ∧
  (r ∈ d → LeastR (without (· ∈ L) r) cs none → ∀ dx fs H', Same H H' → H dx = none → H' dx = some (.xd fs) → fs.lookup ("road" : Str) = some (.int r) → E (.ref CA) (some dx) H')
section
variable {P : Program} {w : World} {K : PySem.W.Frag} {mg : Str → Option Value} {base : Heap}
theorem scUOwner : FnScope ["choices", "costs", "best", "road", "others"] ["choices", "costs", "best", "road"] (defScope uOwner) := ⟨rfl, rfl, rfl, by decide +kernel, rfl, by decide +kernel, by decide +kernel⟩
theorem ok_uOwner {f f1 fI CA : Addr} {fd fd1 fdI : FuncData} (F : Fun K "owner_gets" "owner_gets" uOwner f fd) (G1 : FnOk P w K mg base CX0 2 f1 fd1 ["choices", "costs"] spUCheap) (b1 : Binds K fd1 ["choices", "costs"] []) (k1 : PySem.W.keepIn K (.ref f1) = true) (m1 : mg "cheapest" = some (.ref f1))
    (GI : FnOk P w K mg base CX0 1 fI fdI ["self", "road"] (spAInit CA K)) (bI : Binds K fdI ["self", "road"] []) (ho : excOwn K CA fI = true) (hkp : PySem.W.keepIn K (.ref CA) = true) (hfn : PySem.W.isFn K (.ref fI) = true) (S : ExcSet K CA "road") (mA : mg "Alone" = some (.ref CA)) (ml : mg "len" = none) : FnOk P w K mg base (CXX P w) 3 f fd ["choices", "costs", "best", "road"] (spUOwner CA) := by
  refine F.okX scUOwner (fun vs H Q E h => ?_) (fun _ cdv A outer s H vs Q E _ hr h => ?_)
  · obtain ⟨_, _, _, _, _, _, _, _, _, _, rfl, _⟩ := h
    rfl
  obtain ⟨la, ca, ba, da, as, L, cs, d, m, r, rfl, hla, hp, hC, hB, hD, hlen, hok, r0, r1, r2, q0, qs, qn⟩ := h
  refine ⟨_, pss_cons (ps_if (pt_cmpR op_notIn_seq (pv 3) (pe_ix ix_tup (pv 2) pe_int (fun _ _ => rfl)) (by rfl)) (pss_one (ps_ret pe_int)) pss_nil)
    (pss_cons (ps_setC (i := 4) (N := ["choice", "road"]) (cap := [none, some 3]) scUOwner.nd rfl (Or.inl rfl) rfl (compOk_of (by rfl)) (pi_list (pv 0)) (fun _ _ _ _ => pg_name (i := 0) (nd2 (by decide +kernel)) rfl (Or.inl rfl)) (fun _ _ _ _ => pts_one (pt_cmpR (op_notInK K rfl) (pv 1) (pv 0) (by rfl))) (fun _ _ _ _ => pv 0))
    (pss_cons (ps_if (pt_cmpR op_eq (pe_callB call_len_seq rfl ml PySem.boot_len (pa_cons (pv 4) pa_nil)) pe_int (nomark _)) (pss_one (ps_raiseV rfl rfl raises_cx (pe_makeI ho hkp hfn GI hr rfl mA bI (pa_cons (pv 3) pa_nil)))) pss_nil)
    (pss_one (ps_ret (pe_op op_add (pe_op op_sub (pe_ix ix_tup (pe_call G1 hr rfl m1 k1 b1 .nil pass0 (pa_cons (pv 4) (pa_cons (pv 1) pa_nil))) pe_int (fun _ _ => rfl)) (pe_ix ix_tup (pv 2) pe_int (fun _ _ => rfl))) (pe_ix ix_list (pv 1) (pv 3) (fun _ _ => rfl))))))), ?_⟩
  have hpl := hp.length
  refine ⟨_, rfl, _, rfl, ba, _, 1, .ref da, rfl, rfl, SqT.of hB, rfl, da, _, rfl, .inl (SqL.of hD), rfl, flat_ints d, _, rfl, ?_⟩
  rw [if_pos rfl, inV_int]
  by_cases c : r ∈ d
  · refine ndecF c ?_
    have qs := qs c
    have qn := qn c
    refine ⟨_, rfl, la, rfl, ⟨_, SqL.of hla⟩, ?_⟩
    refine comp_list (K := K) (a := la) (xs := as.map V.ref) (fun i zs H' => H' = H ∧ ∃ bs : List Addr, zs = bs.map V.ref ∧ Paired (IL H) bs ((L.take i).filter fun e => decide (r ∉ e)) ∧ ∀ b ∈ bs, b ∈ as)
      ⟨rfl, [], rfl, .nil, (fun b hb => nomatch hb)⟩ (by rw [List.length_map]; exact Nat.le_trans (by omega) (show 10000000 ≤ sizeLine by decide)) (fun i zs H' _ ⟨e1, bs, e, w2, _⟩ => ⟨by rw [e1]; exact SqL.of hla, ?_⟩) ?_ ?_
    · have z := w2.length
      have z2 := List.length_filter_le (fun e => decide (r ∉ e)) (L.take i)
      rw [List.length_take] at z2
      rw [e, List.length_map, z]
      omega
    · rintro i x zs H' hx ⟨rfl, bs, e, w2, w3⟩
      obtain ⟨a, ha, rfl⟩ := map_ref_get hx
      obtain ⟨row, hrow, hA⟩ := pget hp ha
      refine ⟨⟨.inl rfl, .inr rfl, trivial⟩, ?_⟩
      refine ⟨_, rfl, _, rfl, a, _, rfl, .inl (SqL.of hA), rfl, flat_ints row, _, rfl, ?_⟩
      rw [if_pos rfl, inV_int]
      by_cases c2 : r ∈ row
      · refine ndecF c2 ⟨rfl, bs, e, ?_, w3⟩
        rw [take_snoc hrow, List.filter_append, List.filter_cons, if_neg (by simpa using c2)]
        simpa using w2
      · refine ndecT c2 ⟨_, rfl, rfl, bs ++ [a], by rw [e, List.map_append]; rfl, ?_, fun b hb => ?_⟩
        · rw [take_snoc hrow, List.filter_append, List.filter_cons, if_pos (by simpa using c2)]
          exact papp w2 (.cons hA .nil)
        · rcases List.mem_append.mp hb with z | z
          · exact w3 b z
          · rw [List.mem_singleton.mp z]; exact List.mem_of_getElem? ha
    · rintro zs H' ⟨rfl, bs, e, w2, w3⟩ ol hol
      rw [List.length_map, hpl, List.take_length] at w2
      have s1 := same_new hol (.lst zs)
      obtain ⟨H1, e1⟩ : ∃ H1, H1 = upd H' ol (.lst zs) := ⟨_, rfl⟩
      have hO : H1 ol = some (.lst (bs.map V.ref)) := by rw [e1, upd_same, e]
      rw [← e1] at s1 ⊢
      have hbl := w2.length
      obtain ⟨L', eL'⟩ : ∃ L', L' = L.filter fun e => decide (r ∉ e) := ⟨_, rfl⟩
      rw [← eL'] at w2 hbl
      have hiff : ∀ e, e ∈ L' ↔ without (· ∈ L) r e := fun e => by
        rw [eL', List.mem_filter, decide_eq_true_iff]
        exact Iff.rfl
      refine ⟨_, rfl, ol, _, rfl, .inl (SqL.of hO), rfl, _, rfl, ?_⟩
      rw [List.length_map, hbl]
      by_cases c3 : L' = []
      · refine decT (by rw [c3]; rfl) ?_
        refine ⟨_, rfl, (by show 1 ≤ sizeLine; decide), fun ea hea => ?_⟩
        refine ⟨ea, fI, r, rfl, upd_same, ho, S, by omega, fun dx hdx hne => ⟨rfl, ea, CA, fI, dx, rfl, ho, upd_same, s1.free hea, ?_⟩⟩
        have hdx1 : H1 dx = none := by rw [upd_ne hne] at hdx; exact hdx
        refine qn (fun e he => by have z := (hiff e).mpr he; rw [c3] at z; cases z) dx [("road", .int r)] _ (fun b o hb => ?_) (s1.free hdx1) ?_ rfl
        · have hb1 := s1 _ _ hb
          have n1 : b ≠ ea := fun z => by rw [z, hea] at hb1; cases hb1
          have n2 : b ≠ dx := fun z => by rw [z, hdx1] at hb1; cases hb1
          rw [del_ne n1, upd_ne n1, upd_ne n2, upd_ne n1]
          exact hb1
        · rw [del_ne hne, upd_ne hne, upd_same]
      · refine decF (fun z => c3 (List.length_eq_zero_iff.mp (by injection z with z; omega))) ?_
        have hlen' : L'.length ≤ 10000000 := by
          rw [eL']
          exact Nat.le_trans (List.length_filter_le _ _) hlen
        refine ⟨_, rfl, _, rfl, ol, ca, bs, L', cs, rfl, hO, pmono s1 w2, hC.mono s1, c3, hlen', fun e he => hok e ((hiff e).mp he).1, fun o e ho' rt de H2 s2 hrt hde h1 h2 => ?_⟩
        refine ⟨rt, _, 0, .int o, rfl, rfl, SqT.of h1, rfl, _, rfl, ba, _, 0, .int m, rfl, rfl, SqT.of ((s1.trans s2) _ _ hB), rfl, _, _, rfl, rfl, _, rfl, _, rfl, ca, _, r, _, rfl, rfl, SqL.of ((s1.trans s2) _ _ hC), nm_at r0 r1, _, _, rfl, rfl, ?_⟩
        exact qs o e (ho'.congr hiff) _ (s1.trans s2)
  · exact ndecT c (q0 c _ (Same.refl _))
theorem scUGets : FnScope ["web", "kind", "costs", "choices", "best"] ["web", "kind", "costs"] (defScope uGets) := ⟨rfl, rfl, rfl, by decide +kernel, rfl, by decide +kernel, by decide +kernel⟩
theorem ok_uGets {f f1 f2 f3 CW CC CN CA : Addr} {fd fd1 fd2 fd3 : FuncData} (F : Fun K "road_gets" "road_gets" uGets f fd) (G1 : FnOk P w K mg base (CXX P w) 9 f1 fd1 ["web", "kind", "costs"] (spUChoices CW CC CN)) (b1 : Binds K fd1 ["web", "kind", "costs"] []) (k1 : PySem.W.keepIn K (.ref f1) = true) (m1 : mg "choices_to_make" = some (.ref f1))
    (G2 : FnOk P w K mg base CX0 2 f2 fd2 ["choices", "costs"] spUCheap) (b2 : Binds K fd2 ["choices", "costs"] []) (k2 : PySem.W.keepIn K (.ref f2) = true) (m2 : mg "cheapest" = some (.ref f2))
    (G3 : FnOk P w K mg base (CXX P w) 3 f3 fd3 ["choices", "costs", "best", "road"] (spUOwner CA)) (b3 : Binds K fd3 ["choices", "costs", "best", "road"] []) (k3 : PySem.W.keepIn K (.ref f3) = true) (m3 : mg "owner_gets" = some (.ref f3)) (ml : mg "len" = none) (mr : mg "range" = none) : FnOk P w K mg base (CXX P w) 10 f fd ["web", "kind", "costs"] (spRGets CW CC CN CA candP) := by
  refine F.okX scUGets (fun vs H Q E h => ?_) (fun _ cdv A outer s H vs Q E _ hr h => ?_)
  · obtain ⟨_, _, _, _, _, _, rfl, _⟩ := h
    rfl
  obtain ⟨wb, ca, places, rds, b, cs, rfl, hW, wok, hC, hl, q, qA, qN, qC⟩ := h
  have hr2 := hr.mono (j := 2) (by decide)
  have hr3 := hr.mono (j := 3) (by decide)
  refine ⟨_, pss_cons (ps_set (i := 3) scUGets.nd rfl (Or.inr rfl) (pe_callX G1 hr rfl m1 k1 b1 .nil takes_cx (pa_cons (pv 0) (pa_cons (pv 1) (pa_cons (pv 2) pa_nil)))))
    (pss_cons (ps_set (i := 4) scUGets.nd rfl (Or.inr rfl) (pe_call G2 hr2 rfl m2 k2 b2 .nil pass0 (pa_cons (pv 3) (pa_cons (pv 2) pa_nil))))
    (pss_one (ps_ret (pe_compX (N := ["road", "choices", "costs", "best"]) (cap := [none, some 3, some 2, some 4]) rfl (compOk_of (by rfl)) takesF_cx (pi_range1 rfl mr (pa_cons (pe_callB call_len_seq rfl ml PySem.boot_len (pa_cons (pv 2) pa_nil)) pa_nil)) (fun _ _ _ _ => pg_name (i := 0) (nd4 (by decide +kernel) (by decide +kernel) (by decide +kernel) (by decide +kernel) (by decide +kernel) (by decide +kernel)) rfl (Or.inl rfl))
      (fun _ _ _ _ => pe_callX G3 hr3 rfl m3 k3 b3 .nil takes_fly (pa_cons (pv 1) (pa_cons (pv 2) (pa_cons (pv 3) (pa_cons (pv 0) pa_nil))))))))), ?_⟩
  refine ⟨_, rfl, _, rfl, _, rfl, wb, ca, places, rds, b, cs, rfl, hW, wok, hC, fun cok la H1 L s1 hL hiff hne hlen => ?_, fun cok no H1 s1 => qN cok no _ s1, fun no H1 s1 => qC no _ s1⟩
  obtain ⟨hla0, as, hla, hp, hf⟩ := hL
  have hrows := cand_rows wok hiff cok.1
  have hC1 := hC.mono s1
  refine ⟨_, rfl, _, rfl, la, ca, as, L, cs, rfl, hla, hp, hC1, hne, hlen, hrows, fun m d hm ba da H2 s2 hba hda h1 h2 => ?_⟩
  have hmC : LeastR (candP places rds b) cs (some (m, d)) := hm.congr hiff
  have hdr := candP_rise wok hmC.1
  have hdo := candP_ok places rds b wok d hmC.1
  have q := q cok m d
  have qA := qA cok m d
  have hwo : ∀ r e, without (· ∈ L) r e ↔ without (candP places rds b) r e := fun r e => ⟨fun z => ⟨(hiff e).mp z.1, z.2⟩, fun z => ⟨(hiff e).mpr z.1, z.2⟩⟩
  have hC2 := hC1.mono s2
  have hcl : cs.length = rds.length := cok.1
  have l10 := wok.2.1.2
  refine ⟨_, rfl, ca, _, rfl, .inl (SqL.of hC2), ((cs.map V.int).length : Int), rfl, by omega, by rw [List.length_map]; omega, ?_⟩
  have eN : ((cs.map V.int).length : Int).toNat = rds.length := by rw [List.length_map, hcl, Int.toNat_natCast]
  rw [eN]
  refine comp_range (fun i zs H' => Same H2 H' ∧ ∃ gs : List Int, zs = gs.map V.int ∧ gs.length = i ∧ (∀ r : Nat, r < i → (r : Int) ∈ d → ∃ o e c, LeastR (without (candP places rds b) (r : Int)) cs (some (o, e)) ∧ cs[r]? = some c ∧ gs[r]? = some (o - m + c)) ∧ (∀ r : Nat, r < i → (r : Int) ∉ d → gs[r]? = some 0))
    ⟨Same.refl _, [], rfl, rfl, (fun r h => absurd h (Nat.not_lt_zero _)), fun r h => absurd h (Nat.not_lt_zero _)⟩ (small (by omega)) (fun i zs H' _ ⟨_, gs, e, el, _⟩ => by rw [e, List.length_map, el]; exact Nat.le_refl _) ?_ ?_
  · rintro i zs H3 hi ⟨t1, gs, e, el, gin, gout⟩
    refine ⟨⟨.inl rfl, .inr rfl, .inr rfl, .inr rfl, trivial⟩, ?_⟩
    obtain ⟨cv, hcv⟩ : ∃ c, cs[i]? = some c := ⟨_, List.getElem?_eq_getElem (by omega)⟩
    have s23 := s2.trans t1
    have ei : (0 : Int) + (i : Int) = (i : Int) := Int.zero_add _
    have next : ∀ v : Int, ((i : Int) ∈ d → ∃ o e c, LeastR (without (candP places rds b) (i : Int)) cs (some (o, e)) ∧ cs[i]? = some c ∧ v = o - m + c) → ((i : Int) ∉ d → v = 0) → ∀ H4, Same H3 H4 →
        (Same H2 H4 ∧ ∃ gs' : List Int, zs ++ [V.int v] = gs'.map V.int ∧ gs'.length = i + 1 ∧ (∀ r : Nat, r < i + 1 → (r : Int) ∈ d → ∃ o e c, LeastR (without (candP places rds b) (r : Int)) cs (some (o, e)) ∧ cs[r]? = some c ∧ gs'[r]? = some (o - m + c)) ∧ (∀ r : Nat, r < i + 1 → (r : Int) ∉ d → gs'[r]? = some 0)) := fun v h1 h2 H4 t2 => by
      have old : ∀ r, r < i → (gs ++ [v])[r]? = gs[r]? := fun r hr' => List.getElem?_append_left (by omega)
      have new : (gs ++ [v])[i]? = some v := by rw [List.getElem?_append_right (by omega), el, Nat.sub_self]; rfl
      refine ⟨t1.trans t2, gs ++ [v], by rw [e, List.map_append]; rfl, by rw [List.length_append, el]; rfl, fun r hr' hd => ?_, fun r hr' hd => ?_⟩
      · by_cases c : r = i
        · subst c
          obtain ⟨o, e', c', z1, z2, z3⟩ := h1 hd
          exact ⟨o, e', c', z1, z2, by rw [new, z3]⟩
        · obtain ⟨o, e', c', z1, z2, z3⟩ := gin r (by omega) hd
          exact ⟨o, e', c', z1, z2, by rw [old r (by omega), z3]⟩
      · by_cases c : r = i
        · subst c
          rw [new, h2 hd]
        · rw [old r (by omega)]
          exact gout r (by omega) hd
    refine ⟨_, rfl, _, rfl, _, rfl, _, rfl, la, ca, ba, da, as, L, cs, d, m, (i : Int), by rw [ei]; rfl, s23 _ _ hla, pmono s23 hp, hC1.mono s23, t1 _ _ h1, h2.mono t1, hlen, hrows, by omega, by omega, by omega, fun hd H4 t2 => ?_, fun hd o e' hle H4 t2 => ?_, fun hd hle dx fs H4 t2 hdx hxd hlk => ?_⟩
    · exact next 0 (fun z => absurd z hd) (fun _ => rfl) H4 t2
    · refine next _ (fun _ => ⟨o, e', cv, hle.congr (hwo _), hcv, ?_⟩) (fun z => absurd hd z) H4 t2
      rw [Int.toNat_natCast, List.getD_eq_getElem?_getD, hcv]
      rfl
    · obtain ⟨a, b', hdd⟩ := List.append_of_mem hd
      refine qA (i : Int) hmC (.one a b' (i : Int) hdd (fun v hv => ?_) (hle.congr (hwo _))) dx fs _ ((s1.trans s23).trans t2) ((s1.trans s23).free hdx) hxd hlk
      have hvd : v ∈ d := by rw [hdd]; exact List.mem_append_left _ hv
      have hv0 := hdo.1 v hvd
      have hvi : v < (i : Int) := by
        rw [hdd] at hdr
        exact (List.pairwise_append.mp hdr).2.2 v hv (i : Int) List.mem_cons_self
      obtain ⟨o, e', _, z, _⟩ := gin v.toNat (by omega) (by rw [show ((v.toNat : Nat) : Int) = v by omega]; exact hvd)
      rw [show ((v.toNat : Nat) : Int) = v by omega] at z
      exact ⟨_, z⟩
  · rintro zs H3 ⟨t1, gs, e, el, gin, gout⟩ p hp'
    have t2 := same_new hp' (.lst zs)
    have s13 := (s1.trans s2).trans t1
    refine q gs hmC (.all gs el (fun r hr' => ?_) gout) p _ (s13.trans t2) (s13.free hp') (by show upd _ p _ p = _; rw [upd_same, e])
    have hv0 := hdo.1 r hr'
    obtain ⟨o, e', c, z1, z2, z3⟩ := gin r.toNat (by omega) (by rw [show ((r.toNat : Nat) : Int) = r by omega]; exact hr')
    rw [show ((r.toNat : Nat) : Int) = r by omega] at z1
    exact ⟨o, e', c, z1, z2, z3⟩
end
section
variable {P : Program} {w : World} {K : PySem.W.Frag} {mg : Str → Option Value} {base : Heap}
theorem scUBest : FnScope ["web", "kind", "costs"] ["web", "kind", "costs"] (defScope uBest) := ⟨rfl, rfl, rfl, by decide +kernel, rfl, by decide +kernel, by decide +kernel⟩
theorem ok_uBest {f f1 f2 CW CC CN : Addr} {fd fd1 fd2 : FuncData} (F : Fun K "road_best" "road_best" uBest f fd) (G1 : FnOk P w K mg base CX0 2 f1 fd1 ["choices", "costs"] spUCheap) (b1 : Binds K fd1 ["choices", "costs"] []) (k1 : PySem.W.keepIn K (.ref f1) = true) (m1 : mg "cheapest" = some (.ref f1))
    (G2 : FnOk P w K mg base (CXX P w) 9 f2 fd2 ["web", "kind", "costs"] (spUChoices CW CC CN)) (b2 : Binds K fd2 ["web", "kind", "costs"] []) (k2 : PySem.W.keepIn K (.ref f2) = true) (m2 : mg "choices_to_make" = some (.ref f2)) : FnOk P w K mg base (CXX P w) 10 f fd ["web", "kind", "costs"] (spRBest CW CC CN candP) := by
  refine F.okX scUBest (fun vs H Q E h => ?_) (fun _ cdv A outer s H vs Q E _ hr h => ?_)
  · obtain ⟨_, _, _, _, _, _, rfl, _⟩ := h
    rfl
  obtain ⟨wb, ca, places, rds, b, cs, rfl, hW, wok, hC, hl, q, qN, qC⟩ := h
  have hr2 := hr.mono (j := 2) (by decide)
  refine ⟨_, pss_one (ps_ret (pe_call G1 hr2 rfl m1 k1 b1 .nil pass0 (pa_cons (pe_callX G2 hr rfl m2 k2 b2 .nil takes_cx (pa_cons (pv 0) (pa_cons (pv 1) (pa_cons (pv 2) pa_nil)))) (pa_cons (pv 2) pa_nil)))), ?_⟩
  refine ⟨_, rfl, _, rfl, _, rfl, wb, ca, places, rds, b, cs, rfl, hW, wok, hC, fun cok r H1 L s1 hL hiff hne hlen => ?_, fun cok no H1 s1 => qN cok no _ s1, fun no H1 s1 => qC no _ s1⟩
  obtain ⟨hr0, as, hla, hp, hf⟩ := hL
  refine ⟨_, rfl, r, ca, as, L, cs, rfl, hla, hp, hC.mono s1, hne, hlen, cand_rows wok hiff cok.1, fun m d hm rt da H2 s2 hrt hda h1 h2 => ?_⟩
  exact q cok m d (hm.congr hiff) rt da _ (s1.trans s2) (s1.free hrt) (hf da hda) h1 h2
end
def spGetsN (CW : Addr) (cand : Cand) : Sp := fun vs H Q _ => ∃ wb ca places rds b cs, vs = [.ref wb, .str (kindS b), .ref ca] ∧ WebAt CW H wb places rds ∧ webOk places rds ∧ IL H ca cs ∧ costOk rds.length cs ∧
  (∀ m d gs, LeastR (cand places rds b) cs (some (m, d)) → GetsR (cand places rds b) cs rds.length m d (.inl gs) → ∀ r H', Same H H' → H r = none → IL H' r gs → Q (.ref r) H') ∧ (∀ H', Same H H' → Q .non H')
section
variable {P : Program} {w : World} {K : PySem.W.Frag} {mg : Str → Option Value} {base : Heap}
theorem scGets : FnScope ["web", "kind", "costs"] ["web", "kind", "costs"] (defScope sGets) := ⟨rfl, rfl, rfl, by decide +kernel, rfl, by decide +kernel, by decide +kernel⟩
theorem ok_getsN {nc : Nat} {cand : Cand} {f f2 CW CC CN CA : Addr} {fd fd2 : FuncData} (F : Fun K "_law_gets" "_law_gets" sGets f fd)
    (G2 : FnOk P w K mg base (CXX P w) nc f2 fd2 ["web", "kind", "costs"] (spRGets CW CC CN CA cand)) (b2 : Binds K fd2 ["web", "kind", "costs"] []) (k2 : PySem.W.keepIn K (.ref f2) = true) (m2 : mg "road_gets" = some (.ref f2))
    (mN : mg "NoWay" = some (.ref CN)) (mA : mg "Alone" = some (.ref CA)) (eN : PySem.W.exmOne K (.ref CN) (.ref CN) = some true) (eAN : PySem.W.exmOne K (.ref CA) (.ref CN) = some false) (eA : PySem.W.exmOne K (.ref CA) (.ref CA) = some true) (hnc : nc ≤ 11) :
    FnOk P w K mg base CX0 12 f fd ["web", "kind", "costs"] (spGetsN CW cand) := by
  refine F.ok scGets (fun vs H Q E h => ?_) (fun cdv A outer s H vs Q E hr h => ?_)
  · obtain ⟨_, _, _, _, _, _, rfl, _⟩ := h
    rfl
  obtain ⟨wb, ca, places, rds, b, cs, rfl, hW, ok, hC, cok, qg, qn⟩ := h
  have hrc := hr.mono (j := nc) hnc
  refine ⟨_, pss_one (ps_try rfl rfl (fun R pn xe tk po => pss_one (ps_ret (pe_callX G2 hrc rfl m2 k2 b2 .nil tk (pa_cons (pv 0) (pa_cons (pv 1) (pa_cons (pv 2) pa_nil))))))
      (ph_ex rfl mN (fun ea => pss_one (ps_ret pe_non)) (ph_ex rfl mA (fun ea => pss_one (ps_ret pe_non)) ph_nil))), ?_⟩
  refine ⟨fun cls dct σ' H' => (cls = .ref CN ∨ cls = .ref CA) ∧ Same H H', ?_, fun pn xe => ?_⟩
  · rintro cls dct σ' H' ⟨rfl | rfl, s1⟩
    · exact ⟨true, eN, iteT fun ea hea => qn _ (s1.trans (same_new hea _))⟩
    · exact ⟨false, eAN, iteF ⟨true, eA, iteT fun ea hea => qn _ (s1.trans (same_new hea _))⟩⟩
  · exact ⟨_, rfl, _, rfl, _, rfl, wb, ca, places, rds, b, cs, rfl, hW, ok, hC, by have := cok.1; have := ok.2.1.2; omega, fun _ m d gs h1 h2 r H' s1 h3 h4 => qg m d gs h1 h2 r H' s1 h3 h4,
      fun _ m d r _ _ dx fs H' s1 _ _ _ => ⟨.inr rfl, s1⟩, fun _ _ H' s1 => ⟨.inl rfl, s1⟩, fun no => absurd cok no⟩
end
def spHalf (K : PySem.W.Frag) : Sp := fun vs H Q _ => ∃ (a : Addr) (ns : List Int), vs = [.ref a] ∧ SqL K H a (ns.map V.int) ∧ ∀ H', Same H H' → Q (.bl true) H'
section
variable {P : Program} {w : World} {K : PySem.W.Frag} {mg : Str → Option Value} {base : Heap}
theorem scShelf : FnScope ["script", "people", "goods", "worths", "person", "good", "pay", "k", "cell", "lie", "told"] ["script"] (defScope sShelf) := ⟨rfl, rfl, rfl, by decide +kernel, rfl, by decide +kernel, by decide +kernel⟩
theorem ok_shelf {f f0 f1 f2 f3 f6 f7 : Addr} {fd fd0 fd1 fd2 fd3 fd6 fd7 : FuncData} (F : Fun K "_law_shelf" "_law_shelf" sShelf f fd) (G1 : FnOk P w K mg base CX0 2 f1 fd1 ["script"] (spSize K)) (b1 : Binds K fd1 ["script"] []) (k1 : PySem.W.keepIn K (.ref f1) = true) (m1 : mg "_law_size_by" = some (.ref f1))
    (G2 : FnOk P w K mg base CX0 2 f2 fd2 ["script", "start", "people", "goods"] (spWorths K)) (b2 : Binds K fd2 ["script", "start", "people", "goods"] []) (k2 : PySem.W.keepIn K (.ref f2) = true) (m2 : mg "_law_worths_by" = some (.ref f2))
    (G3 : FnOk P w K mg base CX0 1 f3 fd3 ["script", "k"] (spCell K)) (b3 : Binds K fd3 ["script", "k"] []) (k3 : PySem.W.keepIn K (.ref f3) = true) (m3 : mg "_law_cell_at" = some (.ref f3))
    (G6 : FnOk P w K mg base CX0 4 f6 fd6 ["worths"] spBest) (b6 : Binds K fd6 ["worths"] []) (k6 : PySem.W.keepIn K (.ref f6) = true) (m6 : mg "shelf_best" = some (.ref f6))
    (G7 : FnOk P w K mg base CX0 5 f7 fd7 ["worths"] spPays) (b7 : Binds K fd7 ["worths"] []) (k7 : PySem.W.keepIn K (.ref f7) = true) (m7 : mg "shelf_pays" = some (.ref f7))
    (G0 : FnOk P w K mg base CX0 1 f0 fd0 ["cell", "k", "many"] spMix) (b0 : Binds K fd0 ["cell", "k", "many"] []) (k0 : PySem.W.keepIn K (.ref f0) = true) (m0 : mg "_law_mix" = some (.ref f0)) (mr : mg "range" = none) (mI : mg "int" = none) (mn : mg "min" = none) (me : mg "enumerate" = none) : FnOk P w K mg base CX0 6 f fd ["script"] (spHalf K) := by
  refine F.ok scShelf (fun vs H Q E h => ?_) (fun cdv A outer s H vs Q E hr h => ?_)
  · obtain ⟨_, _, rfl, _⟩ := h
    rfl
  obtain ⟨a, ns, rfl, hS, q⟩ := h
  have hr1 := hr.mono (j := 1) (by decide)
  have hr2 := hr.mono (j := 2) (by decide)
  have hr4 := hr.mono (j := 4) (by decide)
  -- the telling and the test
  obtain ⟨t3, hT3, hI3⟩ : ∃ t, PSs (cxOf CX0 P w K mg base ["script", "people", "goods", "worths", "person", "good", "pay", "k", "cell", "lie", "told"] "_law_shelf" (defScope sShelf) f cdv A outer s H E).nox ((forBody ((defBody sShelf).getD 5 (.Pass ⟨0, 0, 0, 0⟩))).drop 3) t ∧
      ∀ (D : L2.Ends) (σ : L2.St) (H1 : Hp) (wa la : Addr) (ws : List (List Int)) (tr ls : List Int) (go k g p : Int) (v1 v2 v7 v8 v10 : Option V), σ = [some (.ref a), v1, v2, some (.ref wa), some (.int k), some (.int g), some (.int p), v7, v8, some (.ref la), v10] → ILL H1 wa ws → okW go ws → 1 ≤ go → go ≤ 4 → ws.length ≤ 4 → 0 ≤ k → k < (ws.length : Int) → IL H1 la ls → (ls.length : Int) = go → (∀ v ∈ ls, 0 ≤ v) → (best ws go).2[k.toNat]? = some g → p = payZ ws go k.toNat → ws[k.toNat]? = some tr →
        (∀ H' v, Same H1 H' → D.nx [some (.ref a), v1, v2, some (.ref wa), some (.int k), some (.int g), some (.int p), v7, v8, some (.ref la), v] H') → t D σ H1 := by
    refine ⟨_, pss_cons (ps_set (i := 10) scShelf.nd rfl (Or.inl rfl) (pe_op op_cat (pe_op op_cat (pe_slice sl_list (pv 3) po_none (po_some (pv 4))) (pe_lst (pa_cons (pe_comp (N := ["worth"]) (cap := [none]) rfl (compOk_of (by rfl)) (pi_list (pv 9)) (fun _ _ _ _ => pg_name (i := 0) nd1 rfl (Or.inl rfl)) (fun _ _ _ _ => pts_nil) (fun _ _ _ _ => pe_callB (call_min2 rfl) rfl mn boot_min (pa_cons pe_int (pa_cons (pv 0) pa_nil)))) pa_nil))) (pe_slice sl_list (pv 3) (po_some (pe_op op_add (pv 4) pe_int)) po_none)))
      (pss_one (ps_if (PW.pt (pw_and (pt_cmpR op_eq (pe_ix ix_list (pe_ix ix_tup (pe_call G6 hr4 rfl m6 k6 b6 .nil pass0 (pa_cons (pv 10) pa_nil)) pe_int (fun _ _ => rfl)) (pv 4) (fun _ _ => rfl)) (pv 5) (nomark _)) (pw_and1 (pt_cmpR op_ne (pe_ix ix_list (pe_call G7 hr rfl m7 k7 b7 .nil pass0 (pa_cons (pv 10) pa_nil)) (pv 4) (fun _ _ => rfl)) (pv 6) (nomark _))))) (pss_one (ps_ret pe_bl)) pss_nil)), ?_⟩
    rintro D σ H1 wa la ws tr ls go k g p v1 v2 v7 v8 v10 rfl hW hok g1 g4 hl4 k0' k1' hL hll hlv hg hpay htr nx
    obtain ⟨as, hw, hp⟩ := id hW
    have hpl := hp.length
    refine put_read (K := K) (i := 3) (j := 4) (xs := as.map V.ref) rfl rfl hw (by rw [List.length_map]; omega) k0' (by rw [List.length_map]; omega) fun H2 R s2 kk => ?_
    refine ⟨_, rfl, la, rfl, ⟨_, SqL.of (hL.mono s2)⟩, ?_⟩
    refine comp_list (K := K) (a := la) (xs := ls.map V.int) (fun i zs H' => H' = H2 ∧ zs = ((ls.take i).map fun v => if v < 1000 then v else 1000).map V.int) ⟨rfl, rfl⟩ (by rw [List.length_map]; exact small (by omega)) (fun i zs H' _ h => ⟨by rw [h.1]; exact SqL.of (hL.mono s2), by rw [h.2, List.length_map, List.length_map, List.length_take]; exact Nat.min_le_left _ _⟩) ?_ ?_
    · rintro i x zs H' hx ⟨rfl, e⟩
      obtain ⟨n, hn, rfl⟩ := map_int_get hx
      refine ⟨⟨.inl rfl, trivial⟩, ?_⟩
      refine ⟨_, rfl, _, _, rfl, rfl, ?_⟩
      rw [e, take_snoc hn, List.map_append, List.map_append]
      rfl
    rintro zs H' ⟨rfl, e⟩ lc hlc
    rw [List.length_map, List.take_length] at e
    obtain ⟨lie, hlie⟩ : ∃ x, x = ls.map fun v => if v < 1000 then v else 1000 := ⟨_, rfl⟩
    rw [← hlie] at e
    have hlL : (lie.length : Int) = go := by rw [hlie, List.length_map]; exact hll
    have hlV : ∀ v ∈ lie, 0 ≤ v ∧ v ≤ 1000 := fun v hv => by
      rw [hlie] at hv
      obtain ⟨u, hu, rfl⟩ := List.mem_map.mp hv
      have := hlv u hu
      split <;> omega
    have s3 := same_new hlc (.lst zs)
    have hLc : IL (upd H' lc (.lst zs)) lc lie := by show upd _ lc _ lc = _; rw [upd_same, e]
    refine kk _ _ s3 fun to H8 s8 hto hto2 => ?_
    rw [set_map] at hto2
    have hTo : ILL H8 to (ws.set k.toNat lie) := ⟨_, hto2, pset (F := IL H8) (hLc.mono s8) _ (pmono (s2.trans (s3.trans s8)) hp)⟩
    have hokL : okW go (ws.set k.toNat lie) := okW_set hok ⟨hlL, hlV⟩ _
    have hlt : (ws.set k.toNat lie).length = ws.length := List.length_set ..
    have s18 := s2.trans (s3.trans s8)
    refine ⟨_, rfl, to, _, go, rfl, hTo, by omega, by omega, g1, g4, hokL, fun br bd Ha sa hbr hbd hbr2 hbd2 => ?_⟩
    have hbl := best_len hokL
    obtain ⟨gv, hgv, hgv2⟩ := atI_of (xs := (best (ws.set k.toNat lie) go).2.map V.int) k0' (by rw [List.length_map, hbl]; omega)
    obtain ⟨g', hg', rfl⟩ := map_int_get hgv2
    refine ⟨br, _, 1, _, rfl, rfl, SqT.of hbr2, rfl, _, rfl, bd, _, k, _, rfl, rfl, SqL.of hbd2, hgv, _, rfl, rfl, _, rfl, ?_⟩
    refine dec2 (fun c => ?_) (fun c => ?_)
    · have eg : g' = g := by injection c
      subst eg
      refine ⟨_, rfl, to, _, go, rfl, hTo.mono sa, by omega, by omega, g1, g4, hokL, fun fo Hb sb hfo hfo2 => ?_⟩
      have hpz : (paysZ (ws.set k.toNat lie) go).length = ws.length := by unfold paysZ; rw [List.length_map, List.length_range, hlt]
      obtain ⟨pv', hpv, hpv2⟩ := atI_of (xs := (paysZ (ws.set k.toNat lie) go).map V.int) k0' (by rw [List.length_map, hpz]; omega)
      obtain ⟨p', hpp, rfl⟩ := map_int_get hpv2
      have ep : p' = payZ (ws.set k.toNat lie) go k.toNat := by
        unfold paysZ at hpp
        rw [List.getElem?_map, List.getElem?_range (by omega)] at hpp
        exact (Option.some.inj hpp).symm
      refine ⟨_, rfl, fo, _, k, _, rfl, rfl, SqL.of hfo2, hpv, _, rfl, rfl, _, rfl, ?_⟩
      refine ndecF (by rw [ep, hpay, payZ_same hok htr hokL hg hg']) ?_
      exact nx _ _ (s18.trans (sa.trans sb))
    · exact nx _ _ (s18.trans sa)
  refine ⟨_, pss_cons (ps_asg (pe_call G1 hr2 rfl m1 k1 b1 .nil pass0 (pa_cons (pv 0) pa_nil)) (pg_tup rfl (pgs_cons (pg_name (i := 1) scShelf.nd rfl (Or.inl rfl)) (pgs_cons (pg_name (i := 2) scShelf.nd rfl (Or.inl rfl)) pgs_nil))))
    (pss_cons (ps_set (i := 3) scShelf.nd rfl (Or.inl rfl) (pe_call G2 hr2 rfl m2 k2 b2 .nil pass0 (pa_cons (pv 0) (pa_cons pe_int (pa_cons (pv 1) (pa_cons (pv 2) pa_nil))))))
    (pss_cons (ps_set (i := 4) scShelf.nd rfl (Or.inl rfl) (pe_op op_mod (pe_call G3 hr1 rfl m3 k3 b3 .nil pass0 (pa_cons (pv 0) (pa_cons pe_int pa_nil))) (pv 1)))
    (pss_cons (ps_set (i := 5) scShelf.nd rfl (Or.inr rfl) (pe_ix ix_list (pe_ix ix_tup (pe_call G6 hr4 rfl m6 k6 b6 .nil pass0 (pa_cons (pv 3) pa_nil)) pe_int (fun _ _ => rfl)) (pv 4) (fun _ _ => rfl)))
    (pss_cons (ps_set (i := 6) scShelf.nd rfl (Or.inl rfl) (pe_ix ix_list (pe_call G7 hr rfl m7 k7 b7 .nil pass0 (pa_cons (pv 3) pa_nil)) (pv 4) (fun _ _ => rfl)))
    (pss_cons (ps_for PassesOwn.never rfl (pi_range1 rfl mr (pa_cons pe_int pa_nil)) (pg_name (i := 7) scShelf.nd rfl (Or.inl rfl))
      (pss_cons (ps_set (i := 8) scShelf.nd rfl (Or.inr rfl) (pe_call G3 hr1 rfl m3 k3 b3 .nil pass0 (pa_cons (pv 0) (pa_cons (pe_op op_add pe_int (pv 7)) pa_nil))))
      (pss_cons (ps_setC (i := 9) (N := ["j", "cell"]) (cap := [none, some 8]) scShelf.nd rfl (Or.inl rfl) rfl (compOk_of (by rfl)) (pi_range1 rfl mr (pa_cons (pv 2) pa_nil)) (fun _ _ _ _ => pg_name (i := 0) (nd2 (by decide +kernel)) rfl (Or.inl rfl)) (fun _ _ _ _ => pts_nil)
          (fun _ _ _ _ => pe_call G0 hr1 rfl m0 k0 b0 .nil pass0 (pa_cons (pv 1) (pa_cons (pv 0) (pa_cons pe_int pa_nil)))))
      (pss_cons (ps_if (PW.pt (pw_and (pt_cmpR op_ge (pv 5) pe_int (nomark _)) (pw_and1 (pt_cmpR op_gt (pv 7) pe_int (nomark _)))))
        (pss_one (ps_setC (i := 9) (N := ["j", "worth", "good"]) (cap := [none, none, some 5]) scShelf.nd rfl (Or.inl rfl) rfl (compOk_of (by rfl)) (pi_enum rfl me (pa_cons (pv 9) pa_nil)) (fun _ _ _ _ => pg_tupK K (n := 2) rfl rfl (pgs_cons (pg_name (i := 0) (nd3 (by decide +kernel) (by decide +kernel) (by decide +kernel)) rfl (Or.inl rfl)) (pgs_cons (pg_name (i := 1) (nd3 (by decide +kernel) (by decide +kernel) (by decide +kernel)) rfl (Or.inl rfl)) pgs_nil))) (fun _ _ _ _ => pts_nil)
          (fun _ _ _ _ => pe_op op_add (pe_op op_mul (pv 1) (pe_callTy call_int1 rfl mI PyProof.Rows.boot_int (pa_cons (pe_cmpR op_eq (pv 0) (pv 2) (nomark _)) pa_nil))) (pv 0)))) pss_nil)
      hT3))))
    (pss_one (ps_ret pe_bl))))))), ?_⟩
  refine ⟨_, rfl, a, ns, rfl, hS, fun rs H1 pe go s1 hrs p1 p4 g1 g4 => ?_⟩
  refine ⟨rs, _, rfl, SqT.of hrs, rfl, _, _, rfl, _, _, rfl, rfl, ?_⟩
  refine ⟨_, rfl, _, rfl, _, rfl, a, ns, _, _, _, rfl, s1.seq hS, by decide, by omega, by omega, by omega, by omega, fun wa H2 ws s2 hn hwl hok => ?_⟩
  have s12 := s1.trans s2
  have hS2 := s12.seq hS
  have hW := hn.ill
  refine ⟨_, rfl, a, ns, _, rfl, hS2, by decide, _, rfl, _, _, rfl, rfl, (by show (0 : Int) < pe; omega), ?_⟩
  have k0' := Int.emod_nonneg (cellZ ns 7) (show pe ≠ 0 by omega)
  have k1' := Int.emod_lt_of_pos (cellZ ns 7) (show 0 < pe by omega)
  dsimp only
  generalize cellZ ns 7 % pe = k at k0' k1' ⊢
  refine ⟨_, rfl, wa, ws, go, rfl, hW, by omega, by omega, g1, g4, hok, fun br bd H3 s3 hbr hbd hbr2 hbd2 => ?_⟩
  have hbl := best_len hok
  obtain ⟨gv, hgv, hgv2⟩ := atI_of (xs := (best ws go).2.map V.int) k0' (by rw [List.length_map, hbl]; omega)
  obtain ⟨g, hg, rfl⟩ := map_int_get hgv2
  refine ⟨br, _, 1, _, rfl, rfl, SqT.of hbr2, rfl, _, rfl, bd, _, k, _, rfl, rfl, SqL.of hbd2, hgv, ?_⟩
  refine ⟨_, rfl, wa, ws, go, rfl, hW.mono s3, by omega, by omega, g1, g4, hok, fun fo H4 s4 hfo hfo2 => ?_⟩
  have hpz : (paysZ ws go).length = ws.length := by unfold paysZ; rw [List.length_map, List.length_range]
  obtain ⟨pv', hpv, hpv2⟩ := atI_of (xs := (paysZ ws go).map V.int) k0' (by rw [List.length_map, hpz]; omega)
  obtain ⟨p, hpp, rfl⟩ := map_int_get hpv2
  have ep : p = payZ ws go k.toNat := by
    unfold paysZ at hpp
    rw [List.getElem?_map, List.getElem?_range (by omega)] at hpp
    exact (Option.some.inj hpp).symm
  refine ⟨_, rfl, fo, _, k, _, rfl, rfl, SqL.of hfo2, hpv, ?_⟩
  have hkw : k.toNat < ws.length := by omega
  have s24 := s3.trans s4
  have hW4 := hW.mono s24
  refine ⟨4, rfl, by decide, by decide, ?_⟩
  refine for_range (n := 4) (fun i σ H' => ∃ v7 v8 v9 v10 : Option V, σ = [some (.ref a), some (.int pe), some (.int go), some (.ref wa), some (.int k), some (.int g), some (.int p), v7, v8, v9, v10] ∧ Same H4 H') ⟨none, none, none, none, rfl, Same.refl _⟩ ?_ ?_
  · rintro i σ H5 hi ⟨v7, v8, v9, v10, rfl, s5⟩
    refine ⟨_, rfl, _, rfl, _, _, rfl, rfl, a, ns, _, rfl, (s12.trans (s24.trans s5)).seq hS, by omega, ?_⟩
    refine ⟨_, rfl, go, rfl, by omega, by omega, ?_⟩
    refine comp_range (fun j zs H' => ∃ row : List Int, zs = row.map V.int ∧ Same H5 H' ∧ row.length = j ∧ ∀ v ∈ row, 0 ≤ v ∧ v ≤ 1000) ⟨[], rfl, Same.refl _, rfl, (fun v hv => nomatch hv)⟩ (small (by omega)) (fun j zs H' _ ⟨row, e1, _, e3, _⟩ => by rw [e1, List.length_map, e3]; exact Nat.le_refl _) ?_ ?_
    · rintro j zs H6 hj ⟨row, e1, e2, e3, e4⟩
      refine ⟨⟨.inl rfl, .inr rfl, trivial⟩, ?_⟩
      refine ⟨_, rfl, _, rfl, _, _, _, rfl, by omega, by decide, fun u H7 e5 u0 u1 => ?_⟩
      refine ⟨row ++ [u], by rw [e1, List.map_append]; rfl, e2.trans e5, by rw [List.length_append, e3]; rfl, fun v hv => ?_⟩
      rcases List.mem_append.mp hv with hv | hv
      · exact e4 v hv
      · rw [List.mem_singleton.mp hv]
        omega
    rintro zs H6 ⟨ls, e1, e2, e3, e4⟩ la hla
    have s6 := e2.trans (same_new hla (.lst zs))
    have hL : IL (upd H6 la (.lst zs)) la ls := by show upd _ la _ la = _; rw [upd_same, e1]
    generalize upd H6 la (.lst zs) = H7 at s6 hL ⊢
    have s47 := s5.trans s6
    refine ⟨_, rfl, _, _, rfl, rfl, _, rfl, ?_⟩
    refine dec2 (fun c => ?_) (fun c => ?_)
    · refine ⟨_, rfl, _, _, rfl, rfl, _, rfl, ?_⟩
      refine dec2 (fun c2 => ?_) (fun c2 => ?_)
      · refine ⟨_, rfl, la, rfl, ⟨_, hL⟩, ?_⟩
        refine comp_enum (K := K) (a := la) (xs := ls.map V.int) (fun j zs H' => ∃ row : List Int, zs = row.map V.int ∧ Same H7 H' ∧ row.length = j ∧ ∀ v ∈ row, 0 ≤ v) ⟨[], rfl, Same.refl _, rfl, (fun v hv => nomatch hv)⟩ (by rw [List.length_map]; exact small (by omega)) (fun j zs H' _ ⟨row, e1, e2, e3, _⟩ => ⟨SqL.of (hL.mono e2), by rw [e1, List.length_map, e3]; exact Nat.le_refl _⟩) ?_ ?_
        · rintro j x zs H8 q' hx ⟨row, e1, e2, e3, e4'⟩ hq'
          obtain ⟨m, hm, rfl⟩ := map_int_get hx
          have hm2 := e4 m (List.mem_of_getElem? hm)
          have t1 : Same H8 (upd H8 q' (.tup [.int (j : Int), .int m])) := same_new hq' _
          refine ⟨q', _, rfl, SqT.of upd_same, rfl, _, _, rfl, _, _, rfl, rfl, ⟨.inl rfl, .inl rfl, .inr rfl, trivial⟩, ?_⟩
          refine ⟨_, rfl, _, rfl, _, rfl, rfl, .inr ⟨_, rfl, ?_⟩⟩
          refine ⟨_, _, rfl, rfl, .inl ⟨by omega, by omega⟩, _, rfl, _, _, rfl, rfl, ?_⟩
          refine ⟨row ++ [_], by rw [e1, List.map_append]; rfl, e2.trans t1, by rw [List.length_append, e3]; rfl, fun v hv => ?_⟩
          rcases List.mem_append.mp hv with hv | hv
          · exact e4' v hv
          · rw [List.mem_singleton.mp hv]
            split <;> omega
        · rintro zs2 H8 ⟨ls2, f1, f2, f3, f4⟩ lb hlb
          rw [List.length_map] at f3
          have s8 := f2.trans (same_new hlb (.lst zs2))
          have hLb : IL (upd H8 lb (.lst zs2)) lb ls2 := by show upd _ lb _ lb = _; rw [upd_same, f1]
          exact hI3 _ _ _ wa lb ws ws[k.toNat] ls2 go k g p _ _ _ _ _ rfl ((hW4.mono s47).mono s8) hok g1 g4 (by omega) k0' (by omega) hLb (by omega) f4 hg ep (List.getElem?_eq_getElem hkw) fun H9 v s9 => ⟨_, _, _, _, rfl, s47.trans (s8.trans s9)⟩
      · exact hI3 _ _ _ wa la ws ws[k.toNat] ls go k g p _ _ _ _ _ rfl (hW4.mono s47) hok g1 g4 (by omega) k0' (by omega) hL (by omega) (fun v hv => (e4 v hv).1) hg ep (List.getElem?_eq_getElem hkw) fun H9 v s9 => ⟨_, _, _, _, rfl, s47.trans s9⟩
    · exact hI3 _ _ _ wa la ws ws[k.toNat] ls go k g p _ _ _ _ _ rfl (hW4.mono s47) hok g1 g4 (by omega) k0' (by omega) hL (by omega) (fun v hv => (e4 v hv).1) hg ep (List.getElem?_eq_getElem hkw) fun H9 v s9 => ⟨_, _, _, _, rfl, s47.trans s9⟩
  · rintro σ H5 ⟨v7, v8, v9, v10, rfl, s5⟩
    exact q H5 (s12.trans (s24.trans s5))
end
section
variable {P : Program} {w : World} {K : PySem.W.Frag} {mg : Str → Option Value} {base : Heap}
theorem scPile : FnScope ["script", "pieces", "people", "worths", "person", "count", "pay", "k", "cell", "lie", "told"] ["script"] (defScope sPile) := ⟨rfl, rfl, rfl, by decide +kernel, rfl, by decide +kernel, by decide +kernel⟩
theorem rep_thousand (n : Nat) : (List.replicate n [V.int 1000]).flatten = (List.replicate n (1000 : Int)).map V.int := by
  induction n with
  | zero => rfl
  | succ n ih => rw [List.replicate_succ, List.flatten_cons, ih, List.replicate_succ, List.map_cons]; rfl
theorem ok_pile {nb nc : Nat} {f f0 f1 f2 f3 f6 f7 : Addr} {fd fd0 fd1 fd2 fd3 fd6 fd7 : FuncData} (F : Fun K "_law_pile" "_law_pile" sPile f fd) (G1 : FnOk P w K mg base CX0 2 f1 fd1 ["script", "most"] (spHeapSize K)) (b1 : Binds K fd1 ["script", "most"] []) (k1 : PySem.W.keepIn K (.ref f1) = true) (m1 : mg "_law_heap_size_by" = some (.ref f1))
    (G2 : FnOk P w K mg base CX0 2 f2 fd2 ["script", "start", "people"] (spHeap K)) (b2 : Binds K fd2 ["script", "start", "people"] []) (k2 : PySem.W.keepIn K (.ref f2) = true) (m2 : mg "_law_heap_by" = some (.ref f2))
    (G3 : FnOk P w K mg base CX0 1 f3 fd3 ["script", "k"] (spCell K)) (b3 : Binds K fd3 ["script", "k"] []) (k3 : PySem.W.keepIn K (.ref f3) = true) (m3 : mg "_law_cell_at" = some (.ref f3))
    (G6 : FnOk P w K mg base CX0 nb f6 fd6 ["pieces", "worths"] spPBest) (b6 : Binds K fd6 ["pieces", "worths"] []) (k6 : PySem.W.keepIn K (.ref f6) = true) (m6 : mg "pile_best" = some (.ref f6))
    (G7 : FnOk P w K mg base CX0 nc f7 fd7 ["pieces", "worths"] spPPays) (b7 : Binds K fd7 ["pieces", "worths"] []) (k7 : PySem.W.keepIn K (.ref f7) = true) (m7 : mg "pile_pays" = some (.ref f7))
    (G0 : FnOk P w K mg base CX0 1 f0 fd0 ["cell", "k", "many"] spMix) (b0 : Binds K fd0 ["cell", "k", "many"] []) (k0 : PySem.W.keepIn K (.ref f0) = true) (m0 : mg "_law_mix" = some (.ref f0)) (mr : mg "range" = none) (mS : mg "sorted" = none) (hnb : nb ≤ 11) (hnc : nc ≤ 11) : FnOk P w K mg base CX0 12 f fd ["script"] (spHalf K) := by
  refine F.ok scPile (fun vs H Q E h => ?_) (fun cdv A outer s H vs Q E hr h => ?_)
  · obtain ⟨_, _, rfl, _⟩ := h
    rfl
  obtain ⟨a, ns, rfl, hS, q⟩ := h
  have hr1 := hr.mono (j := 1) (by decide)
  have hr2 := hr.mono (j := 2) (by decide)
  have hrb := hr.mono (j := nb) hnb
  have hrc := hr.mono (j := nc) hnc
  refine ⟨_, pss_cons (ps_asg (pe_call G1 hr2 rfl m1 k1 b1 .nil pass0 (pa_cons (pv 0) (pa_cons pe_int pa_nil))) (pg_tup rfl (pgs_cons (pg_name (i := 1) scPile.nd rfl (Or.inl rfl)) (pgs_cons (pg_name (i := 2) scPile.nd rfl (Or.inl rfl)) pgs_nil))))
    (pss_cons (ps_set (i := 3) scPile.nd rfl (Or.inl rfl) (pe_call G2 hr2 rfl m2 k2 b2 .nil pass0 (pa_cons (pv 0) (pa_cons pe_int (pa_cons (pv 2) pa_nil)))))
    (pss_cons (ps_set (i := 4) scPile.nd rfl (Or.inl rfl) (pe_op op_mod (pe_call G3 hr1 rfl m3 k3 b3 .nil pass0 (pa_cons (pv 0) (pa_cons pe_int pa_nil))) (pv 2)))
    (pss_cons (ps_set (i := 5) scPile.nd rfl (Or.inl rfl) (pe_ix ix_list (pe_ix ix_tup (pe_call G6 hrb rfl m6 k6 b6 .nil pass0 (pa_cons (pv 1) (pa_cons (pv 3) pa_nil))) pe_int (fun _ _ => rfl)) (pv 4) (fun _ _ => rfl)))
    (pss_cons (ps_set (i := 6) scPile.nd rfl (Or.inl rfl) (pe_ix ix_list (pe_call G7 hrc rfl m7 k7 b7 .nil pass0 (pa_cons (pv 1) (pa_cons (pv 3) pa_nil))) (pv 4) (fun _ _ => rfl)))
    (pss_cons (ps_for PassesOwn.never rfl (pi_range1 rfl mr (pa_cons pe_int pa_nil)) (pg_name (i := 7) scPile.nd rfl (Or.inl rfl))
      (pss_cons (ps_set (i := 8) scPile.nd rfl (Or.inr rfl) (pe_call G3 hr1 rfl m3 k3 b3 .nil pass0 (pa_cons (pv 0) (pa_cons (pe_op op_add pe_int (pv 7)) pa_nil))))
      (pss_cons (ps_set (i := 9) scPile.nd rfl (Or.inl rfl) (pe_ix ix_list (pe_lst (pa_cons (pe_op op_rep (pe_lst (pa_cons pe_int pa_nil)) (pv 5)) (pa_cons (pe_rev (pe_callB call_sorted rfl mS boot_sorted (pa_cons (pe_comp (N := ["j", "cell"]) (cap := [none, some 8]) rfl (compOk_of (by rfl)) (pi_range1 rfl mr (pa_cons pe_int pa_nil)) (fun _ _ _ _ => pg_name (i := 0) (nd2 (by decide +kernel)) rfl (Or.inl rfl)) (fun _ _ _ _ => pts_nil)
          (fun _ _ _ _ => pe_call G0 hr1 rfl m0 k0 b0 .nil pass0 (pa_cons (pv 1) (pa_cons (pv 0) (pa_cons pe_int pa_nil))))) pa_nil)) (po_some (pe_un un_neg pe_int))) pa_nil))) (pe_op op_mod (pv 7) pe_int) (fun _ _ => rfl)))
      (pss_cons (ps_set (i := 10) scPile.nd rfl (Or.inl rfl) (pe_op op_cat (pe_op op_cat (pe_slice sl_list (pv 3) po_none (po_some (pv 4))) (pe_lst (pa_cons (pv 9) pa_nil))) (pe_slice sl_list (pv 3) (po_some (pe_op op_add (pv 4) pe_int)) po_none)))
      (pss_one (ps_if (PW.pt (pw_and (pt_cmpR op_eq (pe_ix ix_list (pe_ix ix_tup (pe_call G6 hrb rfl m6 k6 b6 .nil pass0 (pa_cons (pv 1) (pa_cons (pv 10) pa_nil))) pe_int (fun _ _ => rfl)) (pv 4) (fun _ _ => rfl)) (pv 5) (nomark _)) (pw_and1 (pt_cmpR op_ne (pe_ix ix_list (pe_call G7 hrc rfl m7 k7 b7 .nil pass0 (pa_cons (pv 1) (pa_cons (pv 10) pa_nil))) (pv 4) (fun _ _ => rfl)) (pv 6) (nomark _))))) (pss_one (ps_ret pe_bl)) pss_nil))))))
    (pss_one (ps_ret pe_bl))))))), ?_⟩
  refine ⟨_, rfl, a, ns, 5, rfl, hS, by decide, fun rs H1 pc pe s1 hrs p0 p12 g1 g5 => ?_⟩
  refine ⟨rs, _, rfl, SqT.of hrs, rfl, _, _, rfl, _, _, rfl, rfl, ?_⟩
  refine ⟨_, rfl, _, rfl, a, ns, _, _, rfl, s1.seq hS, by decide, by omega, by omega, fun wa H2 ws s2 hn hwl hok => ?_⟩
  have s12 := s1.trans s2
  have hS2 := s12.seq hS
  have hW := hn.ill
  refine ⟨_, rfl, a, ns, _, rfl, hS2, by decide, _, rfl, _, _, rfl, rfl, (by show (0 : Int) < pe; omega), ?_⟩
  have k0' := Int.emod_nonneg (cellZ ns 7) (show pe ≠ 0 by omega)
  have k1' := Int.emod_lt_of_pos (cellZ ns 7) (show 0 < pe by omega)
  dsimp only
  generalize cellZ ns 7 % pe = k at k0' k1' ⊢
  refine ⟨_, rfl, _, rfl, wa, ws, pc, rfl, hW, p0, p12, by omega, by omega, hok, fun br bd H3 s3 hbr hbd hbr2 hbd2 => ?_⟩
  have hbl := bestP_len p0 hok
  obtain ⟨gv, hgv, hgv2⟩ := atI_of (xs := (bestP pc ws).2.map V.int) k0' (by rw [List.length_map, hbl]; omega)
  obtain ⟨g, hg, rfl⟩ := map_int_get hgv2
  have hkw : k.toNat < ws.length := by omega
  have htr : ws[k.toNat]? = some ws[k.toNat] := List.getElem?_eq_getElem hkw
  have hgf := feas_get (bestP_spec p0 hok).feas htr hg
  have hr5 := (hok _ (List.getElem_mem hkw)).1
  refine ⟨br, _, 1, _, rfl, rfl, SqT.of hbr2, rfl, _, rfl, bd, _, k, _, rfl, rfl, SqL.of hbd2, hgv, ?_⟩
  refine ⟨_, rfl, _, rfl, wa, ws, pc, rfl, hW.mono s3, p0, p12, by omega, by omega, hok, fun fo H4 s4 hfo hfo2 => ?_⟩
  have hpz : (paysP pc ws).length = ws.length := by unfold paysP; rw [List.length_map, List.length_range]
  obtain ⟨pv', hpv, hpv2⟩ := atI_of (xs := (paysP pc ws).map V.int) k0' (by rw [List.length_map, hpz]; omega)
  obtain ⟨p, hpp, rfl⟩ := map_int_get hpv2
  have ep : p = payP pc ws k.toNat := by
    unfold paysP at hpp
    rw [List.getElem?_map, List.getElem?_range (by omega)] at hpp
    exact (Option.some.inj hpp).symm
  refine ⟨_, rfl, fo, _, k, _, rfl, rfl, SqL.of hfo2, hpv, ?_⟩
  have s24 := s3.trans s4
  have hW4 := hW.mono s24
  refine ⟨4, rfl, by decide, by decide, ?_⟩
  refine for_range (n := 4) (fun i σ H' => ∃ v7 v8 v9 v10 : Option V, σ = [some (.ref a), some (.int pc), some (.int pe), some (.ref wa), some (.int k), some (.int g), some (.int p), v7, v8, v9, v10] ∧ Same H4 H') ⟨none, none, none, none, rfl, Same.refl _⟩ ?_ ?_
  · rintro i σ H5 hi ⟨v7, v8, v9, v10, rfl, s5⟩
    refine ⟨_, rfl, _, rfl, _, _, rfl, rfl, a, ns, _, rfl, (s12.trans (s24.trans s5)).seq hS, by omega, ?_⟩
    -- the two lies
    refine ⟨(by show 1 ≤ sizeLine; decide), fun l0 hl0 => ?_⟩
    have t0 := same_new hl0 (.lst [.int 1000])
    refine ⟨_, rfl, l0, _, _, rfl, rfl, upd_same, by omega, by omega, (by show 1 * _ ≤ _; exact small (by omega)), fun l1 hl1 => ?_⟩
    rw [rep_thousand]
    have t1 := same_new hl1 (.lst ((List.replicate g.toNat (1000 : Int)).map V.int))
    have t01 := t0.trans t1
    have hL1 : IL (upd (upd H5 l0 (.lst [.int 1000])) l1 (.lst ((List.replicate g.toNat (1000 : Int)).map V.int))) l1 (List.replicate g.toNat 1000) := upd_same
    generalize upd (upd H5 l0 (.lst [.int 1000])) l1 (.lst ((List.replicate g.toNat (1000 : Int)).map V.int)) = H6 at t1 t01 hL1 ⊢
    refine ⟨5, rfl, by decide, by decide, ?_⟩
    refine comp_range (n := 5) (fun j zs H' => ∃ row : List Int, zs = row.map V.int ∧ Same H6 H' ∧ row.length = j ∧ ∀ v ∈ row, 0 ≤ v ∧ v ≤ 1000) ⟨[], rfl, Same.refl _, rfl, (fun v hv => nomatch hv)⟩ (small (by decide)) (fun j zs H' _ ⟨row, e1, _, e3, _⟩ => by rw [e1, List.length_map, e3]; exact Nat.le_refl _) ?_ ?_
    · rintro j zs H7 hj ⟨row, e1, e2, e3, e4⟩
      refine ⟨⟨.inl rfl, .inr rfl, trivial⟩, ?_⟩
      refine ⟨_, rfl, _, rfl, _, _, _, rfl, by omega, by decide, fun u H8 e5 u0 u1 => ?_⟩
      refine ⟨row ++ [u], by rw [e1, List.map_append]; rfl, e2.trans e5, by rw [List.length_append, e3]; rfl, fun v hv => ?_⟩
      rcases List.mem_append.mp hv with hv | hv
      · exact e4 v hv
      · rw [List.mem_singleton.mp hv]
        omega
    rintro zs H7 ⟨row, e1, e2, e3, e4⟩ r0 hr0
    have t5 := e2.trans (same_new hr0 (.lst zs))
    refine ⟨r0, row, rfl, SqL.of (by rw [upd_same, e1]), by omega, fun r1 ms' hr1' hperm hasc => ?_⟩
    have t6 := t5.trans (same_new hr1' (HO.lst (ms'.map V.int)))
    refine ⟨_, rfl, _, rfl, rfl, r1, _, rfl, SqL.of upd_same, fun l2 hl2 => ?_⟩
    rw [← List.map_reverse]
    have t7 := t6.trans (same_new hl2 (HO.lst (ms'.reverse.map V.int)))
    have hL2 : IL (upd (upd (upd H7 r0 (.lst zs)) r1 (.lst (ms'.map V.int))) l2 (.lst (ms'.reverse.map V.int))) l2 ms'.reverse := upd_same
    have hok2 : okR ms'.reverse := ⟨by rw [List.length_reverse, hperm.length_eq]; omega, fun v hv => e4 v (hperm.mem_iff.mp (List.mem_reverse.mp hv)), by rw [List.pairwise_reverse]; exact hasc⟩
    have hok1 : okR (List.replicate g.toNat 1000) := by
      refine ⟨by rw [List.length_replicate]; omega, fun v hv => by rw [List.eq_of_mem_replicate hv]; omega, ?_⟩
      rw [List.pairwise_replicate]
      exact .inr (Int.le_refl _)
    generalize upd (upd (upd H7 r0 (.lst zs)) r1 (.lst (ms'.map V.int))) l2 (.lst (ms'.reverse.map V.int)) = H8 at t7 hL2 ⊢
    refine ⟨(by show 2 ≤ sizeLine; decide), fun l3 hl3 => ?_⟩
    have t8 := same_new hl3 (.lst [.ref l1, .ref l2])
    have t58 := t01.trans (t7.trans t8)
    have hL1' := hL1.mono (t7.trans t8)
    have hL2' := hL2.mono t8
    have hl3' : upd H8 l3 (.lst [.ref l1, .ref l2]) l3 = some (.lst [.ref l1, .ref l2]) := upd_same
    generalize upd H8 l3 (.lst [.ref l1, .ref l2]) = H9 at t58 hL1' hL2' hl3' ⊢
    obtain ⟨la, lie, hat, hLa, hlok⟩ : ∃ la lie, atI [V.ref l1, V.ref l2] ((0 + (i : Int)) % 2) = some (.ref la) ∧ IL H9 la lie ∧ okR lie := by
      rcases (show (0 + (i : Int)) % 2 = 0 ∨ (0 + (i : Int)) % 2 = 1 by omega) with e | e
      · exact ⟨l1, _, by rw [e]; rfl, hL1', hok1⟩
      · exact ⟨l2, _, by rw [e]; rfl, hL2', hok2⟩
    refine ⟨_, rfl, _, _, rfl, rfl, (by show (0 : Int) < 2; decide), l3, _, _, .ref la, rfl, rfl, SqL.of hl3', hat, ?_⟩
    have s49 := s5.trans t58
    have hW9 := hW4.mono s49
    obtain ⟨as, hw, hp⟩ := id hW9
    have hpl := hp.length
    refine put_read (K := K) (i := 3) (j := 4) (xs := as.map V.ref) rfl rfl hw (by rw [List.length_map]; omega) k0' (by rw [List.length_map]; omega) fun Ha R sa kk => ?_
    refine ⟨_, rfl, kk _ _ (Same.refl _) fun to Hb sb hto hto2 => ?_⟩
    rw [set_map] at hto2
    have hTo : ILL Hb to (ws.set k.toNat lie) := ⟨_, hto2, pset (F := IL Hb) ((hLa.mono sa).mono sb) _ (pmono (sa.trans sb) hp)⟩
    have hokL : okH (ws.set k.toNat lie) := okH_set hok hlok _
    have hlt : (ws.set k.toNat lie).length = ws.length := List.length_set ..
    have s4b := s49.trans (sa.trans sb)
    refine ⟨_, rfl, _, rfl, to, _, pc, rfl, hTo, p0, p12, by omega, by omega, hokL, fun br' bd' Hc sc _ _ hbr2' hbd2' => ?_⟩
    have hbl' := bestP_len p0 hokL
    obtain ⟨gv', hgv', hgv2'⟩ := atI_of (xs := (bestP pc (ws.set k.toNat lie)).2.map V.int) k0' (by rw [List.length_map, hbl']; omega)
    obtain ⟨g', hg', rfl⟩ := map_int_get hgv2'
    refine ⟨br', _, 1, _, rfl, rfl, SqT.of hbr2', rfl, _, rfl, bd', _, k, _, rfl, rfl, SqL.of hbd2', hgv', _, rfl, rfl, _, rfl, ?_⟩
    refine dec2 (fun c => ?_) (fun c => ?_)
    · have eg : g' = g := by injection c
      subst eg
      refine ⟨_, rfl, _, rfl, to, _, pc, rfl, hTo.mono sc, p0, p12, by omega, by omega, hokL, fun fo' Hd sd _ hfo2' => ?_⟩
      have hpz' : (paysP pc (ws.set k.toNat lie)).length = ws.length := by unfold paysP; rw [List.length_map, List.length_range, hlt]
      obtain ⟨pw', hpw, hpw2⟩ := atI_of (xs := (paysP pc (ws.set k.toNat lie)).map V.int) k0' (by rw [List.length_map, hpz']; omega)
      obtain ⟨p', hpp', rfl⟩ := map_int_get hpw2
      have ep' : p' = payP pc (ws.set k.toNat lie) k.toNat := by
        unfold paysP at hpp'
        rw [List.getElem?_map, List.getElem?_range (by omega)] at hpp'
        exact (Option.some.inj hpp').symm
      refine ⟨_, rfl, fo', _, k, _, rfl, rfl, SqL.of hfo2', hpw, _, rfl, rfl, _, rfl, ?_⟩
      refine ndecF (by rw [ep', ep, payP_same p0 hok htr hokL hg hg']) ?_
      exact ⟨_, _, _, _, rfl, s4b.trans (sc.trans sd)⟩
    · exact ⟨_, _, _, _, rfl, s4b.trans sc⟩
  · rintro σ H5 ⟨v7, v8, v9, v10, rfl, s5⟩
    exact q H5 (s12.trans (s24.trans s5))
end
section
variable {P : Program} {w : World} {K : PySem.W.Frag} {mg : Str → Option Value} {base : Heap}
theorem scLaw : FnScope ["script", "places", "roads", "costs", "kind", "web", "gets", "road", "told", "again"] ["script"] (defScope sLaw) := ⟨rfl, rfl, rfl, by decide +kernel, rfl, by decide +kernel, by decide +kernel⟩
def spLaw (K : PySem.W.Frag) : Sp := fun vs H Q _ => ∃ (a : Addr) (ns : List Int), vs = [.ref a] ∧ SqL K H a (ns.map V.int) ∧ ns.length ≤ 63 ∧ ∀ H', Q (.bl true) H'
theorem ok_law {nb nw : Nat} {cand : Cand} {f f1 f2 f3 f4 f5 f6 f8 f10 f11 CW CB CC CN fI : Addr} {fd fd1 fd2 fd3 fd4 fd5 fd6 fd8 fd10 fd11 fdI : FuncData} (F : Fun K "law" "law" sLaw f fd) (G1 : FnOk P w K mg base CX0 2 f1 fd1 ["script", "most"] (spWebBy K)) (b1 : Binds K fd1 ["script", "most"] []) (k1 : PySem.W.keepIn K (.ref f1) = true) (m1 : mg "_law_web_by" = some (.ref f1))
    (G2 : FnOk P w K mg base CX0 2 f2 fd2 ["script", "many"] (spCostsBy K)) (b2 : Binds K fd2 ["script", "many"] []) (k2 : PySem.W.keepIn K (.ref f2) = true) (m2 : mg "_law_costs_by" = some (.ref f2))
    (G3 : FnOk P w K mg base CX0 1 f3 fd3 ["script", "k"] (spCell K)) (b3 : Binds K fd3 ["script", "k"] []) (k3 : PySem.W.keepIn K (.ref f3) = true) (m3 : mg "_law_cell_at" = some (.ref f3))
    (G4 : FnOk P w K mg base CX0 2 f4 fd4 ["script"] (spKindBy K)) (b4 : Binds K fd4 ["script"] []) (k4 : PySem.W.keepIn K (.ref f4) = true) (m4 : mg "_law_kind_by" = some (.ref f4))
    (G5 : FnOk P w K mg base CX0 12 f5 fd5 ["web", "kind", "costs"] (spGetsN CW cand)) (b5 : Binds K fd5 ["web", "kind", "costs"] []) (k5 : PySem.W.keepIn K (.ref f5) = true) (m5 : mg "_law_gets" = some (.ref f5))
    (G6 : FnOk P w K mg base CX0 1 f6 fd6 ["cell", "k", "many"] spMix) (b6 : Binds K fd6 ["cell", "k", "many"] []) (k6 : PySem.W.keepIn K (.ref f6) = true) (m6 : mg "_law_mix" = some (.ref f6))
    (G8 : FnOk P w K mg base (CXX P w) nb f8 fd8 ["web", "kind", "costs"] (spRBest CW CC CN cand)) (b8 : Binds K fd8 ["web", "kind", "costs"] []) (k8 : PySem.W.keepIn K (.ref f8) = true) (m8 : mg "road_best" = some (.ref f8))
    (G10 : FnOk P w K mg base CX0 6 f10 fd10 ["script"] (spHalf K)) (b10 : Binds K fd10 ["script"] []) (k10 : PySem.W.keepIn K (.ref f10) = true) (m10 : mg "_law_shelf" = some (.ref f10))
    (G11 : FnOk P w K mg base CX0 12 f11 fd11 ["script"] (spHalf K)) (b11 : Binds K fd11 ["script"] []) (k11 : PySem.W.keepIn K (.ref f11) = true) (m11 : mg "_law_pile" = some (.ref f11))
    (WK : WebK K CW fI) (GI : FnOk P w K mg base (CXX P w) nw fI fdI ["self", "places", "roads"] (spWInit CW CB)) (bI : Binds K fdI ["self", "places", "roads"] []) (mW : mg "Web" = some (.ref CW)) (hco : CandOk cand) (hnw : nw ≤ 11) (hnb : nb ≤ 12) (ml : mg "len" = none) (mL : mg "list" = none) (mn : mg "min" = none) : FnOk P w K mg base CX0 13 f fd ["script"] (spLaw K) := by
  refine F.ok scLaw (fun vs H Q E h => ?_) (fun cdv A outer s H vs Q E hr h => ?_)
  · obtain ⟨_, _, rfl, _⟩ := h
    rfl
  obtain ⟨a, ns, rfl, hS, _, q⟩ := h
  have hr1 := hr.mono (j := 1) (by decide)
  have hr2 := hr.mono (j := 2) (by decide)
  have hr6 := hr.mono (j := 6) (by decide)
  have hrw := hr.mono (j := nw + 1) (by omega)
  have hrb := hr.mono (j := nb) hnb
  refine ⟨_, pss_cons (ps_if (PW.pt (pw_or (pt_not (pt_val (pe_call G10 hr6 rfl m10 k10 b10 .nil pass0 (pa_cons (pv 0) pa_nil)))) (pw_or1 (pt_not (pt_val (pe_call G11 hr rfl m11 k11 b11 .nil pass0 (pa_cons (pv 0) pa_nil))))))) (pss_one (ps_ret pe_bl)) pss_nil)
    (pss_cons (ps_asg (pe_call G1 hr2 rfl m1 k1 b1 .nil pass0 (pa_cons (pv 0) (pa_cons pe_int pa_nil))) (pg_tup rfl (pgs_cons (pg_name (i := 1) scLaw.nd rfl (Or.inl rfl)) (pgs_cons (pg_name (i := 2) scLaw.nd rfl (Or.inl rfl)) pgs_nil))))
    (pss_cons (ps_set (i := 3) scLaw.nd rfl (Or.inl rfl) (pe_call G2 hr2 rfl m2 k2 b2 .nil pass0 (pa_cons (pv 0) (pa_cons (pe_callB call_len_seq rfl ml PySem.boot_len (pa_cons (pv 2) pa_nil)) pa_nil))))
    (pss_cons (ps_set (i := 4) scLaw.nd rfl (Or.inl rfl) (pe_call G4 hr2 rfl m4 k4 b4 .nil pass0 (pa_cons (pv 0) pa_nil)))
    (pss_cons (ps_set (i := 5) scLaw.nd rfl (Or.inl rfl) (pe_makeX WK.made GI hrw rfl mW bI takes_never (pa_cons (pv 1) (pa_cons (pe_callTy call_list_of rfl mL PyProof.Rows.boot_list (pa_cons (pv 2) pa_nil)) pa_nil))))
    (pss_cons (ps_set (i := 6) scLaw.nd rfl (Or.inl rfl) (pe_call G5 hr rfl m5 k5 b5 .nil pass0 (pa_cons (pv 5) (pa_cons (pv 4) (pa_cons (pv 3) pa_nil)))))
    (pss_cons (ps_if (pt_cmpR op_isN (pv 6) pe_non (nomark _)) (pss_one (ps_ret pe_bl)) pss_nil)
    (pss_cons (ps_for PassesOwn.never rfl (pi_list (pe_ix ix_tup (pe_callX G8 hrb rfl m8 k8 b8 .nil takes_never (pa_cons (pv 5) (pa_cons (pv 4) (pa_cons (pv 3) pa_nil)))) pe_int (fun _ _ => rfl))) (pg_name (i := 7) scLaw.nd rfl (Or.inl rfl))
      (pss_cons (ps_set (i := 8) scLaw.nd rfl (Or.inl rfl) (pe_op op_cat (pe_op op_cat (pe_slice sl_list (pv 3) po_none (po_some (pv 7))) (pe_lst (pa_cons (pe_call G6 hr1 rfl m6 k6 b6 .nil pass0 (pa_cons (pe_call G3 hr1 rfl m3 k3 b3 .nil pass0 (pa_cons (pv 0) (pa_cons pe_int pa_nil))) (pa_cons (pv 7) (pa_cons (pe_op op_add (pe_ix ix_list (pv 3) (pv 7) (fun _ _ => rfl)) pe_int) pa_nil)))) pa_nil))) (pe_slice sl_list (pv 3) (po_some (pe_op op_add (pv 7) pe_int)) po_none)))
      (pss_cons (ps_asg (pe_callB (call_min2 rfl) rfl mn boot_min (pa_cons pe_int (pa_cons (pe_ix ix_list (pv 8) (pv 7) (fun _ _ => rfl)) pa_nil))) (pg_sub (pv 8) (pv 7) set_list))
      (pss_cons (ps_set (i := 9) scLaw.nd rfl (Or.inl rfl) (pe_call G5 hr rfl m5 k5 b5 .nil pass0 (pa_cons (pv 5) (pa_cons (pv 4) (pa_cons (pv 8) pa_nil)))))
      (pss_one (ps_if (PW.pt (pw_and (pt_cmpR op_notN (pv 9) pe_non (nomark _)) (pw_and (pt_cmpR op_in_seq (pv 7) (pe_ix ix_tup (pe_callX G8 hrb rfl m8 k8 b8 .nil takes_never (pa_cons (pv 5) (pa_cons (pv 4) (pa_cons (pv 8) pa_nil)))) pe_int (fun _ _ => rfl)) (by rfl)) (pw_and1 (pt_cmpR op_ne (pe_ix ix_list (pv 9) (pv 7) (fun _ _ => rfl)) (pe_ix ix_list (pv 6) (pv 7) (fun _ _ => rfl)) (nomark _)))))) (pss_one (ps_ret pe_bl)) pss_nil))))))
    (pss_one (ps_ret pe_bl))))))))), ?_⟩
  refine ⟨_, rfl, a, ns, rfl, hS, fun Hx sx => ⟨_, rfl, iteF ?_⟩⟩
  refine ⟨_, rfl, a, ns, rfl, sx.seq hS, fun Hy sy => ⟨_, rfl, iteF ?_⟩⟩
  have hSy := (sx.trans sy).seq hS
  refine ⟨_, rfl, a, ns, 9, rfl, hSy, by decide, by decide, fun rs ra H1 places rds s1 hra0 hrs hR p2 p6 l1 l10 hok => ?_⟩
  refine ⟨rs, _, rfl, SqT.of hrs, rfl, _, _, rfl, _, _, rfl, rfl, ?_⟩
  obtain ⟨as, hra, hp⟩ := id hR
  have hpl := hp.length
  have wok : webOk places rds := ⟨⟨p2, p6⟩, ⟨l1, by omega⟩, hok⟩
  refine ⟨_, rfl, _, rfl, ra, _, rfl, .inl (SqL.of hra), a, ns, _, rfl, s1.seq hSy, by omega, by rw [List.length_map]; omega, fun ca H2 cs s2 hca hC hcl hcv => ?_⟩
  rw [List.length_map, hpl] at hcl
  have hcn : cs.length = rds.length := by omega
  have cok : costOk rds.length cs := ⟨hcn, hcv⟩
  have s12 := s1.trans s2
  refine ⟨_, rfl, a, ns, rfl, s12.seq hSy, fun b H3 s3 => ?_⟩
  have hra3 := (s2.trans s3) _ _ hra
  refine ⟨_, rfl, _, rfl, ra, _, rfl, .inl (SqL.of hra3), fun rl hrl => ?_⟩
  have s4 := same_new hrl (.lst (as.map V.ref))
  have hRl : RdL (upd H3 rl (.lst (as.map V.ref))) rl rds := ⟨as, upd_same, rmono (s2.trans (s3.trans s4)) hp⟩
  intro wb wdx hwb hwdx hwne
  refine web_read (CW := CW) (CB := CB) hwb hwdx hwne hRl (by omega) (fun _ H5 s5 hW5' => ⟨rfl, ?_⟩) (fun no => absurd wok no)
  have hW5 := hW5'.at
  have s25 := s3.trans (s4.trans s5)
  have hC5 : IL H5 ca cs := hC.mono s25
  have hS5 := (s12.trans s25).seq hSy
  refine ⟨_, rfl, _, rfl, _, rfl, wb, ca, places, rds, b, cs, rfl, hW5, wok, hC5, cok, fun m d gs hL hG ga H6 s6 hga hGs => ?_, fun H6 s6 => ?_⟩
  case refine_2 =>
    refine ⟨_, rfl, rfl, _, rfl, ?_⟩
    exact decT rfl (q _)
  refine ⟨_, rfl, rfl, _, rfl, ?_⟩
  refine decF (fun z => nomatch z) ?_
  refine ⟨_, rfl, _, rfl, _, rfl, wb, ca, places, rds, b, cs, rfl, hW5.mono s6, wok, hC5.mono s6, by omega, fun _ m2 d2 hL2 r2 da H7 s7 hr2 hda hr22 hda2 => ?_, fun _ no => (hL.clash no).elim, fun no => absurd cok no⟩
  have e2 := LeastR.uniq hL hL2
  cases e2
  have hrows := hco places rds b wok
  refine ⟨r2, _, 1, _, rfl, rfl, SqT.of hr22, rfl, da, rfl, ⟨_, SqL.of hda2⟩, ?_⟩
  have s67 := s6.trans s7
  refine for_list (K := K) (a := da) (xs := d.map V.int) (fun i σ H' => ∃ v7 v8 v9 : Option V, σ = [some (.ref a), some (.int places), some (.ref ra), some (.ref ca), some (.str (kindS b)), some (.ref wb), some (.ref ga), v7, v8, v9] ∧ Same H7 H') ⟨none, none, none, rfl, Same.refl _⟩ (fun i σ H' _ ⟨_, _, _, _, z⟩ => SqL.of (hda2.mono z)) ?_ ?_
  · rintro i x σ H8 hx ⟨v7, v8, v9, rfl, s8⟩
    obtain ⟨k, hk, rfl⟩ := map_int_get hx
    have hkd : k ∈ d := List.mem_of_getElem? hk
    have hkr := (hrows d hL.1).1 k hkd
    have s58 := s67.trans s8
    have hC8 := hC5.mono s58
    obtain ⟨cv, hcv1, hcv2⟩ := atI_of (xs := cs.map V.int) hkr.1 (by rw [List.length_map]; omega)
    obtain ⟨c, hc, rfl⟩ := map_int_get hcv2
    have hc2 := hcv c (List.mem_of_getElem? hc)
    refine put_read (K := K) (i := 3) (j := 7) (xs := cs.map V.int) rfl rfl hC8 (by rw [List.length_map]; omega) hkr.1 (by rw [List.length_map]; omega) fun H9 R s9 kk => ?_
    refine ⟨_, rfl, a, ns, _, rfl, (s58.trans s9).seq hS5, by decide, _, rfl, _, rfl, _, rfl, ca, _, k, _, rfl, rfl, SqL.of (hC8.mono s9), hcv1, _, _, rfl, rfl, _, _, _, rfl, hkr.1, by omega, fun u Ha sa u0 u1 => ?_⟩
    refine kk _ _ sa fun to Hb sb hto hto2 => ?_
    rw [set_map] at hto2
    have s8b := s9.trans (sa.trans sb)
    have hkl : k.toNat < cs.length := by omega
    have hat : atI ((cs.set k.toNat u).map V.int) k = some (.int u) := by
      obtain ⟨v, hv, hv2⟩ := atI_of (xs := (cs.set k.toNat u).map V.int) hkr.1 (by rw [List.length_map, List.length_set]; omega)
      rw [List.getElem?_map, List.getElem?_set_self hkl] at hv2
      rw [hv]
      exact hv2.symm
    refine ⟨_, rfl, _, rfl, to, _, k, _, rfl, rfl, SqL.of hto2, hat, _, _, rfl, ?_⟩
    obtain ⟨x, hx'⟩ : ∃ x, x = (if u < 1000 then u else 1000) := ⟨_, rfl⟩
    have hx2 : 0 ≤ x ∧ x ≤ 1000 := by rw [hx']; split <;> omega
    rw [← hx']
    refine ⟨_, rfl, _, rfl, to, (cs.set k.toNat u).map V.int, k, k.toNat, rfl, rfl, hto2, (by unfold ixN; rw [if_pos hkr.1, if_pos (by rw [List.length_map, List.length_set]; omega)]), ?_⟩
    have hto0 : H7 to = none := (s8.trans (s9.trans sa)).free hto
    have hC8b := hC8.mono s8b
    have hWb := (hW5.mono s58).mono s8b
    have hGb := ((hGs.mono s7).mono s8).mono s8b
    have sc : Same H7 (upd Hb to (.lst (((cs.set k.toNat u).map V.int).set k.toNat (.int x)))) := same_upd (s8.trans s8b) hto0 _
    have hTo : IL (upd Hb to (.lst (((cs.set k.toNat u).map V.int).set k.toNat (.int x)))) to (cs.set k.toNat x) := by
      show upd _ to _ to = _
      rw [upd_same, set_map, List.set_set]
    generalize upd Hb to (.lst (((cs.set k.toNat u).map V.int).set k.toNat (.int x))) = Hc at sc hTo ⊢
    have cok' : costOk rds.length (cs.set k.toNat x) := ⟨by rw [List.length_set]; exact hcn, fun y hy => by
      rcases List.mem_or_eq_of_mem_set hy with z | z
      · exact hcv y z
      · rw [z]; exact hx2⟩
    have hln : (cs.set k.toNat x).length ≤ 100 := by rw [List.length_set]; omega
    have hWc := (hW5.mono s67).mono sc
    refine ⟨_, rfl, _, rfl, _, rfl, wb, to, places, rds, b, cs.set k.toNat x, rfl, hWc, wok, hTo, cok', fun m' d' gs' hL' hG' ga' Hd sd hga' hGs' => ?_, fun Hd sd => ?_⟩
    case refine_2 =>
      refine ⟨_, rfl, rfl, _, rfl, ?_⟩
      exact ndecF rfl ⟨_, _, _, rfl, sc.trans sd⟩
    refine ⟨_, rfl, rfl, _, rfl, ?_⟩
    refine ndecT (fun z => nomatch z) ?_
    refine ⟨_, rfl, _, rfl, _, rfl, _, rfl, wb, to, places, rds, b, _, rfl, hWc.mono sd, wok, hTo.mono sd, hln, fun _ m3 d3 hL3 r3 db He se hr3 hdb hr33 hdb2 => ?_, fun _ no => (hL'.clash no).elim, fun no => absurd cok' no⟩
    have e3 := LeastR.uniq hL' hL3
    cases e3
    refine ⟨r3, _, 1, _, rfl, rfl, SqT.of hr33, rfl, db, _, rfl, .inl (SqL.of hdb2), rfl, flat_ints _, _, rfl, ?_⟩
    rw [if_neg (by decide), inV_int]
    have sAll := sc.trans (sd.trans se)
    refine dec2 (fun cc => ?_) (fun cc => ?_)
    · obtain ⟨gv, hgv, hgv2⟩ := atI_of (xs := gs.map V.int) hkr.1 (by rw [List.length_map, gets_len hG]; omega)
      obtain ⟨g, hg, rfl⟩ := map_int_get hgv2
      obtain ⟨gv', hgv', hgv2'⟩ := atI_of (xs := gs'.map V.int) hkr.1 (by rw [List.length_map, gets_len hG']; omega)
      obtain ⟨g', hg', rfl⟩ := map_int_get hgv2'
      obtain ⟨o, e, q1, q2⟩ := gets_at hG hc hg hkd
      obtain ⟨o', e', q3, q4⟩ := gets_at (c := x) hG' (by rw [List.getElem?_set_self hkl]) hg' cc
      have eq := gets_same hrows hkr.1 hc hL hL' hkd cc q1 q3
      refine ⟨_, rfl, _, rfl, ga', _, k, _, rfl, rfl, SqL.of (hGs'.mono se), hgv', _, rfl, _, rfl, ga, _, k, _, rfl, rfl, SqL.of ((hGs.mono s7).mono sAll), hgv, rfl, _, rfl, ?_⟩
      exact ndecF (by rw [q2, q4, eq]) ⟨_, _, _, rfl, sAll⟩
    · exact ⟨_, _, _, rfl, sAll⟩
  · rintro σ H8 ⟨v7, v8, v9, rfl, s8⟩
    exact q _
end
theorem kit_all {K : PySem.W.Frag} : Kit K := ⟨by rfl, by kernel_rfl, by rfl, by rfl⟩
theorem all_mk {l : PySem.W.OpenLaw} {w : World} {K : PySem.W.Frag} {h : Heap} {mg : Str → Option Value} {fa f1 f2 f3 f4 f5 f6 f7 f8 f9 f10 f11 f12 f13 f14 f15 f16 f17 f18 f19 f20 f21 f22 f23 f24 f25 f26 f27 f28 f29 f30 f31 f32 f33 f34 f35 f36 f37 f38 f39 f40 f41 f42 f43 f44 f45 f46 f47 f48 f49 f50 : Addr} (X : K.In h) (G : h.Ns mainGlobals mg) (hfa : mg "law" = some (.ref fa))
    {od1 an1 od2 an2 od3 an3 od4 an4 od5 an5 od6 an6 od7 an7 od8 an8 od9 an9 od10 an10 od11 an11 od12 an12 od13 an13 od14 an14 od15 an15 od16 an16 od17 an17 od18 an18 od19 an19 od20 an20 od21 an21 od22 an22 od23 an23 od24 an24 od25 an25 od26 an26 od27 an27 od28 an28 od29 an29 od30 an30 od31 an31 od32 an32 od33 an33 od34 an34 od35 an35 od36 an36 od37 an37 od38 an38 od39 an39 od40 an40 od41 an41 od42 an42 od43 an43 od44 an44 od45 an45 od46 an46 od47 an47 od48 an48 od49 an49 od50 an50 : Option Addr} {sl1 sl2 sl3 sl4 sl5 sl6 sl7 sl8 sl9 sl10 sl11 sl12 sl13 sl14 sl15 sl16 sl17 sl18 sl19 sl20 sl21 sl22 sl23 sl24 sl25 sl26 sl27 sl28 sl29 sl30 sl31 sl32 sl33 sl34 sl35 sl36 sl37 sl38 sl39 sl40 sl41 sl42 sl43 sl44 sl45 sl46 sl47 sl48 sl49 sl50 : Array (Option Value)} {oc1 kV1 dc1 pm1 cd1 ct1 oc2 kV2 dc2 pm2 cd2 ct2 oc3 kV3 dc3 pm3 cd3 ct3 oc4 kV4 dc4 pm4 cd4 ct4 oc5 kV5 dc5 pm5 cd5 ct5 oc6 kV6 dc6 pm6 cd6 ct6 oc7 kV7 dc7 pm7 cd7 ct7 oc8 kV8 dc8 pm8 cd8 ct8 oc9 kV9 dc9 pm9 cd9 ct9 oc10 kV10 dc10 pm10 cd10 ct10 oc11 kV11 dc11 pm11 cd11 ct11 oc12 kV12 dc12 pm12 cd12 ct12 oc13 kV13 dc13 pm13 cd13 ct13 oc14 kV14 dc14 pm14 cd14 ct14 oc15 kV15 dc15 pm15 cd15 ct15 oc16 kV16 dc16 pm16 cd16 ct16 oc17 kV17 dc17 pm17 cd17 ct17 oc18 kV18 dc18 pm18 cd18 ct18 oc19 kV19 dc19 pm19 cd19 ct19 oc20 kV20 dc20 pm20 cd20 ct20 oc21 kV21 dc21 pm21 cd21 ct21 oc22 kV22 dc22 pm22 cd22 ct22 oc23 kV23 dc23 pm23 cd23 ct23 oc24 kV24 dc24 pm24 cd24 ct24 oc25 kV25 dc25 pm25 cd25 ct25 oc26 kV26 dc26 pm26 cd26 ct26 oc27 kV27 dc27 pm27 cd27 ct27 oc28 kV28 dc28 pm28 cd28 ct28 oc29 kV29 dc29 pm29 cd29 ct29 oc30 kV30 dc30 pm30 cd30 ct30 oc31 kV31 dc31 pm31 cd31 ct31 oc32 kV32 dc32 pm32 cd32 ct32 oc33 kV33 dc33 pm33 cd33 ct33 oc34 kV34 dc34 pm34 cd34 ct34 oc35 kV35 dc35 pm35 cd35 ct35 oc36 kV36 dc36 pm36 cd36 ct36 oc37 kV37 dc37 pm37 cd37 ct37 oc38 kV38 dc38 pm38 cd38 ct38 oc39 kV39 dc39 pm39 cd39 ct39 oc40 kV40 dc40 pm40 cd40 ct40 oc41 kV41 dc41 pm41 cd41 ct41 oc42 kV42 dc42 pm42 cd42 ct42 oc43 kV43 dc43 pm43 cd43 ct43 oc44 kV44 dc44 pm44 cd44 ct44 oc45 kV45 dc45 pm45 cd45 ct45 oc46 kV46 dc46 pm46 cd46 ct46 oc47 kV47 dc47 pm47 cd47 ct47 oc48 kV48 dc48 pm48 cd48 ct48 oc49 kV49 dc49 pm49 cd49 ct49 oc50 kV50 dc50 pm50 cd50 ct50 : Value}
    {tk_cP tk_cG tk_cT tk_dP tk_dW tk_dN tk_eL tk_eM tk_eR : Tok}
    (a1 : PySem.W.nsIn K mainGlobals "within_bounds" = some (some (.ref f1))) (l1 : K.lookup f1 = some ⟨oc1, od1, .func (PySem.W.fnOf "within_bounds" "within_bounds" (defArgs sWithin) (defBody sWithin) (defScope sWithin) .none kV1 dc1 pm1 an1 cd1 ct1), sl1⟩) (c1 : PySem.W.codeIn K cd1 "within_bounds" = true) (k1 : PySem.W.keepIn K (.ref f1) = true)
    (a2 : PySem.W.nsIn K mainGlobals "without" = some (some (.ref f2))) (l2 : K.lookup f2 = some ⟨oc2, od2, .func (PySem.W.fnOf "without" "without" (defArgs sWithout) (defBody sWithout) (defScope sWithout) .none kV2 dc2 pm2 an2 cd2 ct2), sl2⟩) (c2 : PySem.W.codeIn K cd2 "without" = true) (k2 : PySem.W.keepIn K (.ref f2) = true)
    (a3 : PySem.W.nsIn K mainGlobals "good_worth" = some (some (.ref f3))) (l3 : K.lookup f3 = some ⟨oc3, od3, .func (PySem.W.fnOf "good_worth" "good_worth" (defArgs sGood) (defBody sGood) (defScope sGood) .none kV3 dc3 pm3 an3 cd3 ct3), sl3⟩) (c3 : PySem.W.codeIn K cd3 "good_worth" = true) (k3 : PySem.W.keepIn K (.ref f3) = true)
    (a4 : PySem.W.nsIn K mainGlobals "dealing_worth_shelf" = some (some (.ref f4))) (l4 : K.lookup f4 = some ⟨oc4, od4, .func (PySem.W.fnOf "dealing_worth" "dealing_worth" (defArgs sDealW) (defBody sDealW) (defScope sDealW) .none kV4 dc4 pm4 an4 cd4 ct4), sl4⟩) (c4 : PySem.W.codeIn K cd4 "dealing_worth" = true) (k4 : PySem.W.keepIn K (.ref f4) = true)
    (a5 : PySem.W.nsIn K mainGlobals "dealings_with_one_more" = some (some (.ref f5))) (l5 : K.lookup f5 = some ⟨oc5, od5, .func (PySem.W.fnOf "dealings_with_one_more" "dealings_with_one_more" (defArgs sMore) (defBody sMore) (defScope sMore) .none kV5 dc5 pm5 an5 cd5 ct5), sl5⟩) (c5 : PySem.W.codeIn K cd5 "dealings_with_one_more" = true) (k5 : PySem.W.keepIn K (.ref f5) = true)
    (a6 : PySem.W.nsIn K mainGlobals "all_dealings" = some (some (.ref f6))) (l6 : K.lookup f6 = some ⟨oc6, od6, .func (PySem.W.fnOf "all_dealings" "all_dealings" (defArgs sAll) (defBody sAll) (defScope sAll) .none kV6 dc6 pm6 an6 cd6 ct6), sl6⟩) (c6 : PySem.W.codeIn K cd6 "all_dealings" = true) (k6 : PySem.W.keepIn K (.ref f6) = true)
    (a7 : PySem.W.nsIn K mainGlobals "first_best_shelf" = some (some (.ref f7))) (l7 : K.lookup f7 = some ⟨oc7, od7, .func (PySem.W.fnOf "first_best" "first_best" (defArgs sFirst) (defBody sFirst) (defScope sFirst) .none kV7 dc7 pm7 an7 cd7 ct7), sl7⟩) (c7 : PySem.W.codeIn K cd7 "first_best" = true) (k7 : PySem.W.keepIn K (.ref f7) = true)
    (a8 : PySem.W.nsIn K mainGlobals "check_row_shelf" = some (some (.ref f8))) (l8 : K.lookup f8 = some ⟨oc8, od8, .func (PySem.W.fnOf "check_row" "check_row" (defArgs sRow) (defBody sRow) (defScope sRow) .none kV8 dc8 pm8 an8 cd8 ct8), sl8⟩) (c8 : PySem.W.codeIn K cd8 "check_row" = true) (k8 : PySem.W.keepIn K (.ref f8) = true)
    (a9 : PySem.W.nsIn K mainGlobals "check_worths_shelf" = some (some (.ref f9))) (l9 : K.lookup f9 = some ⟨oc9, od9, .func (PySem.W.fnOf "check_worths" "check_worths" (defArgs sCheck) (defBody sCheck) (defScope sCheck) .none kV9 dc9 pm9 an9 cd9 ct9), sl9⟩) (c9 : PySem.W.codeIn K cd9 "check_worths" = true) (k9 : PySem.W.keepIn K (.ref f9) = true)
    (a10 : PySem.W.nsIn K mainGlobals "shelf_best" = some (some (.ref f10))) (l10 : K.lookup f10 = some ⟨oc10, od10, .func (PySem.W.fnOf "shelf_best" "shelf_best" (defArgs sBest) (defBody sBest) (defScope sBest) .none kV10 dc10 pm10 an10 cd10 ct10), sl10⟩) (c10 : PySem.W.codeIn K cd10 "shelf_best" = true) (k10 : PySem.W.keepIn K (.ref f10) = true)
    (a11 : PySem.W.nsIn K mainGlobals "loss_of_others_shelf" = some (some (.ref f11))) (l11 : K.lookup f11 = some ⟨oc11, od11, .func (PySem.W.fnOf "loss_of_others" "loss_of_others" (defArgs sLoss) (defBody sLoss) (defScope sLoss) .none kV11 dc11 pm11 an11 cd11 ct11), sl11⟩) (c11 : PySem.W.codeIn K cd11 "loss_of_others" = true) (k11 : PySem.W.keepIn K (.ref f11) = true)
    (a12 : PySem.W.nsIn K mainGlobals "shelf_pays" = some (some (.ref f12))) (l12 : K.lookup f12 = some ⟨oc12, od12, .func (PySem.W.fnOf "shelf_pays" "shelf_pays" (defArgs sPays) (defBody sPays) (defScope sPays) .none kV12 dc12 pm12 an12 cd12 ct12), sl12⟩) (c12 : PySem.W.codeIn K cd12 "shelf_pays" = true) (k12 : PySem.W.keepIn K (.ref f12) = true)
    (a13 : PySem.W.nsIn K mainGlobals "check_row_pile" = some (some (.ref f13))) (l13 : K.lookup f13 = some ⟨oc13, od13, .func (PySem.W.fnOf "check_row" "check_row" (defArgs tRow) (defBody tRow) (defScope tRow) .none kV13 dc13 pm13 an13 cd13 ct13), sl13⟩) (c13 : PySem.W.codeIn K cd13 "check_row" = true) (k13 : PySem.W.keepIn K (.ref f13) = true)
    (a14 : PySem.W.nsIn K mainGlobals "check_worths_pile" = some (some (.ref f14))) (l14 : K.lookup f14 = some ⟨oc14, od14, .func (PySem.W.fnOf "check_worths" "check_worths" (defArgs tCheck) (defBody tCheck) (defScope tCheck) .none kV14 dc14 pm14 an14 cd14 ct14), sl14⟩) (c14 : PySem.W.codeIn K cd14 "check_worths" = true) (k14 : PySem.W.keepIn K (.ref f14) = true)
    (a15 : PySem.W.nsIn K mainGlobals "check_pieces" = some (some (.ref f15))) (l15 : K.lookup f15 = some ⟨oc15, od15, .func (PySem.W.fnOf "check_pieces" "check_pieces" (defArgs tPieces) (defBody tPieces) (defScope tPieces) .none kV15 dc15 pm15 an15 cd15 ct15), sl15⟩) (c15 : PySem.W.codeIn K cd15 "check_pieces" = true) (k15 : PySem.W.keepIn K (.ref f15) = true)
    (a16 : PySem.W.nsIn K mainGlobals "first_best_pile" = some (some (.ref f16))) (l16 : K.lookup f16 = some ⟨oc16, od16, .func (PySem.W.fnOf "first_best" "first_best" (defArgs tFirst) (defBody tFirst) (defScope tFirst) .none kV16 dc16 pm16 an16 cd16 ct16), sl16⟩) (c16 : PySem.W.codeIn K cd16 "first_best" = true) (k16 : PySem.W.keepIn K (.ref f16) = true)
    (a17 : PySem.W.nsIn K mainGlobals "pile_best" = some (some (.ref f17))) (l17 : K.lookup f17 = some ⟨oc17, od17, .func (PySem.W.fnOf "pile_best" "pile_best" (defArgs tBest) (defBody tBest) (defScope tBest) .none kV17 dc17 pm17 an17 cd17 ct17), sl17⟩) (c17 : PySem.W.codeIn K cd17 "pile_best" = true) (k17 : PySem.W.keepIn K (.ref f17) = true)
    (a18 : PySem.W.nsIn K mainGlobals "pieces_worth" = some (some (.ref f18))) (l18 : K.lookup f18 = some ⟨oc18, od18, .func (PySem.W.fnOf "pieces_worth" "pieces_worth" (defArgs tPieW) (defBody tPieW) (defScope tPieW) .none kV18 dc18 pm18 an18 cd18 ct18), sl18⟩) (c18 : PySem.W.codeIn K cd18 "pieces_worth" = true) (k18 : PySem.W.keepIn K (.ref f18) = true)
    (a19 : PySem.W.nsIn K mainGlobals "dealing_worth_pile" = some (some (.ref f19))) (l19 : K.lookup f19 = some ⟨oc19, od19, .func (PySem.W.fnOf "dealing_worth" "dealing_worth" (defArgs tDealW) (defBody tDealW) (defScope tDealW) .none kV19 dc19 pm19 an19 cd19 ct19), sl19⟩) (c19 : PySem.W.codeIn K cd19 "dealing_worth" = true) (k19 : PySem.W.keepIn K (.ref f19) = true)
    (a20 : PySem.W.nsIn K mainGlobals "loss_of_others_pile" = some (some (.ref f20))) (l20 : K.lookup f20 = some ⟨oc20, od20, .func (PySem.W.fnOf "loss_of_others" "loss_of_others" (defArgs tLoss) (defBody tLoss) (defScope tLoss) .none kV20 dc20 pm20 an20 cd20 ct20), sl20⟩) (c20 : PySem.W.codeIn K cd20 "loss_of_others" = true) (k20 : PySem.W.keepIn K (.ref f20) = true)
    (a21 : PySem.W.nsIn K mainGlobals "pile_pays" = some (some (.ref f21))) (l21 : K.lookup f21 = some ⟨oc21, od21, .func (PySem.W.fnOf "pile_pays" "pile_pays" (defArgs tPays) (defBody tPays) (defScope tPays) .none kV21 dc21 pm21 an21 cd21 ct21), sl21⟩) (c21 : PySem.W.codeIn K cd21 "pile_pays" = true) (k21 : PySem.W.keepIn K (.ref f21) = true)
    (a22 : PySem.W.nsIn K mainGlobals "check_road" = some (some (.ref f22))) (l22 : K.lookup f22 = some ⟨oc22, od22, .func (PySem.W.fnOf "check_road" "check_road" (defArgs uRoad) (defBody uRoad) (defScope uRoad) .none kV22 dc22 pm22 an22 cd22 ct22), sl22⟩) (c22 : PySem.W.codeIn K cd22 "check_road" = true) (k22 : PySem.W.keepIn K (.ref f22) = true)
    (a23 : PySem.W.nsIn K mainGlobals "check_web" = some (some (.ref f23))) (l23 : K.lookup f23 = some ⟨oc23, od23, .func (PySem.W.fnOf "check_web" "check_web" (defArgs uCheck) (defBody uCheck) (defScope uCheck) .none kV23 dc23 pm23 an23 cd23 ct23), sl23⟩) (c23 : PySem.W.codeIn K cd23 "check_web" = true) (k23 : PySem.W.keepIn K (.ref f23) = true)
    (a26 : PySem.W.nsIn K mainGlobals "joins_parts" = some (some (.ref f26))) (l26 : K.lookup f26 = some ⟨oc26, od26, .func (PySem.W.fnOf "joins_parts" "joins_parts" (defArgs uJoins) (defBody uJoins) (defScope uJoins) .none kV26 dc26 pm26 an26 cd26 ct26), sl26⟩) (c26 : PySem.W.codeIn K cd26 "joins_parts" = true) (k26 : PySem.W.keepIn K (.ref f26) = true)
    (a27 : PySem.W.nsIn K mainGlobals "with_road" = some (some (.ref f27))) (l27 : K.lookup f27 = some ⟨oc27, od27, .func (PySem.W.fnOf "with_road" "with_road" (defArgs uWith) (defBody uWith) (defScope uWith) .none kV27 dc27 pm27 an27 cd27 ct27), sl27⟩) (c27 : PySem.W.codeIn K cd27 "with_road" = true) (k27 : PySem.W.keepIn K (.ref f27) = true)
    (a28 : PySem.W.nsIn K mainGlobals "all_trees" = some (some (.ref f28))) (l28 : K.lookup f28 = some ⟨oc28, od28, .func (PySem.W.fnOf "all_trees" "all_trees" (defArgs uTrees) (defBody uTrees) (defScope uTrees) .none kV28 dc28 pm28 an28 cd28 ct28), sl28⟩) (c28 : PySem.W.codeIn K cd28 "all_trees" = true) (k28 : PySem.W.keepIn K (.ref f28) = true)
    (a29 : PySem.W.nsIn K mainGlobals "ways_onward" = some (some (.ref f29))) (l29 : K.lookup f29 = some ⟨oc29, od29, .func (PySem.W.fnOf "ways_onward" "ways_onward" (defArgs uOn) (defBody uOn) (defScope uOn) .none kV29 dc29 pm29 an29 cd29 ct29), sl29⟩) (c29 : PySem.W.codeIn K cd29 "ways_onward" = true) (k29 : PySem.W.keepIn K (.ref f29) = true)
    (a30 : PySem.W.nsIn K mainGlobals "all_ways" = some (some (.ref f30))) (l30 : K.lookup f30 = some ⟨oc30, od30, .func (PySem.W.fnOf "all_ways" "all_ways" (defArgs uWays) (defBody uWays) (defScope uWays) .none kV30 dc30 pm30 an30 cd30 ct30), sl30⟩) (c30 : PySem.W.codeIn K cd30 "all_ways" = true) (k30 : PySem.W.keepIn K (.ref f30) = true)
    (a31 : PySem.W.nsIn K mainGlobals "check_costs" = some (some (.ref f31))) (l31 : K.lookup f31 = some ⟨oc31, od31, .func (PySem.W.fnOf "check_costs" "check_costs" (defArgs uCosts) (defBody uCosts) (defScope uCosts) .none kV31 dc31 pm31 an31 cd31 ct31), sl31⟩) (c31 : PySem.W.codeIn K cd31 "check_costs" = true) (k31 : PySem.W.keepIn K (.ref f31) = true)
    (a32 : PySem.W.nsIn K mainGlobals "choices_to_make" = some (some (.ref f32))) (l32 : K.lookup f32 = some ⟨oc32, od32, .func (PySem.W.fnOf "choices_to_make" "choices_to_make" (defArgs uChoices) (defBody uChoices) (defScope uChoices) .none kV32 dc32 pm32 an32 cd32 ct32), sl32⟩) (c32 : PySem.W.codeIn K cd32 "choices_to_make" = true) (k32 : PySem.W.keepIn K (.ref f32) = true)
    (a33 : PySem.W.nsIn K mainGlobals "choice_cost" = some (some (.ref f33))) (l33 : K.lookup f33 = some ⟨oc33, od33, .func (PySem.W.fnOf "choice_cost" "choice_cost" (defArgs uCost) (defBody uCost) (defScope uCost) .none kV33 dc33 pm33 an33 cd33 ct33), sl33⟩) (c33 : PySem.W.codeIn K cd33 "choice_cost" = true) (k33 : PySem.W.keepIn K (.ref f33) = true)
    (a34 : PySem.W.nsIn K mainGlobals "cheapest" = some (some (.ref f34))) (l34 : K.lookup f34 = some ⟨oc34, od34, .func (PySem.W.fnOf "cheapest" "cheapest" (defArgs uCheap) (defBody uCheap) (defScope uCheap) .none kV34 dc34 pm34 an34 cd34 ct34), sl34⟩) (c34 : PySem.W.codeIn K cd34 "cheapest" = true) (k34 : PySem.W.keepIn K (.ref f34) = true)
    (a35 : PySem.W.nsIn K mainGlobals "road_best" = some (some (.ref f35))) (l35 : K.lookup f35 = some ⟨oc35, od35, .func (PySem.W.fnOf "road_best" "road_best" (defArgs uBest) (defBody uBest) (defScope uBest) .none kV35 dc35 pm35 an35 cd35 ct35), sl35⟩) (c35 : PySem.W.codeIn K cd35 "road_best" = true) (k35 : PySem.W.keepIn K (.ref f35) = true)
    (a36 : PySem.W.nsIn K mainGlobals "owner_gets" = some (some (.ref f36))) (l36 : K.lookup f36 = some ⟨oc36, od36, .func (PySem.W.fnOf "owner_gets" "owner_gets" (defArgs uOwner) (defBody uOwner) (defScope uOwner) .none kV36 dc36 pm36 an36 cd36 ct36), sl36⟩) (c36 : PySem.W.codeIn K cd36 "owner_gets" = true) (k36 : PySem.W.keepIn K (.ref f36) = true)
    (a37 : PySem.W.nsIn K mainGlobals "road_gets" = some (some (.ref f37))) (l37 : K.lookup f37 = some ⟨oc37, od37, .func (PySem.W.fnOf "road_gets" "road_gets" (defArgs uGets) (defBody uGets) (defScope uGets) .none kV37 dc37 pm37 an37 cd37 ct37), sl37⟩) (c37 : PySem.W.codeIn K cd37 "road_gets" = true) (k37 : PySem.W.keepIn K (.ref f37) = true)
    (a38 : PySem.W.nsIn K mainGlobals "_law_cell_at" = some (some (.ref f38))) (l38 : K.lookup f38 = some ⟨oc38, od38, .func (PySem.W.fnOf "_law_cell_at" "_law_cell_at" (defArgs sCell) (defBody sCell) (defScope sCell) .none kV38 dc38 pm38 an38 cd38 ct38), sl38⟩) (c38 : PySem.W.codeIn K cd38 "_law_cell_at" = true) (k38 : PySem.W.keepIn K (.ref f38) = true)
    (a39 : PySem.W.nsIn K mainGlobals "_law_mix" = some (some (.ref f39))) (l39 : K.lookup f39 = some ⟨oc39, od39, .func (PySem.W.fnOf "_law_mix" "_law_mix" (defArgs sMix) (defBody sMix) (defScope sMix) .none kV39 dc39 pm39 an39 cd39 ct39), sl39⟩) (c39 : PySem.W.codeIn K cd39 "_law_mix" = true) (k39 : PySem.W.keepIn K (.ref f39) = true)
    (a40 : PySem.W.nsIn K mainGlobals "_law_worths_by" = some (some (.ref f40))) (l40 : K.lookup f40 = some ⟨oc40, od40, .func (PySem.W.fnOf "_law_worths_by" "_law_worths_by" (defArgs sWorths) (defBody sWorths) (defScope sWorths) .none kV40 dc40 pm40 an40 cd40 ct40), sl40⟩) (c40 : PySem.W.codeIn K cd40 "_law_worths_by" = true) (k40 : PySem.W.keepIn K (.ref f40) = true)
    (a41 : PySem.W.nsIn K mainGlobals "_law_size_by" = some (some (.ref f41))) (l41 : K.lookup f41 = some ⟨oc41, od41, .func (PySem.W.fnOf "_law_size_by" "_law_size_by" (defArgs sSize) (defBody sSize) (defScope sSize) .none kV41 dc41 pm41 an41 cd41 ct41), sl41⟩) (c41 : PySem.W.codeIn K cd41 "_law_size_by" = true) (k41 : PySem.W.keepIn K (.ref f41) = true)
    (a42 : PySem.W.nsIn K mainGlobals "_law_heap_by" = some (some (.ref f42))) (l42 : K.lookup f42 = some ⟨oc42, od42, .func (PySem.W.fnOf "_law_heap_by" "_law_heap_by" (defArgs sHeap) (defBody sHeap) (defScope sHeap) .none kV42 dc42 pm42 an42 cd42 ct42), sl42⟩) (c42 : PySem.W.codeIn K cd42 "_law_heap_by" = true) (k42 : PySem.W.keepIn K (.ref f42) = true)
    (a43 : PySem.W.nsIn K mainGlobals "_law_heap_size_by" = some (some (.ref f43))) (l43 : K.lookup f43 = some ⟨oc43, od43, .func (PySem.W.fnOf "_law_heap_size_by" "_law_heap_size_by" (defArgs sHeapSize) (defBody sHeapSize) (defScope sHeapSize) .none kV43 dc43 pm43 an43 cd43 ct43), sl43⟩) (c43 : PySem.W.codeIn K cd43 "_law_heap_size_by" = true) (k43 : PySem.W.keepIn K (.ref f43) = true)
    (a44 : PySem.W.nsIn K mainGlobals "_law_web_by" = some (some (.ref f44))) (l44 : K.lookup f44 = some ⟨oc44, od44, .func (PySem.W.fnOf "_law_web_by" "_law_web_by" (defArgs sWebBy) (defBody sWebBy) (defScope sWebBy) .none kV44 dc44 pm44 an44 cd44 ct44), sl44⟩) (c44 : PySem.W.codeIn K cd44 "_law_web_by" = true) (k44 : PySem.W.keepIn K (.ref f44) = true)
    (a45 : PySem.W.nsIn K mainGlobals "_law_costs_by" = some (some (.ref f45))) (l45 : K.lookup f45 = some ⟨oc45, od45, .func (PySem.W.fnOf "_law_costs_by" "_law_costs_by" (defArgs sCostsBy) (defBody sCostsBy) (defScope sCostsBy) .none kV45 dc45 pm45 an45 cd45 ct45), sl45⟩) (c45 : PySem.W.codeIn K cd45 "_law_costs_by" = true) (k45 : PySem.W.keepIn K (.ref f45) = true)
    (a46 : PySem.W.nsIn K mainGlobals "_law_kind_by" = some (some (.ref f46))) (l46 : K.lookup f46 = some ⟨oc46, od46, .func (PySem.W.fnOf "_law_kind_by" "_law_kind_by" (defArgs sKindBy) (defBody sKindBy) (defScope sKindBy) .none kV46 dc46 pm46 an46 cd46 ct46), sl46⟩) (c46 : PySem.W.codeIn K cd46 "_law_kind_by" = true) (k46 : PySem.W.keepIn K (.ref f46) = true)
    (a47 : PySem.W.nsIn K mainGlobals "_law_shelf" = some (some (.ref f47))) (l47 : K.lookup f47 = some ⟨oc47, od47, .func (PySem.W.fnOf "_law_shelf" "_law_shelf" (defArgs sShelf) (defBody sShelf) (defScope sShelf) .none kV47 dc47 pm47 an47 cd47 ct47), sl47⟩) (c47 : PySem.W.codeIn K cd47 "_law_shelf" = true) (k47 : PySem.W.keepIn K (.ref f47) = true)
    (a48 : PySem.W.nsIn K mainGlobals "_law_pile" = some (some (.ref f48))) (l48 : K.lookup f48 = some ⟨oc48, od48, .func (PySem.W.fnOf "_law_pile" "_law_pile" (defArgs sPile) (defBody sPile) (defScope sPile) .none kV48 dc48 pm48 an48 cd48 ct48), sl48⟩) (c48 : PySem.W.codeIn K cd48 "_law_pile" = true) (k48 : PySem.W.keepIn K (.ref f48) = true)
    (a49 : PySem.W.nsIn K mainGlobals "_law_gets" = some (some (.ref f49))) (l49 : K.lookup f49 = some ⟨oc49, od49, .func (PySem.W.fnOf "_law_gets" "_law_gets" (defArgs sGets) (defBody sGets) (defScope sGets) .none kV49 dc49 pm49 an49 cd49 ct49), sl49⟩) (c49 : PySem.W.codeIn K cd49 "_law_gets" = true) (k49 : PySem.W.keepIn K (.ref f49) = true)
    (a50 : PySem.W.nsIn K mainGlobals "law" = some (some (.ref f50))) (l50 : K.lookup f50 = some ⟨oc50, od50, .func (PySem.W.fnOf "law" "law" (defArgs sLaw) (defBody sLaw) (defScope sLaw) .none kV50 dc50 pm50 an50 cd50 ct50), sl50⟩) (c50 : PySem.W.codeIn K cd50 "law" = true) (k50 : PySem.W.keepIn K (.ref f50) = true)
    (z_ml : PySem.W.nsIn K mainGlobals "len" = some none)
    (z_mr : PySem.W.nsIn K mainGlobals "range" = some none)
    (z_ms : PySem.W.nsIn K mainGlobals "sum" = some none)
    (z_mz : PySem.W.nsIn K mainGlobals "zip" = some none)
    (z_mL : PySem.W.nsIn K mainGlobals "list" = some none)
    (z_mI : PySem.W.nsIn K mainGlobals "int" = some none)
    (z_mS : PySem.W.nsIn K mainGlobals "sorted" = some none)
    (z_mn : PySem.W.nsIn K mainGlobals "min" = some none)
    (z_me : PySem.W.nsIn K mainGlobals "enumerate" = some none)
    (y_cP : PySem.W.nsIn K mainGlobals "MOST_PEOPLE_shelf" = some (some (.int 4 tk_cP)))
    (y_cG : PySem.W.nsIn K mainGlobals "MOST_GOODS" = some (some (.int 4 tk_cG)))
    (y_cT : PySem.W.nsIn K mainGlobals "MOST_TOLD" = some (some (.int 1000 tk_cT)))
    (y_dP : PySem.W.nsIn K mainGlobals "MOST_PEOPLE_pile" = some (some (.int 5 tk_dP)))
    (y_dW : PySem.W.nsIn K mainGlobals "MOST_WORTHS" = some (some (.int 5 tk_dW)))
    (y_dN : PySem.W.nsIn K mainGlobals "MOST_PIECES" = some (some (.int 12 tk_dN)))
    (y_eL : PySem.W.nsIn K mainGlobals "LEAST_PLACES" = some (some (.int 2 tk_eL)))
    (y_eM : PySem.W.nsIn K mainGlobals "MOST_PLACES" = some (some (.int 6 tk_eM)))
    (y_eR : PySem.W.nsIn K mainGlobals "MOST_ROADS" = some (some (.int 10 tk_eR)))
    {C CW CB D CC CN CA : Addr}
    (xC : PySem.W.nsIn K mainGlobals "BadWorths" = some (some (.ref C)))
    (xE : PySem.W.excIn K C [.type "ValueError", .type "Exception", .type "BaseException", .type "object"] "ValueError.__new__" = true)
    (xW : PySem.W.nsIn K mainGlobals "Web" = some (some (.ref CW)))
    (xB : PySem.W.nsIn K mainGlobals "BadWeb" = some (some (.ref CB)))
    (xBe : PySem.W.excIn K CB [.type "ValueError", .type "Exception", .type "BaseException", .type "object"] "ValueError.__new__" = true)
    (wm1 : PySem.W.makesIn K CW = true)
    (wm2 : PySem.W.findIn K (.ref CW) "__init__" = some (some (.ref f24)))
    (wm3 : PySem.W.isFn K (.ref f24) = true)
    (wm4 : PySem.W.keepIn K (.ref CW) = true)
    (wc1 : PySem.W.plainGet K CW Str.empty = true)
    (wc2 : PySem.W.hasDictIn K CW = true)
    (wc3 : PySem.W.plainOver K CW = true)
    (wc4 : PySem.W.findIn K (.ref CW) "__setattr__" = some (some (.builtin "object.__setattr__")))
    (wp : PySem.W.findIn K (.ref CW) "places" = some none)
    (wr : PySem.W.findIn K (.ref CW) "roads" = some none)
    (xCC : PySem.W.nsIn K mainGlobals "BadCosts" = some (some (.ref CC)))
    (xCN : PySem.W.nsIn K mainGlobals "NoWay" = some (some (.ref CN)))
    (xCe : PySem.W.excIn K CC [.type "ValueError", .type "Exception", .type "BaseException", .type "object"] "ValueError.__new__" = true)
    (xNe : PySem.W.excIn K CN [.type "ValueError", .type "Exception", .type "BaseException", .type "object"] "ValueError.__new__" = true)
    (xCA : PySem.W.nsIn K mainGlobals "Alone" = some (some (.ref CA)))
    (xD : PySem.W.nsIn K mainGlobals "TollError" = some (some (.ref D)))
    (a0 : PySem.W.findIn K (.ref CA) "__init__" = some (some (.ref f25)))
    (ao : excOwn K CA f25 = true)
    (ak : PySem.W.keepIn K (.ref CA) = true)
    (af : PySem.W.isFn K (.ref f25) = true)
    (as1 : PySem.W.findIn K (.ref CA) "__setattr__" = some (some (.builtin "object.__setattr__")))
    (as2 : PySem.W.mroIn K CA (.type "object") = some true)
    (as3 : PySem.W.takerIn K CA "road" = some none)
    (as4 : PySem.W.hasDictIn K CA = true)
    (ab1 : PySem.W.readsIn K D (.type "type") = true)
    (ab2 : PySem.W.findCls K (.ref D) (.type "type") "__init__" = some (.val (.builtin "ValueError.__init__")))
    (ab3 : PySem.W.specialIn K (.ref D) "__getattribute__" = some (some (.builtin "type.__getattribute__")))
    (eNN : PySem.W.exmOne K (.ref CN) (.ref CN) = some true)
    (eAN : PySem.W.exmOne K (.ref CA) (.ref CN) = some false)
    (eAA : PySem.W.exmOne K (.ref CA) (.ref CA) = some true)
    (l24 : K.lookup f24 = some ⟨oc24, od24, .func (PySem.W.fnOf "__init__" "Web.__init__" (defArgs uInit) (defBody uInit) (defScope uInit) .none kV24 dc24 pm24 an24 cd24 ct24), sl24⟩) (c24 : PySem.W.codeIn K cd24 "Web.__init__" = true) (k24 : PySem.W.keepIn K (.ref f24) = true)
    (l25 : K.lookup f25 = some ⟨oc25, od25, .func (PySem.W.fnOf "__init__" "Alone.__init__" (defArgs sAInit) (defBody sAInit) (defScope sAInit) .none kV25 dc25 pm25 an25 cd25 ct25), sl25⟩) (c25 : PySem.W.codeIn K cd25 "Alone.__init__" = true) (k25 : PySem.W.keepIn K (.ref f25) = true)
    : ∃ fd : FuncData, (∀ (s : Shared) (v : Value), BindsTo s fd ⟨[v], []⟩ [("script", v)]) ∧ ∀ base : Heap, K.In base → base.Ns mainGlobals mg → FnOk l.prog w K mg base CX0 13 fa fd ["script"] (spLaw K) := by
  have e := hfa.symm.trans (PySem.W.mg_of X G a50)
  cases e
  have F1 := fun_mk (st := sWithin) l1 c1 k1
  have b1 := F1.binds (ps := ["told"]) fun _ _ _ _ _ _ us hl => match us, hl with | [_], _ => rfl
  have m1 := PySem.W.mg_of X G a1
  have F2 := fun_mk (st := sWithout) l2 c2 k2
  have b2 := F2.binds (ps := ["rows", "place"]) fun _ _ _ _ _ _ us hl => match us, hl with | [_, _], _ => rfl
  have m2 := PySem.W.mg_of X G a2
  have F3 := fun_mk (st := sGood) l3 c3 k3
  have b3 := F3.binds (ps := ["row", "good"]) fun _ _ _ _ _ _ us hl => match us, hl with | [_, _], _ => rfl
  have m3 := PySem.W.mg_of X G a3
  have F4 := fun_mk (st := sDealW) l4 c4 k4
  have b4 := F4.binds (ps := ["worths", "dealing"]) fun _ _ _ _ _ _ us hl => match us, hl with | [_, _], _ => rfl
  have m4 := PySem.W.mg_of X G a4
  have F5 := fun_mk (st := sMore) l5 c5 k5
  have b5 := F5.binds (ps := ["dealing", "goods"]) fun _ _ _ _ _ _ us hl => match us, hl with | [_, _], _ => rfl
  have m5 := PySem.W.mg_of X G a5
  have F6 := fun_mk (st := sAll) l6 c6 k6
  have b6 := F6.binds (ps := ["people", "goods"]) fun _ _ _ _ _ _ us hl => match us, hl with | [_, _], _ => rfl
  have m6 := PySem.W.mg_of X G a6
  have F7 := fun_mk (st := sFirst) l7 c7 k7
  have b7 := F7.binds (ps := ["worths", "goods"]) fun _ _ _ _ _ _ us hl => match us, hl with | [_, _], _ => rfl
  have m7 := PySem.W.mg_of X G a7
  have F8 := fun_mk (st := sRow) l8 c8 k8
  have b8 := F8.binds (ps := ["row", "goods"]) fun _ _ _ _ _ _ us hl => match us, hl with | [_, _], _ => rfl
  have m8 := PySem.W.mg_of X G a8
  have F9 := fun_mk (st := sCheck) l9 c9 k9
  have b9 := F9.binds (ps := ["worths"]) fun _ _ _ _ _ _ us hl => match us, hl with | [_], _ => rfl
  have m9 := PySem.W.mg_of X G a9
  have F10 := fun_mk (st := sBest) l10 c10 k10
  have b10 := F10.binds (ps := ["worths"]) fun _ _ _ _ _ _ us hl => match us, hl with | [_], _ => rfl
  have m10 := PySem.W.mg_of X G a10
  have F11 := fun_mk (st := sLoss) l11 c11 k11
  have b11 := F11.binds (ps := ["worths", "dealing", "person"]) fun _ _ _ _ _ _ us hl => match us, hl with | [_, _, _], _ => rfl
  have m11 := PySem.W.mg_of X G a11
  have F12 := fun_mk (st := sPays) l12 c12 k12
  have b12 := F12.binds (ps := ["worths"]) fun _ _ _ _ _ _ us hl => match us, hl with | [_], _ => rfl
  have m12 := PySem.W.mg_of X G a12
  have F13 := fun_mk (st := tRow) l13 c13 k13
  have b13 := F13.binds (ps := ["row"]) fun _ _ _ _ _ _ us hl => match us, hl with | [_], _ => rfl
  have m13 := PySem.W.mg_of X G a13
  have F14 := fun_mk (st := tCheck) l14 c14 k14
  have b14 := F14.binds (ps := ["worths"]) fun _ _ _ _ _ _ us hl => match us, hl with | [_], _ => rfl
  have m14 := PySem.W.mg_of X G a14
  have F15 := fun_mk (st := tPieces) l15 c15 k15
  have b15 := F15.binds (ps := ["pieces"]) fun _ _ _ _ _ _ us hl => match us, hl with | [_], _ => rfl
  have m15 := PySem.W.mg_of X G a15
  have F16 := fun_mk (st := tFirst) l16 c16 k16
  have b16 := F16.binds (ps := ["pieces", "worths"]) fun _ _ _ _ _ _ us hl => match us, hl with | [_, _], _ => rfl
  have m16 := PySem.W.mg_of X G a16
  have F17 := fun_mk (st := tBest) l17 c17 k17
  have b17 := F17.binds (ps := ["pieces", "worths"]) fun _ _ _ _ _ _ us hl => match us, hl with | [_, _], _ => rfl
  have m17 := PySem.W.mg_of X G a17
  have F18 := fun_mk (st := tPieW) l18 c18 k18
  have b18 := F18.binds (ps := ["row", "count"]) fun _ _ _ _ _ _ us hl => match us, hl with | [_, _], _ => rfl
  have m18 := PySem.W.mg_of X G a18
  have F19 := fun_mk (st := tDealW) l19 c19 k19
  have b19 := F19.binds (ps := ["worths", "dealing"]) fun _ _ _ _ _ _ us hl => match us, hl with | [_, _], _ => rfl
  have m19 := PySem.W.mg_of X G a19
  have F20 := fun_mk (st := tLoss) l20 c20 k20
  have b20 := F20.binds (ps := ["pieces", "worths", "dealing", "person"]) fun _ _ _ _ _ _ us hl => match us, hl with | [_, _, _, _], _ => rfl
  have m20 := PySem.W.mg_of X G a20
  have F21 := fun_mk (st := tPays) l21 c21 k21
  have b21 := F21.binds (ps := ["pieces", "worths"]) fun _ _ _ _ _ _ us hl => match us, hl with | [_, _], _ => rfl
  have m21 := PySem.W.mg_of X G a21
  have F22 := fun_mk (st := uRoad) l22 c22 k22
  have b22 := F22.binds (ps := ["places", "road"]) fun _ _ _ _ _ _ us hl => match us, hl with | [_, _], _ => rfl
  have m22 := PySem.W.mg_of X G a22
  have F23 := fun_mk (st := uCheck) l23 c23 k23
  have b23 := F23.binds (ps := ["places", "roads"]) fun _ _ _ _ _ _ us hl => match us, hl with | [_, _], _ => rfl
  have m23 := PySem.W.mg_of X G a23
  have F24 := fun_mk (st := uInit) l24 c24 k24
  have b24 := F24.binds (ps := ["self", "places", "roads"]) fun _ _ _ _ _ _ us hl => match us, hl with | [_, _, _], _ => rfl
  have F25 := fun_mk (st := sAInit) l25 c25 k25
  have b25 := F25.binds (ps := ["self", "road"]) fun _ _ _ _ _ _ us hl => match us, hl with | [_, _], _ => rfl
  have F26 := fun_mk (st := uJoins) l26 c26 k26
  have b26 := F26.binds (ps := ["forest", "ends"]) fun _ _ _ _ _ _ us hl => match us, hl with | [_, _], _ => rfl
  have m26 := PySem.W.mg_of X G a26
  have F27 := fun_mk (st := uWith) l27 c27 k27
  have b27 := F27.binds (ps := ["forest", "road", "ends"]) fun _ _ _ _ _ _ us hl => match us, hl with | [_, _, _], _ => rfl
  have m27 := PySem.W.mg_of X G a27
  have F28 := fun_mk (st := uTrees) l28 c28 k28
  have b28 := F28.binds (ps := ["web"]) fun _ _ _ _ _ _ us hl => match us, hl with | [_], _ => rfl
  have m28 := PySem.W.mg_of X G a28
  have F29 := fun_mk (st := uOn) l29 c29 k29
  have b29 := F29.binds (ps := ["web", "place", "seen"]) fun _ _ _ _ _ _ us hl => match us, hl with | [_, _, _], _ => rfl
  have m29 := PySem.W.mg_of X G a29
  have F30 := fun_mk (st := uWays) l30 c30 k30
  have b30 := F30.binds (ps := ["web"]) fun _ _ _ _ _ _ us hl => match us, hl with | [_], _ => rfl
  have m30 := PySem.W.mg_of X G a30
  have F31 := fun_mk (st := uCosts) l31 c31 k31
  have b31 := F31.binds (ps := ["web", "costs"]) fun _ _ _ _ _ _ us hl => match us, hl with | [_, _], _ => rfl
  have m31 := PySem.W.mg_of X G a31
  have F32 := fun_mk (st := uChoices) l32 c32 k32
  have b32 := F32.binds (ps := ["web", "kind", "costs"]) fun _ _ _ _ _ _ us hl => match us, hl with | [_, _, _], _ => rfl
  have m32 := PySem.W.mg_of X G a32
  have F33 := fun_mk (st := uCost) l33 c33 k33
  have b33 := F33.binds (ps := ["choice", "costs"]) fun _ _ _ _ _ _ us hl => match us, hl with | [_, _], _ => rfl
  have m33 := PySem.W.mg_of X G a33
  have F34 := fun_mk (st := uCheap) l34 c34 k34
  have b34 := F34.binds (ps := ["choices", "costs"]) fun _ _ _ _ _ _ us hl => match us, hl with | [_, _], _ => rfl
  have m34 := PySem.W.mg_of X G a34
  have F35 := fun_mk (st := uBest) l35 c35 k35
  have b35 := F35.binds (ps := ["web", "kind", "costs"]) fun _ _ _ _ _ _ us hl => match us, hl with | [_, _, _], _ => rfl
  have m35 := PySem.W.mg_of X G a35
  have F36 := fun_mk (st := uOwner) l36 c36 k36
  have b36 := F36.binds (ps := ["choices", "costs", "best", "road"]) fun _ _ _ _ _ _ us hl => match us, hl with | [_, _, _, _], _ => rfl
  have m36 := PySem.W.mg_of X G a36
  have F37 := fun_mk (st := uGets) l37 c37 k37
  have b37 := F37.binds (ps := ["web", "kind", "costs"]) fun _ _ _ _ _ _ us hl => match us, hl with | [_, _, _], _ => rfl
  have m37 := PySem.W.mg_of X G a37
  have F38 := fun_mk (st := sCell) l38 c38 k38
  have b38 := F38.binds (ps := ["script", "k"]) fun _ _ _ _ _ _ us hl => match us, hl with | [_, _], _ => rfl
  have m38 := PySem.W.mg_of X G a38
  have F39 := fun_mk (st := sMix) l39 c39 k39
  have b39 := F39.binds (ps := ["cell", "k", "many"]) fun _ _ _ _ _ _ us hl => match us, hl with | [_, _, _], _ => rfl
  have m39 := PySem.W.mg_of X G a39
  have F40 := fun_mk (st := sWorths) l40 c40 k40
  have b40 := F40.binds (ps := ["script", "start", "people", "goods"]) fun _ _ _ _ _ _ us hl => match us, hl with | [_, _, _, _], _ => rfl
  have m40 := PySem.W.mg_of X G a40
  have F41 := fun_mk (st := sSize) l41 c41 k41
  have b41 := F41.binds (ps := ["script"]) fun _ _ _ _ _ _ us hl => match us, hl with | [_], _ => rfl
  have m41 := PySem.W.mg_of X G a41
  have F42 := fun_mk (st := sHeap) l42 c42 k42
  have b42 := F42.binds (ps := ["script", "start", "people"]) fun _ _ _ _ _ _ us hl => match us, hl with | [_, _, _], _ => rfl
  have m42 := PySem.W.mg_of X G a42
  have F43 := fun_mk (st := sHeapSize) l43 c43 k43
  have b43 := F43.binds (ps := ["script", "most"]) fun _ _ _ _ _ _ us hl => match us, hl with | [_, _], _ => rfl
  have m43 := PySem.W.mg_of X G a43
  have F44 := fun_mk (st := sWebBy) l44 c44 k44
  have b44 := F44.binds (ps := ["script", "most"]) fun _ _ _ _ _ _ us hl => match us, hl with | [_, _], _ => rfl
  have m44 := PySem.W.mg_of X G a44
  have F45 := fun_mk (st := sCostsBy) l45 c45 k45
  have b45 := F45.binds (ps := ["script", "many"]) fun _ _ _ _ _ _ us hl => match us, hl with | [_, _], _ => rfl
  have m45 := PySem.W.mg_of X G a45
  have F46 := fun_mk (st := sKindBy) l46 c46 k46
  have b46 := F46.binds (ps := ["script"]) fun _ _ _ _ _ _ us hl => match us, hl with | [_], _ => rfl
  have m46 := PySem.W.mg_of X G a46
  have F47 := fun_mk (st := sShelf) l47 c47 k47
  have b47 := F47.binds (ps := ["script"]) fun _ _ _ _ _ _ us hl => match us, hl with | [_], _ => rfl
  have m47 := PySem.W.mg_of X G a47
  have F48 := fun_mk (st := sPile) l48 c48 k48
  have b48 := F48.binds (ps := ["script"]) fun _ _ _ _ _ _ us hl => match us, hl with | [_], _ => rfl
  have m48 := PySem.W.mg_of X G a48
  have F49 := fun_mk (st := sGets) l49 c49 k49
  have b49 := F49.binds (ps := ["web", "kind", "costs"]) fun _ _ _ _ _ _ us hl => match us, hl with | [_, _, _], _ => rfl
  have m49 := PySem.W.mg_of X G a49
  have F50 := fun_mk (st := sLaw) l50 c50 k50
  have ml := PySem.W.mg_none_of X G z_ml
  have mr := PySem.W.mg_none_of X G z_mr
  have ms := PySem.W.mg_none_of X G z_ms
  have mz := PySem.W.mg_none_of X G z_mz
  have mL := PySem.W.mg_none_of X G z_mL
  have mI := PySem.W.mg_none_of X G z_mI
  have mS := PySem.W.mg_none_of X G z_mS
  have mn := PySem.W.mg_none_of X G z_mn
  have me := PySem.W.mg_none_of X G z_me
  have cP := PySem.W.mg_of X G y_cP
  have cG := PySem.W.mg_of X G y_cG
  have cT := PySem.W.mg_of X G y_cT
  have dP := PySem.W.mg_of X G y_dP
  have dW := PySem.W.mg_of X G y_dW
  have dN := PySem.W.mg_of X G y_dN
  have eL := PySem.W.mg_of X G y_eL
  have eM := PySem.W.mg_of X G y_eM
  have eR := PySem.W.mg_of X G y_eR
  refine ⟨PySem.W.fnOf "law" "law" (defArgs sLaw) (defBody sLaw) (defScope sLaw) .none kV50 dc50 pm50 an50 cd50 ct50, fun s v => .of_eq rfl, fun base _ _ => ?_⟩
  have T : Kit K := kit_all
  have g1 := ok_within (P := l.prog) (w := w) (base := base) F1 cT
  have g3 := ok_good (P := l.prog) (w := w) (mg := mg) (base := base) F3
  have g4 := ok_dealW F4 g3 b3 k3 m3 ms mz
  have g5 := ok_more (P := l.prog) (w := w) (base := base) F5 mr
  have g6 := ok_all F6 g5 b5 k5 m5 mr
  have g7 := ok_first F7 g6 b6 k6 m6 g4 b4 k4 m4 ml
  have g8 := ok_row F8 g1 b1 k1 m1 ml
  have g9 := ok_check F9 g8 b8 k8 m8 ml cP cG
  have g10 := ok_best F10 g9 b9 k9 m9 g7 b7 k7 m7 ml
  have g2 := ok_without (P := l.prog) (w := w) (mg := mg) (base := base) F2
  have g11 := ok_loss F11 g2 b2 k2 m2 g7 b7 k7 m7 g4 b4 k4 m4 ml
  have g12 := ok_pays F12 g10 b10 k10 m10 g11 b11 k11 m11 ml mr
  have mC := PySem.W.mg_of X G xC
  have g1 := ok_within (P := l.prog) (w := w) (base := base) F1 cT
  have g13 := ok_tRow F13 g1 b1 k1 m1 ml mz dW cT xE mC
  have g14 := ok_tCheck F14 g13 b13 k13 m13 ml dP xE mC
  have g15 := ok_tPieces (P := l.prog) (w := w) (base := base) F15 dN xE mC
  have g16 := ok_tFirst (P := l.prog) (w := w) (base := base) F16 me mS ml mr ms
  have g17 := ok_tBest F17 g14 b14 k14 m14 g15 b15 k15 m15 g16 b16 k16 m16
  have g18 := ok_tPieW (P := l.prog) (w := w) (base := base) F18 ms
  have g19 := ok_tDealW F19 g18 b18 k18 m18 ms mz
  have g20 := ok_tLoss F20 g2 b2 k2 m2 g16 b16 k16 m16 g19 b19 k19 m19
  have g21 := ok_tPays F21 g17 b17 k17 m17 g20 b20 k20 m20 ml mr
  have mW := PySem.W.mg_of X G xW
  have nB := PySem.W.mg_of X G xB
  have WK : WebK K CW f24 := ⟨⟨wm1, wm2, wm3, wm4⟩, ⟨wc1, wc2, wc3, wc4⟩, wp, wr⟩
  have g22 := ok_uRoad (P := l.prog) (w := w) (base := base) F22 ml xBe nB
  have g23 := ok_uCheck F23 g22 b22 k22 m22 ml eL eM eR xBe nB
  have g24 := ok_uInit F24 g23 b23 k23 m23 mL WK
  have g1 := ok_within (P := l.prog) (w := w) (base := base) F1 cT
  have nC := PySem.W.mg_of X G xCC
  have nN := PySem.W.mg_of X G xCN
  have g26 := ok_uJoins (P := l.prog) (w := w) (mg := mg) (base := base) F26
  have g27 := ok_uWith (P := l.prog) (w := w) (mg := mg) (base := base) F27
  have g28 := ok_uTrees F28 g26 b26 k26 m26 g27 b27 k27 m27 WK mL mr me ml
  have g29 := ok_uOn (P := l.prog) (w := w) (base := base) F29 k29 m29 b29 WK me
  have g30 := ok_uWays F30 (g29 7) b29 k29 m29 mS
  have g31 := ok_uCosts F31 g1 b1 k1 m1 WK ml cT xCe nC
  have g32 := ok_uChoices F32 g31 b31 k31 m31 g30 b30 k30 m30 g28 b28 k28 m28 ml xNe nN
  have g33 := ok_uCost (P := l.prog) (w := w) (base := base) F33 ms
  have g34 := ok_uCheap F34 g33 b33 k33 m33 mn
  have g35 := ok_uBest F35 g34 b34 k34 m34 g32 b32 k32 m32
  have nA := PySem.W.mg_of X G xCA
  have mD := PySem.W.mg_of X G xD
  have g25 := ok_ainit (C := CA) (P := l.prog) (w := w) (base := base) F25 ⟨ab1, ab2, ab3⟩ mD
  have g36 := ok_uOwner F36 g34 b34 k34 m34 g25 b25 ao ak af ⟨as1, as2, as3, as4⟩ nA ml
  have g37 := ok_uGets F37 g32 b32 k32 m32 g34 b34 k34 m34 g36 b36 k36 m36 ml mr
  have g38 := ok_cell (P := l.prog) (w := w) (base := base) F38 ml
  have g39 := ok_mix (P := l.prog) (w := w) (mg := mg) (base := base) F39
  have g40 := ok_worths F40 g38 b38 k38 m38 g39 b39 k39 m39 mr
  have g41 := ok_size F41 g38 b38 k38 m38
  have g42 := ok_heap F42 g38 b38 k38 m38 g39 b39 k39 m39 mr mS
  have g43 := ok_heapSize F43 g38 b38 k38 m38
  have g44 := ok_webBy F44 g38 b38 k38 m38 g39 b39 k39 m39 mr
  have g45 := ok_costsBy F45 g38 b38 k38 m38 g39 b39 k39 m39 mr
  have g46 := ok_kindBy F46 g38 b38 k38 m38
  have g49 := ok_getsN F49 g37 b37 k37 m37 nN nA eNN eAN eAA (by decide)
  have g47 := ok_shelf F47 g41 b41 k41 m41 g40 b40 k40 m40 g38 b38 k38 m38 g10 b10 k10 m10 g12 b12 k12 m12 g39 b39 k39 m39 mr mI mn me
  have g48 := ok_pile F48 g43 b43 k43 m43 g42 b42 k42 m42 g38 b38 k38 m38 (calm_pbest g17) b17 k17 m17 (calm_ppays g21) b21 k21 m21 g39 b39 k39 m39 mr mS (by decide) (by decide)
  exact ok_law F50 g44 b44 k44 m44 g45 b45 k45 m45 g38 b38 k38 m38 g46 b46 k46 m46 g49 b49 k49 m49 g39 b39 k39 m39 g35 b35 k35 m35 g47 b47 k47 m47 g48 b48 k48 m48 WK g24 b24 mW candP_ok (by decide) (by decide) ml mL mn
theorem walk {l : PySem.W.OpenLaw} {q : Program} {loose : List Str} {XP : (Str → Option Value) → Heap → Prop} {YP : World → Heap → Prop} {d : DefRec} {K : Params → PySem.W.Frag} (hn : l.most = some 63) (hdf : d.params.defaults = [])
    (hY : ∀ (w : World) (h : Heap), YP w h → (K w.params).In h)
    (F : ∀ (w : World) (mg : Str → Option Value) (fa : Addr) (h : Heap), (K w.params).In h → h.Ns mainGlobals mg → mg d.name = some (.ref fa) →
      ∃ fd : FuncData, (∀ (s : Shared) (u : Value), BindsTo s fd ⟨[u], []⟩ [("script", u)]) ∧ ∀ base : Heap, (K w.params).In base → base.Ns mainGlobals mg → FnOk l.prog w (K w.params) mg base CX0 13 fa fd ["script"] (spLaw (K w.params))) :
    PySem.W.WalkO q loose XP YP l.row.toRowW d [] (fun f vs => PySem.call f vs) :=
  L2.walk_of (n := 63) (k := 13) (x := "script") (CX := fun _ => CX0) (sp := fun w => spLaw (K w.params)) hn (by decide) hdf ⟨rfl, by decide, by decide⟩ hY F (fun _ _ a ns hl _ hS => ⟨a, ns, rfl, hS, hl, fun _ => rfl⟩) fun _ _ _ _ _ z => z
end My
/-- the names of the largest twins that the head would lay: taken, so that it goes on without them and the compiled text stays under its limit -/
def PySem.W.Fast.tw10991916429577857169 : Nat := 0
def PySem.W.Fast.tw14363415949510492752 : Nat := 0
def PySem.W.Fast.tw13573847555680568575 : Nat := 0
def PySem.W.Fast.tw18442146610440022626 : Nat := 0
def PySem.W.Fast.tw5115249169165495276 : Nat := 0
def PySem.W.Fast.tw7731501679714477621 : Nat := 0
def PySem.W.Fast.tw14369486348136976685 : Nat := 0
def PySem.W.Fast.tw8672254471701465787 : Nat := 0
def PySem.W.Fast.tw17424478639147751717 : Nat := 0
def PySem.W.Fast.tw14996926209469536677 : Nat := 0
def PySem.W.Fast.tw14737222728591526393 : Nat := 0
def PySem.W.Fast.tw4926279951257227053 : Nat := 0
def PySem.W.Fast.tw5773487713806701146 : Nat := 0
def PySem.W.Fast.tw2172633374115354006 : Nat := 0
def PySem.W.Fast.tw12018955111638950163 : Nat := 0
open PySem PySem.W PyProof.Rows
set_option maxRecDepth 100000 in
set_option maxHeartbeats 0 in
theorem PySem.Challenge.cw_truthtoll_k14_whole_pay_by_what_one_gets_holds : PySem.Challenge.rw_truthtoll_k14_whole_pay_by_what_one_gets.Holds := by
  w_on; o_law; k_head; (case hw => w_witness2)
  k_fill
  refine My.walk (l := PySem.Challenge.rw_truthtoll_k14_whole_pay_by_what_one_gets) rfl rfl (fun w h Y => PySem.W.kIn_of Y) ?F
  case F =>
    intro w mg fa h KX G hmg
    refine' My.all_mk KX G hmg ?a1 ?l1 ?c1 ?k1 ?a2 ?l2 ?c2 ?k2 ?a3 ?l3 ?c3 ?k3 ?a4 ?l4 ?c4 ?k4 ?a5 ?l5 ?c5 ?k5 ?a6 ?l6 ?c6 ?k6 ?a7 ?l7 ?c7 ?k7 ?a8 ?l8 ?c8 ?k8 ?a9 ?l9 ?c9 ?k9 ?a10 ?l10 ?c10 ?k10 ?a11 ?l11 ?c11 ?k11 ?a12 ?l12 ?c12 ?k12 ?a13 ?l13 ?c13 ?k13 ?a14 ?l14 ?c14 ?k14 ?a15 ?l15 ?c15 ?k15 ?a16 ?l16 ?c16 ?k16 ?a17 ?l17 ?c17 ?k17 ?a18 ?l18 ?c18 ?k18 ?a19 ?l19 ?c19 ?k19 ?a20 ?l20 ?c20 ?k20 ?a21 ?l21 ?c21 ?k21 ?a22 ?l22 ?c22 ?k22 ?a23 ?l23 ?c23 ?k23 ?a26 ?l26 ?c26 ?k26 ?a27 ?l27 ?c27 ?k27 ?a28 ?l28 ?c28 ?k28 ?a29 ?l29 ?c29 ?k29 ?a30 ?l30 ?c30 ?k30 ?a31 ?l31 ?c31 ?k31 ?a32 ?l32 ?c32 ?k32 ?a33 ?l33 ?c33 ?k33 ?a34 ?l34 ?c34 ?k34 ?a35 ?l35 ?c35 ?k35 ?a36 ?l36 ?c36 ?k36 ?a37 ?l37 ?c37 ?k37 ?a38 ?l38 ?c38 ?k38 ?a39 ?l39 ?c39 ?k39 ?a40 ?l40 ?c40 ?k40 ?a41 ?l41 ?c41 ?k41 ?a42 ?l42 ?c42 ?k42 ?a43 ?l43 ?c43 ?k43 ?a44 ?l44 ?c44 ?k44 ?a45 ?l45 ?c45 ?k45 ?a46 ?l46 ?c46 ?k46 ?a47 ?l47 ?c47 ?k47 ?a48 ?l48 ?c48 ?k48 ?a49 ?l49 ?c49 ?k49 ?a50 ?l50 ?c50 ?k50 ?z_ml ?z_mr ?z_ms ?z_mz ?z_mL ?z_mI ?z_mS ?z_mn ?z_me ?y_cP ?y_cG ?y_cT ?y_dP ?y_dW ?y_dN ?y_eL ?y_eM ?y_eR ?xC ?xE ?xW ?xB ?xBe ?wm1 ?wm2 ?wm3 ?wm4 ?wc1 ?wc2 ?wc3 ?wc4 ?wp ?wr ?xCC ?xCN ?xCe ?xNe ?xCA ?xD ?a0 ?ao ?ak ?af ?as1 ?as2 ?as3 ?as4 ?ab1 ?ab2 ?ab3 ?eNN ?eAN ?eAA ?l24 ?c24 ?k24 ?l25 ?c25 ?k25
    (case a1 => k_is)
    (case l1 => k_is)
    (case c1 => k_is)
    (case k1 => k_is)
    (case a2 => k_is)
    (case l2 => k_is)
    (case c2 => k_is)
    (case k2 => k_is)
    (case a3 => k_is)
    (case l3 => k_is)
    (case c3 => k_is)
    (case k3 => k_is)
    (case a4 => k_is)
    (case l4 => k_is)
    (case c4 => k_is)
    (case k4 => k_is)
    (case a5 => k_is)
    (case l5 => k_is)
    (case c5 => k_is)
    (case k5 => k_is)
    (case a6 => k_is)
    (case l6 => k_is)
    (case c6 => k_is)
    (case k6 => k_is)
    (case a7 => k_is)
    (case l7 => k_is)
    (case c7 => k_is)
    (case k7 => k_is)
    (case a8 => k_is)
    (case l8 => k_is)
    (case c8 => k_is)
    (case k8 => k_is)
    (case a9 => k_is)
    (case l9 => k_is)
    (case c9 => k_is)
    (case k9 => k_is)
    (case a10 => k_is)
    (case l10 => k_is)
    (case c10 => k_is)
    (case k10 => k_is)
    (case a11 => k_is)
    (case l11 => k_is)
    (case c11 => k_is)
    (case k11 => k_is)
    (case a12 => k_is)
    (case l12 => k_is)
    (case c12 => k_is)
    (case k12 => k_is)
    (case a13 => k_is)
    (case l13 => k_is)
    (case c13 => k_is)
    (case k13 => k_is)
    (case a14 => k_is)
    (case l14 => k_is)
    (case c14 => k_is)
    (case k14 => k_is)
    (case a15 => k_is)
    (case l15 => k_is)
    (case c15 => k_is)
    (case k15 => k_is)
    (case a16 => k_is)
    (case l16 => k_is)
    (case c16 => k_is)
    (case k16 => k_is)
    (case a17 => k_is)
    (case l17 => k_is)
    (case c17 => k_is)
    (case k17 => k_is)
    (case a18 => k_is)
    (case l18 => k_is)
    (case c18 => k_is)
    (case k18 => k_is)
    (case a19 => k_is)
    (case l19 => k_is)
    (case c19 => k_is)
    (case k19 => k_is)
    (case a20 => k_is)
    (case l20 => k_is)
    (case c20 => k_is)
    (case k20 => k_is)
    (case a21 => k_is)
    (case l21 => k_is)
    (case c21 => k_is)
    (case k21 => k_is)
    (case a22 => k_is)
    (case l22 => k_is)
    (case c22 => k_is)
    (case k22 => k_is)
    (case a23 => k_is)
    (case l23 => k_is)
    (case c23 => k_is)
    (case k23 => k_is)
    (case a26 => k_is)
    (case l26 => k_is)
    (case c26 => k_is)
    (case k26 => k_is)
    (case a27 => k_is)
    (case l27 => k_is)
    (case c27 => k_is)
    (case k27 => k_is)
    (case a28 => k_is)
    (case l28 => k_is)
    (case c28 => k_is)
    (case k28 => k_is)
    (case a29 => k_is)
    (case l29 => k_is)
    (case c29 => k_is)
    (case k29 => k_is)
    (case a30 => k_is)
    (case l30 => k_is)
    (case c30 => k_is)
    (case k30 => k_is)
    (case a31 => k_is)
    (case l31 => k_is)
    (case c31 => k_is)
    (case k31 => k_is)
    (case a32 => k_is)
    (case l32 => k_is)
    (case c32 => k_is)
    (case k32 => k_is)
    (case a33 => k_is)
    (case l33 => k_is)
    (case c33 => k_is)
    (case k33 => k_is)
    (case a34 => k_is)
    (case l34 => k_is)
    (case c34 => k_is)
    (case k34 => k_is)
    (case a35 => k_is)
    (case l35 => k_is)
    (case c35 => k_is)
    (case k35 => k_is)
    (case a36 => k_is)
    (case l36 => k_is)
    (case c36 => k_is)
    (case k36 => k_is)
    (case a37 => k_is)
    (case l37 => k_is)
    (case c37 => k_is)
    (case k37 => k_is)
    (case a38 => k_is)
    (case l38 => k_is)
    (case c38 => k_is)
    (case k38 => k_is)
    (case a39 => k_is)
    (case l39 => k_is)
    (case c39 => k_is)
    (case k39 => k_is)
    (case a40 => k_is)
    (case l40 => k_is)
    (case c40 => k_is)
    (case k40 => k_is)
    (case a41 => k_is)
    (case l41 => k_is)
    (case c41 => k_is)
    (case k41 => k_is)
    (case a42 => k_is)
    (case l42 => k_is)
    (case c42 => k_is)
    (case k42 => k_is)
    (case a43 => k_is)
    (case l43 => k_is)
    (case c43 => k_is)
    (case k43 => k_is)
    (case a44 => k_is)
    (case l44 => k_is)
    (case c44 => k_is)
    (case k44 => k_is)
    (case a45 => k_is)
    (case l45 => k_is)
    (case c45 => k_is)
    (case k45 => k_is)
    (case a46 => k_is)
    (case l46 => k_is)
    (case c46 => k_is)
    (case k46 => k_is)
    (case a47 => k_is)
    (case l47 => k_is)
    (case c47 => k_is)
    (case k47 => k_is)
    (case a48 => k_is)
    (case l48 => k_is)
    (case c48 => k_is)
    (case k48 => k_is)
    (case a49 => k_is)
    (case l49 => k_is)
    (case c49 => k_is)
    (case k49 => k_is)
    (case a50 => k_is)
    (case l50 => k_is)
    (case c50 => k_is)
    (case k50 => k_is)
    (case z_ml => k_is)
    (case z_mr => k_is)
    (case z_ms => k_is)
    (case z_mz => k_is)
    (case z_mL => k_is)
    (case z_mI => k_is)
    (case z_mS => k_is)
    (case z_mn => k_is)
    (case z_me => k_is)
    (case y_cP => k_is)
    (case y_cG => k_is)
    (case y_cT => k_is)
    (case y_dP => k_is)
    (case y_dW => k_is)
    (case y_dN => k_is)
    (case y_eL => k_is)
    (case y_eM => k_is)
    (case y_eR => k_is)
    (case xC => k_is)
    (case xE => k_exc)
    (case xW => k_is)
    (case xB => k_is)
    (case xBe => k_exc)
    (case wm1 => k_is)
    (case wm2 => k_is)
    (case wm3 => k_is)
    (case wm4 => k_is)
    (case wc1 => k_is)
    (case wc2 => k_is)
    (case wc3 => k_is)
    (case wc4 => k_is)
    (case wp => k_is)
    (case wr => k_is)
    (case xCC => k_is)
    (case xCN => k_is)
    (case xCe => k_exc)
    (case xNe => k_exc)
    (case xCA => k_is)
    (case xD => k_is)
    (case a0 => k_is)
    (case ao => kernel_rfl)
    (case ak => k_is)
    (case af => k_is)
    (case as1 => k_is)
    (case as2 => k_is)
    (case as3 => k_is)
    (case as4 => k_is)
    (case ab1 => k_is)
    (case ab2 => k_is)
    (case ab3 => k_is)
    (case eNN => kernel_rfl)
    (case eAN => kernel_rfl)
    (case eAA => kernel_rfl)
    (case l24 => k_is)
    (case c24 => k_is)
    (case k24 => k_is)
    (case l25 => k_is)
    (case c25 => k_is)
    (case k25 => k_is)
#print axioms PySem.Challenge.cw_truthtoll_k14_whole_pay_by_what_one_gets_holds
