import PyProof.Rows.All
import Wide.All
import OpenK.AllK
import Wide.FinOn
import Lean
import PyProof.EqAt
import PyProof.EqKinds
import PyProof.TupleCall
import KE.KTryMore
import PySem.Challenge.RW_truthtoll_k17_refusals_apart
set_option Elab.async false
set_option linter.all false
set_option maxRecDepth 100000
namespace L2
open PySem PySem.Spec PyProof.Rows
abbrev Key := Sum Int Str
def keyIs : Key → Value → Bool
  | .inl k, v => Value.isInt k v
  | .inr x, v => Value.isStrOf x v
def keyH (w : World) : Key → Int
  | .inl k => hashInt k
  | .inr x => hashStr w x
theorem keyIs_shape : ∀ {k : Key} {v : Value}, keyIs k v = true → (∃ i t, k = Sum.inl i ∧ v = Value.int i t) ∨ (∃ x t, k = Sum.inr x ∧ v = Value.str x t)
  | .inl i, v, h => by
    obtain ⟨t, e⟩ := Value.isInt_shape (k := i) (v := v) h
    exact .inl ⟨i, t, rfl, e⟩
  | .inr x, v, h => by
    obtain ⟨t, e⟩ := Value.isStrOf_shape (x := x) (v := v) h
    exact .inr ⟨x, t, rfl, e⟩
theorem key_ll (a b : Int) : decide ((Sum.inl a : Key) = Sum.inl b) = (a == b) := by
  by_cases e : a = b
  · subst e; simp
  · have h : ¬ (Sum.inl a : Key) = Sum.inl b := fun q => e (Sum.inl.inj q)
    rw [decide_eq_false h]
    exact (beq_eq_false_iff_ne.mpr e).symm
theorem key_rr (a b : Str) : decide ((Sum.inr a : Key) = Sum.inr b) = decide (a = b) := by
  by_cases e : a = b
  · subst e; simp
  · have h : ¬ (Sum.inr a : Key) = Sum.inr b := fun q => e (Sum.inr.inj q)
    rw [decide_eq_false h, decide_eq_false e]
theorem key_lr (a : Int) (b : Str) : decide ((Sum.inl a : Key) = Sum.inr b) = false := decide_eq_false (fun q => nomatch q)
theorem key_rl (a : Str) (b : Int) : decide ((Sum.inr a : Key) = Sum.inl b) = false := decide_eq_false (fun q => nomatch q)
def mixKind (prog : Program) (w : World) : PySem.KeyKind prog w Key where
  is := keyIs
  hash := keyH w
  inj := fun v a b ha hb => by
    rcases keyIs_shape ha with ⟨i, t, rfl, rfl⟩ | ⟨x, t, rfl, rfl⟩
    · rcases keyIs_shape hb with ⟨j, u, rfl, e⟩ | ⟨y, u, rfl, e⟩
      · injection e with e1 _; rw [e1]
      · exact nomatch e
    · rcases keyIs_shape hb with ⟨j, u, rfl, e⟩ | ⟨y, u, rfl, e⟩
      · exact nomatch e
      · injection e with e1 _; rw [e1]
  byValue := fun k v h => by
    rcases keyIs_shape h with ⟨i, t, rfl, rfl⟩ | ⟨x, t, rfl, rfl⟩ <;> rfl
  pyHash := fun hv h => by
    rcases keyIs_shape hv with ⟨i, t, rfl, rfl⟩ | ⟨x, t, rfl, rfl⟩
    · exact wpAny_pyHash_int h
    · exact wpAny_pyHash_str h
  eqBool := fun hu hv h => by
    rcases keyIs_shape hu with ⟨i, t, rfl, rfl⟩ | ⟨x, t, rfl, rfl⟩
    · rcases keyIs_shape hv with ⟨j, u, rfl, rfl⟩ | ⟨y, u, rfl, rfl⟩
      · rw [key_ll] at h; exact wpAny_eqBool_int h
      · rw [key_lr] at h; exact SeqAt.EqAt.int_str i t y u _ _ _ _ h
    · rcases keyIs_shape hv with ⟨j, u, rfl, rfl⟩ | ⟨y, u, rfl, rfl⟩
      · rw [key_rl] at h; exact SeqAt.EqAt.str_int x t j u _ _ _ _ h
      · rw [key_rr] at h; exact wpAny_eqBool_str h
  «strs» := fun k x t v h => by
    rcases keyIs_shape h with ⟨i, u, rfl, e⟩ | ⟨y, u, rfl, e⟩
    · exact nomatch e
    · injection e with e1 _
      subst e1
      cases v <;> rfl
end L2
namespace L2
open PySem PySem.Spec PyProof.Rows
inductive V where
  | non | bl (b : Bool) | int (i : Int) | str (x : Str) | byt (b : Array UInt8) | flt (b : UInt64) | ref (a : Addr) | ty (n : String)
  deriving DecidableEq
def RelV : V → Value → Prop
  | .non, u => u = Value.none
  | .bl b, u => u = Value.bool b
  | .int i, u => ∃ t, u = Value.int i t
  | .str x, u => ∃ t, u = Value.str x t
  | .byt b, u => ∃ t, u = Value.bytes b t
  | .flt b, u => ∃ t, u = Value.float b t
  | .ref a, u => u = Value.ref a
  | .ty n, u => u = Value.type n
abbrev Vals : List V → List Value → Prop := Paired RelV
theorem Vals.length {xs : List V} {us : List Value} (r : Vals xs us) : xs.length = us.length := Paired.length r
theorem Vals.get : ∀ {xs : List V} {us : List Value} {i : Nat} {x : V}, Vals xs us → xs[i]? = some x → ∃ u, us[i]? = some u ∧ RelV x u
  | _, _, _, _, .nil, e => by simp at e
  | _, _, 0, _, .cons r _, e => by simp at e; subst e; exact ⟨_, rfl, r⟩
  | _, _, i + 1, x, .cons _ t, e => by
    obtain ⟨u, h1, h2⟩ := Vals.get (i := i) (x := x) t (by simpa using e)
    exact ⟨u, by simpa using h1, h2⟩
theorem Vals.append : ∀ {xs ys : List V} {us ws : List Value}, Vals xs us → Vals ys ws → Vals (xs ++ ys) (us ++ ws)
  | _, _, _, _, .nil, s => s
  | _, _, _, _, .cons r t, s => .cons r (Vals.append t s)
theorem Vals.take : ∀ {xs : List V} {us : List Value} (n : Nat), Vals xs us → Vals (xs.take n) (us.take n)
  | _, _, 0, _ => .nil
  | _, _, _ + 1, .nil => .nil
  | _, _, n + 1, .cons r t => .cons r (Vals.take n t)
theorem Vals.drop : ∀ {xs : List V} {us : List Value} (n : Nat), Vals xs us → Vals (xs.drop n) (us.drop n)
  | _, _, 0, r => r
  | _, _, _ + 1, .nil => .nil
  | _, _, n + 1, .cons _ t => Vals.drop n t
def RelO : Option V → Option Value → Prop
  | some v, some u => RelV v u
  | none, none => True
  | _, _ => False
def KV {κ : Type} : List (κ × V) → List (κ × Value) → Prop := Paired fun (p : κ × V) (q : κ × Value) => p.1 = q.1 ∧ RelV p.2 q.2
def kV : Key → V
  | .inl i => .int i
  | .inr x => .str x
inductive HO where
  /-- a list -/
  | lst (xs : List V)
  /-- a tuple (never changes) -/
  | tup (xs : List V)
  /-- a dict whose keys are ints and texts; one whose keys are tuples of ints and texts (the empty one is both) -/
  | dK (kvs : List (Key × V)) | dT (kvs : List (List Key × V))
  /-- a set of ints: its members, its size -/
  | set (S : Int → Bool) (n : Nat)
  /-- an instance of the class at C, its dict at dx, its attributes -/
  | ins (C dx : Addr) (fs : List (Str × V))
  /-- the dict of the instance at x -/
  | own (x : Addr)
  /-- the dict of an exception -/
  | xd (fs : List (Str × V))
  /-- a bound method, f of x -/
  | met (f x : Addr)
  /-- a range object lo, lo + 1, .. below hi -/
  | rng (lo hi : Int)
  /-- a thing that is known to the object (the script; a dict while a loop walks it): read, never written while it is so -/
  | frz (o : Obj) (u : HO)
  /-- a code object's table -/
  | tbl (ps : Array Value)
  /-- any other thing, by what is true of its one object (a def of one's own: SetO a S n := HO.ext fun h => ..) -/
  | ext (φ : Heap → Prop)
abbrev Hp := Addr → Option HO
def upd (H : Hp) (a : Addr) (o : HO) : Hp := fun b => if b = a then some o else H b
theorem upd_same {H : Hp} {a : Addr} {o : HO} : upd H a o a = some o := by unfold upd; rw [if_pos rfl]
theorem upd_ne {H : Hp} {a b : Addr} {o : HO} (h : b ≠ a) : upd H a o b = H b := by unfold upd; rw [if_neg h]
theorem ne_of_none {H : Hp} {a b : Addr} {o : HO} (h : H a = some o) (h' : H b = none) : a ≠ b := by
  intro e; subst e; rw [h] at h'; cases h'
section
variable (P : Program) (w : World)
def ObjOk (H : Hp) (h : Heap) (a : Addr) : HO → Prop
  | .lst xs => xs.length ≤ sizeLine ∧ ∃ (its : List Value) (n : Nat), Vals xs its ∧ h.get? a = some { cls := .type "list", data := .seq its.toArray n }
  | .tup xs => xs.length ≤ sizeLine ∧ ∃ its : List Value, Vals xs its ∧ IsTup h a its.toArray
  | .dK kvs => kvs.length ≤ sizeLine ∧ (a == sysModules) = false ∧ ∃ vs, KV kvs vs ∧ h.DictOf (mixKind P w) a vs
  | .dT kvs => kvs.length ≤ sizeLine ∧ (a == sysModules) = false ∧ ∃ xs : List (List Key × Addr × Value),
      Paired (fun (p : List Key × V) (q : List Key × Addr × Value) => p.1 = q.1 ∧ H q.2.1 = some (.tup (p.1.map kV)) ∧ RelV p.2 q.2.2) kvs xs ∧
      ∃ o es ep, h.get? a = some o ∧ o.ExactDict ∧ o.data = .dict es ep ∧ es.toList = xs.map (entryOfKey (tupleKind (mixKind P w))) ∧ (xs.map (·.1)).Nodup
  | .set S n => h.SetOf (intKind P w) a S n
  | .ins C dx fs => H dx = some (.own a) ∧ fs.length ≤ 1000 ∧ dx ≠ a ∧ h.get? a = some (PySem.W.instObj C dx) ∧
      ∃ mA, h.Ns1 dx mA ∧ (∀ f, RelO (fs.lookup f) (mA f)) ∧ PySem.Within mA (fs.map (·.1))
  | .own _ => ∃ o, h.get? a = some o
  | .xd fs => ∃ mA, h.Ns1 a mA ∧ ∀ f, RelO (fs.lookup f) (mA f)
  | .rng lo hi => ∃ t u v, h.get? a = some { cls := .type "range", data := .fields #[.int lo t, .int hi u, .int 1 v] }
  | .frz o u => h.get? a = some o ∧ ObjOk H h a u
  | .tbl ps => h.get? a = some { cls := .none, data := .fields ps }
  | .met f x => h.get? a = some (PySem.W.methodObj (.ref f) (.ref x))
  | .ext φ => φ h ∧ (∃ o, h.get? a = some o) ∧ ∀ h1 h2 : Heap, φ h1 → (∀ o, h1.get? a = some o → h2.get? a = some o) → φ h2
def HOk (H : Hp) (h : Heap) : Prop := ∀ a o, H a = some o → ObjOk P w H h a o
end
section
variable {P : Program} {w : World} {H H' : Hp} {h h' : Heap} {a : Addr} {o : HO}
theorem ObjOk.lt (x : ObjOk P w H h a o) : a < h.objs.size := by
  cases o with
  | lst xs => obtain ⟨_, _, _, _, e⟩ := x; exact Heap.lt_size e
  | tup xs => obtain ⟨_, _, _, p⟩ := x; exact p.lt
  | dK kvs => obtain ⟨_, _, _, _, o, _, _, e, _⟩ := x; exact Heap.lt_size e
  | dT kvs => obtain ⟨_, _, _, _, o, _, _, e, _⟩ := x; exact Heap.lt_size e
  | set S n => obtain ⟨o, _, _, _, e, _⟩ := x; exact Heap.lt_size e
  | ins C dx fs => obtain ⟨_, _, _, e, _⟩ := x; exact Heap.lt_size e
  | own y => obtain ⟨_, e⟩ := x; exact Heap.lt_size e
  | xd fs => obtain ⟨_, ⟨_, _, _, e, _⟩, _⟩ := x; exact Heap.lt_size e
  | rng lo hi => obtain ⟨_, _, _, e⟩ := x; exact Heap.lt_size e
  | frz ob u => obtain ⟨e, _⟩ := x; exact Heap.lt_size e
  | tbl ps => exact Heap.lt_size (show h.get? a = some _ from x)
  | met f y => exact Heap.lt_size (show h.get? a = some _ from x)
  | ext φ => obtain ⟨_, ⟨_, e⟩, _⟩ := x; exact Heap.lt_size e
theorem Paired.mapP {α β : Type} {F G : α → β → Prop} : ∀ {l₁ : List α} {l₂ : List β}, Paired F l₁ l₂ → (∀ a b, F a b → G a b) → Paired G l₁ l₂
  | _, _, .nil, _ => .nil
  | _, _, .cons r t, f => .cons (f _ _ r) (Paired.mapP t f)
theorem ObjOk.stay (x : ObjOk P w H h a o) (k : ∀ b u, (b = a ∨ H b = some (.own a)) → h.get? b = some u → h'.get? b = some u)
    (ho : ∀ b, H b = some (.own a) → H' b = some (.own a)) (ht : ∀ b xs, H b = some (.tup xs) → H' b = some (.tup xs)) : ObjOk P w H' h' a o := by
  induction o with
  | lst xs => obtain ⟨z, its, n, r, e⟩ := x; exact ⟨z, its, n, r, k _ _ (.inl rfl) e⟩
  | tup xs => obtain ⟨z, its, r, ob, e, c⟩ := x; exact ⟨z, its, r, ob, k _ _ (.inl rfl) e, c⟩
  | dK kvs => obtain ⟨z, y, vs, r, ob, es, ep, e, c⟩ := x; exact ⟨z, y, vs, r, ob, es, ep, k _ _ (.inl rfl) e, c⟩
  | dT kvs =>
    obtain ⟨z, y, xs, r, ob, es, ep, e, c⟩ := x
    exact ⟨z, y, xs, Paired.mapP r fun p q z => ⟨z.1, ht _ _ z.2.1, z.2.2⟩, ob, es, ep, k _ _ (.inl rfl) e, c⟩
  | set S n => obtain ⟨ob, es, ep, t, e, c⟩ := x; exact ⟨ob, es, ep, t, k _ _ (.inl rfl) e, c⟩
  | ins C dx fs =>
    obtain ⟨d, z, ne, e, mA, ⟨od, es, ep, e2, c⟩, r⟩ := x
    exact ⟨ho _ d, z, ne, k _ _ (.inl rfl) e, mA, ⟨od, es, ep, k _ _ (.inr d) e2, c⟩, r⟩
  | own y => obtain ⟨ob, e⟩ := x; exact ⟨ob, k _ _ (.inl rfl) e⟩
  | xd fs => obtain ⟨mA, ⟨od, es, ep, e, c⟩, r⟩ := x; exact ⟨mA, ⟨od, es, ep, k _ _ (.inl rfl) e, c⟩, r⟩
  | rng lo hi => obtain ⟨t, u, v, e⟩ := x; exact ⟨t, u, v, k _ _ (.inl rfl) e⟩
  | frz ob u ih => obtain ⟨e, q⟩ := x; exact ⟨k _ _ (.inl rfl) e, ih q⟩
  | tbl ps =>
    have e : h.get? a = some { cls := .none, data := .fields ps } := x
    show h'.get? a = some { cls := .none, data := .fields ps }
    exact k a _ (.inl rfl) e
  | met f y =>
    have e : h.get? a = some (PySem.W.methodObj (.ref f) (.ref y)) := x
    show h'.get? a = some (PySem.W.methodObj (.ref f) (.ref y))
    exact k a _ (.inl rfl) e
  | ext φ => obtain ⟨p, ⟨o, e⟩, st⟩ := x; exact ⟨st _ _ p fun o q => k _ _ (.inl rfl) q, ⟨o, k _ _ (.inl rfl) e⟩, st⟩
theorem HOk.lt (x : HOk P w H h) (e : H a = some o) : a < h.objs.size := (x a o e).lt
theorem HOk.fresh (x : HOk P w H h) (e : h.objs.size ≤ a) : H a = none := by
  cases q : H a with
  | none => rfl
  | some u => exact absurd (Nat.lt_of_lt_of_le (x.lt q) e) (Nat.lt_irrefl _)
theorem HOk.kept (x : HOk P w H h) (k : ∀ b u, h.get? b = some u → h'.get? b = some u) : HOk P w H h' := fun a o e =>
  (x a o e).stay (fun b u _ q => k b u q) (fun _ q => q) fun _ _ q => q
theorem HOk.laid (x : HOk P w H h) (k : ∀ b u, h.get? b = some u → h'.get? b = some u) (hp : h.objs.size ≤ a) (new : ObjOk P w (upd H a o) h' a o) : HOk P w (upd H a o) h' := fun b u e => by
  have hn := x.fresh hp
  by_cases hb : b = a
  · subst hb; rw [upd_same] at e; cases e; exact new
  · rw [upd_ne hb] at e
    exact (x b u e).stay (fun c v _ q => k c v q) (fun c q => by rw [upd_ne (ne_of_none q hn)]; exact q) fun c xs q => by rw [upd_ne (ne_of_none q hn)]; exact q
end
def Rd (H : Hp) (a : Addr) (u : HO) : Prop := H a = some u ∨ ∃ o, H a = some (.frz o u)
theorem Rd.ok {P : Program} {w : World} {H : Hp} {h : Heap} {a : Addr} {u : HO} (r : Rd H a u) (x : HOk P w H h) : ObjOk P w H h a u := by
  rcases r with r | ⟨o, r⟩
  · exact x a u r
  · obtain ⟨_, q⟩ := x a _ r
    exact q
def Mut : Option HO → Prop
  | some (.lst _) => True
  | some (.dK _) => True
  | some (.dT _) => True
  | some (.set _ _) => True
  | some (.ins _ _ _) => True
  | some (.ext _) => True
  | _ => False
section
variable {P : Program} {w : World} {H : Hp} {h h' : Heap} {x e : Addr} {o' : HO}
theorem HOk.write (ok : HOk P w H h) (mu : Mut (H x)) (he : e = x ∨ H e = some (.own x)) (k : ∀ b u, b ≠ e → h.get? b = some u → h'.get? b = some u) (heo : ∃ u, h'.get? e = some u)
    (new : ObjOk P w (upd H x o') h' x o') : HOk P w (upd H x o') h' := fun b u q => by
  have nown : ∀ c y, H c = some (.own y) → c ≠ x := fun c y r z => by subst z; rw [r] at mu; exact mu
  have ntup : ∀ c xs, H c = some (.tup xs) → c ≠ x := fun c xs r z => by subst z; rw [r] at mu; exact mu
  by_cases hb : b = x
  · subst hb; rw [upd_same] at q; cases q; exact new
  · rw [upd_ne hb] at q
    by_cases hbe : b = e
    · have q' : H b = some (.own x) := by
        rcases he with z | z
        · exact absurd (hbe.trans z) hb
        · rw [hbe]; exact z
      rw [q] at q'; cases q'
      obtain ⟨v, hv⟩ := heo
      exact ⟨v, by rw [hbe]; exact hv⟩
    · refine (ok b u q).stay (fun c v hc r => k c v ?_ r) (fun c r => by rw [upd_ne (nown c b r)]; exact r) fun c xs r => by rw [upd_ne (ntup c xs r)]; exact r
      rcases hc with rfl | hc
      · exact hbe
      · rintro rfl
        rcases he with z | z
        · exact nown c b hc z
        · rw [hc] at z; cases z; exact hb rfl
end
structure Un (fs ex : List Addr) (H H' : Hp) (h h' : Heap) : Prop where
  keep : ∀ b o, h.get? b = some o → H b = none → b ∉ fs → b ∉ ex → h'.get? b = some o
  slot : ∀ b o, h.get? b = some o → H b = none → b ∈ fs → b ∉ ex → ∃ sl, h'.get? b = some { o with slots := sl }
  free : ∀ b o, h.get? b = some o → H b = none → b ∉ ex → H' b = none
  there : ∀ b o, h.get? b = some o → b ∉ ex → ∃ o', h'.get? b = some o'
  tups : ∀ b xs, H b = some (.tup xs) → H' b = some (.tup xs)
  frzs : ∀ b o u, H b = some (.frz o u) → H' b = some (.frz o u)
  tbls : ∀ b ps, H b = some (.tbl ps) → ∃ more, H' b = some (.tbl (ps ++ more))
section
variable {fs fs' ex ex' : List Addr} {H H1 H2 : Hp} {h h1 h2 h' : Heap} {a x e : Addr} {o : HO}
theorem Un.any (u : Un fs ex H H1 h h1) {b : Addr} {ob : Obj} (q : h.get? b = some ob) (n : H b = none) (hx : b ∉ ex) : ∃ sl, h1.get? b = some { ob with slots := sl } := by
  by_cases hb : b ∈ fs
  · exact u.slot b ob q n hb hx
  · exact ⟨ob.slots, u.keep b ob q n hb hx⟩
theorem Un.kept (k : ∀ b u, h.get? b = some u → h'.get? b = some u) : Un fs ex H H h h' :=
  ⟨fun b ob q _ _ _ => k b ob q, fun b ob q _ _ _ => ⟨ob.slots, k b ob q⟩, fun _ _ _ n _ => n, fun b ob q _ => ⟨ob, k b ob q⟩, fun _ _ q => q, fun _ _ _ q => q, fun _ ps q => ⟨#[], by rw [q]; simp⟩⟩
theorem Un.refl : Un fs ex H H h h := Un.kept fun _ _ q => q
theorem Un.laid (k : ∀ b u, h.get? b = some u → h'.get? b = some u) (hp : h.objs.size ≤ a) (hn : H a = none) : Un fs ex H (upd H a o) h h' where
  keep := fun b u q _ _ _ => k b u q
  slot := fun b u q _ _ _ => ⟨u.slots, k b u q⟩
  free := fun b u q n _ => by rw [upd_ne (Nat.ne_of_lt (Nat.lt_of_lt_of_le (Heap.lt_size q) hp))]; exact n
  there := fun b u q _ => ⟨u, k b u q⟩
  tups := fun b xs q => by rw [upd_ne (ne_of_none q hn)]; exact q
  frzs := fun b u xs q => by rw [upd_ne (ne_of_none q hn)]; exact q
  tbls := fun b ps q => ⟨#[], by rw [upd_ne (ne_of_none q hn), q]; simp⟩
theorem Un.write (mu : Mut (H x)) (he : e = x ∨ H e = some (.own x)) (k : ∀ b u, b ≠ e → h.get? b = some u → h'.get? b = some u) (heo : ∃ u, h'.get? e = some u) : Un fs ex H (upd H x o) h h' := by
  have hx : ∀ b, H b = none → b ≠ x := fun b n z => by subst z; rw [n] at mu; exact mu
  have hb : ∀ b, H b = none → b ≠ e := fun b n z => by
    subst z
    rcases he with r | r
    · exact hx b n r
    · rw [n] at r; cases r
  have hm : ∀ b u, H b = some u → ¬ Mut (some u) → b ≠ x := fun b u q nm z => by subst z; rw [q] at mu; exact nm mu
  refine ⟨fun b u q n _ _ => k b u (hb b n) q, fun b u q n _ _ => ⟨u.slots, k b u (hb b n) q⟩, fun b u q n _ => by rw [upd_ne (hx b n)]; exact n, fun b u q _ => ?_,
    fun b xs q => by rw [upd_ne (hm b _ q fun z => z)]; exact q, fun b u xs q => by rw [upd_ne (hm b _ q fun z => z)]; exact q, fun b ps q => ⟨#[], by rw [upd_ne (hm b _ q fun z => z), q]; simp⟩⟩
  by_cases hbe : b = e
  · subst hbe; exact heo
  · exact ⟨u, k b u hbe q⟩
end
def trk (h : Heap) (H : Hp) : List Addr := (List.range h.objs.size).filter fun a => (H a).isSome
def hidT (h : Heap) (H : Hp) : Heap := PySem.W.hideAll h (trk h H)
theorem hidT_size (h : Heap) (H : Hp) : (hidT h H).objs.size = h.objs.size := PySem.W.hideAll_size _ _
theorem hidT_get {h : Heap} {H : Hp} {b : Addr} {o : Obj} (e : h.get? b = some o) (n : H b = none) : (hidT h H).get? b = some o :=
  PySem.W.hideAll_get _ e fun hm => by
    have q : (H b).isSome = true := (List.mem_filter.mp hm).2
    rw [n] at q; simp at q
theorem of_hidT {h : Heap} {H : Hp} {b : Addr} {o : Obj} (e : (hidT h H).get? b = some o) : h.get? b = some o ∧ H b = none := by
  have e' : h.get? b = some o := PySem.W.of_hideAll (trk h H) e
  refine ⟨e', ?_⟩
  cases q : H b with
  | none => rfl
  | some x =>
    have hm : b ∈ trk h H := List.mem_filter.mpr ⟨List.mem_range.mpr (Heap.lt_size e'), by simp [q]⟩
    have z : (hidT h H).get? b = none := PySem.W.hideAll_none (trk h H) hm
    rw [z] at e; cases e
def allNews (g h : Heap) (L : Addr) : List (Addr × Obj) := (List.range h.objs.size).filterMap fun a => if a = L ∨ (g.get? a).isSome = true then none else (h.get? a).map fun o => (a, o)
def rest (g h : Heap) (L d : Addr) : List (Addr × Obj) := (allNews g h L).filter fun p => decide (p.1 ≠ d)
end L2
namespace L2
open PySem PySem.Spec PyProof.Rows
structure Mod (K : PySem.W.Frag) (mg : Str → Option Value) (base : Heap) : Prop where
  kin : K.In base
  glob : base.Ns mainGlobals mg
  blt : ∃ mb, base.Ns builtinsNs mb ∧ ∀ x : Str, x ≠ "__name__" → mb x = bootBuiltins x
  nolimit : base.NoLimit
structure Cx where
  prog : Program
  w : World
  K : PySem.W.Frag
  mg : Str → Option Value
  base : Heap
  A : Around
  N : List Str
  s₀ : Shared
  H₀ : Hp
  env : Env
  outer : List Env
  stack : List Env
  ex : List Addr
  fn : Str → Bool
  calm : Bool
  pn : List (Addr × Obj)
  xe : Value → Shared → Prop
def frs (l : List Env) : List Addr := l.filterMap (·.frame)
abbrev Cx.fs (X : Cx) : List Addr := frs X.outer
def Vis (sc : Scope) (x : Str) : Prop := sc.names.lookup x = some .local ∨ sc.names.lookup x = some .cell ∨ sc.names.lookup x = some .free
def Loc (sc : Scope) (x : Str) : Prop := sc.names.lookup x = some .local ∨ sc.names.lookup x = some .cell
def Look (env : Env) (h : Heap) (m : Str → Option Value) (x : Str) (u : Value) : Prop :=
  (env.kindOf x = some .local ∧ m x = some u) ∨ ((env.kindOf x = some .cell ∨ env.kindOf x = some .free) ∧ ∃ c, env.cells.lookup x = some c ∧ h.IsCell c (some u))
structure Cx.Ok (X : Cx) : Prop where
  mod : Mod X.K X.mg X.base
  kind : X.env.scope.kind = .function
  glob : X.env.globals = mainGlobals
  blt : X.env.builtins = builtinsNs
  above : X.s₀.heap.objs.size ≤ X.env.locals
  inj : ∀ x y c, X.env.cells.lookup x = some c → X.env.cells.lookup y = some c → x = y
  has : ∀ x, (X.env.kindOf x = some .cell ∨ X.env.kindOf x = some .free) → ∃ c, X.env.cells.lookup x = some c
  cab : ∀ x c, X.fn x = true → X.env.cells.lookup x = some c → X.s₀.heap.objs.size ≤ c
  hd : X.calm = true → X.A.handled = none
  frames : X.A.frames = some X.stack
  stk : X.stack = X.outer ∨ (X.stack = X.env :: X.outer ∧ X.env.frame = some X.env.locals)
  exf : ∀ b ∈ X.ex, b ≠ X.env.locals ∧ ∀ x c, X.env.cells.lookup x = some c → c ≠ b
  bs : ∀ b o, X.base.get? b = some o → X.s₀.heap.get? b = some o ∧ X.H₀ b = none
  bsz : X.base.objs.size ≤ X.s₀.heap.objs.size
  noex : ∀ b o, X.base.get? b = some o → b ∉ X.ex
  exfs : ∀ b ∈ X.ex, b ∉ X.fs
  funs : X.s₀.heap.FunFrames X.base X.outer
  frf : ∀ b ∈ X.fs, X.H₀ b = none
structure Inv (X : Cx) (pins : List (Addr × Obj)) (σ : List (Option V)) (H : Hp) (s : Shared) : Prop where
  ok : X.Ok
  os : s.os = X.s₀.os
  bare : AllBare s.gens
  base : Un X.fs X.ex X.H₀ H X.s₀.heap s.heap
  loc : ∃ m, s.heap.Ns X.env.locals m ∧ ∀ (i : Nat) (x : Str) (v : V), X.N[i]? = some x → σ[i]? = some (some v) → Vis X.env.scope x → ∃ u, RelV v u ∧ Look X.env s.heap m x u
  cell : ∀ x c, X.env.cells.lookup x = some c → ∃ v, s.heap.IsCell c v
  free : H X.env.locals = none
  freeC : ∀ x c, X.env.cells.lookup x = some c → H c = none
  pin : ∀ p ∈ X.pn ++ pins, s.heap.get? p.1 = some p.2 ∧ H p.1 = none ∧ p.1 ≠ X.env.locals ∧ p.1 ∉ X.fs ∧ ∀ v, p.2.data ≠ .cell v
  hok : HOk X.prog X.w H s.heap
  len : σ.length = X.N.length
section
variable {X : Cx} {pins : List (Addr × Obj)} {σ : List (Option V)} {H H' : Hp} {s : Shared} {h' : Heap}
theorem Cx.Ok.nofr (ok : X.Ok) {b : Addr} {o : Obj} (e : X.base.get? b = some o) : b ∉ X.fs := fun hb => by
  have := (ok.funs.mem hb).1
  rw [e] at this; cases this
theorem Inv.bs (I : Inv X pins σ H s) : ∀ b o, X.base.get? b = some o → s.heap.get? b = some o ∧ H b = none := fun b o e =>
  ⟨I.base.keep b o (I.ok.bs b o e).1 (I.ok.bs b o e).2 (I.ok.nofr e) (I.ok.noex b o e), I.base.free b o (I.ok.bs b o e).1 (I.ok.bs b o e).2 (I.ok.noex b o e)⟩
theorem Inv.bk (I : Inv X pins σ H s) : ∀ b o, X.base.get? b = some o → s.heap.get? b = some o := fun b o e => (I.bs b o e).1
theorem Inv.mod (I : Inv X pins σ H s) : Mod X.K X.mg X.base := I.ok.mod
theorem Inv.kIn (I : Inv X pins σ H s) : X.K.In s.heap := I.ok.mod.kin.keeps I.bk
theorem Inv.fr (I : Inv X pins σ H s) : ∃ m, Fr X.base X.env.locals s.heap m :=
  let ⟨m, hn, _⟩ := I.loc
  ⟨m, hn, I.bk, Nat.le_trans I.ok.bsz I.ok.above⟩
theorem Inv.lt (I : Inv X pins σ H s) : X.env.locals < s.heap.objs.size := let ⟨_, hn, _⟩ := I.loc; hn.lt
theorem Inv.sz (I : Inv X pins σ H s) : X.s₀.heap.objs.size ≤ s.heap.objs.size := Nat.le_trans I.ok.above (Nat.le_of_lt I.lt)
theorem Inv.nofs (I : Inv X pins σ H s) {a : Addr} (h : s.heap.objs.size ≤ a) : a ∉ X.fs := fun hb => by
  obtain ⟨_, o, ho, _⟩ := I.ok.funs.mem hb
  exact absurd (Nat.lt_of_lt_of_le (Heap.lt_size ho) (Nat.le_trans I.sz h)) (Nat.lt_irrefl _)
theorem Inv.cne (I : Inv X pins σ H s) : ∀ x c, X.env.cells.lookup x = some c → c ≠ X.env.locals := fun x c e z => by
  obtain ⟨v, o, ho, hd⟩ := I.cell x c e
  obtain ⟨m, ⟨o', es, ep, ho', hd', _⟩, _⟩ := I.loc
  rw [z, ho'] at ho; cases ho; rw [hd'] at hd; cases hd
theorem Inv.funs (I : Inv X pins σ H s) : s.heap.FunFrames X.base X.outer := by
  have all : ∀ (l : List Env), (∀ b ∈ frs l, b ∈ X.fs) → X.s₀.heap.FunFrames X.base l → s.heap.FunFrames X.base l := by
    intro l
    induction l with
    | nil => intro _ _; trivial
    | cons env r ih =>
      intro hs hl
      obtain ⟨hk, ⟨L, o, hf, hn, ho, hd⟩, hr⟩ := hl
      have hL : L ∈ X.fs := hs L (by unfold frs; rw [List.filterMap_cons, hf]; exact List.mem_cons_self)
      obtain ⟨sl, e⟩ := I.base.slot L o ho (I.ok.frf L hL) hL fun z => I.ok.exfs L z hL
      exact ⟨hk, ⟨L, _, hf, hn, e, hd⟩, ih (fun b hb => hs b (by unfold frs; rw [List.filterMap_cons, hf]; exact List.mem_cons_of_mem _ hb)) hr⟩
  exact all X.outer (fun _ hb => hb) I.ok.funs
theorem Inv.stack (I : Inv X pins σ H s) : s.heap.FunFrames X.base X.stack := by
  rcases I.ok.stk with e | ⟨e, hf⟩
  · rw [e]; exact I.funs
  · rw [e]
    obtain ⟨m, hn, _⟩ := I.loc
    refine .cons (by rw [I.ok.kind]; decide) hf hn ?_ I.funs
    exact Heap.get?_none_of_le (Nat.le_trans I.ok.bsz I.ok.above)
theorem Inv.stkSub (I : Inv X pins σ H s) : ∀ b ∈ frs X.stack, b ∈ X.env.locals :: X.fs := fun b hb => by
  rcases I.ok.stk with e | ⟨e, hf⟩
  · rw [e] at hb; exact List.mem_cons_of_mem _ hb
  · rw [e] at hb
    unfold frs at hb
    rw [List.filterMap_cons, hf] at hb
    exact hb
theorem Inv.stkFree (I : Inv X pins σ H s) : ∀ b ∈ frs X.stack, H b = none := fun b hb => by
  rcases List.mem_cons.mp (I.stkSub b hb) with e | hb
  · rw [e]; exact I.free
  · obtain ⟨_, o, ho, _⟩ := I.ok.funs.mem hb
    exact I.base.free b o ho (I.ok.frf b hb) fun z => I.ok.exfs b z hb
theorem Inv.step {g' : Array GenState} {t' : Nat} {d' : Drawn} {ch : List Addr} (I : Inv X pins σ H s)
    (hch : ∀ b ∈ ch, (b ∈ X.ex ∨ X.s₀.heap.objs.size ≤ b) ∧ b ≠ X.env.locals ∧ (∀ x c, X.env.cells.lookup x = some c → c ≠ b) ∧ ∀ p ∈ X.pn ++ pins, p.1 ≠ b)
    (keep : ∀ b o, b ≠ X.env.locals → b ∉ X.fs → b ∉ ch → s.heap.get? b = some o → H b = none → h'.get? b = some o)
    (slot : ∀ b o, b ≠ X.env.locals → b ∈ X.fs → b ∉ ch → s.heap.get? b = some o → H b = none → ∃ sl, h'.get? b = some { o with slots := sl }) (free : ∀ b o, b ∉ ch → s.heap.get? b = some o → H b = none → H' b = none)
    (there : ∀ b o, b ∉ ch → s.heap.get? b = some o → ∃ o', h'.get? b = some o')
    (tups : ∀ b xs, H b = some (.tup xs) → H' b = some (.tup xs)) (frzs : ∀ b o u, H b = some (.frz o u) → H' b = some (.frz o u)) (tbls : ∀ b ps, H b = some (.tbl ps) → ∃ more, H' b = some (.tbl (ps ++ more)))
    (ns : ∀ m, s.heap.Ns X.env.locals m → h'.Ns X.env.locals m) (hok : HOk X.prog X.w H' h') (hg : AllBare g') :
    Inv X pins σ H' { s with heap := h', gens := g', drawn := d', toks := t' } := by
  have neL : ∀ b o, X.s₀.heap.get? b = some o → b ≠ X.env.locals := fun b o e => Nat.ne_of_lt (Nat.lt_of_lt_of_le (Heap.lt_size e) I.ok.above)
  have neC : ∀ b o, X.s₀.heap.get? b = some o → b ∉ X.ex → b ∉ ch := fun b o e hx hb => by
    rcases (hch b hb).1 with z | z
    · exact hx z
    · exact absurd (Nat.lt_of_lt_of_le (Heap.lt_size e) z) (Nat.lt_irrefl _)
  have cellK : ∀ x c, X.env.cells.lookup x = some c → ∀ v, s.heap.IsCell c v → h'.IsCell c v := fun x c e v ⟨o, ho, hd⟩ => by
    have nch : c ∉ ch := fun z => (hch c z).2.2.1 x c e rfl
    by_cases hc : c ∈ X.fs
    · obtain ⟨sl, q⟩ := slot c o (I.cne x c e) hc nch ho (I.freeC x c e)
      exact ⟨_, q, hd⟩
    · exact ⟨o, keep c o (I.cne x c e) hc nch ho (I.freeC x c e), hd⟩
  refine ⟨I.ok, I.os, hg, ⟨fun b o e n hb hx => ?_, fun b o e n hb hx => ?_, fun b o e n hx => ?_, fun b o e hx => ?_, fun b xs e => tups b xs (I.base.tups b xs e), fun b o xs e => frzs b o xs (I.base.frzs b o xs e), fun b ps e => ?_⟩, ?_, fun x c e => ?_, ?_, fun x c e => ?_, fun p hp => ?_, hok, I.len⟩
  · exact keep b o (neL b o e) hb (neC b o e hx) (I.base.keep b o e n hb hx) (I.base.free b o e n hx)
  · obtain ⟨sl, e1⟩ := I.base.slot b o e n hb hx
    obtain ⟨sl', e2⟩ := slot b _ (neL b o e) hb (neC b o e hx) e1 (I.base.free b o e n hx)
    exact ⟨sl', e2⟩
  · obtain ⟨o', e1⟩ := I.base.there b o e hx
    exact free b o' (neC b o e hx) e1 (I.base.free b o e n hx)
  · obtain ⟨o', e1⟩ := I.base.there b o e hx
    exact there b o' (neC b o e hx) e1
  · obtain ⟨m1, e1⟩ := I.base.tbls b ps e
    obtain ⟨m2, e2⟩ := tbls b _ e1
    exact ⟨m1 ++ m2, by rw [e2, Array.append_assoc]⟩
  · obtain ⟨m, hn, hl⟩ := I.loc
    refine ⟨m, ns m hn, fun i x v e1 e2 e3 => ?_⟩
    obtain ⟨u, r, l⟩ := hl i x v e1 e2 e3
    refine ⟨u, r, ?_⟩
    rcases l with l | ⟨k, c, e, z⟩
    · exact .inl l
    · exact .inr ⟨k, c, e, cellK x c e _ z⟩
  · obtain ⟨v, z⟩ := I.cell x c e
    exact ⟨v, cellK x c e v z⟩
  · obtain ⟨m, ⟨o, _, _, ho, _⟩, _⟩ := I.loc
    exact free _ o (fun z => (hch _ z).2.1 rfl) ho I.free
  · obtain ⟨v, o, ho, hd⟩ := I.cell x c e
    exact free c o (fun z => (hch c z).2.2.1 x c e rfl) ho (I.freeC x c e)
  · obtain ⟨e, n, ne, nf, d⟩ := I.pin p hp
    have nch : p.1 ∉ ch := fun z => (hch p.1 z).2.2.2 p hp rfl
    exact ⟨keep p.1 p.2 ne nf nch e n, free p.1 p.2 nch e n, ne, nf, d⟩
theorem Inv.un {t' : Nat} (I : Inv X pins σ H s) (u : Un X.fs [] H H' s.heap h') (hok : HOk X.prog X.w H' h') : Inv X pins σ H' { s with heap := h', toks := t' } := by
  obtain ⟨m, ⟨o, es, ep, ho, r⟩, _⟩ := id I.loc
  obtain ⟨sl, hL⟩ := u.any ho I.free (by simp)
  exact I.step (g' := s.gens) (d' := s.drawn) (ch := []) (fun _ z => nomatch z) (fun b o _ hb _ e n => u.keep b o e n hb (by simp)) (fun b o _ hb _ e n => u.slot b o e n hb (by simp)) (fun b o _ e n => u.free b o e n (by simp)) (fun b o _ e => u.there b o e (by simp)) u.tups u.frzs u.tbls (fun m' hm => by
    obtain ⟨o', es', ep', ho', r'⟩ := hm
    rw [ho] at ho'; cases ho'
    exact ⟨_, es', ep', hL, r'⟩) hok I.bare
theorem Inv.call {g' : Array GenState} {t' : Nat} {d' : Drawn} {ch : List Addr} (I : Inv X pins σ H s) (u : Un (frs X.stack) ch H H' s.heap h') (hok : HOk X.prog X.w H' h') (hg : AllBare g')
    (hch : ∀ b ∈ ch, (b ∈ X.ex ∨ X.s₀.heap.objs.size ≤ b) ∧ b ≠ X.env.locals ∧ (∀ x c, X.env.cells.lookup x = some c → c ≠ b) ∧ ∀ p ∈ X.pn ++ pins, p.1 ≠ b) :
    Inv X pins σ H' { s with heap := h', gens := g', drawn := d', toks := t' } := by
  obtain ⟨m, ⟨o, es, ep, ho, r⟩, _⟩ := id I.loc
  obtain ⟨sl, hL⟩ := u.any ho I.free fun z => (hch _ z).2.1 rfl
  exact I.step (ch := ch) hch (fun b o hL hb hc e n => u.keep b o e n (fun z => (List.mem_cons.mp (I.stkSub b z)).elim hL hb) hc) (fun b o _ _ hc e n => u.any e n hc) (fun b o hc e n => u.free b o e n hc) (fun b o hc e => u.there b o e hc) u.tups u.frzs u.tbls (fun m' hm => by
    obtain ⟨o', es', ep', ho', r'⟩ := hm
    rw [ho] at ho'; cases ho'
    exact ⟨_, es', ep', hL, r'⟩) hok hg
theorem Inv.turned {t' : Nat} {it : Addr} (I : Inv X pins σ H s) (k : ∀ b o, b ≠ it → s.heap.get? b = some o → h'.get? b = some o) (hn : H it = none) (hL : it ≠ X.env.locals)
    (h1 : it ∈ X.ex ∨ X.s₀.heap.objs.size ≤ it) (h2 : ∀ x c, X.env.cells.lookup x = some c → c ≠ it) (h3 : ∀ p ∈ X.pn ++ pins, p.1 ≠ it) : Inv X pins σ H { s with heap := h', toks := t' } := by
  have nit : ∀ b u, H b = some u → b ≠ it := fun b u e z => by rw [z, hn] at e; cases e
  refine I.step (g' := s.gens) (d' := s.drawn) (ch := [it]) (fun b hb => ?_) (fun b o _ _ hc e _ => k b o (fun z => hc (by simp [z])) e) (fun b o _ _ hc e _ => ⟨o.slots, k b o (fun z => hc (by simp [z])) e⟩) (fun _ _ _ _ n => n)
    (fun b o hc e => ⟨o, k b o (fun z => hc (by simp [z])) e⟩) (fun _ _ e => e) (fun _ _ _ e => e) (fun b ps e => ⟨#[], by rw [e]; simp⟩) (fun m hm => ?_) (fun b u e => ?_) I.bare
  · have e : b = it := by simpa using hb
    subst e
    exact ⟨h1, hL, h2, h3⟩
  · obtain ⟨o, es, ep, ho, r⟩ := hm
    exact ⟨o, es, ep, k _ o (Ne.symm hL) ho, r⟩
  · refine (I.hok b u e).stay (fun c v hc q => k c v ?_ q) (fun _ q => q) fun _ _ q => q
    rcases hc with z | z
    · rw [z]; exact nit b u e
    · exact nit c _ z
theorem Inv.tok (I : Inv X pins σ H s) (t : Nat) : Inv X pins σ H { s with toks := t } := I.un (h' := s.heap) (t' := t) Un.refl I.hok
theorem Inv.kept {t' : Nat} (I : Inv X pins σ H s) (k : ∀ b u, s.heap.get? b = some u → h'.get? b = some u) : Inv X pins σ H { s with heap := h', toks := t' } := I.un (Un.kept k) (I.hok.kept k)
theorem Inv.laid {a : Addr} {o : HO} {t' : Nat} (I : Inv X pins σ H s) (k : ∀ b u, s.heap.get? b = some u → h'.get? b = some u) (hp : s.heap.objs.size ≤ a) (new : ObjOk X.prog X.w (upd H a o) h' a o) :
    Inv X pins σ (upd H a o) { s with heap := h', toks := t' } := I.un (Un.laid k hp (I.hok.fresh hp)) (I.hok.laid k hp new)
theorem Inv.write {x e : Addr} {o : HO} {t' : Nat} (I : Inv X pins σ H s) (mu : Mut (H x)) (he : e = x ∨ H e = some (.own x)) (k : ∀ b u, b ≠ e → s.heap.get? b = some u → h'.get? b = some u) (heo : ∃ u, h'.get? e = some u)
    (new : ObjOk X.prog X.w (upd H x o) h' x o) : Inv X pins σ (upd H x o) { s with heap := h', toks := t' } := I.un (Un.write mu he k heo) (I.hok.write mu he k heo new)
theorem Inv.weak {σ' : List (Option V)} (I : Inv X pins σ H s) (hl : σ'.length = σ.length) (w : ∀ (i : Nat) v, σ'[i]? = some (some v) → σ[i]? = some (some v)) : Inv X pins σ' H s :=
  ⟨I.ok, I.os, I.bare, I.base, let ⟨m, hn, hl'⟩ := I.loc; ⟨m, hn, fun i x v e1 e2 e3 => hl' i x v e1 (w i v e2) e3⟩, I.cell, I.free, I.freeC, I.pin, I.hok, hl.trans I.len⟩
theorem Inv.pins_of {pins' : List (Addr × Obj)} (I : Inv X pins σ H s) (h : ∀ p ∈ pins', s.heap.get? p.1 = some p.2 ∧ H p.1 = none ∧ p.1 ≠ X.env.locals ∧ p.1 ∉ X.fs ∧ ∀ v, p.2.data ≠ .cell v) : Inv X pins' σ H s :=
  ⟨I.ok, I.os, I.bare, I.base, I.loc, I.cell, I.free, I.freeC, fun p hp => (List.mem_append.mp hp).elim (fun z => I.pin p (List.mem_append_left _ z)) (h p), I.hok, I.len⟩
theorem nodup_ix {N : List Str} (hN : N.Nodup) {i j : Nat} {x : Str} (a : N[i]? = some x) (b : N[j]? = some x) : i = j := by
  obtain ⟨h1, e1⟩ := List.getElem?_eq_some_iff.mp a
  obtain ⟨h2, e2⟩ := List.getElem?_eq_some_iff.mp b
  exact (List.getElem_inj hN).mp (e1.trans e2.symm)
theorem store_ok2 {M : Model} {A : Around} {E : Value → Shared → Prop} {i : Nat} {x : Str} {v : V} {u : Value} {Q : Unit → Shared → Prop} (I : Inv X pins σ H s) (hN : X.N.Nodup) (hi : X.N[i]? = some x) (hx : Loc X.env.scope x) (r : RelV v u)
    (h : ∀ s', Inv X pins (σ.set i (some v)) H s' → (∃ a, Heap.SameBut a s.heap s'.heap ∧ (a = X.env.locals ∨ X.env.cells.lookup x = some a)) → Q () s') (hf : X.fn x = true ∨ X.env.scope.names.lookup x = some .local := by first | exact .inl rfl | exact .inr rfl | assumption) : wpAny M A (storeName X.env x u) Q E s := by
  obtain ⟨m, hn, hl⟩ := id I.loc
  have hcls : (X.env.scope.kind == .class || (X.env.scope.kind == .module && X.env.locals != X.env.globals)) = false := by rw [I.ok.kind]; rfl
  have hiσ : i < σ.length := by rw [I.len]; exact (List.getElem?_eq_some_iff.mp hi).1
  have cne := I.cne
  have tracked : ∀ {a : Addr} {h' : Heap}, (∃ o, s.heap.get? a = some o ∧ H a = none) → Heap.SameBut a s.heap h' → HOk X.prog X.w H h' := fun {a h'} ha hs b ob e => by
    obtain ⟨_, _, hfree⟩ := ha
    refine (I.hok b ob e).stay (fun c w' hc q => (hs.2 c ?_).trans q) (fun _ q => q) fun _ _ q => q
    rintro rfl
    rcases hc with rfl | hc
    · rw [hfree] at e; cases e
    · rw [hfree] at hc; cases hc
  rcases hx with hk | hk
  · refine wpAny_storeName_local hk hn (fun h' hn' hs => ?_) hcls
    obtain ⟨oL, _, _, hoL, _⟩ := id hn
    refine h _ ⟨I.ok, I.os, I.bare, ⟨fun b o e n hb hx => ?_, fun b o e n hb hx => ?_, I.base.free, fun b o e hx => ?_, I.base.tups, I.base.frzs, I.base.tbls⟩, ⟨_, hn', fun j y v' e1 e2 e3 => ?_⟩, fun y c e => ?_, I.free, I.freeC, fun p hp => ?_, tracked ⟨oL, hoL, I.free⟩ hs, by simpa using I.len⟩ ⟨_, hs, .inl rfl⟩
    · exact (hs.2 b (Nat.ne_of_lt (Nat.lt_of_lt_of_le (Heap.lt_size e) I.ok.above))).trans (I.base.keep b o e n hb hx)
    · obtain ⟨sl, e1⟩ := I.base.slot b o e n hb hx
      exact ⟨sl, (hs.2 b (Nat.ne_of_lt (Nat.lt_of_lt_of_le (Heap.lt_size e) I.ok.above))).trans e1⟩
    · obtain ⟨o', e1⟩ := I.base.there b o e hx
      exact ⟨o', (hs.2 b (Nat.ne_of_lt (Nat.lt_of_lt_of_le (Heap.lt_size e) I.ok.above))).trans e1⟩
    · by_cases hj : j = i
      · subst hj
        rw [hi] at e1; cases e1
        rw [List.getElem?_set_self hiσ] at e2
        cases e2
        exact ⟨u, r, .inl ⟨hk, by simp⟩⟩
      · rw [List.getElem?_set_ne (Ne.symm hj)] at e2
        obtain ⟨u', r', q⟩ := hl j y v' e1 e2 e3
        refine ⟨u', r', ?_⟩
        rcases q with ⟨k, e⟩ | ⟨k, c, e, z⟩
        · refine .inl ⟨k, ?_⟩
          have : y ≠ x := fun e => hj (nodup_ix hN e1 (e ▸ hi))
          simp [this, e]
        · exact .inr ⟨k, c, e, z.sameBut hs (cne y c e)⟩
    · obtain ⟨w', z⟩ := I.cell y c e
      exact ⟨w', z.sameBut hs (cne y c e)⟩
    · obtain ⟨e, n, ne, nf, d⟩ := I.pin p hp
      exact ⟨(hs.2 p.1 ne).trans e, n, ne, nf, d⟩
  · have hfn : X.fn x = true := by
      rcases hf with z | z
      · exact z
      · rw [z] at hk; cases hk
    obtain ⟨c, hc⟩ := I.ok.has x (.inl hk)
    obtain ⟨w', z⟩ := I.cell x c hc
    refine wpAny_storeName_cell I.ok.kind hk hc z (fun h' hc' hs => ?_)
    obtain ⟨oc, hoc, hocd⟩ := id z
    refine h { s with heap := h' } ⟨I.ok, I.os, I.bare, ⟨fun b o e n hb hx => ?_, fun b o e n hb hx => ?_, I.base.free, fun b o e hx => ?_, I.base.tups, I.base.frzs, I.base.tbls⟩, ⟨m, hn.sameBut hs (Ne.symm (cne x c hc)), fun j y v' e1 e2 e3 => ?_⟩, fun y c' e => ?_, I.free, I.freeC, fun p hp => ?_, tracked ⟨oc, hoc, I.freeC x c hc⟩ hs, by simpa using I.len⟩ ⟨c, hs, .inr hc⟩
    · exact (hs.2 b (Nat.ne_of_lt (Nat.lt_of_lt_of_le (Heap.lt_size e) (I.ok.cab x c hfn hc)))).trans (I.base.keep b o e n hb hx)
    · obtain ⟨sl, e1⟩ := I.base.slot b o e n hb hx
      exact ⟨sl, (hs.2 b (Nat.ne_of_lt (Nat.lt_of_lt_of_le (Heap.lt_size e) (I.ok.cab x c hfn hc)))).trans e1⟩
    · obtain ⟨o', e1⟩ := I.base.there b o e hx
      exact ⟨o', (hs.2 b (Nat.ne_of_lt (Nat.lt_of_lt_of_le (Heap.lt_size e) (I.ok.cab x c hfn hc)))).trans e1⟩
    · by_cases hj : j = i
      · subst hj
        rw [hi] at e1; cases e1
        rw [List.getElem?_set_self hiσ] at e2
        cases e2
        exact ⟨u, r, .inr ⟨.inl hk, c, hc, hc'⟩⟩
      · rw [List.getElem?_set_ne (Ne.symm hj)] at e2
        obtain ⟨u', r', q⟩ := hl j y v' e1 e2 e3
        refine ⟨u', r', ?_⟩
        rcases q with q | ⟨k, c', e, z'⟩
        · exact .inl q
        · refine .inr ⟨k, c', e, z'.sameBut hs ?_⟩
          rintro rfl
          exact hj (nodup_ix hN e1 (I.ok.inj _ _ _ e hc ▸ hi))
    · by_cases hcc : c' = c
      · subst hcc; exact ⟨_, hc'⟩
      · obtain ⟨w2, z2⟩ := I.cell y c' e
        exact ⟨w2, z2.sameBut hs hcc⟩
    · obtain ⟨e, n, ne, nf, d⟩ := I.pin p hp
      refine ⟨(hs.2 p.1 ?_).trans e, n, ne, nf, d⟩
      intro q
      rw [q, hoc] at e
      have q' : oc = p.2 := Option.some.inj e
      exact d w' (by rw [← q']; exact hocd)
theorem store_ok {M : Model} {A : Around} {E : Value → Shared → Prop} {i : Nat} {x : Str} {v : V} {u : Value} {Q : Unit → Shared → Prop} (I : Inv X pins σ H s) (hN : X.N.Nodup) (hi : X.N[i]? = some x) (hx : Loc X.env.scope x) (r : RelV v u)
    (h : ∀ s', Inv X pins (σ.set i (some v)) H s' → Q () s') (hf : X.fn x = true ∨ X.env.scope.names.lookup x = some .local := by first | exact .inl rfl | exact .inr rfl | assumption) : wpAny M A (storeName X.env x u) Q E s :=
  store_ok2 I hN hi hx r (fun s' I' _ => h s' I') hf
theorem Inv.call' {s' : Shared} {ch : List Addr} (I : Inv X pins σ H s) (ho : s'.os = s.os) (u : Un (frs X.stack) ch H H' s.heap s'.heap) (hok : HOk X.prog X.w H' s'.heap) (hg : AllBare s'.gens)
    (hch : ∀ b ∈ ch, (b ∈ X.ex ∨ X.s₀.heap.objs.size ≤ b) ∧ b ≠ X.env.locals ∧ (∀ x c, X.env.cells.lookup x = some c → c ≠ b) ∧ ∀ p ∈ X.pn ++ pins, p.1 ≠ b) : Inv X pins σ H' s' := by
  obtain ⟨h', g', d', t', o'⟩ := s'
  have e : o' = s.os := ho
  subst e
  exact I.call (g' := g') (t' := t') (d' := d') u hok hg hch
end
abbrev XK := Value → Option Addr → Hp → Prop
abbrev St := List (Option V)
abbrev VK := V → Hp → Prop
abbrev TE := St → Hp → VK → Prop
abbrev TT := St → Hp → (Bool → Hp → Prop) → Prop
abbrev TA := St → Hp → (List V → Hp → Prop) → Prop
structure Ends where
  nx : St → Hp → Prop
  rt : VK
  bk : St → Hp → Prop := fun _ _ => False
  ct : St → Hp → Prop := fun _ _ => False
abbrev TS := Ends → St → Hp → Prop
def EP (X : Cx) (pins : List (Addr × Obj)) (σ : St) (Q : VK) (u : Value) (s' : Shared) : Prop := ∃ v H', Inv X pins σ H' s' ∧ RelV v u ∧ Q v H'
def TP (X : Cx) (pins : List (Addr × Obj)) (σ : St) (Q : Bool → Hp → Prop) (b : Bool) (s' : Shared) : Prop := ∃ H', Inv X pins σ H' s' ∧ Q b H'
def AP (X : Cx) (pins : List (Addr × Obj)) (σ : St) (Q : List V → Hp → Prop) (us : List Value) (s' : Shared) : Prop := ∃ vs H', Inv X pins σ H' s' ∧ Vals vs us ∧ Q vs H'
def SP (X : Cx) (pins : List (Addr × Obj)) (D : Ends) (f : Flow) (s' : Shared) : Prop :=
  match f with
  | .next => ∃ σ' H', Inv X pins σ' H' s' ∧ D.nx σ' H'
  | .brk => ∃ σ' H', Inv X pins σ' H' s' ∧ D.bk σ' H'
  | .cont => ∃ σ' H', Inv X pins σ' H' s' ∧ D.ct σ' H'
  | .ret u => ∃ v σ' H', Inv X pins σ' H' s' ∧ RelV v u ∧ D.rt v H'
def PE (X : Cx) (e : Expr) (t : TE) : Prop :=
  ∀ (pins : List (Addr × Obj)) (s : Shared) (σ : St) (H : Hp) (Q : VK), Inv X pins σ H s → t σ H Q → wpAny (model X.prog X.w) X.A (eval e X.env) (EP X pins σ Q) X.xe s
def PT (X : Cx) (e : Expr) (t : TT) : Prop :=
  ∀ (pins : List (Addr × Obj)) (s : Shared) (σ : St) (H : Hp) (Q : Bool → Hp → Prop), Inv X pins σ H s → t σ H Q → wpAny (model X.prog X.w) X.A (isTrue e X.env (eval e X.env)) (TP X pins σ Q) X.xe s
def PW (X : Cx) (e : Expr) (t : TT) : Prop :=
  ∀ (whole : Sem Value) (pins : List (Addr × Obj)) (s : Shared) (σ : St) (H : Hp) (Q : Bool → Hp → Prop), Inv X pins σ H s → t σ H Q → wpAny (model X.prog X.w) X.A (isTrue e X.env whole) (TP X pins σ Q) X.xe s
theorem PW.pt {X : Cx} {e : Expr} {t : TT} (h : PW X e t) : PT X e t := h _
def PA (X : Cx) (es : List Expr) (t : TA) : Prop :=
  ∀ (pos : Pos) (pins : List (Addr × Obj)) (s : Shared) (σ : St) (H : Hp) (Q : List V → Hp → Prop), Inv X pins σ H s → t σ H Q → wpAny (model X.prog X.w) X.A (spliced (backTo pos (starEach es X.env))) (AP X pins σ Q) X.xe s
def PS (X : Cx) (st : Stmt) (t : TS) : Prop :=
  ∀ (pins : List (Addr × Obj)) (s : Shared) (σ : St) (H : Hp) (D : Ends), Inv X pins σ H s → t D σ H → wpAny (model X.prog X.w) X.A (exec st X.env) (SP X pins D) X.xe s
def PSs (X : Cx) (st : List Stmt) (t : TS) : Prop :=
  ∀ (pins : List (Addr × Obj)) (s : Shared) (σ : St) (H : Hp) (D : Ends), Inv X pins σ H s → t D σ H → wpAny (model X.prog X.w) X.A (execs st X.env) (SP X pins D) X.xe s
theorem thn {α : Type} {t : Sem α} {Q Q' : α → Shared → Prop} {M : Model} {A : Around} {E : Value → Shared → Prop} {s : Shared} (h : wpAny M A t Q E s) (hQ : ∀ a s, Q a s → Q' a s) : wpAny M A t Q' E s := wpAny_mono h hQ fun _ _ x => x
end L2
namespace L2
open PySem PySem.Spec PyProof.Rows
section
variable {X : Cx}
def tVar (i : Nat) : TE := fun σ H Q => ∃ v, σ[i]? = some (some v) ∧ Q v H
def tC (v : V) : TE := fun _ H Q => Q v H
theorem pe_var {i : Nat} {x : Str} {pos : Pos} (hN : X.N[i]? = some x) (hv : Vis X.env.scope x) (hd : (x == ("__debug__" : Str)) = false := by decide) (hcd : (x == ("__classdict__" : Str)) = false := by decide) : PE X (.Name x pos) (tVar i) := by
  intro pins s σ H Q I h
  obtain ⟨v, e, h⟩ := h
  obtain ⟨m, hn, hl⟩ := I.loc
  obtain ⟨u, r, l⟩ := hl i x v hN e hv
  have fin : EP X pins σ Q u s := ⟨v, H, I, r, h⟩
  rcases l with ⟨hk, hm⟩ | ⟨hk, c, hc, hcell⟩
  · exact wpAny_Name (wpAny_loadName_local I.ok.kind hk hn hm fin) hd
  · rcases hk with hk | hk
    · exact wpAny_Name (wpAny_loadName_cell I.ok.kind hk hc hcell fin) hd
    · exact wpAny_Name (wpAny_loadName_free I.ok.kind hk hc hcell fin hcd) hd
theorem pe_int {i j pos} : PE X (.Constant (.int i) j pos) (tC (.int i)) := fun _ _ _ H _ I h => wpAny_Constant_int ⟨.int i, H, I.tok _, ⟨_, rfl⟩, h⟩
theorem pe_bl {b j pos} : PE X (.Constant (.bool b) j pos) (tC (.bl b)) := fun _ _ _ H _ I h => Constant_bool ⟨.bl b, H, I, rfl, h⟩
theorem pe_str {x j pos} : PE X (.Constant (.str x) j pos) (tC (.str x)) := fun _ _ _ H _ I h => Calls.Constant_str ⟨.str x, H, I.tok _, ⟨_, rfl⟩, h⟩
def Gl (X : Cx) (x : Str) : Prop := X.env.kindOf x = some .globalImplicit
theorem ld_glob {E : Value → Shared → Prop} {pins : List (Addr × Obj)} {s : Shared} {σ : St} {H : Hp} {x : Str} {u : Value} {pos : Pos} {Q : Value → Shared → Prop} (I : Inv X pins σ H s) (hg : Gl X x) (hm : X.mg x = some u) (h : Q u s)
    (hd : (x == ("__debug__" : Str)) = false := by decide) : wpAny (model X.prog X.w) X.A (eval (.Name x pos) X.env) Q E s :=
  Calls.Name_function_global I.ok.kind hg (Calls.loadGlobal_global (by rw [I.ok.glob]; exact I.mod.glob.keeps I.bk) hm h) hd
theorem ld_blt {E : Value → Shared → Prop} {pins : List (Addr × Obj)} {s : Shared} {σ : St} {H : Hp} {x : Str} {u : Value} {pos : Pos} {Q : Value → Shared → Prop} (I : Inv X pins σ H s) (hg : Gl X x) (hm : X.mg x = none) (hv : bootBuiltins x = some u) (h : Q u s)
    (hn : x ≠ "__name__" := by decide) (hd : (x == ("__debug__" : Str)) = false := by decide) : wpAny (model X.prog X.w) X.A (eval (.Name x pos) X.env) Q E s := by
  obtain ⟨mb, h1, h2⟩ := I.mod.blt
  exact Calls.Name_function_global I.ok.kind hg (Calls.loadGlobal_builtin (by rw [I.ok.glob]; exact I.mod.glob.keeps I.bk) hm (by rw [I.ok.blt]; exact h1.keeps I.bk) ((h2 x hn).trans hv) h) hd
theorem pe_glob {x : Str} {v : V} {u : Value} {pos : Pos} (hg : Gl X x) (hm : X.mg x = some u) (r : RelV v u) (hd : (x == ("__debug__" : Str)) = false := by decide) : PE X (.Name x pos) (tC v) :=
  fun _ _ _ H _ I h => ld_glob I hg hm ⟨v, H, I, r, h⟩ hd
theorem pe_bltn {x : Str} {v : V} {u : Value} {pos : Pos} (hg : Gl X x) (hm : X.mg x = none) (hv : bootBuiltins x = some u) (r : RelV v u) (hn : x ≠ "__name__" := by decide) (hd : (x == ("__debug__" : Str)) = false := by decide) : PE X (.Name x pos) (tC v) :=
  fun _ _ _ H _ I h => ld_blt I hg hm hv ⟨v, H, I, r, h⟩ hn hd
variable {a b : Expr} {ta tb : TE} {pos : Pos}
def tB (t : TE) : TT := fun σ H Q => t σ H fun x H1 => ∃ c, x = .bl c ∧ Q c H1
theorem pt_val {e : Expr} {t : TE} (h : PE X e t) (he : ∀ whole, isTrue e X.env whole = (do let v ← whole; standAt e.pos; holding [v] (truthy v)) := by intro _; rfl) : PT X e (tB t) := by
  intro pins s σ H Q I hw
  refine isTrue_plain (thn (h pins s σ H _ I hw) fun v s1 ⟨x, H1, I1, r1, q1⟩ => ?_) (he _)
  obtain ⟨d, rfl, q⟩ := q1
  cases r1
  exact wpAny_truthy_bool ⟨H1, I1, q⟩
variable {tA tB' : TT} {rest : List Expr}
def tOr (t u : TT) : TT := fun σ H Q => t σ H fun c H1 => if c = true then Q true H1 else u σ H1 Q
def tNot (t : TT) : TT := fun σ H Q => t σ H fun c H1 => Q (!c) H1
theorem pw_or1 (ha : PT X a tA) : PW X (.BoolOp .Or [a] pos) tA := by
  intro wh pins s σ H Q I h
  refine isTrue_or (thn (ha pins s σ H Q I h) fun c s1 e => ?_)
  cases c with
  | false => exact isTrue_or_nil e
  | true => exact e
theorem pw_or (ha : PT X a tA) (hb : PW X (.BoolOp .Or (b :: rest) pos) tB') : PW X (.BoolOp .Or (a :: b :: rest) pos) (tOr tA tB') := by
  intro wh pins s σ H Q I h
  refine isTrue_or (thn (ha pins s σ H _ I h) fun c s1 ⟨H1, I1, q1⟩ => ?_)
  cases c with
  | true => exact ⟨H1, I1, q1⟩
  | false => exact hb wh pins s1 σ H1 Q I1 q1
theorem pt_not (ha : PT X a tA) : PT X (.UnaryOp .Not a pos) (tNot tA) := by
  intro pins s σ H Q I h
  exact isTrue_not (ha pins s σ H (fun c H1 => Q (!c) H1) I h)
def tIf (t : TT) (ta tb : TE) : TE := fun σ H Q => t σ H fun c H1 => if c = true then ta σ H1 Q else tb σ H1 Q
theorem pe_ifExp {c : Expr} (hc : PT X c tA) (ha : PE X a ta) (hb : PE X b tb) : PE X (.IfExp c a b pos) (tIf tA ta tb) := by
  intro pins s σ H Q I h
  refine wpAny_IfExp (thn (hc pins s σ H _ I h) fun d s1 ⟨H1, I1, q1⟩ => ?_)
  cases d with
  | true => exact ha pins s1 σ H1 Q I1 q1
  | false => exact hb pins s1 σ H1 Q I1 q1
end
end L2
namespace L2
open PySem PySem.Spec PyProof.Rows
def SqL (K : PySem.W.Frag) (H : Hp) (a : Addr) (xs : List V) : Prop :=
  Rd H a (.lst xs) ∨
    ∃ (o : Obj) (its : Array Value) (n : Nat), K.lookup a = some o ∧ o.cls = .type "list" ∧ o.dict = none ∧ o.data = .seq its n ∧ its.size ≤ sizeLine ∧ Vals xs its.toList
def SqT (K : PySem.W.Frag) (H : Hp) (a : Addr) (xs : List V) : Prop :=
  Rd H a (.tup xs) ∨
    ∃ (o : Obj) (its : Array Value) (n : Nat), K.lookup a = some o ∧ o.cls = .type "tuple" ∧ o.data = .seq its n ∧ its.size ≤ sizeLine ∧ Vals xs its.toList
def absV : Value → Option V
  | .none => some .non
  | .bool b => some (.bl b)
  | .int i _ => some (.int i)
  | .str x _ => some (.str x)
  | .bytes b _ => some (.byt b)
  | .float b _ => some (.flt b)
  | .ref a => some (.ref a)
  | .type n => some (.ty n)
  | _ => none
theorem RelV.abs {x : V} {u : Value} (r : RelV x u) : absV u = some x := by
  cases x with
  | non => cases r; rfl
  | bl _ => cases r; rfl
  | int _ => obtain ⟨t, rfl⟩ := r; rfl
  | str _ => obtain ⟨t, rfl⟩ := r; rfl
  | byt _ => obtain ⟨t, rfl⟩ := r; rfl
  | flt _ => obtain ⟨t, rfl⟩ := r; rfl
  | ref _ => cases r; rfl
  | ty _ => cases r; rfl
theorem RelV.inj {x y : V} {u : Value} (r : RelV x u) (q : RelV y u) : x = y := Option.some.inj (r.abs.symm.trans q.abs)
theorem Vals.inj : ∀ {xs ys : List V} {us : List Value}, Vals xs us → Vals ys us → xs = ys
  | _, _, _, .nil, .nil => rfl
  | _, _, _, .cons r t, .cons r' t' => by rw [r.inj r', Vals.inj t t']
section
variable {X : Cx} {pins : List (Addr × Obj)} {σ : St} {H : Hp} {s : Shared} {a : Addr} {xs ys : List V}
theorem SqL.of {K : PySem.W.Frag} (h : H a = some (.lst xs)) : SqL K H a xs := .inl (.inl h)
theorem SqT.of {K : PySem.W.Frag} (h : H a = some (.tup xs)) : SqT K H a xs := .inl (.inl h)
theorem Inv.list (I : Inv X pins σ H s) (h : SqL X.K H a xs) : ∃ its : List Value, Vals xs its ∧ PlainL s.heap a its.toArray ∧ xs.length ≤ sizeLine := by
  rcases h with h | ⟨o, its, n, hk, hc, hd, hs, hz, r⟩
  · obtain ⟨z, its, n, r, e⟩ := h.ok I.hok
    exact ⟨its, r, ⟨_, n, e, rfl, rfl, rfl⟩, z⟩
  · refine ⟨its.toList, r, ⟨o, n, I.kIn a o hk, hc, hd, by simpa using hs⟩, ?_⟩
    have e := r.length
    simp only [Array.length_toList] at e
    omega
theorem Inv.tuple (I : Inv X pins σ H s) (h : SqT X.K H a xs) : ∃ its : List Value, Vals xs its ∧ IsTup s.heap a its.toArray ∧ xs.length ≤ sizeLine := by
  rcases h with h | ⟨o, its, n, hk, hc, hs, hz, r⟩
  · obtain ⟨z, its, r, p⟩ := h.ok I.hok
    exact ⟨its, r, p, z⟩
  · refine ⟨its.toList, r, ⟨o, I.kIn a o hk, hc, n, by simpa using hs⟩, ?_⟩
    have e := r.length
    simp only [Array.length_toList] at e
    omega
theorem Inv.list_inj (I : Inv X pins σ H s) (h : SqL X.K H a xs) (h' : SqL X.K H a ys) : xs = ys := by
  obtain ⟨its, r, ⟨o, n, e, _, _, d⟩, _⟩ := I.list h
  obtain ⟨its', r', ⟨o', n', e', _, _, d'⟩, _⟩ := I.list h'
  rw [e] at e'; cases e'
  rw [d] at d'
  injection d' with d1 _
  have : its = its' := by simpa using congrArg Array.toList d1
  subst this
  exact r.inj r'
theorem Inv.tuple_inj (I : Inv X pins σ H s) (h : SqT X.K H a xs) (h' : SqT X.K H a ys) : xs = ys := by
  obtain ⟨its, r, ⟨o, e, _, n, d⟩, _⟩ := I.tuple h
  obtain ⟨its', r', ⟨o', e', _, n', d'⟩, _⟩ := I.tuple h'
  rw [e] at e'; cases e'
  rw [d] at d'
  injection d' with d1 _
  have : its = its' := by simpa using congrArg Array.toList d1
  subst this
  exact r.inj r'
end
abbrev Cx.wish (X : Cx) (E : Value → Shared → Prop) : Cx := { X with xe := E }
abbrev Cx.nox (X : Cx) : Cx := X.wish fun _ _ => False
theorem Cx.Ok.wish {X : Cx} (ok : X.Ok) (E : Value → Shared → Prop) : (X.wish E).Ok :=
  ⟨ok.mod, ok.kind, ok.glob, ok.blt, ok.above, ok.inj, ok.has, ok.cab, ok.hd, ok.frames, ok.stk, ok.exf, ok.bs, ok.bsz, ok.noex, ok.exfs, ok.funs, ok.frf⟩
theorem Cx.Ok.unwish {X : Cx} {E : Value → Shared → Prop} (ok : (X.wish E).Ok) : X.Ok :=
  ⟨ok.mod, ok.kind, ok.glob, ok.blt, ok.above, ok.inj, ok.has, ok.cab, ok.hd, ok.frames, ok.stk, ok.exf, ok.bs, ok.bsz, ok.noex, ok.exfs, ok.funs, ok.frf⟩
section
variable {X : Cx} {pins : List (Addr × Obj)} {σ : St} {H : Hp} {s : Shared} {E : Value → Shared → Prop}
theorem Inv.wish (I : Inv X pins σ H s) (E : Value → Shared → Prop) : Inv (X.wish E) pins σ H s := ⟨I.ok.wish E, I.os, I.bare, I.base, I.loc, I.cell, I.free, I.freeC, I.pin, I.hok, I.len⟩
theorem Inv.unwish (I : Inv (X.wish E) pins σ H s) : Inv X pins σ H s := ⟨I.ok.unwish, I.os, I.bare, I.base, I.loc, I.cell, I.free, I.freeC, I.pin, I.hok, I.len⟩
theorem SP.unwish {D : Ends} {f : Flow} {s' : Shared} (h : SP (X.wish E) pins D f s') : SP X pins D f s' := by
  cases f with
  | next => obtain ⟨σ', H', I, q⟩ := h; exact ⟨σ', H', I.unwish, q⟩
  | brk => obtain ⟨σ', H', I, q⟩ := h; exact ⟨σ', H', I.unwish, q⟩
  | cont => obtain ⟨σ', H', I, q⟩ := h; exact ⟨σ', H', I.unwish, q⟩
  | ret u => obtain ⟨v, σ', H', I, r, q⟩ := h; exact ⟨v, σ', H', I.unwish, r, q⟩
theorem PSs.nox {st : List Stmt} {t : TS} (h : PSs X.nox st t) : PSs X st t := fun pins s σ H D I hw =>
  wpAny_mono (h pins s σ H D (I.wish _) hw) (fun _ _ q => q.unwish) fun _ _ z => False.elim z
end
section
variable {X : Cx} {st : Stmt} {rest : List Stmt} {t u : TS} {e : Expr} {te : TE} {pos : Pos}
def tNext : TS := fun D σ H => D.nx σ H
def tSeq (t u : TS) : TS := fun D σ H => t { D with nx := u D } σ H
theorem pss_nil : PSs X [] tNext := fun _ _ σ H _ I h => wpAny_execs_nil ⟨σ, H, I, h⟩
theorem pss_cons (h1 : PS X st t) (h2 : PSs X rest u) : PSs X (st :: rest) (tSeq t u) := by
  intro pins s σ H D I h
  refine wpAny_execs_cons (thn (h1 pins s σ H { D with nx := u D } I h) fun f s1 q => ?_)
  cases f with
  | next =>
    obtain ⟨σ', H', I', q⟩ := q
    exact h2 pins s1 σ' H' D I' q
  | ret v => exact q
  | brk => exact q
  | cont => exact q
theorem pss_one (h1 : PS X st t) : PSs X [st] t := by
  intro pins s σ H D I h
  refine wpAny_execs_cons (thn (h1 pins s σ H D I h) fun f s1 q => ?_)
  cases f with
  | next => exact wpAny_execs_nil q
  | ret v => exact q
  | brk => exact q
  | cont => exact q
theorem Inv.quiet {pins : List (Addr × Obj)} {σ : St} {H : Hp} {s : Shared} (I : Inv X pins σ H s) : interactive X.env = false := by simp [interactive, I.ok.kind]
def tDrop (te : TE) : TS := fun D σ H => te σ H fun _ H1 => D.nx σ H1
theorem ps_expr (he : PE X e te) (hs : swapsWith e none pos.line X.env = pure false := by rfl) : PS X (.Expr e pos) (tDrop te) := by
  intro pins s σ H D I h
  exact wpAny_Expr_any (thn (he pins s σ H _ I h) fun v s1 ⟨x, H1, I1, r1, q1⟩ => ⟨σ, H1, I1, q1⟩) I.quiet hs
def tRet (te : TE) : TS := fun D σ H => te σ H D.rt
theorem ps_ret (he : PE X e te) : PS X (.Return (some e) pos) (tRet te) := by
  intro pins s σ H D I h
  exact wpAny_Return_some (thn (he pins s σ H _ I h) fun v s1 ⟨x, H1, I1, r1, q1⟩ => ⟨x, σ, H1, I1, r1, q1⟩)
def tIfS (c : TT) (t u : TS) : TS := fun D σ H => c σ H fun b H1 => if b = true then t D σ H1 else u D σ H1
theorem ps_if {c : Expr} {a b : List Stmt} {tc : TT} (hc : PT X c tc) (ha : PSs X a t) (hb : PSs X b u) : PS X (.If c a b pos) (tIfS tc t u) := by
  intro pins s σ H D I h
  refine wpAny_If (thn (hc pins s σ H _ I h) fun d s1 ⟨H1, I1, q1⟩ => ?_)
  cases d with
  | true => exact ha pins s1 σ H1 D I1 q1
  | false => exact hb pins s1 σ H1 D I1 q1
end
abbrev TG := V → St → Hp → (St → Hp → Prop) → Prop
abbrev TGs := List V → St → Hp → (St → Hp → Prop) → Prop
def PG (X : Cx) (target : Expr) (t : TG) : Prop :=
  ∀ (pins : List (Addr × Obj)) (s : Shared) (σ : St) (H : Hp) (v : V) (u : Value) (Q : St → Hp → Prop), Inv X pins σ H s → RelV v u → t v σ H Q →
    wpAny (model X.prog X.w) X.A (assign target X.env u) (fun _ s' => ∃ σ' H', Inv X pins σ' H' s' ∧ Q σ' H') X.xe s
def PGs (X : Cx) (ts : List Expr) (t : TGs) : Prop :=
  ∀ (pins : List (Addr × Obj)) (s : Shared) (σ : St) (H : Hp) (vs : List V) (us : List Value) (Q : St → Hp → Prop), Inv X pins σ H s → Vals vs us → t vs σ H Q →
    wpAny (model X.prog X.w) X.A (assignInOrder ((assignEach ts X.env).map (·.2)) us) (fun _ s' => ∃ σ' H', Inv X pins σ' H' s' ∧ Q σ' H') X.xe s
section
variable {X : Cx} {pos : Pos}
def gName (i : Nat) : TG := fun v σ H Q => Q (σ.set i (some v)) H
theorem pg_name {i : Nat} {x : Str} (hN : X.N.Nodup) (hi : X.N[i]? = some x) (hx : Loc X.env.scope x) (hf : X.fn x = true ∨ X.env.scope.names.lookup x = some .local := by first | exact .inl rfl | exact .inr rfl | assumption) : PG X (.Name x pos) (gName i) := by
  intro pins s σ H v u Q I r h
  exact wpAny_assign_Name (store_ok I hN hi hx r (fun s' I' => ⟨_, H, I', h⟩) hf)
def gNil : TGs := fun vs σ H Q => vs = [] ∧ Q σ H
def gCons (t : TG) (u : TGs) : TGs := fun vs σ H Q => ∃ v r, vs = v :: r ∧ t v σ H fun σ' H' => u r σ' H' Q
theorem pgs_nil : PGs X [] gNil := by
  intro pins s σ H vs us Q I r h
  obtain ⟨e, h⟩ := h
  subst e
  cases r
  exact assignInOrder_nil ⟨σ, H, I, h⟩
theorem pgs_cons {e : Expr} {es : List Expr} {t : TG} {u : TGs} (h1 : PG X e t) (h2 : PGs X es u)
    (hs : (assignEach (e :: es) X.env).map (·.2) = assign e X.env :: (assignEach es X.env).map (·.2) := by rfl) : PGs X (e :: es) (gCons t u) := by
  intro pins s σ H vs us Q I r h
  obtain ⟨v, vr, e1, h⟩ := h
  subst e1
  cases r with
  | cons r rr =>
    rw [hs]
    refine assignInOrder_cons (thn (h1 pins s σ H _ _ _ I r h) fun _ s1 ⟨σ1, H1, I1, q1⟩ => ?_)
    exact h2 pins s1 σ1 H1 _ _ Q I1 rr q1
def gTup (K : PySem.W.Frag) (n : Nat) (t : TGs) : TG := fun v σ H Q => ∃ a xs, v = .ref a ∧ SqT K H a xs ∧ xs.length = n ∧ t xs σ H Q
theorem pg_tup {es : List Expr} {k : Nat} {t : TGs} {n : Nat} (hc : X.calm = true) (h : PGs X es t)
    (hn : (assignEach es X.env).length = n := by rfl) (hst : (assignEach es X.env).findIdx? (·.1) = none := by rfl) : PG X (.Tuple es k pos) (gTup X.K n t) := by
  intro pins s σ H v u Q I r hw
  obtain ⟨a, xs, e1, hq, hl, hw⟩ := hw
  subst e1
  cases r
  obtain ⟨its, rv, ht, hz⟩ := I.tuple hq
  refine assign_Tuple_tuple (I.ok.hd hc) ht (by simp [hn, ← hl, rv.length]) hst fun h' hx => ?_
  have I1 : Inv X pins σ H { s with heap := h' } := I.kept (t' := s.toks) fun b o e => hx b o (Nat.ne_of_lt (Heap.lt_size e)) e
  exact h pins _ σ H xs _ Q I1 (by simpa using rv) hw
def tAsg (te : TE) (g : TG) : TS := fun D σ H => te σ H fun x H1 => g x σ H1 D.nx
theorem ps_set {i : Nat} {x : Str} {e : Expr} {te : TE} {pos' : Pos} (hN : X.N.Nodup) (hi : X.N[i]? = some x) (hx : Loc X.env.scope x) (he : PE X e te) (hs : swapsWith e (some (.Name x pos')) pos.line X.env = pure false := by rfl) (hf : X.fn x = true ∨ X.env.scope.names.lookup x = some .local := by first | exact .inl rfl | exact .inr rfl | assumption) :
    PS X (.Assign [.Name x pos'] e pos) (tAsg te (gName i)) := by
  intro pins s σ H D I h
  refine wpAny_Assign_Name (thn (he pins s σ H _ I h) fun v s1 ⟨y, H1, I1, r1, q1⟩ => ?_) hs
  exact store_ok I1 hN hi hx r1 (fun s2 I2 => ⟨_, H1, I2, q1⟩) hf
end
section
variable {X : Cx} {pos : Pos}
end
structure It where
  go : Nat → Hp → Prop
  yld : Nat → Hp → V → Hp → Prop
  stop : Nat → Hp → Prop
def FpOk (X : Cx) (pins : List (Addr × Obj)) (H : Hp) (b : Addr) : Prop :=
  H b = none ∧ b ≠ X.env.locals ∧ b ∉ X.fs ∧ (b ∈ X.ex ∨ X.s₀.heap.objs.size ≤ b) ∧ (∀ x c, X.env.cells.lookup x = some c → c ≠ b) ∧ ∀ p ∈ X.pn ++ pins, p.1 ≠ b
theorem Inv.fpOk {X : Cx} {pins : List (Addr × Obj)} {σ : St} {H H' : Hp} {s : Shared} {b : Addr} (I : Inv X pins σ H s) (hb : s.heap.objs.size ≤ b) (hn : H' b = none) : FpOk X pins H' b := by
  refine ⟨hn, Nat.ne_of_gt (Nat.lt_of_lt_of_le I.lt hb), I.nofs hb, .inr (Nat.le_trans I.sz hb), fun x c e z => ?_, fun p hp z => ?_⟩
  · obtain ⟨v, q⟩ := I.cell x c e
    exact absurd (Nat.lt_of_lt_of_le q.lt (by rw [z]; exact hb)) (Nat.lt_irrefl _)
  · exact absurd (Nat.lt_of_lt_of_le (Heap.lt_size (I.pin p hp).1) (by rw [z]; exact hb)) (Nat.lt_irrefl _)
structure Turn (P : Program) (w : World) (K : PySem.W.Frag) (tg : Expr) (J : It) (fp : List Addr) (it : Addr) (tn : Nat → Heap → Prop) : Prop where
  mem : it ∈ fp
  obj : ∀ i h, tn i h → ∀ b ∈ fp, ∃ o, h.get? b = some o ∧ ∀ v, o.data ≠ .cell v
  keep : ∀ i h h', tn i h → (∀ b ∈ fp, ∀ o, h.get? b = some o → h'.get? b = some o) → tn i h'
  item : ∀ (X : Cx), X.prog = P → X.w = w → X.K = K → X.calm = true → ∀ (i : Nat) (pins : List (Addr × Obj)) (s : Shared) (σ : St) (H : Hp) (E : Value → Shared → Prop), Inv X pins σ H s → (∀ b ∈ fp, FpOk X pins H b) → tn i s.heap → J.go i H →
    wpAny (model P w) X.A (pyNext (.ref it)) (fun r s1 => ∃ u, r = some u ∧
      wpAny (model P w) X.A (letOwnedTupleGo tg (.ref it) u) (fun _ s2 => ∃ x H', Inv X pins σ H' s2 ∧ RelV x u ∧ J.yld i H x H' ∧ tn (i + 1) s2.heap ∧ ∀ b ∈ fp, H' b = none) E s1) E s
  done : ∀ (X : Cx), X.prog = P → X.w = w → X.K = K → X.calm = true → ∀ (i : Nat) (pins : List (Addr × Obj)) (s : Shared) (σ : St) (H : Hp) (E : Value → Shared → Prop), Inv X pins σ H s → (∀ b ∈ fp, FpOk X pins H b) → tn i s.heap → J.stop i H →
    wpAny (model P w) X.A (pyNext (.ref it)) (fun r s1 => r = none ∧ Inv X pins σ H s1) E s
  self : ∀ (A : Around) (i : Nat) (s : Shared) (Q : Value → Shared → Prop) (E : Value → Shared → Prop), tn i s.heap → Q (.ref it) s → wpAny (model P w) A (pyIter (.ref it)) Q E s
abbrev TI := St → Hp → (It → Hp → Prop) → Prop
def PIE (X : Cx) (pins : List (Addr × Obj)) (σ : St) (tg : Expr) (R : It → Hp → Prop) (itv : Value) (s2 : Shared) : Prop :=
  ∃ (it : Addr) (fp : List Addr) (tn : Nat → Heap → Prop) (J : It) (H' : Hp), itv = .ref it ∧ Inv X pins σ H' s2 ∧ Turn X.prog X.w X.K tg J fp it tn ∧ tn 0 s2.heap ∧ (∀ b ∈ fp, FpOk X pins H' b) ∧ R J H'
def PI (X : Cx) (tg iter : Expr) (wi : TI) : Prop :=
  ∀ (pins : List (Addr × Obj)) (s : Shared) (σ : St) (H : Hp) (R : It → Hp → Prop), Inv X pins σ H s → wi σ H R →
    wpAny (model X.prog X.w) X.A (eval iter X.env) (fun v s1 => wpAny (model X.prog X.w) X.A (pyIter v) (PIE X pins σ tg R) X.xe s1) X.xe s
theorem go_of {M : Model} {A : Around} {E : Value → Shared → Prop} {s : Shared} {tg : Expr} {it : Addr} {u : Value} {o : Obj} {n : String} {vs : Array Value} {Q : Unit → Shared → Prop} (ho : s.heap.get? it = some o) (hc : o.cls = .type n) (hd : o.data = .fields vs)
    (hn : ["enumerate", "zip", "dict_itemiterator", "dict_reverseitemiterator", "odict_iterator", "itertools.zip_longest", "itertools.pairwise"].contains n = false) (hQ : Q () s) : wpAny M A (letOwnedTupleGo tg (.ref it) u) Q E s := by
  unfold letOwnedTupleGo
  cases tg <;> first
    | exact wpAny_pure hQ
    | (cases u <;> first
        | exact wpAny_pure hQ
        | (refine wpAny_bind (wpAny_load ho ?_)
           rw [hc, hd]
           show wpAny M A (if (["enumerate", "zip", "dict_itemiterator", "dict_reverseitemiterator", "odict_iterator", "itertools.zip_longest", "itertools.pairwise"].contains n && vs[0]? == some (rawInt _)) = true then _ else _) Q E s
           rw [if_neg (by intro h; rw [hn, Bool.false_and] at h; cases h)]
           exact wpAny_pure hQ))
def Itl (K : PySem.W.Frag) (a : Addr) : It :=
  ⟨fun i H => ∃ xs x, SqL K H a xs ∧ xs[i]? = some x, fun i H x H' => H' = H ∧ ∀ xs, SqL K H a xs → xs[i]? = some x, fun i H => ∃ xs, SqL K H a xs ∧ xs.length ≤ i⟩
def Itt (K : PySem.W.Frag) (a : Addr) : It :=
  ⟨fun i H => ∃ xs x, SqT K H a xs ∧ xs[i]? = some x, fun i H x H' => H' = H ∧ ∀ xs, SqT K H a xs → xs[i]? = some x, fun i H => ∃ xs, SqT K H a xs ∧ xs.length ≤ i⟩
def Itr (lo : Int) (n : Nat) : It := ⟨fun i _ => i < n, fun i H x H' => H' = H ∧ x = .int (lo + i), fun i _ => n ≤ i⟩
theorem turn_list {P : Program} {w : World} {K : PySem.W.Frag} {tg : Expr} (a it : Addr) : Turn P w K tg (Itl K a) [it] it (fun i h => h.IsListIter it a i) where
  mem := by simp
  obj := fun i h st b hb => by
    have e : b = it := by simpa using hb
    subst e
    obtain ⟨o, e, c, d⟩ := st
    exact ⟨o, e, fun v z => by rw [d] at z; cases z⟩
  keep := fun i h h' st k => st.at fun o e => k it (by simp) o e
  item := by
    intro X hP hw hK hc i pins s σ H E I hf st hg
    subst hP hw hK
    obtain ⟨xs, x, hq, hx⟩ := hg
    obtain ⟨its, rv, p, hz⟩ := I.list hq
    obtain ⟨u, hu, ru⟩ := rv.get hx
    obtain ⟨f0, f1, f2, f3, f4, f5⟩ := hf it (by simp)
    refine wpAny_pyNext_list_item st p.isList (x := u) (by simpa using hu) fun h' st' sb => ?_
    have I1 : Inv X pins σ H { s with heap := h' } := I.turned (t' := s.toks) (fun b o hb e => (sb.2 b hb).trans e) f0 f1 f3 f4 f5
    obtain ⟨o, e, c, d⟩ := id st'
    exact ⟨u, rfl, go_of (s := { s with heap := h' }) e c d (by decide) ⟨x, H, I1, ru, ⟨rfl, fun ys hy => by rw [I.list_inj hy hq]; exact hx⟩, st', fun b hb => (hf b hb).1⟩⟩
  done := by
    intro X hP hw hK hc i pins s σ H E I hf st hg
    subst hP hw hK
    obtain ⟨xs, hq, hx⟩ := hg
    obtain ⟨its, rv, p, hz⟩ := I.list hq
    obtain ⟨f0, f1, f2, f3, f4, f5⟩ := hf it (by simp)
    have hl := rv.length
    exact wpAny_pyNext_list_end (I.ok.hd hc) st p.isList (by simp; omega) fun h' eb => ⟨rfl, I.turned (t' := s.toks) (fun b o hb e => eb b o hb e) f0 f1 f3 f4 f5⟩
  self := fun _ _ _ _ _ st h => wpAny_pyIter_listiter st h
theorem turn_tuple {P : Program} {w : World} {K : PySem.W.Frag} {tg : Expr} (a it : Addr) : Turn P w K tg (Itt K a) [it] it (fun i h => h.IsTupleIter it a i) where
  mem := by simp
  obj := fun i h st b hb => by
    have e : b = it := by simpa using hb
    subst e
    obtain ⟨o, e, c, d⟩ := st
    exact ⟨o, e, fun v z => by rw [d] at z; cases z⟩
  keep := fun i h h' st k => st.at fun o e => k it (by simp) o e
  item := by
    intro X hP hw hK hc i pins s σ H E I hf st hg
    subst hP hw hK
    obtain ⟨xs, x, hq, hx⟩ := hg
    obtain ⟨its, rv, p, hz⟩ := I.tuple hq
    obtain ⟨u, hu, ru⟩ := rv.get hx
    obtain ⟨f0, f1, f2, f3, f4, f5⟩ := hf it (by simp)
    refine wpAny_pyNext_tuple_item st (show s.heap.IsTuple a its.toArray from p) (x := u) (by simpa using hu) fun h' st' sb => ?_
    have I1 : Inv X pins σ H { s with heap := h' } := I.turned (t' := s.toks) (fun b o hb e => (sb.2 b hb).trans e) f0 f1 f3 f4 f5
    obtain ⟨o, e, c, d⟩ := id st'
    exact ⟨u, rfl, go_of (s := { s with heap := h' }) e c d (by decide) ⟨x, H, I1, ru, ⟨rfl, fun ys hy => by rw [I.tuple_inj hy hq]; exact hx⟩, st', fun b hb => (hf b hb).1⟩⟩
  done := by
    intro X hP hw hK hc i pins s σ H E I hf st hg
    subst hP hw hK
    obtain ⟨xs, hq, hx⟩ := hg
    obtain ⟨its, rv, p, hz⟩ := I.tuple hq
    obtain ⟨f0, f1, f2, f3, f4, f5⟩ := hf it (by simp)
    have hl := rv.length
    exact wpAny_pyNext_tuple_end (I.ok.hd hc) st (show s.heap.IsTuple a its.toArray from p) (by simp; omega) fun h' eb => ⟨rfl, I.turned (t' := s.toks) (fun b o hb e => eb b o hb e) f0 f1 f3 f4 f5⟩
  self := fun _ _ _ _ _ st h => wpAny_pyIter_tupleiter st h
theorem turn_range {P : Program} {w : World} {K : PySem.W.Frag} {tg : Expr} (it : Addr) (lo : Int) (n : Nat) : Turn P w K tg (Itr lo n) [it] it (fun i h => IsRangeIter h it (lo + (i : Nat) * 1) ((n : Int) - (i : Nat)) 1) where
  mem := by simp
  obj := fun i h st b hb => by
    have e : b = it := by simpa using hb
    subst e
    exact ⟨_, st, fun v z => by
      have z' : Data.fields _ = Data.cell v := z
      cases z'⟩
  keep := fun i h h' st k => k it (by simp) _ st
  item := by
    intro X hP hw hK hc i pins s σ H E I hf st hg
    subst hP hw hK
    obtain ⟨f0, f1, f2, f3, f4, f5⟩ := hf it (by simp)
    have W := Walks.range (prog := X.prog) (w := X.w) (I.ok.hd hc) it lo 1 n
    refine W.item i s _ _ hg st fun v h' tk hv st' kk => ?_
    obtain ⟨t, rfl⟩ := hv
    have I1 : Inv X pins σ H { s with heap := h', toks := tk } := I.turned (fun b o hb e => kk b o (by simpa using hb) e) f0 f1 f3 f4 f5
    refine ⟨_, rfl, go_of (s := { s with heap := h', toks := tk }) (n := "range_iterator") st' rfl rfl (by decide) ⟨.int (lo + i), H, I1, ⟨t, ?_⟩, ⟨rfl, rfl⟩, st', fun b hb => (hf b hb).1⟩⟩
    rw [Int.mul_one]
  done := by
    intro X hP hw hK hc i pins s σ H E I hf st hg
    subst hP hw hK
    obtain ⟨f0, f1, f2, f3, f4, f5⟩ := hf it (by simp)
    exact wpAny_pyNext_range_end (I.ok.hd hc) st (by have : n ≤ i := hg; omega) fun h' eb => ⟨rfl, I.turned (t' := s.toks) (fun b o hb e => eb b o hb e) f0 f1 f3 f4 f5⟩
  self := fun _ _ _ _ _ st h => wpAny_pyIter_rangeiter st h
end L2
namespace L2
open PySem PySem.Spec PyProof.Rows
section
variable {X : Cx} {tg : Expr}
def iList (K : PySem.W.Frag) (tl : TE) : TI := fun σ H R => tl σ H fun x H1 => ∃ a, x = .ref a ∧ (∃ xs, SqL K H1 a xs) ∧ R (Itl K a) H1
def iTup (K : PySem.W.Frag) (tl : TE) : TI := fun σ H R => tl σ H fun x H1 => ∃ a, x = .ref a ∧ (∃ xs, SqT K H1 a xs) ∧ R (Itt K a) H1
theorem pi_list {l : Expr} {tl : TE} (hl : PE X l tl) : PI X tg l (iList X.K tl) := by
  intro pins s σ H R I h
  refine thn (hl pins s σ H _ I h) fun v s1 ⟨x, H1, I1, r1, q1⟩ => ?_
  obtain ⟨a, e, ⟨xs, hq⟩, q⟩ := q1
  subst e
  cases r1
  obtain ⟨its, rv, p, hz⟩ := I1.list hq
  refine wpAny_pyIter_list p.isList ?_
  refine ⟨s1.heap.objs.size, [s1.heap.objs.size], _, _, H1, rfl, I1.kept (t' := s1.toks) fun b o e => Heap.get?_push_of_some _ e, turn_list a _, ⟨_, Heap.get?_push_size _ rfl, rfl, rfl⟩, fun b hb => ?_, q⟩
  have e : b = s1.heap.objs.size := by simpa using hb
  subst e
  exact I1.fpOk (Nat.le_refl _) (I1.hok.fresh (Nat.le_refl _))
theorem pi_tup {l : Expr} {tl : TE} (hl : PE X l tl) : PI X tg l (iTup X.K tl) := by
  intro pins s σ H R I h
  refine thn (hl pins s σ H _ I h) fun v s1 ⟨x, H1, I1, r1, q1⟩ => ?_
  obtain ⟨a, e, ⟨xs, hq⟩, q⟩ := q1
  subst e
  cases r1
  obtain ⟨its, rv, p, hz⟩ := I1.tuple hq
  refine wpAny_pyIter_tuple (show s1.heap.IsTuple a its.toArray from p) ?_
  refine ⟨s1.heap.objs.size, [s1.heap.objs.size], _, _, H1, rfl, I1.kept (t' := s1.toks) fun b o e => Heap.get?_push_of_some _ e, turn_tuple a _, ⟨_, Heap.get?_push_size _ rfl, rfl, rfl⟩, fun b hb => ?_, q⟩
  have e : b = s1.heap.objs.size := by simpa using hb
  subst e
  exact I1.fpOk (Nat.le_refl _) (I1.hok.fresh (Nat.le_refl _))
theorem range_it {pins : List (Addr × Obj)} {σ : St} {H : Hp} {s : Shared} {R : It → Hp → Prop} {E : Value → Shared → Prop} {lo hi : Int} {t u v : Tok} {tk : Nat} (I : Inv X pins σ H s) (h1 : -(2 ^ 62) ≤ lo) (h2 : lo < 2 ^ 62) (h3 : -(2 ^ 62) ≤ hi) (h4 : hi < 2 ^ 62)
    (q : R (Itr lo (hi - lo).toNat) H) : wpAny (model X.prog X.w) X.A (pyIter (.ref s.heap.objs.size)) (PIE X pins σ tg R) E { s with heap := s.heap.push { cls := .type "range", data := .fields #[.int lo t, .int hi u, .int 1 v] }, toks := tk } := by
  refine wpAny_pyIter_range (IsRange.new ..) (small_one h1 h2 h3 h4) ?_
  have I1 : Inv X pins σ H { s with heap := s.heap.push { cls := .type "range", data := .fields #[.int lo t, .int hi u, .int 1 v] }, toks := tk } := I.kept fun b o e => Heap.get?_push_of_some _ e
  refine ⟨(s.heap.push { cls := .type "range", data := .fields #[.int lo t, .int hi u, .int 1 v] }).objs.size, [(s.heap.push { cls := .type "range", data := .fields #[.int lo t, .int hi u, .int 1 v] }).objs.size], _, _, H, rfl,
    I1.kept (t' := tk) fun b o e => Heap.get?_push_of_some _ e, turn_range _ lo (hi - lo).toNat, ?_, fun b hb => ?_, q⟩
  · have e1 : lo + ((0 : Nat) : Int) * 1 = lo := by simp
    have e2 : (((hi - lo).toNat : Nat) : Int) - ((0 : Nat) : Int) = Builtin.Range.rangeSize lo hi 1 := by rw [rangeSize_one]; split <;> omega
    show IsRangeIter _ _ (lo + ((0 : Nat) : Int) * 1) ((((hi - lo).toNat : Nat) : Int) - ((0 : Nat) : Int)) 1
    rw [e1, e2]
    exact Heap.get?_push_size _ rfl
  · have e : b = (s.heap.push { cls := .type "range", data := .fields #[.int lo t, .int hi u, .int 1 v] }).objs.size := by simpa using hb
    subst e
    exact I1.fpOk (Nat.le_refl _) (I1.hok.fresh (Nat.le_refl _))
def iRng1 (ta : TA) : TI := fun σ H R => ta σ H fun vs H1 => ∃ j : Int, vs = [.int j] ∧ -(2 ^ 62) ≤ j ∧ j < 2 ^ 62 ∧ R (Itr 0 j.toNat) H1
theorem pi_range1 {a : Expr} {ta : TA} {p pos : Pos} (hg : Gl X "range") (hm : X.mg "range" = none) (ha : PA X [a] ta) (hs : starEach [a] X.env = [(false, eval a X.env)] := by rfl) : PI X tg (.Call (.Name "range" p) [a] [] pos) (iRng1 ta) := by
  intro pins s σ H R I h
  refine Call_ (ld_blt I hg hm boot_range (PyProof.Rows.callWith_type1 (thn (ha pos pins s σ H _ I h) fun us s1 ⟨vs, H1, I1, r1, q1⟩ => ?_) hs rfl))
  obtain ⟨j, e, q1, q2, q⟩ := q1
  subst e
  cases r1 with
  | cons r rr =>
    cases rr
    obtain ⟨t, rfl⟩ := r
    exact call_range_1 (range_it I1 (by omega) (by omega) q1 q2 (by simpa using q))
def tFor (wi : TI) (g : TG) (tb : TS) : TS := fun D σ H => wi σ H fun J H1 => ∃ W : Nat → Nat → St → Hp → Prop, (∃ m, W 0 m σ H1) ∧ ∀ i m σ H, W i m σ H →
  (J.stop i H ∧ D.nx σ H) ∨ (J.go i H ∧ ∃ N : St → Hp → Prop, (∀ σ' H', N σ' H' → ∃ m', m' < m ∧ W (i + 1) m' σ' H') ∧ ∀ x H', J.yld i H x H' → g x σ H' fun σ2 H2 => tb { D with nx := N, ct := N, bk := D.nx } σ2 H2)
def pinsAt (fp : List Addr) (h : Heap) : List (Addr × Obj) := fp.filterMap fun b => (h.get? b).map fun o => (b, o)
theorem mem_pinsAt {fp : List Addr} {h : Heap} {b : Addr} {o : Obj} (hb : b ∈ fp) (e : h.get? b = some o) : (b, o) ∈ pinsAt fp h := List.mem_filterMap.mpr ⟨b, hb, by rw [e]; rfl⟩
theorem of_pinsAt {fp : List Addr} {h : Heap} {p : Addr × Obj} (hp : p ∈ pinsAt fp h) : p.1 ∈ fp ∧ h.get? p.1 = some p.2 := by
  obtain ⟨b, hb, e⟩ := List.mem_filterMap.mp hp
  cases q : h.get? b with
  | none => rw [q] at e; cases e
  | some o =>
    rw [q] at e
    have e' : (b, o) = p := Option.some.inj e
    subst e'
    exact ⟨hb, q⟩
theorem Inv.pinned {pins : List (Addr × Obj)} {σ : St} {H : Hp} {s : Shared} {fp : List Addr} (I : Inv X pins σ H s) (hf : ∀ b ∈ fp, FpOk X pins H b) (ho : ∀ b ∈ fp, ∃ o, s.heap.get? b = some o ∧ ∀ v, o.data ≠ .cell v) : Inv X (pins ++ pinsAt fp s.heap) σ H s :=
  I.pins_of fun p hp => (List.mem_append.mp hp).elim (fun z => I.pin p (List.mem_append_right _ z)) fun z => by
    obtain ⟨hb, e⟩ := of_pinsAt z
    obtain ⟨f0, f1, f2, _⟩ := hf p.1 hb
    obtain ⟨o, e', d⟩ := ho p.1 hb
    rw [e] at e'; cases e'
    exact ⟨e, f0, f1, f2, d⟩
theorem Inv.unpinned {pins pl : List (Addr × Obj)} {σ : St} {H : Hp} {s : Shared} (I : Inv X (pins ++ pl) σ H s) : Inv X pins σ H s := I.pins_of fun p hp => I.pin p (List.mem_append_right _ (List.mem_append_left _ hp))
theorem ps_for {iter : Expr} {body : List Stmt} {wi : TI} {g : TG} {tb : TS} {pos : Pos} (hp : PassesOwn (model X.prog X.w) X.A X.env X.xe) (hc : X.calm = true) (hi : PI X tg iter wi) (hg : PG X tg g) (hb : PSs X body tb)
    (hs : ∀ x, foldedSetIterable iter X.env x = pure x := by intro _; rfl) : PS X (.For tg iter body [] pos) (tFor wi g tb) := by
  intro pins s σ H D I h
  refine wpAny_For (thn (hi pins s σ H _ I h) fun v s1 h1 => thn h1 fun itv s2 h2 => ?_) hs
  obtain ⟨it, fp, tn, J, H2, e, I2, T, st2, f2, W, ⟨m0, w0⟩, turn⟩ := h2
  subst e
  -- what stays true of the iterator's objects through the loop
  have stat : ∀ {H' : Hp}, (∀ b ∈ fp, H' b = none) → ∀ b ∈ fp, FpOk X pins H' b := fun hn b hb => ⟨hn b hb, (f2 b hb).2⟩
  refine codeAny_forLoop_any (fun n s' => ∃ i σ' H', Inv X pins σ' H' s' ∧ tn i s'.heap ∧ (∀ b ∈ fp, H' b = none) ∧ W i n σ' H') ?_ m0 ⟨0, σ, H2, I2, st2, fun b hb => (f2 b hb).1, w0⟩
  rintro n s3 ⟨i, σ3, H3, I3, st3, fr3, w3⟩
  rcases turn i n σ3 H3 w3 with ⟨stop, qn⟩ | ⟨go, N, hN, step⟩
  · refine wpAny_passesOwn hp (thn (T.done X rfl rfl rfl hc i pins s3 σ3 H3 X.xe I3 (stat fr3) st3 stop) fun r s4 ⟨hr, I4⟩ => ?_)
    subst hr
    exact wpAny_execs_nil ⟨σ3, H3, I4, qn⟩
  · refine wpAny_passesOwn hp (thn (T.item X rfl rfl rfl hc i pins s3 σ3 H3 X.xe I3 (stat fr3) st3 go) fun r s4 ⟨u, hr, h4⟩ => ?_)
    subst hr
    refine wpAny_passesOwn hp (thn h4 fun _ s5 ⟨x, H5, I5, r5, y5, st5, fr5⟩ => ?_)
    have I5' := I5.pinned (stat fr5) (T.obj _ _ st5)
    refine wpAny_passesOwn hp (thn (hg _ s5 σ3 H5 x u _ I5' r5 (step x H5 y5)) fun _ s6 ⟨σ6, H6, I6, q6⟩ => ?_)
    refine wpAny_passesOwn hp (thn (hb _ s6 σ6 H6 _ I6 q6) fun f s7 q7 => ?_)
    have again : ∀ {σ7 : St} {H7 : Hp}, Inv X (pins ++ pinsAt fp s5.heap) σ7 H7 s7 → N σ7 H7 → ∃ m, m < n ∧ ∃ i σ' H', Inv X pins σ' H' s7 ∧ tn i s7.heap ∧ (∀ b ∈ fp, H' b = none) ∧ W i m σ' H' := fun {σ7 H7} I7 n7 => by
      obtain ⟨m', hm, w7⟩ := hN σ7 H7 n7
      refine ⟨m', hm, i + 1, σ7, H7, I7.unpinned, T.keep _ _ _ st5 fun b hb o e => (I7.pin (b, o) (List.mem_append_right _ (List.mem_append_right _ (mem_pinsAt hb e)))).1, fun b hb => ?_, w7⟩
      obtain ⟨o, e, d⟩ := T.obj _ _ st5 b hb
      exact (I7.pin (b, o) (List.mem_append_right _ (List.mem_append_right _ (mem_pinsAt hb e)))).2.1
    cases f with
    | next => obtain ⟨σ7, H7, I7, n7⟩ := q7; exact again I7 n7
    | cont => obtain ⟨σ7, H7, I7, n7⟩ := q7; exact again I7 n7
    | brk => obtain ⟨σ7, H7, I7, q7⟩ := q7; exact ⟨σ7, H7, I7.unpinned, q7⟩
    | ret v => obtain ⟨x7, σ7, H7, I7, r7, q7⟩ := q7; exact ⟨x7, σ7, H7, I7.unpinned, r7, q7⟩
end
theorem for_list {K : PySem.W.Frag} {a : Addr} {xs : List V} {g : TG} {tb : TS} {D : Ends} {σ : St} {H : Hp} (Pv : Nat → St → Hp → Prop) (h0 : Pv 0 σ H) (hl : ∀ i σ H, i ≤ xs.length → Pv i σ H → SqL K H a xs)
    (hs : ∀ i x σ H, xs[i]? = some x → Pv i σ H → g x σ H fun σ2 H2 => tb { D with nx := Pv (i + 1), ct := Pv (i + 1), bk := D.nx } σ2 H2) (hd : ∀ σ H, Pv xs.length σ H → D.nx σ H) :
    ∃ W : Nat → Nat → St → Hp → Prop, (∃ m, W 0 m σ H) ∧ ∀ i m σ H, W i m σ H →
      ((Itl K a).stop i H ∧ D.nx σ H) ∨ ((Itl K a).go i H ∧ ∃ N : St → Hp → Prop, (∀ σ' H', N σ' H' → ∃ m', m' < m ∧ W (i + 1) m' σ' H') ∧ ∀ x H', (Itl K a).yld i H x H' → g x σ H' fun σ2 H2 => tb { D with nx := N, ct := N, bk := D.nx } σ2 H2) := by
  refine ⟨fun i m σ H => m = xs.length - i ∧ i ≤ xs.length ∧ Pv i σ H, ⟨xs.length, by simp, Nat.zero_le _, h0⟩, ?_⟩
  rintro i m σ H ⟨rfl, hi, p⟩
  have q := hl i σ H hi p
  by_cases hlt : i < xs.length
  · refine .inr ⟨⟨xs, xs[i], q, by simp [hlt]⟩, Pv (i + 1), fun σ' H' p' => ⟨xs.length - (i + 1), by omega, rfl, hlt, p'⟩, fun x H' y => ?_⟩
    obtain ⟨e, y⟩ := y
    subst e
    exact hs i x σ _ (y xs q) p
  · have e : i = xs.length := by omega
    subst e
    exact .inl ⟨⟨xs, q, Nat.le_refl _⟩, hd σ H p⟩
theorem for_tup {K : PySem.W.Frag} {a : Addr} {xs : List V} {g : TG} {tb : TS} {D : Ends} {σ : St} {H : Hp} (Pv : Nat → St → Hp → Prop) (h0 : Pv 0 σ H) (hl : ∀ i σ H, i ≤ xs.length → Pv i σ H → SqT K H a xs)
    (hs : ∀ i x σ H, xs[i]? = some x → Pv i σ H → g x σ H fun σ2 H2 => tb { D with nx := Pv (i + 1), ct := Pv (i + 1), bk := D.nx } σ2 H2) (hd : ∀ σ H, Pv xs.length σ H → D.nx σ H) :
    ∃ W : Nat → Nat → St → Hp → Prop, (∃ m, W 0 m σ H) ∧ ∀ i m σ H, W i m σ H →
      ((Itt K a).stop i H ∧ D.nx σ H) ∨ ((Itt K a).go i H ∧ ∃ N : St → Hp → Prop, (∀ σ' H', N σ' H' → ∃ m', m' < m ∧ W (i + 1) m' σ' H') ∧ ∀ x H', (Itt K a).yld i H x H' → g x σ H' fun σ2 H2 => tb { D with nx := N, ct := N, bk := D.nx } σ2 H2) := by
  refine ⟨fun i m σ H => m = xs.length - i ∧ i ≤ xs.length ∧ Pv i σ H, ⟨xs.length, by simp, Nat.zero_le _, h0⟩, ?_⟩
  rintro i m σ H ⟨rfl, hi, p⟩
  have q := hl i σ H hi p
  by_cases hlt : i < xs.length
  · refine .inr ⟨⟨xs, xs[i], q, by simp [hlt]⟩, Pv (i + 1), fun σ' H' p' => ⟨xs.length - (i + 1), by omega, rfl, hlt, p'⟩, fun x H' y => ?_⟩
    obtain ⟨e, y⟩ := y
    subst e
    exact hs i x σ _ (y xs q) p
  · have e : i = xs.length := by omega
    subst e
    exact .inl ⟨⟨xs, q, Nat.le_refl _⟩, hd σ H p⟩
theorem for_range {lo : Int} {n : Nat} {g : TG} {tb : TS} {D : Ends} {σ : St} {H : Hp} (Pv : Nat → St → Hp → Prop) (h0 : Pv 0 σ H)
    (hs : ∀ i σ H, i < n → Pv i σ H → g (.int (lo + i)) σ H fun σ2 H2 => tb { D with nx := Pv (i + 1), ct := Pv (i + 1), bk := D.nx } σ2 H2) (hd : ∀ σ H, Pv n σ H → D.nx σ H) :
    ∃ W : Nat → Nat → St → Hp → Prop, (∃ m, W 0 m σ H) ∧ ∀ i m σ H, W i m σ H →
      ((Itr lo n).stop i H ∧ D.nx σ H) ∨ ((Itr lo n).go i H ∧ ∃ N : St → Hp → Prop, (∀ σ' H', N σ' H' → ∃ m', m' < m ∧ W (i + 1) m' σ' H') ∧ ∀ x H', (Itr lo n).yld i H x H' → g x σ H' fun σ2 H2 => tb { D with nx := N, ct := N, bk := D.nx } σ2 H2) := by
  refine ⟨fun i m σ H => m = n - i ∧ i ≤ n ∧ Pv i σ H, ⟨n, by simp, Nat.zero_le _, h0⟩, ?_⟩
  rintro i m σ H ⟨rfl, hi, p⟩
  by_cases hlt : i < n
  · refine .inr ⟨hlt, Pv (i + 1), fun σ' H' p' => ⟨n - (i + 1), by omega, rfl, hlt, p'⟩, fun x H' y => ?_⟩
    obtain ⟨e, y⟩ := y
    subst e y
    exact hs i σ _ hlt p
  · have e : i = n := by omega
    subst e
    exact .inl ⟨Nat.le_refl _, hd σ H p⟩
end L2
namespace L2
open PySem PySem.Spec PyProof.Rows
abbrev R2 := V → V → Hp → VK → Prop
def OpR (X : Cx) (f : Value → Value → Sem Value) (r : R2) : Prop :=
  ∀ (pins : List (Addr × Obj)) (s : Shared) (σ : St) (H : Hp) (x y : V) (v u : Value) (Q : VK), Inv X pins σ H s → RelV x v → RelV y u → r x y H Q →
    wpAny (model X.prog X.w) X.A (f v u) (EP X pins σ Q) X.xe s
def UnR (X : Cx) (f : Value → Sem Value) (r : V → Hp → VK → Prop) : Prop :=
  ∀ (pins : List (Addr × Obj)) (s : Shared) (σ : St) (H : Hp) (x : V) (v : Value) (Q : VK), Inv X pins σ H s → RelV x v → r x H Q →
    wpAny (model X.prog X.w) X.A (f v) (EP X pins σ Q) X.xe s
def CallR (X : Cx) (f : Value) (r : List V → Hp → VK → Prop) : Prop :=
  ∀ (pins : List (Addr × Obj)) (s : Shared) (σ : St) (H : Hp) (xs : List V) (us : List Value) (Q : VK), Inv X pins σ H s → Vals xs us → r xs H Q →
    wpAny (model X.prog X.w) X.A (call f us) (EP X pins σ Q) X.xe s
def tOp (r : R2) (ta tb : TE) : TE := fun σ H Q => ta σ H fun x H1 => tb σ H1 fun y H2 => r x y H2 Q
def tUn (r : V → Hp → VK → Prop) (ta : TE) : TE := fun σ H Q => ta σ H fun x H1 => r x H1 Q
def rI (C : Int → Int → Prop) (g : Int → Int → V) : R2 := fun x y H Q => ∃ i j, x = .int i ∧ y = .int j ∧ C i j ∧ Q (g i j) H
def rI0 (g : Int → Int → V) : R2 := fun x y H Q => ∃ i j, x = .int i ∧ y = .int j ∧ Q (g i j) H
def rU (g : Int → V) : V → Hp → VK → Prop := fun x H Q => ∃ i, x = .int i ∧ Q (g i) H
section
variable {X : Cx} {a b c : Expr} {ta tb tc : TE} {pos : Pos}
theorem binT (ha : PE X a ta) (hb : PE X b tb) {pins : List (Addr × Obj)} {s : Shared} {σ : St} {H : Hp} {R : V → V → Hp → Prop} (I : Inv X pins σ H s)
    (h : ta σ H fun x H1 => tb σ H1 fun y H2 => R x y H2) {Q : Value → Shared → Prop} {f : Value → Value → Sem Value}
    (hf : ∀ v u s2 x y H2, Inv X pins σ H2 s2 → RelV x v → RelV y u → R x y H2 → wpAny (model X.prog X.w) X.A (f v u) Q X.xe s2) :
    wpAny (model X.prog X.w) X.A (eval a X.env) (fun v s₁ => wpAny (model X.prog X.w) X.A (eval b X.env) (fun u s₂ => wpAny (model X.prog X.w) X.A (f v u) Q X.xe s₂) X.xe s₁) X.xe s := by
  refine thn (ha pins s σ H _ I h) fun v s1 ⟨x, H1, I1, r1, q1⟩ => ?_
  refine thn (hb pins s1 σ H1 _ I1 q1) fun u s2 ⟨y, H2, I2, r2, q2⟩ => ?_
  exact hf v u s2 x y H2 I2 r1 r2 q2
theorem pe_op {op : Operator} {r : R2} (ho : OpR X (binaryOp op) r) (ha : PE X a ta) (hb : PE X b tb) : PE X (.BinOp a op b pos) (tOp r ta tb) := by
  intro pins s σ H Q I h
  exact wpAny_BinOp (binT ha hb I h fun v u s2 x y H2 I2 rx ry q => ho pins s2 σ H2 x y v u Q I2 rx ry q)
theorem pe_un {op : UnaryOp} {r : V → Hp → VK → Prop} (ho : UnR X (unaryOp op) r) (ha : PE X a ta) : PE X (.UnaryOp op a pos) (tUn r ta) := by
  intro pins s σ H Q I h
  exact UnaryOp_ (thn (ha pins s σ H _ I h) fun v s1 ⟨x, H1, I1, r1, q1⟩ => ho pins s1 σ H1 x v Q I1 r1 q1)
theorem opI {f : Value → Value → Sem Value} {C : Int → Int → Prop} {g : Int → Int → Int}
    (rule : ∀ (i j : Int) (t u : Tok) (s : Shared) (Q : Value → Shared → Prop) (E : Value → Shared → Prop), C i j → Q (.int (g i j) s.toks) { s with toks := s.toks + 1 } → wpAny (model X.prog X.w) X.A (f (.int i t) (.int j u)) Q E s) :
    OpR X f (rI C fun i j => .int (g i j)) := by
  intro pins s σ H x y v u Q I rx ry h
  obtain ⟨i, j, rfl, rfl, hc, q⟩ := h
  obtain ⟨t, rfl⟩ := rx
  obtain ⟨t', rfl⟩ := ry
  exact rule i j t t' s _ _ hc ⟨.int (g i j), H, I.tok _, ⟨_, rfl⟩, q⟩
theorem opI0 {f : Value → Value → Sem Value} {g : Int → Int → Int}
    (rule : ∀ (i j : Int) (t u : Tok) (s : Shared) (Q : Value → Shared → Prop) (E : Value → Shared → Prop), Q (.int (g i j) s.toks) { s with toks := s.toks + 1 } → wpAny (model X.prog X.w) X.A (f (.int i t) (.int j u)) Q E s) :
    OpR X f (rI0 fun i j => .int (g i j)) := by
  intro pins s σ H x y v u Q I rx ry h
  obtain ⟨i, j, rfl, rfl, q⟩ := h
  obtain ⟨t, rfl⟩ := rx
  obtain ⟨t', rfl⟩ := ry
  exact rule i j t t' s _ _ ⟨.int (g i j), H, I.tok _, ⟨_, rfl⟩, q⟩
theorem opB0 {f : Value → Value → Sem Value} {g : Int → Int → Bool}
    (rule : ∀ (i j : Int) (t u : Tok) (s : Shared) (Q : Value → Shared → Prop) (E : Value → Shared → Prop), Q (.bool (g i j)) s → wpAny (model X.prog X.w) X.A (f (.int i t) (.int j u)) Q E s) :
    OpR X f (rI0 fun i j => .bl (g i j)) := by
  intro pins s σ H x y v u Q I rx ry h
  obtain ⟨i, j, rfl, rfl, q⟩ := h
  obtain ⟨t, rfl⟩ := rx
  obtain ⟨t', rfl⟩ := ry
  exact rule i j t t' s _ _ ⟨.bl (g i j), H, I, rfl, q⟩
def CMul (i j : Int) : Prop := (-(2 ^ 64) < i ∧ i < 2 ^ 64) ∨ (-(2 ^ 64) < j ∧ j < 2 ^ 64)
theorem op_add : OpR X (binaryOp .Add) (rI0 fun i j => .int (i + j)) := opI0 fun _ _ _ _ _ _ _ q => add_int q
theorem op_sub : OpR X (binaryOp .Sub) (rI0 fun i j => .int (i - j)) := opI0 fun _ _ _ _ _ _ _ q => sub_int q
theorem op_mod : OpR X (binaryOp .Mod) (rI (fun _ j => 0 < j) fun i j => .int (i % j)) := opI fun i j _ _ _ _ _ hc q => by
  have h1 : (0 : Int) < j := hc
  exact mod_int' (by omega) (by rw [Int.fmod_eq_emod_of_nonneg i (by omega)]; exact q)
theorem unI {f : Value → Sem Value} {g : Int → Int}
    (rule : ∀ (i : Int) (t : Tok) (s : Shared) (Q : Value → Shared → Prop) (E : Value → Shared → Prop), Q (.int (g i) s.toks) { s with toks := s.toks + 1 } → wpAny (model X.prog X.w) X.A (f (.int i t)) Q E s) :
    UnR X f (rU fun i => .int (g i)) := by
  intro pins s σ H x v Q I rx h
  obtain ⟨i, rfl, q⟩ := h
  obtain ⟨t, rfl⟩ := rx
  exact rule i t s _ _ ⟨.int (g i), H, I.tok _, ⟨_, rfl⟩, q⟩
theorem un_neg : UnR X (unaryOp .USub) (rU fun i => .int (-i)) := unI fun _ _ _ _ _ q => neg_int q
end
def scal : V → V → Bool
  | .non, .non => true | .non, .int _ => true | .int _, .non => true | .non, .bl _ => true | .bl _, .non => true | .non, .str _ => true | .str _, .non => true
  | .int _, .int _ => true | .bl _, .bl _ => true | .str _, .str _ => true | .byt _, .byt _ => true
  | .int _, .str _ => true | .str _, .int _ => true | .bl _, .str _ => true | .str _, .bl _ => true
  | _, _ => false
def rEq : R2 := fun x y H Q => scal x y = true ∧ Q (.bl (decide (x = y))) H
def rNe : R2 := fun x y H Q => scal x y = true ∧ Q (.bl (!decide (x = y))) H
theorem dec_int {i j : Int} : decide (V.int i = V.int j) = (i == j) := by
  rw [Bool.eq_iff_iff]
  simp
theorem dec_bl {i j : Bool} : decide (V.bl i = V.bl j) = (i == j) := by
  rw [Bool.eq_iff_iff]
  simp
theorem dec_str {i j : Str} : decide (V.str i = V.str j) = (i == j) := by
  rw [Bool.eq_iff_iff]
  simp
theorem dec_byt {i j : Array UInt8} : decide (V.byt i = V.byt j) = (i.toList == j.toList) := by
  rw [Bool.eq_iff_iff]
  cases i
  cases j
  simp
section
variable {X : Cx} {a b c : Expr} {ta tb tc : TE} {pos : Pos}
theorem fin_bl {pins : List (Addr × Obj)} {σ : St} {H : Hp} {s : Shared} {Q : VK} {k k' : Bool} (I : Inv X pins σ H s) (q : Q (.bl k) H) (e : k = k') : EP X pins σ Q (.bool k') s := by
  subst e
  exact ⟨.bl k, H, I, rfl, q⟩
theorem op_eq : OpR X (compareOp .Eq) rEq := by
  intro pins s σ H x y v u Q I rx ry h
  obtain ⟨hs, q⟩ := h
  cases x with
  | non =>
    cases rx
    cases y with
    | non => cases ry; exact PySem.EqNone.eq_none_none (fin_bl I q (by simp))
    | bl j => cases ry; exact PySem.EqNone.eq_none_bool (fin_bl I q (by simp))
    | int j => obtain ⟨t', rfl⟩ := ry; exact PySem.EqNone.eq_none_int (fin_bl I q (by simp))
    | str j => obtain ⟨t', rfl⟩ := ry; exact PySem.EqNone.eq_none_str (fin_bl I q (by simp))
    | _ => exact absurd (show false = true from hs) Bool.false_ne_true
  | bl i =>
    cases rx
    cases y with
    | non => cases ry; exact PySem.EqNone.eq_bool_none (fin_bl I q (by simp))
    | bl j => cases ry; exact eq_bool (fin_bl I q dec_bl)
    | str j => obtain ⟨t', rfl⟩ := ry; exact PySem.EqMixed.eq_bool_str (fin_bl I q (by simp))
    | _ => exact absurd (show false = true from hs) Bool.false_ne_true
  | int i =>
    obtain ⟨t, rfl⟩ := rx
    cases y with
    | non => cases ry; exact PySem.EqNone.eq_int_none (fin_bl I q (by simp))
    | int j => obtain ⟨t', rfl⟩ := ry; exact eq_int (fin_bl I q dec_int)
    | str j => obtain ⟨t', rfl⟩ := ry; exact PySem.EqMixed.eq_int_str (fin_bl I q (by simp))
    | _ => exact absurd (show false = true from hs) Bool.false_ne_true
  | str i =>
    obtain ⟨t, rfl⟩ := rx
    cases y with
    | non => cases ry; exact PySem.EqNone.eq_str_none (fin_bl I q (by simp))
    | bl j => cases ry; exact PySem.EqMixed.eq_str_bool (fin_bl I q (by simp))
    | int j => obtain ⟨t', rfl⟩ := ry; exact PySem.EqMixed.eq_str_int (fin_bl I q (by simp))
    | str j => obtain ⟨t', rfl⟩ := ry; exact eq_str (fin_bl I q dec_str)
    | _ => exact absurd (show false = true from hs) Bool.false_ne_true
  | byt i =>
    obtain ⟨t, rfl⟩ := rx
    cases y with
    | byt j => obtain ⟨t', rfl⟩ := ry; exact PySem.W.eq_bytes (fin_bl I q dec_byt)
    | _ => exact absurd (show false = true from hs) Bool.false_ne_true
  | _ => cases y <;> exact absurd (show false = true from hs) Bool.false_ne_true
theorem op_ne : OpR X (compareOp .NotEq) rNe := by
  intro pins s σ H x y v u Q I rx ry h
  obtain ⟨hs, q⟩ := h
  cases x with
  | non =>
    cases rx
    cases y with
    | non => cases ry; exact PySem.EqNone.ne_none_none (fin_bl I q (by simp))
    | bl j => cases ry; exact PySem.EqNone.ne_none_bool (fin_bl I q (by simp))
    | int j => obtain ⟨t', rfl⟩ := ry; exact PySem.EqNone.ne_none_int (fin_bl I q (by simp))
    | str j => obtain ⟨t', rfl⟩ := ry; exact PySem.EqNone.ne_none_str (fin_bl I q (by simp))
    | _ => exact absurd (show false = true from hs) Bool.false_ne_true
  | bl i =>
    cases rx
    cases y with
    | non => cases ry; exact PySem.EqNone.ne_bool_none (fin_bl I q (by simp))
    | bl j => cases ry; exact ne_bool (fin_bl I q (congrArg not dec_bl))
    | str j => obtain ⟨t', rfl⟩ := ry; exact PySem.EqMixed.ne_bool_str (fin_bl I q (by simp))
    | _ => exact absurd (show false = true from hs) Bool.false_ne_true
  | int i =>
    obtain ⟨t, rfl⟩ := rx
    cases y with
    | non => cases ry; exact PySem.EqNone.ne_int_none (fin_bl I q (by simp))
    | int j => obtain ⟨t', rfl⟩ := ry; exact ne_int (fin_bl I q (congrArg not dec_int))
    | str j => obtain ⟨t', rfl⟩ := ry; exact PySem.EqMixed.ne_int_str (fin_bl I q (by simp))
    | _ => exact absurd (show false = true from hs) Bool.false_ne_true
  | str i =>
    obtain ⟨t, rfl⟩ := rx
    cases y with
    | non => cases ry; exact PySem.EqNone.ne_str_none (fin_bl I q (by simp))
    | bl j => cases ry; exact PySem.EqMixed.ne_str_bool (fin_bl I q (by simp))
    | int j => obtain ⟨t', rfl⟩ := ry; exact PySem.EqMixed.ne_str_int (fin_bl I q (by simp))
    | str j => obtain ⟨t', rfl⟩ := ry; exact ne_str (fin_bl I q (congrArg not dec_str))
    | _ => exact absurd (show false = true from hs) Bool.false_ne_true
  | byt i =>
    obtain ⟨t, rfl⟩ := rx
    cases y with
    | byt j => obtain ⟨t', rfl⟩ := ry; exact PySem.W.ne_bytes (fin_bl I q (congrArg not dec_byt))
    | _ => exact absurd (show false = true from hs) Bool.false_ne_true
  | _ => cases y <;> exact absurd (show false = true from hs) Bool.false_ne_true
theorem op_lt : OpR X (compareOp .Lt) (rI0 fun i j => .bl (decide (i < j))) := opB0 fun _ _ _ _ _ _ _ q => lt_int q
theorem op_le : OpR X (compareOp .LtE) (rI0 fun i j => .bl (decide (i ≤ j))) := opB0 fun _ _ _ _ _ _ _ q => le_int q
theorem op_gt : OpR X (compareOp .Gt) (rI0 fun i j => .bl (decide (j < i))) := opB0 fun _ _ _ _ _ _ _ q => gt_int q
theorem nomark (b : Expr) {op : CmpOp} (h : op ≠ .In := by decide) (h2 : op ≠ .NotIn := by decide) : behindInMarks op b = false := by
  have e1 : (op == CmpOp.In) = false := by cases op <;> first | rfl | exact absurd rfl h
  have e2 : (op == CmpOp.NotIn) = false := by cases op <;> first | rfl | exact absurd rfl h2
  cases b <;> simp [behindInMarks, e1, e2]
theorem pe_cmpR {op : CmpOp} {r : R2} (ho : OpR X (compareOp op) r) (ha : PE X a ta) (hb : PE X b tb) (hm : behindInMarks op b = false) : PE X (.Compare a [op] [b] pos) (tOp r ta tb) := by
  intro pins s σ H Q I h
  exact wpAny_Compare1 (binT ha hb I h fun v u s2 x y H2 I2 rx ry q => ho pins s2 σ H2 x y v u Q I2 rx ry q) hm
def tTest (t : TE) : TT := fun σ H Q => t σ H fun x H' => ∃ k, x = .bl k ∧ Q k H'
theorem pt_cmpR {op : CmpOp} {r : R2} (ho : OpR X (compareOp op) r) (ha : PE X a ta) (hb : PE X b tb) (hm : behindInMarks op b = false) : PT X (.Compare a [op] [b] pos) (tTest (tOp r ta tb)) := by
  intro pins s σ H Q I h
  refine wpAny_isTrue_Compare1 (thn (ha pins s σ H _ I h) fun v s1 ⟨x, H1, I1, r1, q1⟩ => thn (hb pins s1 σ H1 _ I1 q1) fun u s2 ⟨y, H2, I2, r2, q2⟩ =>
    thn (ho pins s2 σ H2 x y v u _ I2 r1 r2 q2) fun c s3 ⟨z, H3, I3, r3, k, e, q3⟩ => ?_) hm
  subst e
  cases r3
  exact wpAny_truthy_bool ⟨H3, I3, q3⟩
def tChain (r r' : R2) (ta tb tc : TE) : TE := fun σ H Q => ta σ H fun x H1 => tb σ H1 fun y H2 => r x y H2 fun z H3 => ∃ k, z = .bl k ∧
  (if k = true then tc σ H3 fun w' H4 => r' y w' H4 Q else Q (.bl false) H3)
theorem pe_chain {op op' : CmpOp} {r r' : R2} (ho : OpR X (compareOp op) r) (ho' : OpR X (compareOp op') r') (ha : PE X a ta) (hb : PE X b tb) (hc : PE X c tc)
    (hm : lastMarks [op, op'] [b, c] = false := by with_unfolding_all rfl) : PE X (.Compare a [op, op'] [b, c] pos) (tChain r r' ta tb tc) := by
  intro pins s σ H Q I h
  refine Compare_chain (thn (ha pins s σ H _ I h) fun v s1 ⟨x, H1, I1, r1, q1⟩ => chain_link (thn (hb pins s1 σ H1 _ I1 q1) fun u s2 ⟨y, H2, I2, r2, q2⟩ =>
    thn (ho pins s2 σ H2 x y v u _ I2 r1 r2 q2) fun d s3 ⟨z, H3, I3, r3, k, e, q3⟩ => ?_)) hm
  subst e
  cases r3
  refine wpAny_truthy_bool ?_
  cases k with
  | false => exact ite_ff ⟨.bl false, H3, I3, rfl, q3⟩
  | true => exact ite_tt (chain_last (thn (hc pins s3 σ H3 _ I3 q3) fun w' s4 ⟨z', H4, I4, r4, q4⟩ => ho' pins s4 σ H4 y z' u w' Q I4 r2 r4 q4))
theorem pt_chain {op op' : CmpOp} {r r' : R2} (ho : OpR X (compareOp op) r) (ho' : OpR X (compareOp op') r') (ha : PE X a ta) (hb : PE X b tb) (hc : PE X c tc)
    (hm : lastMarks [op, op'] [b, c] = false := by with_unfolding_all rfl) : PT X (.Compare a [op, op'] [b, c] pos) (tTest (tChain r r' ta tb tc)) := by
  intro pins s σ H Q I h
  refine isTrue_chain (thn (ha pins s σ H _ I h) fun v s1 ⟨x, H1, I1, r1, q1⟩ => test_link (thn (hb pins s1 σ H1 _ I1 q1) fun u s2 ⟨y, H2, I2, r2, q2⟩ =>
    thn (ho pins s2 σ H2 x y v u _ I2 r1 r2 q2) fun d s3 ⟨z, H3, I3, r3, k, e, q3⟩ => ?_)) hm
  subst e
  cases r3
  refine wpAny_truthy_bool ?_
  cases k with
  | false =>
    obtain ⟨k', e', q'⟩ := q3
    cases e'
    exact ite_ff ⟨H3, I3, q'⟩
  | true =>
    refine ite_tt (test_last (thn (hc pins s3 σ H3 _ I3 q3) fun w' s4 ⟨z', H4, I4, r4, q4⟩ => thn (ho' pins s4 σ H4 y z' u w' _ I4 r2 r4 q4) fun d' s5 ⟨z2, H5, I5, r5, k2, e2, q5⟩ => ?_))
    subst e2
    cases r5
    exact wpAny_truthy_bool ⟨H5, I5, q5⟩
theorem line63 : (sizeLine : Nat) < 2 ^ 63 := by rw [sizeLine_eq]; decide
theorem vals1 {x : V} {us : List Value} (r : Vals [x] us) : ∃ u, us = [u] ∧ RelV x u := by
  cases r with
  | cons r1 r2 => cases r2; exact ⟨_, rfl, r1⟩
theorem vals2 {x y : V} {us : List Value} (r : Vals [x, y] us) : ∃ u w', us = [u, w'] ∧ RelV x u ∧ RelV y w' := by
  cases r with
  | cons r1 r2 =>
    cases r2 with
    | cons r3 r4 => cases r4; exact ⟨_, _, rfl, r1, r3⟩
end
end L2
namespace L2
open PySem PySem.Spec PyProof.Rows
structure ObjM (h : Heap) (x dx C : Addr) (mA : Str → Option Value) : Prop where
  obj : h.get? x = some (PySem.W.instObj C dx)
  ns : h.Ns1 dx mA
  ne : dx ≠ x
theorem lookIn_ns {h : Heap} {dx : Addr} {mA : Str → Option Value} (n : h.Ns1 dx mA) : ∃ od, h.get? dx = some od ∧ ∀ name, PySem.W.lookIn name od = some (mA name) := by
  obtain ⟨o, es, ep, ho, hd, hk, _, hm⟩ := n
  refine ⟨o, ho, fun name => ?_⟩
  have e := hm name
  unfold nsFind findBy at e
  rw [← Array.find?_toList] at e
  unfold PySem.W.lookIn
  rw [hd]
  dsimp only
  split
  · rename_i y q
    rw [q] at e
    exact congrArg some e
  · rename_i q
    rw [q] at e
    have a : es.toList.any (·.refKey) = false := by
      rw [List.any_eq_false]
      intro y hy
      obtain ⟨z, t, hkey⟩ := hk y (Array.mem_toList_iff.mp hy)
      simp [DictEntry.refKey, hkey]
    have a' : ¬ es.toList.any (·.refKey) = true := by rw [a]; exact Bool.false_ne_true
    rw [if_neg a']
    exact congrArg some e
theorem ObjM.look {h : Heap} {x dx C : Addr} {mA : Str → Option Value} (I : ObjM h x dx C mA) : ∃ od, PySem.W.InstAt h x (PySem.W.instObj C dx) C (some od) ∧ ∀ name, PySem.W.lookIn name od = some (mA name) :=
  let ⟨od, ho, hl⟩ := lookIn_ns I.ns
  ⟨od, ⟨I.obj, rfl, rfl, ho⟩, hl⟩
section
variable {prog : Program} {w : World} {A : Around} {E : Value → Shared → Prop} {s : Shared} {K : PySem.W.Frag} {x dx C f : Addr} {mA : Str → Option Value} {name : Str} {v : Value}
theorem get_map {expr : Bool} {Q : Value → Shared → Prop} (X : K.In s.heap) (I : ObjM s.heap x dx C mA) (hg : PySem.W.plainGet K C name = true) (hh : PySem.W.hasDictIn K C = true)
    (ha : PySem.W.findIn K (.ref C) name = some none) (hv : mA name = some v) (hv' : PySem.W.handedIn v = true) (h : Q v { s with toks := s.toks + 1 }) :
    wpAny (model prog w) A (getAttr (.ref x) name expr) Q E s := by
  obtain ⟨od, J, hl⟩ := I.look
  exact PySem.W.get_value X J (PySem.W.plainGet_of hg).1 (PySem.W.findObj_own hh ha rfl (by rw [hl, hv])) hv' h
theorem set_map {ns : List Str} {Q : Unit → Shared → Prop} (X : K.In s.heap) (I : ObjM s.heap x dx C mA)
    (hs : PySem.W.findIn K (.ref C) "__setattr__" = some (some (.builtin "object.__setattr__"))) (hp : PySem.W.plainOver K C = true) (ht : PySem.W.takerIn K C name = some none) (hh : PySem.W.hasDictIn K C = true)
    (hw : PySem.Within mA ns) (hsz : ns.length ≤ sizeLine)
    (h : ∀ h', ObjM h' x dx C (fun y => if y = name then some v else mA y) → Heap.SameBut dx s.heap h' → Q () { s with heap := h', toks := s.toks + 2 }) :
    wpAny (model prog w) A (setAttr (.ref x) name v) Q E s := by
  obtain ⟨od, J, hl⟩ := I.look
  refine PySem.W.set_plain X J hs (PySem.W.osa_open (s := { s with toks := s.toks + 1 }) (r := none) X J hp ht fun b => ?_)
  obtain ⟨cd, hc, hd'⟩ := PySem.W.any_some hh
  have hx : s.heap.get? x = some ⟨.ref C, some dx, .plain, #[]⟩ := I.obj
  refine wpAny_bind (wpAny_pure (wpAny_bind (wpAny_bind (wpAny_loadPart hx (wpAny_bind (PySem.W.Looks.here (s := { s with toks := s.toks + 1 }) (PySem.W.looks_clsIn X hc) ?_))))))
  rw [hd']
  refine wpAny_pure (a := some dx) (wpAny_bind (wpAny_pure (wpAny_bind ?_)))
  refine wpAny_nsSet1 (s := { s with toks := s.toks + 1 }) I.ns fun h' hn2 hs2 => ?_
  obtain ⟨oD, esD, epD, hoD, hdD, hcD⟩ := hn2.count (PySem.Within.cons name v hw)
  refine wpAny_bind (wpAny_lookBehind hoD (by rw [hdD]; exact pastItsLine_dict (Nat.le_trans hcD (by rw [List.length_cons]; omega))) ?_)
  exact wpAny_pure (h _ ⟨(hs2.2 _ (Ne.symm I.ne)).trans I.obj, hn2, I.ne⟩ hs2)
theorem make_map {R : Result → Shared → Prop} {vs : List Value} {kw : List (Str × Value)} (X : K.In s.heap) (hm : PySem.W.makesIn K C = true)
    (hi : PySem.W.findIn K (.ref C) "__init__" = some (some (.ref f))) (hf : PySem.W.typeIn K (.ref f) = some (.type "function"))
    (h : codeAny (model prog w) (A.under (.builtin "type.__call__" ⟨.ref C :: vs, kw⟩)) (.call (.ref f) ⟨.ref (s.heap.objs.size + 1) :: vs, kw⟩) (PySem.W.InitBack (s.heap.objs.size + 1) R)
      { s with heap := (s.heap.push PySem.W.emptyDict).push (PySem.W.instObj C s.heap.objs.size) }) :
    codeAny (model prog w) A (.call (.ref C) ⟨vs, kw⟩) R s := by
  obtain ⟨hh, g, d, t, os⟩ := s
  exact PySem.W.make_core (PySem.W.makes_of X hm) (PySem.W.looks_findIn X hi) (fun self => PySem.W.bind_fn X self hf) (.inl rfl) h
end
def putF (f : Str) (v : V) : List (Str × V) → List (Str × V)
  | [] => [(f, v)]
  | (g, x) :: r => if g = f then (g, v) :: r else (g, x) :: putF f v r
theorem lookup_putF (f g : Str) (v : V) : ∀ fs : List (Str × V), (putF f v fs).lookup g = if g = f then some v else fs.lookup g
  | [] => by
    show List.lookup g [(f, v)] = _
    by_cases h : g = f
    · have hb : (g == f) = true := beq_iff_eq.mpr h
      simp only [List.lookup, hb, if_pos h]
    · have hb : (g == f) = false := beq_eq_false_iff_ne.mpr h
      simp only [List.lookup, hb, if_neg h]
  | (k, x) :: r => by
    have ih := lookup_putF f g v r
    rw [show putF f v ((k, x) :: r) = (if k = f then (k, v) :: r else (k, x) :: putF f v r) from rfl]
    by_cases hk : k = f
    · rw [if_pos hk]
      by_cases h : g = k
      · have hb : (g == k) = true := beq_iff_eq.mpr h
        simp only [List.lookup, hb, if_pos (h.trans hk)]
      · have hb : (g == k) = false := beq_eq_false_iff_ne.mpr h
        simp only [List.lookup, hb, if_neg (fun e : g = f => h (e.trans hk.symm))]
    · rw [if_neg hk]
      by_cases h : g = k
      · have hb : (g == k) = true := beq_iff_eq.mpr h
        simp only [List.lookup, hb, if_neg (fun e : g = f => hk (h.symm.trans e))]
      · have hb : (g == k) = false := beq_eq_false_iff_ne.mpr h
        simp only [List.lookup, hb]
        exact ih
theorem keys_putF (f : Str) (v : V) : ∀ fs : List (Str × V), f ∈ (putF f v fs).map (·.1) ∧ ∀ g, g ∈ fs.map (·.1) → g ∈ (putF f v fs).map (·.1)
  | [] => ⟨by simp [putF], fun g h => by simp at h⟩
  | (k, x) :: r => by
    obtain ⟨i1, i2⟩ := keys_putF f v r
    rw [show putF f v ((k, x) :: r) = (if k = f then (k, v) :: r else (k, x) :: putF f v r) from rfl]
    by_cases hk : k = f
    · rw [if_pos hk]
      subst hk
      exact ⟨by simp, fun g h => by simpa using h⟩
    · rw [if_neg hk]
      refine ⟨?_, fun g h => ?_⟩
      · rw [List.map_cons]
        exact List.mem_cons_of_mem _ i1
      · rw [List.map_cons] at h ⊢
        rcases List.mem_cons.mp h with e | e
        · exact List.mem_cons.mpr (.inl e)
        · exact List.mem_cons_of_mem _ (i2 g e)
theorem length_putF (f : Str) (v : V) : ∀ fs : List (Str × V), (putF f v fs).length ≤ fs.length + 1
  | [] => by simp [putF]
  | (k, x) :: r => by
    have ih := length_putF f v r
    rw [show putF f v ((k, x) :: r) = (if k = f then (k, v) :: r else (k, x) :: putF f v r) from rfl]
    by_cases hk : k = f
    · rw [if_pos hk, List.length_cons, List.length_cons]; omega
    · rw [if_neg hk, List.length_cons, List.length_cons]; omega
theorem RelO.some_of {v : V} {o : Option Value} (r : RelO (some v) o) : ∃ u, o = some u ∧ RelV v u := by
  cases o with
  | none => exact (show False from r).elim
  | some u => exact ⟨u, rfl, r⟩
theorem handed_of {v : V} {u : Value} (r : RelV v u) : PySem.W.handedIn u = true := by
  cases v with
  | non => cases (show u = Value.none from r); rfl
  | bl b => cases (show u = Value.bool b from r); rfl
  | int i => obtain ⟨t, e⟩ := (show ∃ t, u = Value.int i t from r); cases e; rfl
  | str x => obtain ⟨t, e⟩ := (show ∃ t, u = Value.str x t from r); cases e; rfl
  | byt b => obtain ⟨t, e⟩ := (show ∃ t, u = Value.bytes b t from r); cases e; rfl
  | flt b => obtain ⟨t, e⟩ := (show ∃ t, u = Value.float b t from r); cases e; rfl
  | ref a => cases (show u = Value.ref a from r); rfl
  | ty n => cases (show u = Value.type n from r); rfl
section
variable {P : Program} {w : World} {H H' : Hp} {h h' : Heap} {a C dx : Addr} {fs fs' : List (Str × V)}
theorem ins_get (hok : HOk P w H h) (e : H a = some (.ins C dx fs)) : ∃ mA, ObjM h a dx C mA ∧ (∀ f, RelO (fs.lookup f) (mA f)) ∧ PySem.Within mA (fs.map (·.1)) ∧ fs.length ≤ 1000 ∧ H dx = some (.own a) := by
  obtain ⟨d, z, ne, ob, mA, n, r, q⟩ := (show ObjOk P w H h a (.ins C dx fs) from hok a _ e)
  exact ⟨mA, ⟨ob, n, ne⟩, r, q, z, d⟩
end
structure Cls (K : PySem.W.Frag) (C : Addr) : Prop where
  pg : PySem.W.plainGet K C Str.empty = true
  hd : PySem.W.hasDictIn K C = true
  po : PySem.W.plainOver K C = true
  sa : PySem.W.findIn K (.ref C) "__setattr__" = some (some (.builtin "object.__setattr__"))
theorem Cls.get {K : PySem.W.Frag} {C : Addr} (c : Cls K C) (f : Str) : PySem.W.plainGet K C f = true := c.pg
def NoAttr (K : PySem.W.Frag) (C : Addr) (f : Str) : Prop := PySem.W.findIn K (.ref C) f = some none
theorem NoAttr.taker {K : PySem.W.Frag} {C : Addr} {f : Str} (n : NoAttr K C f) : PySem.W.takerIn K C f = some none := by
  unfold PySem.W.takerIn
  rw [show PySem.W.findIn K (.ref C) f = some none from n]
  rfl
structure Con (K : PySem.W.Frag) (C : Addr) (f : Str) (v : V) (u : Value) : Prop where
  at_ : PySem.W.findIn K (.ref C) f = some (some u)
  rel : RelV v u
  get : PySem.W.specialIn K u "__get__" = some none
  cp : PySem.W.copiedNames.contains f = false
structure Meth (K : PySem.W.Frag) (C : Addr) (m : Str) (f : Addr) : Prop where
  at_ : PySem.W.findIn K (.ref C) m = some (some (.ref f))
  fn : PySem.W.isFn K (.ref f) = true
  kp : PySem.W.keepIn K (.ref f) = true
section
variable {X : Cx} {pins : List (Addr × Obj)} {σ : St} {H : Hp} {s : Shared} {a C dx : Addr} {fs : List (Str × V)} {f : Str} {v : V} {A : Around} {E : Value → Shared → Prop}
theorem getattr_ok {b : Bool} {Q : Value → Shared → Prop} (I : Inv X pins σ H s) (e : H a = some (.ins C dx fs)) (c : Cls X.K C) (n : NoAttr X.K C f) (l : fs.lookup f = some v)
    (h : ∀ u s', Inv X pins σ H s' → RelV v u → Q u s') : wpAny (model X.prog X.w) A (getAttr (.ref a) f b) Q E s := by
  obtain ⟨mA, O, r, _, _, _⟩ := ins_get I.hok e
  obtain ⟨u, hu, ru⟩ := RelO.some_of (v := v) (o := mA f) (by rw [← l]; exact r f)
  exact get_map I.kIn O (c.get f) c.hd n hu (handed_of ru) (h u _ (I.tok _) ru)
theorem setattr_ok {y : V} {u : Value} {Q : Unit → Shared → Prop} (I : Inv X pins σ H s) (e : H a = some (.ins C dx fs)) (c : Cls X.K C) (n : NoAttr X.K C f) (hl : fs.length < 1000) (ry : RelV y u)
    (h : ∀ s', Inv X pins σ (upd H a (.ins C dx (putF f y fs))) s' → Q () s') : wpAny (model X.prog X.w) A (setAttr (.ref a) f u) Q E s := by
  obtain ⟨mA, O, r, wi, _, ho⟩ := ins_get I.hok e
  have hz : (fs.map (·.1)).length ≤ sizeLine := by rw [List.length_map, sizeLine_eq]; omega
  refine set_map I.kIn O c.sa c.po n.taker c.hd wi hz fun h' O' sb => h _ ?_
  have hd : ∃ o, h'.get? dx = some o := let ⟨o, _, _, e', _⟩ := O'.ns; ⟨o, e'⟩
  refine I.write (x := a) (e := dx) (by rw [e]; exact True.intro) (.inr ho) (fun b q hb z => (sb.2 b hb).trans z) hd ?_
  refine ⟨by rw [upd_ne O.ne]; exact ho, ?_, O.ne, O'.obj, _, O'.ns, fun g => ?_, fun g hg => ?_⟩
  · have := length_putF f y fs; omega
  · show RelO ((putF f y fs).lookup g) (if g = f then some u else mA g)
    rw [lookup_putF]
    by_cases q : g = f
    · rw [if_pos q, if_pos q]; exact ry
    · rw [if_neg q, if_neg q]; exact r g
  · by_cases q : g = f
    · rw [q]; exact (keys_putF f y fs).1
    · refine (keys_putF f y fs).2 g (wi g fun z => hg ?_)
      show (if g = f then some u else mA g) = none
      rw [if_neg q]; exact z
theorem Inv.made (I : Inv X pins σ H s) : Inv X pins σ (upd (upd H s.heap.objs.size (.own (s.heap.objs.size + 1))) (s.heap.objs.size + 1) (.ins C s.heap.objs.size []))
    { s with heap := (s.heap.push PySem.W.emptyDict).push (PySem.W.instObj C s.heap.objs.size) } := by
  have e1 : (s.heap.push PySem.W.emptyDict).get? s.heap.objs.size = some PySem.W.emptyDict := Heap.get?_push_size s.heap rfl
  have e2 : ((s.heap.push PySem.W.emptyDict).push (PySem.W.instObj C s.heap.objs.size)).get? (s.heap.objs.size + 1) = some (PySem.W.instObj C s.heap.objs.size) := by
    have := Heap.get?_push_size (s.heap.push PySem.W.emptyDict) (o := PySem.W.instObj C s.heap.objs.size) rfl
    rwa [Heap.size_push] at this
  have e3 : (s.heap.push PySem.W.emptyDict).Ns s.heap.objs.size (fun _ => none) := ⟨PySem.W.emptyDict, #[], _, e1, rfl, (fun e he => absurd he (by simp)), fun _ => rfl⟩
  have I1 := I.laid (a := s.heap.objs.size) (o := .own (s.heap.objs.size + 1)) (h' := s.heap.push PySem.W.emptyDict) (t' := s.toks) (fun b u q => Heap.get?_push_of_some _ q) (Nat.le_refl _) ⟨_, e1⟩
  refine I1.laid (a := s.heap.objs.size + 1) (o := .ins C s.heap.objs.size []) (t' := s.toks) (fun b u q => Heap.get?_push_of_some _ q) (Nat.le_of_eq (Heap.size_push _ _)) ?_
  have ne : s.heap.objs.size ≠ s.heap.objs.size + 1 := Nat.ne_of_lt (Nat.lt_succ_self _)
  refine ⟨by rw [upd_ne ne, upd_same], Nat.zero_le _, ne, e2, fun _ => none, (Heap.Ns1.of_empty e3).at fun o q => Heap.get?_push_of_some _ q, fun _ => True.intro, fun y hy => absurd rfl hy⟩
theorem attr_of {prog : Program} {w : World} {env : Env} {e : Expr} {f : Str} {pos : Pos} {s : Shared} {Q : Value → Shared → Prop} (hb : attributeBase e f env (eval e env) = eval e env)
    (h : wpAny (model prog w) A (eval e env) (fun o s₁ => wpAny (model prog w) A (getAttr o f true) Q E s₁) E s) : wpAny (model prog w) A (eval (.Attribute e f pos) env) Q E s :=
  Attribute_any_ h (by rw [arm_eval_Attribute, hb])
end
def tFld (K : PySem.W.Frag) (ta : TE) (f : Str) : TE := fun σ H Q => ta σ H fun x H1 => ∃ a C dx fs v, x = .ref a ∧ H1 a = some (.ins C dx fs) ∧ Cls K C ∧ NoAttr K C f ∧ fs.lookup f = some v ∧ Q v H1
def sFld (K : PySem.W.Frag) (ta tv : TE) (f : Str) : TS := fun D σ H => tv σ H fun y H1 => ta σ H1 fun x H2 => ∃ a C dx fs, x = .ref a ∧ H2 a = some (.ins C dx fs) ∧ Cls K C ∧ NoAttr K C f ∧ fs.length < 1000 ∧
  D.nx σ (upd H2 a (.ins C dx (putF f y fs)))
section
variable {X : Cx} {o e value : Expr} {f : Str} {pos pos' tpos : Pos} {ta tv : TE}
theorem pe_fld (he : PE X e ta) (hb : attributeBase e f X.env (eval e X.env) = eval e X.env) : PE X (.Attribute e f pos) (tFld X.K ta f) := by
  intro pins s σ H Q I h
  refine attr_of hb (thn (he pins s σ H _ I h) fun u s1 ⟨x, H1, I1, rx, a, C, dx, fs, v, ex, ea, c, n, l, q⟩ => ?_)
  subst ex
  obtain rfl : u = Value.ref a := rx
  exact getattr_ok I1 ea c n l fun u' s2 I2 ru => ⟨v, H1, I2, ru, q⟩
theorem ps_fld (ha : PE X o ta) (hv : PE X value tv) (hs : swapsWith value (some (.Attribute o f pos')) pos.line X.env = pure false) : PS X (.Assign [.Attribute o f pos'] value pos) (sFld X.K ta tv f) := by
  intro pins s σ H D I h
  refine plainObj_wpAny_Assign_Attribute (thn (hv pins s σ H _ I h) fun u s1 ⟨y, H1, I1, ry, q⟩ => thn (ha pins s1 σ H1 _ I1 q) fun ov s2 ⟨x, H2, I2, rx, a, C, dx, fs, ex, ea, c, n, l, q2⟩ => ?_) hs
  subst ex
  obtain rfl : ov = Value.ref a := rx
  exact setattr_ok I2 ea c n l ry fun s3 I3 => ⟨σ, _, I3, q2⟩
end
section
variable {X : Cx} {pins : List (Addr × Obj)} {σ : St} {H : Hp} {s : Shared} {A : Around} {E : Value → Shared → Prop} {Q : Value → Shared → Prop} {c : Value} {b : Bool}
inductive TyOf (K : PySem.W.Frag) (H : Hp) : V → Value → Prop where
  | non : TyOf K H .non (.type "NoneType")
  | bl (x : Bool) : TyOf K H (.bl x) (.type "bool")
  | int (i : Int) : TyOf K H (.int i) (.type "int")
  | str (x : Str) : TyOf K H (.str x) (.type "str")
  | flt (x : UInt64) : TyOf K H (.flt x) (.type "float")
  | lst {a : Addr} {xs : List V} (e : H a = some (.lst xs)) : TyOf K H (.ref a) (.type "list")
  | frz {a : Addr} {o : Obj} {xs : List V} (e : H a = some (.frz o (.lst xs))) : TyOf K H (.ref a) (.type "list")
  | tup {a : Addr} {xs : List V} (e : H a = some (.tup xs)) : TyOf K H (.ref a) (.type "tuple")
  | dK {a : Addr} {kvs : List (Key × V)} (e : H a = some (.dK kvs)) : TyOf K H (.ref a) (.type "dict")
  | dT {a : Addr} {kvs : List (List Key × V)} (e : H a = some (.dT kvs)) : TyOf K H (.ref a) (.type "dict")
  | ins {a C dx : Addr} {fs : List (Str × V)} (e : H a = some (.ins C dx fs)) (cl : Cls K C) (ha : PySem.W.findIn K (.ref C) "__class__" = some (some (.builtin "object.__class__")))
      (hn : PySem.W.specialIn K (.builtin "object.__class__") "__get__" = some (some (.builtin "getset_descriptor.__get__"))) (htk : PySem.W.takesIn K (.builtin "object.__class__") = some true)
      (hm : PySem.W.mroIn K C (.type "object") = some true) : TyOf K H (.ref a) (.ref C)
end
end L2
namespace L2
open PySem PySem.Spec PyProof.Rows
structure Room (k : Nat) (A : Around) : Prop where
  hd : A.handled = none
  dp : A.depth + 3 * k + 5 < recursionLimit
  un : A.units + 16 * k + 200 < cLine
theorem Room.mono {j k : Nat} {A : Around} (r : Room k A) (h : j ≤ k) : Room j A := ⟨r.hd, by have := r.dp; omega, by have := r.un; omega⟩
theorem Room.deeper {k : Nat} {A : Around} (r : Room (k + 1) A) (env : Env) : Room k (A.deeper env) :=
  ⟨r.hd, by have := r.dp; show A.depth + 1 + 3 * k + 5 < _; omega, by have := r.un; show A.units + 3 + 16 * k + 200 < _; omega⟩
theorem make_depth {A : Around} {C : Addr} {us : List Value} {kw : List (Str × Value)} : (A.under (.builtin "type.__call__" ⟨.ref C :: us, kw⟩)).depth = A.depth + 1 := by
  first | rfl | simp [Around.under, Code.weight, Code.isCreation, Code.isGuard, Code.isCaller, Code.frames, Code.isFrame, guardIds]
theorem make_units {A : Around} {C : Addr} {us : List Value} {kw : List (Str × Value)} : (A.under (.builtin "type.__call__" ⟨.ref C :: us, kw⟩)).units = A.units + 1 := by
  first | rfl | simp [Around.under, Code.cUnits, Code.frames, Code.isFrame]
theorem Room.make {k : Nat} {A : Around} (r : Room (k + 1) A) (C : Addr) (us : List Value) (kw : List (Str × Value)) : Room k (A.under (.builtin "type.__call__" ⟨.ref C :: us, kw⟩)) :=
  ⟨r.hd, by have := r.dp; rw [make_depth]; omega, by have := r.un; rw [make_units]; omega⟩
theorem Room.depth {k : Nat} {A : Around} (r : Room k A) : A.depth < recursionLimit := by have := r.dp; omega
theorem Room.units {k : Nat} {A : Around} (r : Room k A) : A.units + 64 < cLine := by have := r.un; omega
def tNil : TA := fun _ H Q => Q [] H
def tCons (ta : TE) (tr : TA) : TA := fun σ H Q => ta σ H fun x H1 => tr σ H1 fun xs H2 => Q (x :: xs) H2
section
variable {X : Cx} {e : Expr} {es : List Expr} {te : TE} {t : TA} {pos : Pos}
theorem pa_nil : PA X [] tNil := fun _ _ _ _ H Q I h => Calls.spliced_nil ⟨[], H, I, .nil, h⟩
theorem pa_cons (ha : PE X e te) (hr : PA X es t) (hs : starEach (e :: es) X.env = (false, eval e X.env) :: starEach es X.env := by rfl) : PA X (e :: es) (tCons te t) := by
  intro pos pins s σ H Q I h
  rw [hs]
  show wpAny _ _ (spliced ((false, eval e X.env) :: backTo pos (starEach es X.env))) _ _ s
  refine Calls.spliced_cons (thn (ha pins s σ H _ I h) fun u s1 ⟨x, H1, I1, r1, q1⟩ => ?_)
  exact thn (hr pos pins s1 σ H1 _ I1 q1) fun us s2 ⟨xs, H2, I2, r2, q2⟩ => ⟨x :: xs, H2, I2, .cons r1 r2, q2⟩
def tTup (t : TA) : TE := fun σ H Q => t σ H fun xs H1 => xs.length ≤ sizeLine ∧ ∀ p, H1 p = none → Q (.ref p) (upd H1 p (.tup xs))
def tLst (t : TA) : TE := fun σ H Q => t σ H fun xs H1 => xs.length ≤ sizeLine ∧ ∀ p, H1 p = none → Q (.ref p) (upd H1 p (.lst xs))
theorem pe_tup {x1} (h : PA X es t) : PE X (.Tuple es x1 pos) (tTup t) := by
  intro pins s σ H Q I hq
  refine wpAny_Tuple_spliced (thn (h pos pins s σ H _ I hq) fun us s1 ⟨xs, H1, I1, r, z, q⟩ => ⟨by rw [← r.length]; exact z, ?_⟩)
  have hf : H1 s1.heap.objs.size = none := I1.hok.fresh (Nat.le_refl _)
  refine ⟨.ref s1.heap.objs.size, upd H1 s1.heap.objs.size (.tup xs), I1.laid (t' := s1.toks) (fun b u e => Heap.get?_push_of_some _ e) (Nat.le_refl _) ?_, rfl, q _ hf⟩
  exact ⟨z, us, r, ⟨_, Heap.get?_push_size _ rfl, rfl, _, rfl⟩⟩
theorem pe_lst (h : PA X es t) : PE X (.List es pos) (tLst t) := by
  intro pins s σ H Q I hq
  refine wpAny_List_spliced (thn (h pos pins s σ H _ I hq) fun us s1 ⟨xs, H1, I1, r, z, q⟩ => ⟨by rw [← r.length]; exact z, ?_⟩)
  have hf : H1 s1.heap.objs.size = none := I1.hok.fresh (Nat.le_refl _)
  refine ⟨.ref s1.heap.objs.size, upd H1 s1.heap.objs.size (.lst xs), I1.laid (t' := s1.toks) (fun b u e => Heap.get?_push_of_some _ e) (Nat.le_refl _) ?_, rfl, q _ hf⟩
  exact ⟨z, us, 0, r, Heap.get?_push_size _ rfl⟩
end
abbrev Sp := List V → Hp → VK → XK → Prop
abbrev CXT := List Env → Hp → Shared → XK → Value → Shared → Prop
structure Env0 (P : Program) (w : World) (K : PySem.W.Frag) (mg : Str → Option Value) (base : Heap) (A : Around) (outer : List Env) (s : Shared) (H : Hp) : Prop where
  frames : A.frames = some outer
  mod : Mod K mg base
  bs : ∀ b o, base.get? b = some o → s.heap.get? b = some o ∧ H b = none
  bsz : base.objs.size ≤ s.heap.objs.size
  funs : s.heap.FunFrames base outer
  frf : ∀ b ∈ frs outer, H b = none
  hok : HOk P w H s.heap
  bare : AllBare s.gens
def CE (outer : List Env) (P : Program) (w : World) (H : Hp) (s : Shared) (Q : VK) (u : Value) (s' : Shared) : Prop :=
  ∃ v H', s'.os = s.os ∧ AllBare s'.gens ∧ Un (frs outer) [] H H' s.heap s'.heap ∧ HOk P w H' s'.heap ∧ RelV v u ∧ Q v H'
def CR (CX : CXT) (outer : List Env) (P : Program) (w : World) (H : Hp) (s : Shared) (Q : VK) (E : XK) (r : Result) (s' : Shared) : Prop :=
  match r with
  | .ok (.ret u) => CE outer P w H s Q u s'
  | .ok _ => False
  | .error e => CX outer H s E e s'
structure FnOk (P : Program) (w : World) (K : PySem.W.Frag) (mg : Str → Option Value) (base : Heap) (CX : CXT) (k : Nat) (f : Addr) (fd : FuncData) (ps : List Str) (sp : Sp) : Prop where
  len : ∀ vs H Q E, sp vs H Q E → vs.length = ps.length
  run : ∀ (A : Around) (outer : List Env) (s : Shared) (H : Hp) (args : Args) (us : List Value) (vs : List V) (Q : VK) (E : XK), Room k A → Env0 P w K mg base A outer s H → BindsTo s fd args (ps.zip us) → Vals vs us → sp vs H Q E →
    codeAny (model P w) A (.call (.ref f) args) (CR CX outer P w H s Q E) s
theorem Env0.make {P : Program} {w : World} {K : PySem.W.Frag} {mg : Str → Option Value} {base : Heap} {A : Around} {outer : List Env} {s : Shared} {H : Hp} (e : Env0 P w K mg base A outer s H) (C : Addr) (us : List Value) (kw : List (Str × Value)) :
    Env0 P w K mg base (A.under (.builtin "type.__call__" ⟨.ref C :: us, kw⟩)) outer s H := ⟨by first | exact e.frames | (simpa [Around.under, Code.envs, Code.isFrame, pushEnvs] using e.frames), e.mod, e.bs, e.bsz, e.funs, e.frf, e.hok, e.bare⟩
section
variable {X : Cx} {pins : List (Addr × Obj)} {σ : St} {H : Hp} {s s' : Shared}
theorem Inv.env0 (I : Inv X pins σ H s) : Env0 X.prog X.w X.K X.mg X.base X.A X.stack s H :=
  ⟨I.ok.frames, I.ok.mod, I.bs, Nat.le_trans I.ok.bsz I.sz, I.stack, I.stkFree, I.hok, I.bare⟩
theorem Inv.after {Q : VK} {u : Value} (I : Inv X pins σ H s) (h : CE X.stack X.prog X.w H s Q u s') : EP X pins σ Q u s' := by
  obtain ⟨v, H', os, bare, un, hok, r, q⟩ := h
  obtain ⟨hh, g, d, t, os'⟩ := s'
  obtain rfl : os' = s.os := os
  exact ⟨v, H', I.call (h' := hh) (g' := g) (d' := d) (t' := t) (ch := []) un hok bare (fun b z => absurd z (by simp)), r, q⟩
end
def tCall (sp : Sp) (dvs : List V) (E : XK) (t : TA) : TE := fun σ H Q => t σ H fun vs H1 => sp (vs ++ dvs) H1 Q E
def Binds (K : PySem.W.Frag) (fd : FuncData) (ps : List Str) (ds : List Value) : Prop :=
  ∀ (s : Shared) (us : List Value), K.In s.heap → (us ++ ds).length = ps.length → BindsTo s fd ⟨us, []⟩ (ps.zip (us ++ ds))
theorem Binds.all {K : PySem.W.Frag} {fd : FuncData} {ps : List Str} (h : ∀ us : List Value, us.length = ps.length → bindArgs fd ⟨us, []⟩ = pure (ps.zip us)) : Binds K fd ps [] := fun s us _ hl => by
  rw [List.append_nil] at hl ⊢
  exact .of_eq (h us hl)
def Passes (CX : CXT) (X : Cx) (E : XK) : Prop := ∀ (pins : List (Addr × Obj)) (σ : St) (H : Hp) (s : Shared) (e : Value) (s' : Shared), Inv X pins σ H s → CX X.stack H s E e s' → X.xe e s'
section
variable {X : Cx} {CX : CXT} {k : Nat} {f C : Addr} {fd : FuncData} {ps : List Str} {sp : Sp} {dvs : List V} {ds : List Value} {E : XK} {x m : Str} {p pos apos : Pos} {e o : Expr} {es : List Expr} {ta : TE} {t : TA}
theorem run_fn {pins : List (Addr × Obj)} {σ : St} {H : Hp} {s : Shared} {Q : VK} {us : List Value} {vs : List V} (F : FnOk X.prog X.w X.K X.mg X.base CX k f fd ps sp) (hr : Room k X.A) (hb : Binds X.K fd ps ds) (hd : Vals dvs ds) (hx : Passes CX X E)
    (I : Inv X pins σ H s) (r : Vals vs us) (h : sp (vs ++ dvs) H Q E) : wpAny (model X.prog X.w) X.A (call (.ref f) us) (EP X pins σ Q) X.xe s := by
  have r2 : Vals (vs ++ dvs) (us ++ ds) := r.append hd
  have hl : (us ++ ds).length = ps.length := by rw [← r2.length]; exact F.len _ _ _ _ h
  refine wpAny_call (codeAny_mono (F.run X.A X.stack s H ⟨us, []⟩ (us ++ ds) (vs ++ dvs) Q E hr I.env0 (hb s us I.kIn hl) r2 h) fun r s' hq => ?_)
  cases r with
  | error e => exact hx pins σ H s e s' I hq
  | ok fl =>
    cases fl with
    | ret u => exact I.after hq
    | next => exact False.elim hq
    | brk => exact False.elim hq
    | cont => exact False.elim hq
theorem pe_call (F : FnOk X.prog X.w X.K X.mg X.base CX k f fd ps sp) (hr : Room k X.A) (hg : Gl X x) (hm : X.mg x = some (.ref f)) (hk : PySem.W.keepIn X.K (.ref f) = true) (hb : Binds X.K fd ps ds) (hd : Vals dvs ds) (hx : Passes CX X E)
    (ha : PA X (e :: es) t) (hdb : (x == ("__debug__" : Str)) = false := by decide) (he : starEach (e :: es) X.env = (false, eval e X.env) :: starEach es X.env := by rfl) (hpl : (backTo pos (starEach es X.env)).any (·.1) = false := by rfl) :
    PE X (.Call (.Name x p) (e :: es) [] pos) (tCall sp dvs E t) := by
  intro pins s σ H Q I h
  refine wpAny_Call_Name_kw (ld_glob I hg hm ?_ hdb)
  refine PySem.W.callWith_K (h₀ := X.base) I.ok.mod.kin hk (thn (ha pos pins s σ H _ I h) fun us s1 ⟨vs, H1, I1, r, q⟩ => ⟨I1.kIn, ?_⟩) he hpl
  exact run_fn F hr hb hd hx I1 r q
structure Mk (K : PySem.W.Frag) (C f : Addr) : Prop where
  makes : PySem.W.makesIn K C = true
  init : PySem.W.findIn K (.ref C) "__init__" = some (some (.ref f))
  fn : PySem.W.isFn K (.ref f) = true
  kp : PySem.W.keepIn K (.ref C) = true
end
section
variable {X : Cx} {CX : CXT} {k : Nat} {f C : Addr} {fd : FuncData} {ps ks : List Str} {sp : Sp} {E : XK} {x m : Str} {p pos apos kpos : Pos} {e o : Expr} {es : List Expr} {kws : List Keyword} {te ta : TE} {t tk : TA} {nm : Option Str}
structure KBinds (K : PySem.W.Frag) (fd : FuncData) (ps ks : List Str) (g : List Value → List Value → List Value) (gV : List V → List V → List V) : Prop where
  to : ∀ (s : Shared) (us ws : List Value), K.In s.heap → (g us ws).length = ps.length → BindsTo s fd ⟨us, ks.zip ws⟩ (ps.zip (g us ws))
  rel : ∀ {vs : List V} {us : List Value} {zs : List V} {ws : List Value}, Vals vs us → Vals zs ws → Vals (gV vs zs) (g us ws)
variable {g : List Value → List Value → List Value} {gV : List V → List V → List V}
end
structure FnScope (N P : List Str) (sc : Scope) : Prop where
  kind : sc.kind = .function
  co : sc.isCoroutine = false
  gen : sc.isGenerator = false
  nd : N.Nodup
  pre : N.take P.length = P
  par : ∀ x ∈ P, sc.names.lookup x = some .local ∨ sc.names.lookup x = some .cell
  nofree : ∀ y ∈ sc.names, y.2 ≠ .free
theorem bindL_out {kindOf : Str → Option NameKind} {x : Str} : ∀ {binds : List (Str × Value)} {m : Str → Option Value}, (∀ v, (x, v) ∉ binds) → bindL kindOf binds m x = m x
  | [], _, _ => rfl
  | (n, v) :: r, m, h => by
    unfold bindL
    rw [bindL_out fun w hw => h w (List.mem_cons_of_mem _ hw)]
    split
    · have : x ≠ n := by rintro rfl; exact h v List.mem_cons_self
      simp [this]
    · rfl
theorem bindC_out {kindOf : Str → Option NameKind} {x : Str} : ∀ {binds : List (Str × Value)} {m : Str → Option Value}, (∀ v, (x, v) ∉ binds) → bindC kindOf binds m x = m x
  | [], _, _ => rfl
  | (n, v) :: r, m, h => by
    unfold bindC
    rw [bindC_out fun w hw => h w (List.mem_cons_of_mem _ hw)]
    split
    · rfl
    · have : x ≠ n := by rintro rfl; exact h v List.mem_cons_self
      simp [this]
theorem bindL_get {kindOf : Str → Option NameKind} {x : Str} {v : Value} : ∀ {P : List Str} {vs : List Value} {i : Nat} {m : Str → Option Value}, P.Nodup → P[i]? = some x → vs[i]? = some v → kindOf x = some .local →
    bindL kindOf (P.zip vs) m x = some v
  | [], _, _, _, _, h, _, _ => by simp at h
  | _ :: _, [], _, _, _, _, h, _ => by simp at h
  | p :: P, w :: vs, 0, m, nd, h1, h2, hk => by
    simp at h1 h2; subst h1; subst h2
    show bindL kindOf ((p, w) :: P.zip vs) m p = _
    unfold bindL
    rw [bindL_out fun v hv => (List.nodup_cons.mp nd).1 (List.of_mem_zip hv).1, if_pos hk]
    simp
  | p :: P, w :: vs, i + 1, m, nd, h1, h2, hk => by
    show bindL kindOf ((p, w) :: P.zip vs) m x = _
    unfold bindL
    exact bindL_get (i := i) (List.nodup_cons.mp nd).2 (by simpa using h1) (by simpa using h2) hk
theorem bindC_get {kindOf : Str → Option NameKind} {x : Str} {v : Value} : ∀ {P : List Str} {vs : List Value} {i : Nat} {m : Str → Option Value}, P.Nodup → P[i]? = some x → vs[i]? = some v → kindOf x ≠ some .local →
    bindC kindOf (P.zip vs) m x = some v
  | [], _, _, _, _, h, _, _ => by simp at h
  | _ :: _, [], _, _, _, _, h, _ => by simp at h
  | p :: P, w :: vs, 0, m, nd, h1, h2, hk => by
    simp at h1 h2; subst h1; subst h2
    show bindC kindOf ((p, w) :: P.zip vs) m p = _
    unfold bindC
    rw [bindC_out fun v hv => (List.nodup_cons.mp nd).1 (List.of_mem_zip hv).1, if_neg hk]
    simp
  | p :: P, w :: vs, i + 1, m, nd, h1, h2, hk => by
    show bindC kindOf ((p, w) :: P.zip vs) m x = _
    unfold bindC
    exact bindC_get (i := i) (List.nodup_cons.mp nd).2 (by simpa using h1) (by simpa using h2) hk
def start (N : List Str) (vs : List V) : St := vs.map some ++ List.replicate (N.length - vs.length) none
def cxOf (CX : CXT) (P : Program) (w : World) (K : PySem.W.Frag) (mg : Str → Option Value) (base : Heap) (N : List Str) (qual : Str) (scope : Scope) (f : Addr) (cd : Value) (A : Around) (outer : List Env) (s : Shared) (H : Hp) (E : XK) : Cx where
  prog := P
  w := w
  K := K
  mg := mg
  base := base
  A := A.deeper (envOfC qual scope s.heap.objs.size f cd)
  N := N
  s₀ := s
  H₀ := H
  env := envOfC qual scope s.heap.objs.size f cd
  outer := outer
  stack := envOfC qual scope s.heap.objs.size f cd :: outer
  ex := []
  calm := true
  fn := fun _ => true
  pn := []
  xe := fun e s' => wpAny (model P w) (A.deeper (envOfC qual scope s.heap.objs.size f cd)) (leaving (envOfC qual scope s.heap.objs.size f cd) e) (fun _ s'' => CX outer H s E e s'') (fun e' s'' => CX outer H s E e' s'') s'
theorem cell_has {sc : Scope} {n : Nat} {x : Str} (h : sc.names.lookup x = some .cell) : ∃ c, (cellsFrom n sc.names []).lookup x = some c := by
  have q := PySem.W.cellsFrom_some sc.names n [] (.inl h)
  exact Option.isSome_iff_exists.mp q
theorem inv_start {CX : CXT} {P : Program} {w : World} {K : PySem.W.Frag} {mg : Str → Option Value} {base : Heap} {N ps : List Str} {qual : Str} {scope : Scope} {f : Addr} {cd : Value} {A : Around} {outer : List Env} {s s1 : Shared} {H : Hp} {E : XK} {us : List Value} {vs : List V}
    (S : FnScope N ps scope) (hd : A.handled = none) (e0 : Env0 P w K mg base A outer s H) (hl : vs.length = ps.length) (r : Vals vs us)
    (x : InCallC s s.heap.objs.size (bindL (envOfC qual scope s.heap.objs.size f cd).kindOf (ps.zip us) fun _ => none) (cellsFrom (s.heap.objs.size + 1) scope.names []) (bindC (envOfC qual scope s.heap.objs.size f cd).kindOf (ps.zip us) fun _ => none) s1) :
    Inv (cxOf CX P w K mg base N qual scope f cd A outer s H E) [] (start N vs) H s1 := by
  have hpl : ps.length ≤ N.length := by have := congrArg List.length S.pre; rw [List.length_take] at this; omega
  obtain ⟨h1, tk, rfl, hk⟩ := x.done
  have noA : ∀ b : Addr, b ∉ (cxOf CX P w K mg base N qual scope f cd A outer s H E).ex := fun b z => absurd (show b ∈ ([] : List Addr) from z) (by simp)
  refine ⟨⟨e0.mod, S.kind, rfl, rfl, Nat.le_refl _, fun y z c h1 h2 => ?_, fun y hy => ?_, fun y c _ h => ?_, fun _ => hd, Around.frames_deeper e0.frames, .inr ⟨rfl, rfl⟩, fun b z => absurd z (noA b), e0.bs, e0.bsz, fun b _ _ => noA b, fun b z => absurd z (noA b), e0.funs, e0.frf⟩,
    rfl, e0.bare, Un.kept hk, ⟨_, x.toInCall.ns, fun i y v h1 h2 h3 => ?_⟩, fun y c h => ⟨_, x.cell y c h⟩, e0.hok.fresh (Nat.le_refl _), fun y c h => ?_, fun p hp => absurd (show p ∈ ([] : List (Addr × Obj)) from hp) (by simp), e0.hok.kept hk, ?_⟩
  · exact name_of_addr x.apart (PySem.mem_of_lookup h1) (PySem.mem_of_lookup h2)
  · have hy : scope.names.lookup y = some .cell ∨ scope.names.lookup y = some .free := hy
    rcases hy with hy | hy
    · exact cell_has hy
    · exact absurd rfl (S.nofree _ (PySem.mem_of_lookup hy))
  · exact Nat.le_of_lt (x.above y c (PySem.mem_of_lookup h))
  · have hi : i < vs.length := by
      unfold start at h2
      by_cases hi : i < vs.length
      · exact hi
      · rw [List.getElem?_append_right (by simpa using hi)] at h2
        rw [List.getElem?_replicate] at h2
        split at h2 <;> cases h2
    have ha : vs[i]? = some v := by
      unfold start at h2
      rw [List.getElem?_append_left (by simpa using hi), List.getElem?_map] at h2
      cases e : vs[i]? with
      | none => rw [e] at h2; cases h2
      | some a => rw [e] at h2; cases h2; rfl
    obtain ⟨u, hu, rv⟩ := r.get ha
    have hp : ps[i]? = some y := by
      rw [← S.pre, List.getElem?_take_of_lt (by omega)]; exact h1
    have ndP : ps.Nodup := by rw [← S.pre]; exact S.nd.sublist (List.take_sublist _ _)
    refine ⟨u, rv, ?_⟩
    rcases S.par y (List.mem_of_getElem? hp) with k | k
    · exact .inl ⟨k, bindL_get ndP hp hu k⟩
    · obtain ⟨c, e⟩ := cell_has (n := s.heap.objs.size + 1) k
      refine .inr ⟨.inl k, c, e, ?_⟩
      have q := x.cell y c e
      rw [bindC_get ndP hp hu (by show scope.names.lookup y ≠ _; rw [k]; decide)] at q
      exact q
  · exact e0.hok.fresh (Nat.le_of_lt (x.above y c (PySem.mem_of_lookup h)))
  · unfold start
    show _ = N.length
    rw [List.length_append, List.length_map, List.length_replicate]
    omega
theorem fn_of {CX : CXT} {P : Program} {w : World} {K : PySem.W.Frag} {mg : Str → Option Value} {base : Heap} {k : Nat} {f : Addr} {name qual : Str} {params : Arguments} {body : List Stmt} {scope : Scope} {dV kV doc pm cdv ct oc : Value} {an od : Option Addr}
    {osl : Array (Option Value)} {N ps : List Str} {sp : Sp} (lk : K.lookup f = some ⟨oc, od, .func (PySem.W.fnOf name qual params body scope dV kV doc pm an cdv ct), osl⟩) (hcd : PySem.W.codeIn K cdv qual = true) (S : FnScope N ps scope)
    (len : ∀ vs H Q E, sp vs H Q E → vs.length = ps.length)
    (hbody : ∀ (A : Around) (outer : List Env) (s : Shared) (H : Hp) (vs : List V) (Q : VK) (E : XK), Room k (A.deeper (envOfC qual scope s.heap.objs.size f cdv)) → sp vs H Q E →
      ∃ t, PSs (cxOf CX P w K mg base N qual scope f cdv A outer s H E) body t ∧ t { nx := fun _ H' => Q .non H', rt := Q } (start N vs) H) :
    FnOk P w K mg base CX (k + 1) f (PySem.W.fnOf name qual params body scope dV kV doc pm an cdv ct) ps sp := by
  refine ⟨len, fun A outer s H args us vs Q E hr e0 hb r hsp => ?_⟩
  have hl := len _ _ _ _ hsp
  have KX : K.In s.heap := e0.mod.kin.keeps fun b o e => (e0.bs b o e).1
  have lim : s.heap.NoLimit := e0.mod.nolimit.keeps fun b o e => (e0.bs b o e).1
  have hkind : ∀ y ∈ ps.zip us, scope.names.lookup y.1 = some .local ∨ (scope.names.lookup y.1 = some .cell ∧ ((cellsFrom (s.heap.objs.size + 1) scope.names []).lookup y.1).isSome = true) := fun ⟨n, v⟩ hy => by
    rcases S.par n (List.of_mem_zip hy).1 with q | q
    · exact .inl q
    · exact .inr ⟨q, PySem.W.cellsFrom_some _ _ _ (.inl q)⟩
  refine codeAny_call_function hr.depth (KX _ _ lk) rfl S.co S.gen rfl (PySem.W.codeRec_of KX hcd) (hb _ _ _ _ ?_)
  refine wpAny_newFunctionEnv_cells S.kind hkind fun env he s1 x => ?_
  subst he
  refine ⟨lim.keeps x.toInCall.keep, codeAny_func ?_⟩
  obtain ⟨t, ht, hq⟩ := hbody A outer s H vs Q E (hr.deeper _) hsp
  have I : Inv (cxOf CX P w K mg base N qual scope f cdv A outer s H E) [] (start N vs) H s1 := inv_start S hr.hd e0 hl r x
  refine wpAny_mono (ht [] s1 (start N vs) H _ I hq) (fun fl s' hs => ?_) fun e s' hs => hs
  have fin : ∀ {σ' : St} {H' : Hp} {v : V} {u : Value}, Inv (cxOf CX P w K mg base N qual scope f cdv A outer s H E) [] σ' H' s' → RelV v u → Q v H' → CE outer P w H s Q u s' :=
    fun {σ' H' v u} J rv q => ⟨v, H', J.os, J.bare, J.base, J.hok, rv, q⟩
  cases fl with
  | ret u =>
    obtain ⟨v, σ', H', J, rv, q⟩ := hs
    exact fin J rv q
  | next =>
    obtain ⟨σ', H', J, q⟩ := hs
    exact fin (v := V.non) (u := Value.none) J rfl q
  | brk =>
    obtain ⟨_, _, _, q⟩ := hs
    exact False.elim q
  | cont =>
    obtain ⟨_, _, _, q⟩ := hs
    exact False.elim q
end L2
namespace L2
open PySem PySem.Spec PyProof.Rows
section
variable {X : Cx} {x : Str} {p pos : Pos} {e : Expr} {es : List Expr} {t : TA} {id T : String} {r : List V → Hp → VK → Prop}
def tCB (r : List V → Hp → VK → Prop) (t : TA) : TE := fun σ H Q => t σ H fun vs H1 => r vs H1 Q
theorem pe_callB (hc : CallR X (.builtin id) r) (hg : Gl X x) (hm : X.mg x = none) (hv : bootBuiltins x = some (.builtin id)) (ha : PA X (e :: es) t) (hn : x ≠ "__name__" := by decide) (hdb : (x == ("__debug__" : Str)) = false := by decide)
    (he : starEach (e :: es) X.env = (false, eval e X.env) :: starEach es X.env := by rfl) (hpl : (backTo pos (starEach es X.env)).any (·.1) = false := by rfl) : PE X (.Call (.Name x p) (e :: es) [] pos) (tCB r t) := by
  intro pins s σ H Q I h
  refine wpAny_Call_Name_kw (ld_blt I hg hm hv ?_ hn hdb)
  exact PyProof.Rows.callWith_builtin1 (thn (ha pos pins s σ H _ I h) fun us s1 ⟨vs, H1, I1, r1, q1⟩ => hc pins s1 σ H1 vs us Q I1 r1 q1) he hpl
theorem pe_callTy (hc : CallR X (.type T) r) (hg : Gl X x) (hm : X.mg x = none) (hv : bootBuiltins x = some (.type T)) (ha : PA X (e :: es) t) (hn : x ≠ "__name__" := by decide) (hdb : (x == ("__debug__" : Str)) = false := by decide)
    (he : starEach (e :: es) X.env = (false, eval e X.env) :: starEach es X.env := by rfl) (hpl : (backTo pos (starEach es X.env)).any (·.1) = false := by rfl) : PE X (.Call (.Name x p) (e :: es) [] pos) (tCB r t) := by
  intro pins s σ H Q I h
  refine wpAny_Call_Name_kw (ld_blt I hg hm hv ?_ hn hdb)
  exact PyProof.Rows.callWith_type1 (thn (ha pos pins s σ H _ I h) fun us s1 ⟨vs, H1, I1, r1, q1⟩ => hc pins s1 σ H1 vs us Q I1 r1 q1) he hpl
end
end L2
namespace HT
open PySem PyProof.Rows
def lexLt : List Int → List Int → Bool
  | [], [] => false
  | [], _ :: _ => true
  | _ :: _, [] => false
  | x :: xs, y :: ys => if x = y then lexLt xs ys else decide (x < y)
theorem lexLt_cons (x y : Int) (xs ys : List Int) : lexLt (x :: xs) (y :: ys) = if x = y then lexLt xs ys else decide (x < y) := rfl
theorem lexLt_nil_nil : lexLt [] [] = false := rfl
theorem lexLt_nil_cons (y : Int) (ys : List Int) : lexLt [] (y :: ys) = true := rfl
theorem lexLt_cons_nil (x : Int) (xs : List Int) : lexLt (x :: xs) [] = false := rfl
theorem eqAt_int (A : Around) (s : Shared) (a : Int) (t : Tok) (c : Int) (u : Tok) : ∃ e, SeqAt.EqAt A s (.int a t) (.int c u) e ∧ (e = true ↔ a = c) :=
  ⟨(a == c), SeqAt.EqAt.int_int a t c u, by simp⟩
theorem rcLt_int (A : Around) (s : Shared) (a : Int) (t : Tok) (c : Int) (u : Tok) (prog : Program) (w : World) (E : Value → Shared → Prop) (Q : Value → Shared → Prop) (h : Q (.bool (decide (a < c))) s) :
    wpAny (model prog w) A (richCompare .Lt (.int a t) (.int c u)) Q E s :=
  (PyProof.Rows.lt_int h : wpAny (model prog w) A (compareOp .Lt (.int a t) (.int c u)) Q E s)
section
open PySem.SeqAt
open PySem.AutoSeq1 (wpAny_loadPart')
open PySem.MeetsSeq PySem.MeetsSeq2 PySem.MeetsSeq3
end
section
variable {prog : Program} {w : World} {A : Around} {E : Value → Shared → Prop} {s : Shared}
def sIx (n d : Nat) : Option Int → Nat
  | none => d
  | some v => if v < 0 then (v + (n : Int)).toNat else min v.toNat n
theorem sIx_none (n d : Nat) : sIx n d none = d := rfl
theorem sIx_nat (n d k : Nat) : sIx n d (some (k : Int)) = min k n := by
  show (if (k : Int) < 0 then ((k : Int) + (n : Int)).toNat else min (k : Int).toNat n) = min k n
  rw [if_neg (by omega), Int.toNat_natCast]
end
end HT
namespace L2
open PySem PySem.Spec PyProof.Rows
abbrev TO := St → Hp → (Option Int → Hp → Prop) → Prop
def PO (X : Cx) (e : Option Expr) (t : TO) : Prop :=
  ∀ (pins : List (Addr × Obj)) (s : Shared) (σ : St) (H : Hp) (Q : Option Int → Hp → Prop), Inv X pins σ H s → t σ H Q →
    wpAny (model X.prog X.w) X.A (evalPart e X.env) (fun u s' => ∃ o H', Inv X pins σ H' s' ∧ IsPart u o ∧ Q o H') X.xe s
def tNoPart : TO := fun _ H Q => Q none H
def tPart (t : TE) : TO := fun σ H Q => t σ H fun x H1 => ∃ i, x = .int i ∧ Q (some i) H1
section
variable {X : Cx} {e : Expr} {te : TE} {lo hi : Option Expr} {tl th : TO} {pos p2 : Pos}
theorem po_none : PO X none tNoPart := by
  intro pins s σ H Q I h
  rw [evalPart_none]
  exact wpAny_pure ⟨none, H, I, .none, h⟩
theorem po_some (h : PE X e te) : PO X (some e) (tPart te) := by
  intro pins s σ H Q I hw
  rw [evalPart_some]
  refine thn (h pins s σ H _ I hw) fun u s1 ⟨x, H1, I1, r1, q1⟩ => ?_
  obtain ⟨i, rfl, q⟩ := q1
  obtain ⟨t, rfl⟩ := r1
  exact ⟨some i, H1, I1, .int i t, q⟩
def SlR (X : Cx) (r : V → Option Int → Option Int → Hp → VK → Prop) : Prop :=
  ∀ (pins : List (Addr × Obj)) (s : Shared) (σ : St) (H : Hp) (x : V) (v vl vu : Value) (lo hi : Option Int) (sl : Addr) (Q : VK), Inv X pins σ H s → RelV x v → s.heap.IsSliceOf sl vl vu .none → IsPart vl lo → IsPart vu hi → r x lo hi H Q →
    ∃ T id, typeLookup (.type T) "__getitem__" = pure (some (.builtin id)) ∧ s.TypeIs v T ∧ wpAny (model X.prog X.w) X.A (getItem v (.ref sl)) (EP X pins σ Q) X.xe s
def tSl (r : V → Option Int → Option Int → Hp → VK → Prop) (te : TE) (tl th : TO) : TE := fun σ H Q => te σ H fun x H1 => tl σ H1 fun l H2 => th σ H2 fun u H3 => r x l u H3 Q
theorem pe_slice {r : V → Option Int → Option Int → Hp → VK → Prop} (hr : SlR X r) (he : PE X e te) (hl : PO X lo tl) (hu : PO X hi th) : PE X (.Subscript e (.Slice lo hi none p2) pos) (tSl r te tl th) := by
  intro pins s σ H Q I h
  refine Subscript_ (thn (he pins s σ H _ I h) fun v s1 ⟨x, H1, I1, r1, q1⟩ => ?_)
  refine wpAny_Slice (thn (hl pins s1 σ H1 _ I1 q1) fun vl s2 ⟨l, H2, I2, pl, q2⟩ => thn (hu pins s2 σ H2 _ I2 q2) fun vu s3 ⟨u, H3, I3, pu, q3⟩ => ?_)
  rw [evalPart_none]
  refine wpAny_pure ?_
  have I4 : Inv X pins σ H3 { s3 with heap := s3.heap.push { cls := .type "slice", data := .fields #[vl, vu, .none] } } := I3.kept (t' := s3.toks) fun b ob q => Heap.get?_push_of_some _ q
  obtain ⟨T, id, hT, ht, hg⟩ := hr pins { s3 with heap := s3.heap.push { cls := .type "slice", data := .fields #[vl, vu, .none] } } σ H3 x v vl vu l u s3.heap.objs.size Q I4 r1 (Heap.IsSliceOf.new ..) pl pu q3
  show wpAny (model X.prog X.w) X.A (subscriptTail e (.Slice lo hi none p2) v (.ref s3.heap.objs.size)) (EP X pins σ Q) X.xe { s3 with heap := s3.heap.push { cls := .type "slice", data := .fields #[vl, vu, .none] } }
  exact tail_any (ops := [.ref s3.heap.objs.size, v]) ht hT hg (by with_unfolding_all rfl)
def cutV (xs : List V) (lo hi : Option Int) : List V := (xs.drop (HT.sIx xs.length 0 lo)).take (HT.sIx xs.length xs.length hi - HT.sIx xs.length 0 lo)
theorem cutV_length (xs : List V) (lo hi : Option Int) : (cutV xs lo hi).length ≤ xs.length := by
  unfold cutV
  rw [List.length_take, List.length_drop]
  omega
end
end L2
namespace L2
open PySem PySem.Spec PyProof.Rows
def ixN (n : Nat) (i : Int) : Option Nat := if 0 ≤ i then (if i < n then some i.toNat else none) else if -(n : Int) ≤ i then some (i + n).toNat else none
def atI {α : Type} (xs : List α) (i : Int) : Option α := (ixN xs.length i).bind fun j => xs[j]?
theorem ixN_seq {n : Nat} {i : Int} {j : Nat} (h : ixN n i = some j) : seqIndex? i n = some j ∧ j < n ∧ -(n : Int) ≤ i ∧ i < n := by
  unfold ixN at h
  by_cases h0 : 0 ≤ i
  · rw [if_pos h0] at h
    by_cases h1 : i < n
    · rw [if_pos h1] at h
      have e : i.toNat = j := Option.some.inj h
      exact ⟨by rw [seqIndex_of h0 h1, e], by omega, by omega, h1⟩
    · rw [if_neg h1] at h; cases h
  · rw [if_neg h0] at h
    by_cases h1 : -(n : Int) ≤ i
    · rw [if_pos h1] at h
      have e : (i + n).toNat = j := Option.some.inj h
      exact ⟨by rw [seqIndex_neg (by omega) h1, e], by omega, h1, by omega⟩
    · rw [if_neg h1] at h; cases h
theorem atI_get {α : Type} {xs : List α} {i : Int} {v : α} (h : atI xs i = some v) : ∃ j, seqIndex? i xs.length = some j ∧ xs[j]? = some v ∧ j < xs.length ∧ -(xs.length : Int) ≤ i ∧ i < xs.length := by
  unfold atI at h
  cases e : ixN xs.length i with
  | none => rw [e] at h; cases h
  | some j =>
    rw [e] at h
    obtain ⟨h1, h2, h3, h4⟩ := ixN_seq e
    exact ⟨j, h1, h, h2, h3, h4⟩
theorem atI_nat {α : Type} {xs : List α} {j : Nat} {v : α} (h : xs[j]? = some v) : atI xs (j : Int) = some v := by
  have hj : j < xs.length := (List.getElem?_eq_some_iff.mp h).1
  have e : ixN xs.length (j : Int) = some j := by
    unfold ixN
    rw [if_pos (by omega), if_pos (by omega)]; simp
  unfold atI; rw [e]; exact h
def PlainIx (b : Expr) : Prop := ∀ o i, subscripted b false o i = operate [o, i] (getItem o i)
def IxR (X : Cx) (r : R2) : Prop :=
  ∀ (value slice : Expr) (pins : List (Addr × Obj)) (s : Shared) (σ : St) (H : Hp) (x y : V) (v u : Value) (Q : VK), Inv X pins σ H s → RelV x v → RelV y u → r x y H Q →
    subscripted slice false v u = operate [v, u] (getItem v u) → wpAny (model X.prog X.w) X.A (subscriptTail value slice v u) (EP X pins σ Q) X.xe s
def MtR (X : Cx) (id : String) (r : V → List V → Hp → VK → Prop) : Prop :=
  ∀ (pins : List (Addr × Obj)) (s : Shared) (σ : St) (H : Hp) (x : V) (xs : List V) (v : Value) (us : List Value) (Q : VK), Inv X pins σ H s → RelV x v → Vals xs us → r x xs H Q →
    wpAny (model X.prog X.w) X.A (call (.builtin id) (v :: us)) (EP X pins σ Q) X.xe s
section
variable {X : Cx} {a b : Expr} {ta tb : TE} {pos : Pos}
theorem pe_ix {r : R2} (hr : IxR X r) (ha : PE X a ta) (hb : PE X b tb) (hs : PlainIx b) : PE X (.Subscript a b pos) (tOp r ta tb) := by
  intro pins s σ H Q I h
  exact Subscript_ (binT ha hb I h fun v u s2 x y H2 I2 rx ry q => hr a b pins s2 σ H2 x y v u Q I2 rx ry q (hs _ _))
def rIxL (K : PySem.W.Frag) : R2 := fun x y H Q => ∃ p xs i v, x = .ref p ∧ y = .int i ∧ SqL K H p xs ∧ atI xs i = some v ∧ Q v H
def rIxT (K : PySem.W.Frag) : R2 := fun x y H Q => ∃ p xs i v, x = .ref p ∧ y = .int i ∧ SqT K H p xs ∧ atI xs i = some v ∧ Q v H
theorem ix_list : IxR X (rIxL X.K) := by
  intro value slice pins s σ H x y v u Q I rx ry h hs
  obtain ⟨p, xs, i, z, rfl, rfl, hq, he, q⟩ := h
  cases rx
  obtain ⟨t, rfl⟩ := ry
  obtain ⟨its, r, pl, hz⟩ := I.list hq
  obtain ⟨j, h1, h2, h3, h4, h5⟩ := atI_get he
  obtain ⟨w, ew, rw'⟩ := r.get h2
  have hl := r.length
  have hn := line63
  have fin : EP X pins σ Q w s := ⟨z, H, I, rw', q⟩
  by_cases h0 : 0 ≤ i
  · have hj : i.toNat = j := by
      rw [seqIndex_of h0 h5] at h1
      exact Option.some.inj h1
    exact item_listR pl.isList h0 (by omega) (by rw [hj]; simpa using ew) fin hs
  · have hj : (i + (its.toArray.size : Int)).toNat = j := by
      rw [seqIndex_neg (by omega) h4] at h1
      rw [List.size_toArray, ← hl]
      exact Option.some.inj h1
    exact subscriptTail_builtinR (x := w) pl.isList.typeIs slot_list_getitem.lookup
      (wpAny_getItem_list_neg (Q := fun r s' => r = w ∧ EP X pins σ Q r s') pl.isList (by omega) (by rw [List.size_toArray] <;> omega) (by omega) (by rw [hj]; simpa using ew) ⟨rfl, fin⟩) hs
theorem ix_tup : IxR X (rIxT X.K) := by
  intro value slice pins s σ H x y v u Q I rx ry h hs
  obtain ⟨p, xs, i, z, rfl, rfl, hq, he, q⟩ := h
  cases rx
  obtain ⟨t, rfl⟩ := ry
  obtain ⟨its, r, pl, hz⟩ := I.tuple hq
  obtain ⟨j, h1, h2, h3, h4, h5⟩ := atI_get he
  obtain ⟨w, ew, rw'⟩ := r.get h2
  have hl := r.length
  have hn := line63
  have fin : EP X pins σ Q w s := ⟨z, H, I, rw', q⟩
  exact subscriptTail_builtinR (x := w) pl.typeIs slot_tuple_getitem.lookup
    (getItem_tuple (j := j) (Q := fun r s' => r = w ∧ EP X pins σ Q r s') pl (by omega) (by omega) (by rw [List.size_toArray, ← hl]; exact h1) (by simpa using ew) ⟨rfl, fin⟩) hs
theorem slice_bounds (lo hi : Option Int) (n : Nat) : (sliceBounds lo hi none n).1 = ((HT.sIx n 0 lo : Nat) : Int) ∧ (sliceBounds lo hi none n).2.1 = ((HT.sIx n n hi : Nat) : Int) ∧ (sliceBounds lo hi none n).2.2 = 1 := by
  refine ⟨?_, ?_, rfl⟩
  · cases lo with
    | none => simp [sliceBounds, HT.sIx]
    | some i =>
      simp only [sliceBounds, HT.sIx, Option.getD_none, show (1 : Int) > 0 by decide, if_true]
      by_cases h : i < 0
      · simp only [h, if_true] <;> omega
      · simp only [h, if_false] <;> omega
  · cases hi with
    | none => simp [sliceBounds, HT.sIx]
    | some i =>
      simp only [sliceBounds, HT.sIx, Option.getD_none, show (1 : Int) > 0 by decide, if_true]
      by_cases h : i < 0
      · simp only [h, if_true] <;> omega
      · simp only [h, if_false] <;> omega
theorem slicePick_cut (its : List Value) (lo hi : Option Int) : slicePick its.toArray lo hi none = ((its.drop (HT.sIx its.length 0 lo)).take (HT.sIx its.length its.length hi - HT.sIx its.length 0 lo)).toArray := by
  obtain ⟨h1, h2, h3⟩ := slice_bounds lo hi its.toArray.size
  unfold slicePick
  rw [h1, h2, h3]
  simp only [sliceRange_one, pick_run, List.size_toArray] <;> rfl
def rSlL (K : PySem.W.Frag) : V → Option Int → Option Int → Hp → VK → Prop := fun x lo hi H Q => ∃ a xs, x = .ref a ∧ SqL K H a xs ∧ ∀ p, H p = none → Q (.ref p) (upd H p (.lst (cutV xs lo hi)))
theorem sl_list : SlR X (rSlL X.K) := by
  intro pins s σ H x v vl vu lo hi sl Q I rx hs pl pu h
  obtain ⟨a, xs, rfl, hx, q⟩ := h
  cases rx
  obtain ⟨its, r, ht, hz⟩ := I.list hx
  have hlen := r.length
  refine ⟨"list", _, slot_list_getitem.lookup, ht.isList.typeIs, ?_⟩
  refine wpAny_getItem_list_slice ht.isList hs pl pu .none (by simp) ?_ (by rw [List.size_toArray] <;> omega)
  rw [slicePick_cut, ← hlen]
  refine ⟨.ref s.heap.objs.size, _, I.laid (t' := s.toks) (o := .lst (cutV xs lo hi)) (fun b ob q => Heap.get?_push_of_some _ q) (Nat.le_refl _) ?_, rfl, q _ (I.hok.fresh (Nat.le_refl _))⟩
  exact ⟨Nat.le_trans (cutV_length xs lo hi) hz, _, 0, (r.drop (HT.sIx xs.length 0 lo)).take (HT.sIx xs.length xs.length hi - HT.sIx xs.length 0 lo), Heap.get?_push_size _ rfl⟩
def flatV : V → Bool
  | .non => true
  | .bl _ => true
  | .int _ => true
  | .str _ => true
  | _ => false
def eqV : V → V → Bool
  | .non, .non => true
  | .bl a, .bl b => a == b
  | .bl a, .int b => (if a then 1 else 0) == b
  | .int a, .bl b => a == (if b then 1 else 0)
  | .int a, .int b => a == b
  | .str a, .str b => a == b
  | _, _ => false
theorem eqAt_V {A : Around} {s : Shared} {y x : V} {u v : Value} (ry : RelV y u) (rx : RelV x v) (fy : flatV y = true) (fx : flatV x = true) : SeqAt.EqAt A s u v (eqV y x) := by
  cases y with
  | non =>
    cases ry
    cases x with
    | non => cases rx; exact SeqAt.EqAt.same _
    | bl b => cases rx; exact SeqAt.EqAt.none_bool b
    | int b => obtain ⟨t, rfl⟩ := rx; exact SeqAt.EqAt.none_int b t
    | str b => obtain ⟨t, rfl⟩ := rx; exact SeqAt.EqAt.none_str b t
    | _ => exact absurd (show false = true from fx) Bool.false_ne_true
  | bl a =>
    cases ry
    cases x with
    | non => cases rx; exact SeqAt.EqAt.bool_none a
    | bl b => cases rx; exact SeqAt.EqAt.bool_bool a b
    | int b => obtain ⟨t, rfl⟩ := rx; exact SeqAt.EqAt.bool_int a b t
    | str b => obtain ⟨t, rfl⟩ := rx; exact SeqAt.EqAt.bool_str a b t
    | _ => exact absurd (show false = true from fx) Bool.false_ne_true
  | int a =>
    obtain ⟨t', rfl⟩ := ry
    cases x with
    | non => cases rx; exact SeqAt.EqAt.int_none a t'
    | bl b => cases rx; exact SeqAt.EqAt.int_bool a t' b
    | int b => obtain ⟨t, rfl⟩ := rx; exact SeqAt.EqAt.int_int a t' b t
    | str b => obtain ⟨t, rfl⟩ := rx; exact SeqAt.EqAt.int_str a t' b t
    | _ => exact absurd (show false = true from fx) Bool.false_ne_true
  | str a =>
    obtain ⟨t', rfl⟩ := ry
    cases x with
    | non => cases rx; exact SeqAt.EqAt.str_none a t'
    | bl b => cases rx; exact SeqAt.EqAt.str_bool a t' b
    | int b => obtain ⟨t, rfl⟩ := rx; exact SeqAt.EqAt.str_int a t' b t
    | str b => obtain ⟨t, rfl⟩ := rx; exact SeqAt.EqAt.str_str a t' b t
    | _ => exact absurd (show false = true from fx) Bool.false_ne_true
  | _ => exact absurd (show false = true from fy) Bool.false_ne_true
def eqU (x : V) (u : Value) : Bool := match u with
  | .none => eqV .non x
  | .bool b => eqV (.bl b) x
  | .int i _ => eqV (.int i) x
  | .str z _ => eqV (.str z) x
  | _ => false
theorem eqU_of {x y : V} {u : Value} (r : RelV y u) (f : flatV y = true) : eqU x u = eqV y x := by
  cases y with
  | non => cases r; rfl
  | bl b => cases r; rfl
  | int i => obtain ⟨t, rfl⟩ := r; rfl
  | str z => obtain ⟨t, rfl⟩ := r; rfl
  | _ => exact absurd (show false = true from f) Bool.false_ne_true
theorem any_eqU {x : V} : ∀ {xs : List V} {us : List Value}, Vals xs us → xs.all flatV = true → us.any (eqU x) = xs.any fun y => eqV y x
  | _, _, .nil, _ => rfl
  | y :: xs, u :: us, .cons r t, f => by
    rw [List.all_cons, Bool.and_eq_true] at f
    rw [List.any_cons, List.any_cons, eqU_of r f.1, any_eqU t f.2]
theorem mem_eqAt {A : Around} {s : Shared} {x : V} {v : Value} (rx : RelV x v) (fx : flatV x = true) : ∀ {xs : List V} {us : List Value}, Vals xs us → xs.all flatV = true → ∀ u ∈ us, SeqAt.EqAt A s u v (eqU x u)
  | _, _, .nil, _ => fun u hu => by cases hu
  | y :: xs, u :: us, .cons r t, f => fun u' hu => by
    rw [List.all_cons, Bool.and_eq_true] at f
    rcases List.mem_cons.mp hu with rfl | hu
    · rw [eqU_of r f.1]; exact eqAt_V r rx f.1 fx
    · exact mem_eqAt rx fx t f.2 u' hu
def inV (x : V) (xs : List V) : Bool := xs.any fun y => eqV y x
def rIn (K : PySem.W.Frag) (neg : Bool) : R2 := fun x y H Q => ∃ p xs, y = .ref p ∧ (SqL K H p xs ∨ SqT K H p xs) ∧ flatV x = true ∧ xs.all flatV = true ∧ Q (.bl (if neg then !inV x xs else inV x xs)) H
theorem op_in_seq : OpR X (compareOp .In) (rIn X.K false) := by
  intro pins s σ H x y v u Q I rx ry h
  obtain ⟨p, xs, rfl, hq, fx, fs, q⟩ := h
  cases ry
  rcases hq with hq | hq
  · obtain ⟨its, r, pl, hz⟩ := I.list hq
    refine SeqAt.in_listAt (eqU x) pl.isList (fun w hw => mem_eqAt rx fx r fs w (by simpa using hw)) ⟨.bl _, H, I, rfl, ?_⟩
    rw [show its.toArray.any (eqU x) = its.any (eqU x) by simp, any_eqU r fs]
    exact q
  · obtain ⟨its, r, pl, hz⟩ := I.tuple hq
    refine SeqAt.in_tupleAt (eqU x) pl (fun w hw => mem_eqAt rx fx r fs w (by simpa using hw)) ⟨.bl _, H, I, rfl, ?_⟩
    rw [show its.toArray.any (eqU x) = its.any (eqU x) by simp, any_eqU r fs]
    exact q
theorem op_notIn_seq : OpR X (compareOp .NotIn) (rIn X.K true) := by
  intro pins s σ H x y v u Q I rx ry h
  obtain ⟨p, xs, rfl, hq, fx, fs, q⟩ := h
  cases ry
  rcases hq with hq | hq
  · obtain ⟨its, r, pl, hz⟩ := I.list hq
    refine SeqAt.notIn_listAt (eqU x) pl.isList (fun w hw => mem_eqAt rx fx r fs w (by simpa using hw)) ⟨.bl _, H, I, rfl, ?_⟩
    rw [show its.toArray.any (eqU x) = its.any (eqU x) by simp, any_eqU r fs]
    exact q
  · obtain ⟨its, r, pl, hz⟩ := I.tuple hq
    refine SeqAt.notIn_tupleAt (eqU x) pl (fun w hw => mem_eqAt rx fx r fs w (by simpa using hw)) ⟨.bl _, H, I, rfl, ?_⟩
    rw [show its.toArray.any (eqU x) = its.any (eqU x) by simp, any_eqU r fs]
    exact q
theorem call_len_seq : CallR X (.builtin "len") (fun xs H Q => ∃ p ys, xs = [.ref p] ∧ (SqL X.K H p ys ∨ SqT X.K H p ys) ∧ Q (.int ys.length) H) := by
  intro pins s σ H xs us Q I r h
  obtain ⟨p, ys, rfl, hq, q⟩ := h
  obtain ⟨u, rfl, rx⟩ := vals1 r
  cases rx
  have hn := line63
  rcases hq with hq | hq
  · obtain ⟨its, r', pl, hz⟩ := I.list hq
    have hlen := r'.length
    exact Calls.call_len_list pl.isList (by simp only [List.size_toArray] <;> omega) ⟨.int ys.length, H, I.tok _, ⟨s.toks + 1, by rw [List.size_toArray, hlen]⟩, q⟩
  · obtain ⟨its, r', pl, hz⟩ := I.tuple hq
    have hlen := r'.length
    exact len_tuple pl (by simp only [List.size_toArray] <;> omega) ⟨.int ys.length, H, I.tok _, ⟨s.toks + 1, by rw [List.size_toArray, hlen]⟩, q⟩
theorem call_list_of : CallR X (.type "list") (fun xs H Q => ∃ p ys, xs = [.ref p] ∧ (SqL X.K H p ys ∨ SqT X.K H p ys) ∧ ∀ l, H l = none → Q (.ref l) (upd H l (.lst ys))) := by
  intro pins s σ H xs us Q I r h
  obtain ⟨p, ys, rfl, hq, q⟩ := h
  obtain ⟨u, rfl, rx⟩ := vals1 r
  cases rx
  have fin : ∀ (its : List Value), Vals ys its → ys.length ≤ sizeLine → ∀ (h' : Heap) (c' : Nat), (∀ b o', s.heap.get? b = some o' → h'.get? b = some o') →
      h'.get? s.heap.objs.size = some { cls := .type "list", dict := none, data := .seq its.toArray c', slots := #[] } → EP X pins σ Q (.ref s.heap.objs.size) { s with heap := h' } := fun its r' hz h' c' kp e =>
    ⟨.ref s.heap.objs.size, _, I.laid (t' := s.toks) kp (Nat.le_refl _) (show ObjOk X.prog X.w _ h' _ (.lst ys) from ⟨hz, its, c', r', e⟩), rfl, q _ (I.hok.fresh (Nat.le_refl _))⟩
  rcases hq with hq | hq
  · obtain ⟨its, r', pl, hz⟩ := I.list hq
    have hlen := r'.length
    obtain ⟨o, ho, hc, n, hd⟩ := pl.isList
    exact call_list_seq p (.inl rfl) ho hc hd (fun h' c' kp e => fin its r' hz h' c' kp e) (by simp only [List.size_toArray] <;> omega)
  · obtain ⟨its, r', pl, hz⟩ := I.tuple hq
    have hlen := r'.length
    obtain ⟨o, ho, hc, n, hd⟩ := pl
    exact call_list_seq p (.inr rfl) ho hc hd (fun h' c' kp e => fin its r' hz h' c' kp e) (by simp only [List.size_toArray] <;> omega)
def tyV (K : PySem.W.Frag) (T : String) (x : V) (H : Hp) : Prop := match x with
  | .str _ => T = "str"
  | .int _ => T = "int"
  | .ref p => (T = "list" ∧ ∃ xs, SqL K H p xs) ∨ (T = "tuple" ∧ ∃ o, K.lookup p = some o ∧ o.cls = .type "tuple" ∧ o.dict = none) ∨
      (T = "dict" ∧ ((∃ kvs, H p = some (.dK kvs)) ∨ ∃ kvs, H p = some (.dT kvs))) ∨ (T = "set" ∧ ∃ S n, H p = some (.set S n))
  | _ => False
theorem tyV_is {pins : List (Addr × Obj)} {σ : St} {H : Hp} {s : Shared} {T : String} {x : V} {v : Value} (I : Inv X pins σ H s) (r : RelV x v) (ty : tyV X.K T x H) :
    s.TypeIs v T ∧ ∀ a, v = .ref a → ∃ ob, s.heap.get? a = some ob ∧ ob.dict = none := by
  cases x with
  | str z =>
    obtain ⟨t, rfl⟩ := r
    cases (show T = "str" from ty)
    exact ⟨typeIs_str s z t, fun _ e => nomatch e⟩
  | int i =>
    obtain ⟨t, rfl⟩ := r
    cases (show T = "int" from ty)
    exact ⟨typeIs_int s i t, fun _ e => nomatch e⟩
  | ref p =>
    cases r
    rcases ty with ⟨rfl, xs, hq⟩ | ⟨rfl, o, hk, hc, hd⟩ | ⟨rfl, hk⟩ | ⟨rfl, S, n, hk⟩
    · obtain ⟨its, _, pl, _⟩ := I.list hq
      refine ⟨pl.isList.typeIs, fun a e => ?_⟩
      cases e
      obtain ⟨o, n, e, c, hd, _⟩ := pl
      exact ⟨o, e, hd⟩
    · refine ⟨⟨o, I.kIn p o hk, hc⟩, fun a e => ?_⟩
      cases e
      exact ⟨o, I.kIn _ o hk, hd⟩
    · have z : ∃ o, s.heap.get? p = some o ∧ o.ExactDict := by
        rcases hk with ⟨kvs, hk⟩ | ⟨kvs, hk⟩
        · obtain ⟨_, _, _, _, o, _, _, e, ex, _⟩ := I.hok p _ hk
          exact ⟨o, e, ex⟩
        · obtain ⟨_, _, _, _, o, _, _, e, ex, _⟩ := I.hok p _ hk
          exact ⟨o, e, ex⟩
      obtain ⟨o, e, ex⟩ := z
      refine ⟨⟨o, e, ex.1⟩, fun a e2 => ?_⟩
      cases e2
      exact ⟨o, e, ex.2.1⟩
    · obtain ⟨o, _, _, _, e, ex, _⟩ := I.hok p _ hk
      refine ⟨⟨o, e, ex.1⟩, fun a e2 => ?_⟩
      cases e2
      exact ⟨o, e, ex.2.1⟩
  | _ => exact False.elim ty
def tBM (K : PySem.W.Frag) (T : String) (r : V → List V → Hp → VK → Prop) (to : TE) (t : TA) : TE := fun σ H Q => to σ H fun x H1 => tyV K T x H1 ∧ t σ H1 fun xs H2 => r x xs H2 Q
variable {o e : Expr} {es : List Expr} {to : TE} {t : TA} {name : Str} {apos cpos : Pos} {T id : String} {r : V → List V → Hp → VK → Prop}
theorem pe_bm (pa : PlainAttrs T) (slot : Slot T name id) (hty : typeOf (.builtin id) = pure (.type "method_descriptor")) (hm : MtR X id r) (ho : PE X o to) (ha : PA X (e :: es) t)
    (hbase : attributeBase o name X.env (eval o X.env) = eval o X.env := by rfl)
    (hfew : ((backTo cpos (starEach (e :: es) X.env)).all (fun x => !x.1) && (backToKw cpos (keywordEach [] X.env)).all (fun x => x.1.isSome)
      && decide ((e :: es).length + ([] : List Keyword).length + (if ([] : List Keyword).isEmpty then 0 else 1) < 30)) = true := by rfl)
    (hline : (apos.endLine == cpos.line) = true := by rfl) (hs : starEach (e :: es) X.env = (false, eval e X.env) :: starEach es X.env := by rfl) (hplain : (backTo cpos (starEach es X.env)).any (·.1) = false := by rfl) :
    PE X (.Call (.Attribute o name apos) (e :: es) [] cpos) (tBM X.K T r to t) := by
  intro pins s σ H Q I h
  refine wpAny_Call_method_late hbase hfew hline rfl (thn (ho pins s σ H _ I h) fun v s1 ⟨x, H1, I1, r1, ty, q1⟩ => ?_)
  obtain ⟨h1, h2⟩ := tyV_is I1 r1 ty
  refine ⟨T, id, pa, slot, hty, h1, h2, ?_⟩
  have hA := ha cpos pins s1 σ H1 _ I1 q1
  rw [hs] at hA ⊢
  refine Calls.callWith_builtin (by show (false || (backTo cpos (starEach es X.env)).any (·.1)) = false; rw [hplain] <;> rfl) (Calls.evalArgs_plain ?_)
  exact thn hA fun us s2 ⟨vs, H2, I2, r2, q2⟩ => hm pins s2 σ H2 x vs v us Q I2 r1 r2 q2
end
end L2
namespace L2
open PySem PySem.Spec PyProof.Rows
def MtM (X : Cx) (id : String) (r : V → List V → Hp → VK → Prop) : Prop :=
  ∀ (pins : List (Addr × Obj)) (s : Shared) (σ : St) (H : Hp) (x : V) (xs : List V) (v : Value) (us : List Value) (Q : VK), Inv X pins σ H s → RelV x v → Vals xs us → r x xs H Q →
    wpAny (model X.prog X.w) X.A (call (.builtin id) (v :: us)) (EP X pins σ Q) X.xe s
theorem Vals.one : ∀ {x : V} {us : List Value}, Vals [x] us → ∃ u, us = [u] ∧ RelV x u
  | _, _, .cons r .nil => ⟨_, rfl, r⟩
section
variable {X : Cx} {pins : List (Addr × Obj)} {σ : St} {H : Hp} {s : Shared} {l b : Addr} {xs ys zs : List V}
theorem Inv.lset {its its' : List Value} {n : Nat} {f : Array Value → Array Value} {t' : Nat} (I : Inv X pins σ H s) (hH : H l = some (.lst xs))
    (e : s.heap.get? l = some { cls := .type "list", data := .seq its.toArray n }) (hf : f its.toArray = its'.toArray) (hv : Vals ys its') (hz : ys.length ≤ sizeLine) :
    Inv X pins σ (upd H l (.lst ys)) { s with heap := s.heap.update l (Obj.mapSeq f), toks := t' } := by
  have q := PySem.IsL.update e f
  rw [hf] at q
  refine I.write (x := l) (e := l) (by rw [hH]; exact trivial) (.inl rfl) (fun b' u hb hu => (Heap.get?_update_other s.heap (Obj.mapSeq f) (Ne.symm hb)).trans hu) ⟨_, q⟩ ?_
  exact ⟨hz, its', _, hv, q⟩
theorem Inv.lnew {its : List Value} {t' : Nat} (I : Inv X pins σ H s) (hv : Vals ys its) (hz : ys.length ≤ sizeLine) :
    Inv X pins σ (upd H s.heap.objs.size (.lst ys)) { s with heap := s.heap.push { cls := .type "list", data := .seq its.toArray }, toks := t' } :=
  I.laid (fun _ _ q => Heap.get?_push_of_some _ q) (Nat.le_refl _) ⟨hz, its, 0, hv, Heap.get?_push_size _ rfl⟩
theorem Inv.fresh (I : Inv X pins σ H s) : H s.heap.objs.size = none := I.hok.fresh (Nat.le_refl _)
theorem Inv.lstM (I : Inv X pins σ H s) (hH : H l = some (.lst xs)) : xs.length ≤ sizeLine ∧ ∃ (its : List Value) (n : Nat), Vals xs its ∧ xs.length = its.length ∧ s.heap.get? l = some { cls := .type "list", data := .seq its.toArray n } := by
  obtain ⟨z, its, n, r, e⟩ := I.hok l _ hH
  exact ⟨z, its, n, r, r.length, e⟩
theorem notLongL {n : Nat} (h : n ≤ sizeLine) : Builtin.List.listTooLong n = false := by
  unfold Builtin.List.listTooLong
  exact decide_eq_false (by omega)
end
section
variable {X : Cx}
def rExtend : V → List V → Hp → VK → Prop := fun x vs H Q => ∃ l b xs zs, x = .ref l ∧ vs = [.ref b] ∧ H l = some (.lst xs) ∧ H b = some (.lst zs) ∧ xs.length + zs.length ≤ sizeLine ∧ Q .non (upd H l (.lst (xs ++ zs)))
theorem mt_extend : MtM X "list.extend" rExtend := by
  intro pins s σ H x vs v us Q I rx rv h
  obtain ⟨l, b, xs, zs, rfl, rfl, hH, hB, hz, q⟩ := h
  cases rx
  obtain ⟨u, rfl, ru⟩ := rv.one
  cases ru
  obtain ⟨z, its, n, r, hl, e⟩ := I.lstM hH
  obtain ⟨z2, its2, n2, r2, hl2, e2⟩ := I.lstM hB
  have hsz : its.toArray.size + its2.toArray.size ≤ sizeLine := by rw [List.size_toArray, List.size_toArray]; omega
  have hlong : ¬ (!its.toArray.isEmpty && Builtin.List.listTooLong (its.toArray.size + its2.toArray.size)) = true := by
    rw [notLongL hsz, Bool.and_false]
    exact Bool.false_ne_true
  refine call_meets F.slot_list_extend ⟨_, e, rfl⟩ F.entry_list_extend (F.args_list_extend_2 _ _)
    (AutoSeq1.list_extend_list_list_0 l its.toArray n b its2.toArray n2 hlong (by rw [List.size_toArray]; omega) (by omega)) ⟨e, e2, ?_⟩
  refine ⟨.non, _, I.lset (its' := its ++ its2) hH e (by simp) (r.append r2) ?_, rfl, q⟩
  rw [List.length_append]
  omega
def rCat : R2 := fun x y H Q => ∃ l b xs zs, x = .ref l ∧ y = .ref b ∧ H l = some (.lst xs) ∧ H b = some (.lst zs) ∧ xs.length + zs.length ≤ sizeLine ∧ ∀ p, H p = none → Q (.ref p) (upd H p (.lst (xs ++ zs)))
theorem op_cat : OpR X (binaryOp .Add) rCat := by
  intro pins s σ H x y v u Q I rx ry h
  obtain ⟨l, b, xs, zs, rfl, rfl, hH, hB, hz, q⟩ := h
  cases rx
  cases ry
  obtain ⟨z, its, n, r, hl, e⟩ := I.lstM hH
  obtain ⟨z2, its2, n2, r2, hl2, e2⟩ := I.lstM hB
  refine PySem.P.add_list e e2 ?_ (by rw [List.size_toArray, List.size_toArray]; omega)
  have ea : its.toArray ++ its2.toArray = (its ++ its2).toArray := by simp
  rw [ea]
  exact ⟨.ref _, _, I.lnew (t' := s.toks) (r.append r2) (by rw [List.length_append]; omega), rfl, q _ I.fresh⟩
end
section
variable {prog : Program} {w : World} {A : Around} {E : Value → Shared → Prop} {s : Shared}
set_option maxRecDepth 100000 in
end
section
variable {X : Cx}
end
end L2
namespace Att
open PySem PySem.W PySem.Calls PyProof.Rows
theorem ints_of_wellAll {P : Params} {h : Heap} : ∀ (ns : List Int) (vs : List Value), WellAll P h vs (ns.map WData.int) → IntsAre vs ns := by
  intro ns
  induction ns with
  | nil =>
    intro vs w
    rw [List.map_nil] at w
    cases w
    exact .nil
  | cons n ns ih =>
    intro vs w
    rw [List.map_cons] at w
    cases w with
    | cons a b =>
      cases a
      exact .cons _ _ (ih _ b)
theorem script_of {l : OpenLaw} {n : Nat} (hn : l.most = some n) {P : Params} {h : Heap} {args : List WData} {vals : List Value}
    (hpre : l.row.toRowW.claim.pre args = true) (hwl : WellAll P h vals args) :
    ∃ a vs ns, vals = [Value.ref a] ∧ args = [WData.list (ns.map WData.int)] ∧ h.get? a = some { cls := .type "list", data := .seq vs.toArray } ∧ IntsAre vs ns ∧ ns.length ≤ n := by
  have hsh : WShape.hasAll [] args [.list .int] = true := (pre_splitW hpre).1
  have hc : l.pre.holds [] { args := args } = true := (pre_splitW hpre).2
  obtain ⟨d, r, rfl, h1, h2⟩ := hasAllW_cons hsh
  obtain rfl := hasAllW_nil h2
  obtain ⟨xs, rfl, h3⟩ := hasW_list h1
  obtain ⟨ns, rfl⟩ := items_int h3
  have hlen : ns.length ≤ n := by
    unfold OpenLaw.pre at hc
    have h4 : (WTm.not (.lt (.lit (.int (n : Int))) (.len (.arg 0)))).holds [] { args := [.list (ns.map .int)] } = true := by
      have h4 := (holds_andW hc).1
      rw [hn] at h4
      exact h4
    have h5 := condW_of h4 (w_not (w_lt w_lit (w_len_list (w_arg rfl))))
    rw [List.length_map] at h5
    refine Nat.le_of_not_lt fun q => ?_
    have q' : (n : Int) < ((ns.length : Nat) : Int) := by omega
    first
      | (rw [decide_eq_true q'] at h5; exact absurd h5 (by decide))
      | (simp at h5; omega)
  cases hwl with
  | cons w1 w2 =>
    cases w2
    cases w1 with
    | list ho hall => exact ⟨_, _, ns, rfl, rfl, ho, ints_of_wellAll ns _ hall, hlen⟩
theorem post_true (l : OpenLaw) (args : List WData) : l.row.toRowW.claim.post args (.bool true) args = true :=
  postW_of (r := l.row.toRowW) (X := (true == true))
    (show WShape.has [] (.bool true) .bool = true by first | rfl | decide | simp [WShape.has, WShape.arms, WShape.armsAll])
    (show (WTm.eq .res (.lit (.bool true))).value [] { args := args, res := some (.bool true), after := args } = some (.bool (true == true)) from w_eq_bool (w_res rfl) w_lit) rfl
theorem attach_call {l : OpenLaw} {n : Nat} {q : Program} {loose : List Str} {XP : (Str → Option Value) → Heap → Prop} {YP : World → Heap → Prop} {d : DefRec}
    (hn : l.most = some n) (hdf : d.params.defaults = [])
    (call : ∀ (w : World) (s₀ s₁ : Shared) (mg mb : Str → Option Value) (fa : Addr) (o : Obj) (pm cd doc : Value) (a : Addr) (vs : List Value) (ns : List Int),
      Ground q loose [] XP w s₀ mg mb s₁.heap → YP w s₁.heap →
      s₁.heap.get? fa = some o → o.data = .func (docDef d.name d.params d.body d.scope pm cd doc) → s₁.heap.CodeRec cd d.name → mg d.name = some (.ref fa) →
      s₁.heap.get? a = some { cls := .type "list", data := .seq vs.toArray } → IntsAre vs ns → ns.length ≤ n → s₁.gens = #[] →
      codeAny (model l.prog w) callerA (.call (.ref fa) ⟨[.ref a], []⟩) (fun r s' => r = .ok (.ret (.bool true)) ∧ OldK s₁.heap s'.heap ∧ s'.os = s₁.os ∧ AllBare s'.gens) s₁) :
    WalkO q loose XP YP l.row.toRowW d [] (fun f vs => PySem.call f vs) := by
  intro w s₀ s₁ mg mb G Y fa o pm cd doc dV kV ho hd hcd hD hmg hg args vals as hpre hlay hrd hwl hlo
  obtain rfl : dV = .none := Dflts.none hD hdf
  obtain rfl : kV = .none := Dflts.noKw hD
  obtain ⟨a, vs, ns, rfl, rfl, hobj, hints, hlen⟩ := script_of hn hpre hwl
  refine enter_call (codeAny_mono (call w s₀ s₁ mg mb fa o pm cd doc a vs ns G Y ho (fd_plain hd) hcd hmg hobj hints hlen hg) fun r s' hq => ?_)
  obtain ⟨rfl, h2, h3, h4⟩ := hq
  exact ⟨.inl ⟨.bool true, .bool true, [], rfl, fun _ => rfl, .bool true, post_true l _, fun _ => ⟨List.Pairwise.nil, fun _ hm => (nomatch hm)⟩⟩, h2, h3, h4⟩
section
variable {prog : Program} {w : World} {A : Around} {E : Value → Shared → Prop} {s : Shared} {K : Frag}
end
end Att
namespace L2
open PySem PySem.Spec PyProof.Rows
theorem vals_ints : ∀ {vs : List Value} {ns : List Int}, IntsAre vs ns → Vals (ns.map V.int) vs
  | _, _, .nil => .nil
  | _, _, .cons n t h => .cons ⟨t, rfl⟩ (vals_ints h)
def Only (H : Hp) : Prop := ∀ b, H b = none ∨ ∃ o xs, H b = some (.frz o (.lst xs))
theorem law_call {P : Program} {w : World} {K : PySem.W.Frag} {mg mb : Str → Option Value} {CX : CXT} {k : Nat} {fa a : Addr} {fd : FuncData} {x : Str} {sp : Sp} {s₁ : Shared} {vs : List Value} {ns : List Int}
    (KX : K.In s₁.heap) (hns : s₁.heap.Ns mainGlobals mg) (hb : s₁.heap.Ns builtinsNs mb) (hbb : ∀ x : Str, x ≠ "__name__" → mb x = bootBuiltins x) (hlim : s₁.heap.NoLimit) (hg : s₁.gens = #[])
    (ha : s₁.heap.get? a = some { cls := .type "list", data := .seq vs.toArray }) (hi : IntsAre vs ns) (hl : ns.length ≤ sizeLine) (hr : Room k callerA)
    (F : ∀ base : Heap, K.In base → base.Ns mainGlobals mg → FnOk P w K mg base CX k fa fd [x] sp) (hbind : ∀ (s : Shared) (u : Value), BindsTo s fd ⟨[u], []⟩ [(x, u)])
    (hsp : ∀ H : Hp, Only H → SqL K H a (ns.map V.int) → sp [.ref a] H (fun v _ => v = .bl true) fun _ _ _ => False)
    (hCX : ∀ H e s', CX [] H s₁ (fun _ _ _ => False) e s' → False) :
    codeAny (model P w) callerA (.call (.ref fa) ⟨[.ref a], []⟩) (fun r s' => r = .ok (.ret (.bool true)) ∧ OldK s₁.heap s'.heap ∧ s'.os = s₁.os ∧ AllBare s'.gens) s₁ := by
  have rv := vals_ints hi
  have lenV := hi.length
  -- from an abstract heap in which nothing but the script may be tracked
  have core : ∀ H : Hp, Only H → SqL K H a (ns.map V.int) → HOk P w H s₁.heap → (∀ b, H b ≠ none → b = a) → (H a ≠ none → K.lookup a = none) →
      codeAny (model P w) callerA (.call (.ref fa) ⟨[.ref a], []⟩) (fun r s' => r = .ok (.ret (.bool true)) ∧ OldK s₁.heap s'.heap ∧ s'.os = s₁.os ∧ AllBare s'.gens) s₁ := by
    intro H hO hS hok hA hK
    have base_of : ∀ {b : Addr} {o : Obj}, s₁.heap.get? b = some o → H b = none → (hidT s₁.heap H).get? b = some o := fun e n => hidT_get e n
    have noA : ∀ {b : Addr} {o : Obj} {es : Array DictEntry} {ep : Nat}, s₁.heap.get? b = some o → o.data = .dict es ep → H b = none := fun {b o es ep} e d => by
      cases q : H b with
      | none => rfl
      | some u =>
        have e' : b = a := hA b (by rw [q]; simp)
        subst e'
        rw [ha] at e; cases e
        have d' : Data.seq vs.toArray _ = Data.dict es ep := d
        cases d'
    have nsK : ∀ {b : Addr} {m : Str → Option Value}, s₁.heap.Ns b m → (hidT s₁.heap H).Ns b m := fun {b m} ⟨o, es, ep, e, d, r⟩ => ⟨o, es, ep, base_of e (noA e d), d, r⟩
    have hKb : K.In (hidT s₁.heap H) := fun b o e => base_of (KX b o e) (by
      cases q : H b with
      | none => rfl
      | some u =>
        have e' : b = a := hA b (by rw [q]; simp)
        subst e'
        rw [hK (by rw [q]; simp)] at e; cases e)
    have hM : Mod K mg (hidT s₁.heap H) := ⟨hKb, nsK hns, ⟨mb, nsK hb, hbb⟩, let ⟨mc, h1, h2⟩ := hlim; ⟨mc, nsK h1, h2⟩⟩
    have e0 : Env0 P w K mg (hidT s₁.heap H) callerA [] s₁ H := ⟨rfl, hM, fun b o e => of_hidT e, Nat.le_of_eq (hidT_size _ _), trivial, fun b hb => absurd (show b ∈ ([] : List Addr) from hb) (by simp), hok, .of_eq hg⟩
    refine codeAny_mono ((F _ hKb (nsK hns)).run callerA [] s₁ H ⟨[.ref a], []⟩ [.ref a] [.ref a] _ _ hr e0 (hbind s₁ (.ref a)) (.cons rfl .nil) (hsp H hO hS)) fun r s' h => ?_
    cases r with
    | error e => exact (hCX H e s' h).elim
    | ok fl =>
      cases fl with
      | next => exact False.elim h
      | brk => exact False.elim h
      | cont => exact False.elim h
      | ret u =>
        obtain ⟨v, H', os, bare, un, hok', r', q⟩ := h
        have q' : v = .bl true := q
        subst q'
        obtain rfl : u = Value.bool true := r'
        refine ⟨rfl, OldK.of_keep fun b o e => ?_, os, bare⟩
        cases q : H b with
        | none => exact un.keep b o e q (by intro z; exact absurd (show b ∈ ([] : List Addr) from z) (by simp)) (by simp)
        | some u =>
          rcases hO b with z | ⟨ob, xs, z⟩
          · rw [q] at z; cases z
          · have z2 := un.frzs b ob _ z
            obtain ⟨e1, _⟩ := hok b _ z
            obtain ⟨e2, _⟩ := hok' b _ z2
            rw [e] at e1; cases e1
            exact e2
  cases hk : K.lookup a with
  | some o =>
    -- the script is one of the module's own objects
    have e := KX a o hk
    rw [ha] at e
    cases e
    refine core (fun _ => none) (fun _ => .inl rfl) (.inr ⟨_, vs.toArray, _, hk, rfl, rfl, rfl, by rw [List.size_toArray, lenV]; exact hl, by simpa using rv⟩) (fun b u z => by have z' : (none : Option HO) = some u := z; cases z') (fun b z => absurd rfl z) fun z => absurd rfl z
  | none =>
    refine core (fun b => if b = a then some (.frz { cls := .type "list", data := .seq vs.toArray } (.lst (ns.map V.int))) else none) (fun b => ?_) (.inl (.inr ⟨{ cls := .type "list", data := .seq vs.toArray }, if_pos rfl⟩)) (fun b u z => ?_) (fun b z => ?_) fun _ => hk
    · by_cases hb : b = a
      · exact .inr ⟨_, _, if_pos hb⟩
      · exact .inl (if_neg hb)
    · by_cases hb : b = a
      · have z' := (if_pos hb).symm.trans z
        cases z'
        subst hb
        exact ⟨ha, by rw [List.length_map]; exact hl, vs, _, rv, ha⟩
      · have z' := (if_neg hb).symm.trans z
        cases z'
    · by_cases hb : b = a
      · exact hb
      · exact absurd (if_neg hb) z
end L2
namespace L2
open PySem PySem.Spec PyProof.Rows
theorem walk_of {l : PySem.W.OpenLaw} {n k : Nat} {q : Program} {loose : List Str} {XP : (Str → Option Value) → Heap → Prop} {YP : World → Heap → Prop} {d : DefRec} {K : Params → PySem.W.Frag} {CX : World → CXT} {sp : World → Sp} {x : Str}
    (hn : l.most = some n) (hn2 : n ≤ sizeLine) (hdf : d.params.defaults = []) (hr : Room k callerA)
    (hY : ∀ (w : World) (h : Heap), YP w h → (K w.params).In h)
    (F : ∀ (w : World) (mg : Str → Option Value) (fa : Addr) (h : Heap), (K w.params).In h → h.Ns mainGlobals mg → mg d.name = some (.ref fa) →
      ∃ fd : FuncData, (∀ (s : Shared) (u : Value), BindsTo s fd ⟨[u], []⟩ [(x, u)]) ∧
        ∀ base : Heap, (K w.params).In base → base.Ns mainGlobals mg → FnOk l.prog w (K w.params) mg base (CX w) k fa fd [x] (sp w))
    (hsp : ∀ (w : World) (H : Hp) (a : Addr) (ns : List Int), ns.length ≤ n → Only H → SqL (K w.params) H a (ns.map V.int) → sp w [.ref a] H (fun v _ => v = .bl true) fun _ _ _ => False)
    (hCX : ∀ (w : World) (H : Hp) (s : Shared) (e : Value) (s' : Shared), CX w [] H s (fun _ _ _ => False) e s' → False) :
    PySem.W.WalkO q loose XP YP l.row.toRowW d [] (fun f vs => PySem.call f vs) := by
  refine Att.attach_call hn hdf fun w s₀ s₁ mg mb fa o pm cd doc a vs ns G Y ho hd hcd hmg hobj hints hlen hg => ?_
  have KX := hY w _ Y
  obtain ⟨fd, hb, hF⟩ := F w mg fa _ KX G.T.g hmg
  exact law_call KX G.T.g G.T.b G.T.builtins G.T.nolimit hg hobj hints (Nat.le_trans hlen hn2) hr hF hb (fun H hO hS => hsp w H a ns hlen hO hS) fun H e s' => hCX w H s₁ e s'
end L2
namespace L2
open PySem PySem.Spec PyProof.Rows
def defArgs (s : Stmt) : Arguments := match s with
  | .FunctionDef _ a _ _ _ _ _ _ _ _ => a
  | _ => { posonlyargs := [], args := [], vararg := none, kwonlyargs := [], kw_defaults := [], kwarg := none, defaults := [] }
def defBody (s : Stmt) : List Stmt := match s with
  | .FunctionDef _ _ b _ _ _ _ _ _ _ => b
  | _ => []
def defScope (s : Stmt) : Scope := match s with
  | .FunctionDef _ _ _ _ _ _ sc _ _ _ => sc
  | _ => { kind := .function, names := [], isGenerator := false, isCoroutine := false }
abbrev CX0 : CXT := fun _ _ _ _ _ _ => False
abbrev E0 : XK := fun _ _ _ => False
theorem pass0 {X : Cx} : Passes CX0 X E0 := fun _ _ _ _ _ _ _ h => h.elim
structure Fun (K : PySem.W.Frag) (x qual : Str) (st : Stmt) (f : Addr) (fd : FuncData) : Prop where
  ex : ∃ (oc : Value) (od : Option Addr) (kV doc pm : Value) (an : Option Addr) (cdv ct : Value) (osl : Array (Option Value)),
    fd = PySem.W.fnOf x qual (defArgs st) (defBody st) (defScope st) .none kV doc pm an cdv ct ∧ K.lookup f = some ⟨oc, od, .func fd, osl⟩ ∧ PySem.W.codeIn K cdv qual = true
  kp : PySem.W.keepIn K (.ref f) = true
section
variable {P : Program} {w : World} {K : PySem.W.Frag} {mg : Str → Option Value} {base : Heap}
theorem Fun.ok {x qual : Str} {st : Stmt} {f : Addr} {fd : FuncData} {N ps : List Str} {k : Nat} {sp : Sp} (F : Fun K x qual st f fd) (S : FnScope N ps (defScope st)) (len : ∀ vs H Q E, sp vs H Q E → vs.length = ps.length)
    (hbody : ∀ (cdv : Value) (A : Around) (outer : List Env) (s : Shared) (H : Hp) (vs : List V) (Q : VK) (E : XK), Room k (A.deeper (envOfC qual (defScope st) s.heap.objs.size f cdv)) → sp vs H Q E →
      ∃ t, PSs (cxOf CX0 P w K mg base N qual (defScope st) f cdv A outer s H E).nox (defBody st) t ∧ t { nx := fun _ H' => Q .non H', rt := Q } (start N vs) H) : FnOk P w K mg base CX0 (k + 1) f fd ps sp := by
  obtain ⟨oc, od, kV, doc, pm, an, cdv, ct, osl, rfl, lk, hcd⟩ := F.ex
  refine fn_of lk hcd S len fun A outer s H vs Q E hr hsp => ?_
  obtain ⟨t, h, q⟩ := hbody cdv A outer s H vs Q E hr hsp
  exact ⟨t, h.nox, q⟩
theorem Fun.binds {x qual : Str} {st : Stmt} {f : Addr} {fd : FuncData} {ps : List Str} (F : Fun K x qual st f fd)
    (h : ∀ (kV doc pm : Value) (an : Option Addr) (cdv ct : Value) (us : List Value), us.length = ps.length → bindArgs (PySem.W.fnOf x qual (defArgs st) (defBody st) (defScope st) .none kV doc pm an cdv ct) ⟨us, []⟩ = pure (ps.zip us)) : Binds K fd ps [] := by
  obtain ⟨oc, od, kV, doc, pm, an, cdv, ct, osl, rfl, lk, hcd⟩ := F.ex
  exact .all (h kV doc pm an cdv ct)
theorem fun_mk {x qual : Str} {st : Stmt} {f : Addr} {oc : Value} {od an : Option Addr} {osl : Array (Option Value)} {kV doc pm cdv ct : Value} (l : K.lookup f = some ⟨oc, od, .func (PySem.W.fnOf x qual (defArgs st) (defBody st) (defScope st) .none kV doc pm an cdv ct), osl⟩)
    (c : PySem.W.codeIn K cdv qual = true) (k : PySem.W.keepIn K (.ref f) = true) : Fun K x qual st f (PySem.W.fnOf x qual (defArgs st) (defBody st) (defScope st) .none kV doc pm an cdv ct) := ⟨⟨oc, od, kV, doc, pm, an, cdv, ct, osl, rfl, l, c⟩, k⟩
end
theorem small1000 {n : Nat} (h : n ≤ 1000) : n < sizeLine := Nat.lt_of_le_of_lt h (by decide)
section
variable {X : Cx}
theorem pv (i : Nat) {x : Str} {pos : Pos} (hN : X.N[i]? = some x := by rfl) (hv : Vis X.env.scope x := by first | exact Or.inl rfl | exact Or.inr (Or.inl rfl) | exact Or.inr (Or.inr rfl)) (hd : (x == ("__debug__" : Str)) = false := by decide)
    (hcd : (x == ("__classdict__" : Str)) = false := by decide) : PE X (.Name x pos) (tVar i) := pe_var hN hv hd hcd
end
theorem iteF {A B : Prop} (h : B) : if false = true then A else B := by
  rw [if_neg Bool.false_ne_true]
  exact h
theorem iteT {A B : Prop} (h : A) : if true = true then A else B := by
  rw [if_pos rfl]
  exact h
def Same (H H' : Hp) : Prop := ∀ b o, H b = some o → H' b = some o
theorem Same.refl (H : Hp) : Same H H := fun _ _ h => h
theorem Same.trans {H H1 H2 : Hp} (a : Same H H1) (b : Same H1 H2) : Same H H2 := fun c o h => b c o (a c o h)
theorem Same.free {H H' : Hp} (e : Same H H') {l : Addr} (h : H' l = Option.none) : H l = Option.none := by
  cases q : H l with
  | none => rfl
  | some o =>
    rw [e l o q] at h
    cases h
theorem Same.seq {K : PySem.W.Frag} {H H' : Hp} {a : Addr} {xs : List V} (e : Same H H') (h : SqL K H a xs) : SqL K H' a xs := by
  rcases h with (h | ⟨o, h⟩) | h
  · exact .inl (.inl (e _ _ h))
  · exact .inl (.inr ⟨o, e _ _ h⟩)
  · exact .inr h
end L2
set_option Elab.async false
set_option linter.all false
set_option maxRecDepth 100000
namespace L2
open PySem PySem.Spec PyProof.Rows
theorem forIn_step {α β : Type} {f : α → β → Sem (ForInStep β)} (g : β → α → β) : ∀ (l : List α) (c : β), (∀ x ∈ l, ∀ c, f x c = pure (.yield (g c x))) → forIn l c f = pure (l.foldl g c)
  | [], _, _ => rfl
  | x :: l, c, h => by
    rw [List.forIn_cons, h x List.mem_cons_self, pure_bind]
    exact forIn_step g l (g c x) fun y hy => h y (List.mem_cons_of_mem _ hy)
def closStep (env : Env) (c : List (Str × Addr)) (x : Str × NameKind) : List (Str × Addr) := if x.2 == NameKind.free then (x.1, (env.cells.lookup x.1).getD 0) :: c else c
def closOf (env : Env) (l : List (Str × NameKind)) : List (Str × Addr) := l.foldl (closStep env) []
theorem closureFor_own {env : Env} {sc : Scope} (h : ∀ y ∈ sc.names, y.2 = .free → ∃ c, env.cells.lookup y.1 = some c) : closureFor sc env = pure (closOf env sc.names) := by
  simp only [closureFor]
  rw [forIn_step (closStep env) sc.names [] (fun x hx c => by
    obtain ⟨n, k⟩ := x
    by_cases hk : k = .free
    · subst hk
      obtain ⟨a, ea⟩ := h _ hx rfl
      have ea' : env.cells.lookup n = some a := ea
      simp [closStep, cellOf, ea']
    · have hb : (k == NameKind.free) = false := by simpa using hk
      simp [closStep, hb])]
  rfl
theorem mem_closF {env : Env} {x : Str} {a : Addr} : ∀ (l : List (Str × NameKind)) (acc : List (Str × Addr)), (x, a) ∈ l.foldl (closStep env) acc → (x, a) ∈ acc ∨ (∃ y ∈ l, y.2 = .free ∧ y.1 = x ∧ a = (env.cells.lookup x).getD 0)
  | [], _, h => .inl h
  | y :: l, acc, h => by
    rcases mem_closF l _ h with h1 | ⟨z, hz, e⟩
    · unfold closStep at h1
      by_cases hy : y.2 == NameKind.free
      · rw [if_pos hy] at h1
        rcases List.mem_cons.mp h1 with e | h1
        · have e1 : x = y.1 := congrArg Prod.fst e
          have e2 : a = (env.cells.lookup y.1).getD 0 := congrArg Prod.snd e
          exact .inr ⟨y, List.mem_cons_self, eq_of_beq hy, e1.symm, by rw [e2, e1]⟩
        · exact .inl h1
      · rw [if_neg hy] at h1
        exact .inl h1
    · exact .inr ⟨z, List.mem_cons_of_mem _ hz, e⟩
theorem keep_closF {env : Env} {p : Str × Addr} : ∀ (l : List (Str × NameKind)) (acc : List (Str × Addr)), p ∈ acc → p ∈ l.foldl (closStep env) acc
  | [], _, h => h
  | y :: l, acc, h => keep_closF l _ (by unfold closStep; split; exact List.mem_cons_of_mem _ h; exact h)
theorem has_closF {env : Env} {y : Str × NameKind} (hy : y.2 = .free) : ∀ (l : List (Str × NameKind)) (acc : List (Str × Addr)), y ∈ l → (y.1, (env.cells.lookup y.1).getD 0) ∈ l.foldl (closStep env) acc
  | [], _, h => nomatch h
  | z :: l, acc, h => by
    rcases List.mem_cons.mp h with e | h
    · subst e
      refine keep_closF l _ ?_
      unfold closStep
      rw [if_pos (by rw [hy]; rfl)]
      exact List.mem_cons_self
    · exact has_closF hy l _ h
theorem lookup_of_mem {x : Str} {a : Addr} : ∀ {l : List (Str × Addr)}, (x, a) ∈ l → ∃ b, l.lookup x = some b
  | [], h => nomatch h
  | (n, c) :: l, h => by
    cases e : x == n with
    | true => exact ⟨c, by simp [List.lookup_cons, e]⟩
    | false =>
      rcases List.mem_cons.mp h with q | h
      · have : x = n := congrArg Prod.fst q
        rw [this, beq_self_eq_true] at e
        cases e
      · obtain ⟨b, hb⟩ := lookup_of_mem h
        exact ⟨b, by simp [List.lookup_cons, e, hb]⟩
abbrev relF (env : Env) : Str × NameKind → Str × NameKind := fun (n, k) => if (k == NameKind.free && env.scope.kind == .function && env.kindOf n == some .cell) then (n, NameKind.cell) else (n, k)
theorem relF_fst (env : Env) (y : Str × NameKind) : (relF env y).1 = y.1 := by
  obtain ⟨n, k⟩ := y
  show (if (k == NameKind.free && env.scope.kind == .function && env.kindOf n == some .cell) = true then (n, NameKind.cell) else (n, k)).1 = n
  split <;> rfl
theorem relF_snd (env : Env) (y : Str × NameKind) : ((relF env y).2 = y.2 ∧ True) ∨ (y.2 = .free ∧ (relF env y).2 = .cell) := by
  obtain ⟨n, k⟩ := y
  by_cases h : (k == NameKind.free && env.scope.kind == .function && env.kindOf n == some .cell) = true
  · refine .inr ⟨?_, ?_⟩
    · simp only [Bool.and_eq_true] at h
      exact eq_of_beq h.1.1
    · show (if (k == NameKind.free && env.scope.kind == .function && env.kindOf n == some .cell) = true then (n, NameKind.cell) else (n, k)).2 = _
      rw [if_pos h]
  · refine .inl ⟨?_, trivial⟩
    show (if (k == NameKind.free && env.scope.kind == .function && env.kindOf n == some .cell) = true then (n, NameKind.cell) else (n, k)).2 = _
    rw [if_neg h]
theorem lookup_relF {env : Env} {x : Str} : ∀ (l : List (Str × NameKind)), (l.map (relF env)).lookup x = none ∧ l.lookup x = none ∨ ∃ y ∈ l, l.lookup x = some y.2 ∧ (l.map (relF env)).lookup x = some (relF env y).2
  | [] => .inl ⟨rfl, rfl⟩
  | y :: l => by
    have e1 : ((y :: l).map (relF env)).lookup x = if x == y.1 then some (relF env y).2 else (l.map (relF env)).lookup x := by
      rw [List.map_cons]
      have : relF env y = (y.1, (relF env y).2) := Prod.ext (relF_fst env y) rfl
      rw [this, List.lookup_cons]
      cases x == y.1 <;> rfl
    have e2 : (y :: l).lookup x = if x == y.1 then some y.2 else l.lookup x := by
      obtain ⟨n, k⟩ := y
      rw [List.lookup_cons]
      cases h : x == n <;> simp [h]
    cases h : x == y.1 with
    | true => exact .inr ⟨y, List.mem_cons_self, by rw [e2, h]; rfl, by rw [e1, h]; rfl⟩
    | false =>
      rw [e1, e2, h]
      rcases lookup_relF (env := env) (x := x) l with ⟨q1, q2⟩ | ⟨z, hz, q1, q2⟩
      · exact .inl ⟨by simpa using q1, by simpa using q2⟩
      · exact .inr ⟨z, List.mem_cons_of_mem _ hz, by simpa using q1, by simpa using q2⟩
def cxC (X : Cx) (sc : Scope) (N : List Str) (cl : List (Str × Addr)) (s₀ : Shared) (H₀ : Hp) (ex : List Addr) : Cx where
  prog := X.prog
  w := X.w
  K := X.K
  mg := X.mg
  base := X.base
  A := X.A
  N := N
  s₀ := s₀
  H₀ := H₀
  env := compEnvC sc cl s₀.heap.objs.size X.env
  outer := X.stack
  stack := X.stack
  ex := ex
  fn := fun _ => false
  calm := X.calm
  pn := []
  xe := fun _ _ => False
structure CompOk (X : Cx) (sc : Scope) (N : List Str) (cap : List (Option Nat)) : Prop where
  kind : sc.kind = .function
  ncell : ∀ y ∈ sc.names, y.2 ≠ .cell
  names : ∀ y ∈ sc.names, y.2 = .local → sc.names.lookup y.1 = some .local
  frees : ∀ y ∈ sc.names, y.2 = .free → X.env.kindOf y.1 = some .cell ∨ X.env.kindOf y.1 = some .free
  capN : cap.length = N.length
  capt : ∀ (i j : Nat), cap[i]? = some (some j) → ∃ x, N[i]? = some x ∧ X.N[j]? = some x ∧ sc.names.lookup x = some .free
def isFree (k : Option NameKind) : Bool := k == some .cell || k == some .free
def compOkB (sx : Scope) (NX : List Str) (sc : Scope) (N : List Str) (cap : List (Option Nat)) : Bool :=
  sc.kind == .function && sc.names.all (fun y => y.2 != .cell) && sc.names.all (fun y => y.2 != .local || sc.names.lookup y.1 == some .local)
    && sc.names.all (fun y => y.2 != .free || isFree (sx.names.lookup y.1)) && (cap.length == N.length)
    && (List.range cap.length).all (fun i => match cap[i]? with
      | some (some j) => (match N[i]? with
        | some x => NX[j]? == some x && sc.names.lookup x == some .free
        | none => false)
      | _ => true)
theorem compOk_of {X : Cx} {sc : Scope} {N : List Str} {cap : List (Option Nat)} (h : compOkB X.env.scope X.N sc N cap = true) : CompOk X sc N cap := by
  unfold compOkB at h
  simp only [Bool.and_eq_true] at h
  obtain ⟨⟨⟨⟨⟨h1, h2⟩, h3⟩, h4⟩, h5⟩, h6⟩ := h
  refine ⟨eq_of_beq h1, fun y hy e => ?_, fun y hy e => ?_, fun y hy e => ?_, eq_of_beq h5, fun i j e => ?_⟩
  · have q := List.all_eq_true.mp h2 y hy
    rw [e] at q
    exact absurd q (by decide)
  · have q := List.all_eq_true.mp h3 y hy
    rw [e] at q
    simpa using q
  · have q := List.all_eq_true.mp h4 y hy
    rw [e] at q
    have q' : isFree (X.env.scope.names.lookup y.1) = true := by simpa using q
    unfold isFree at q'
    rcases Bool.or_eq_true _ _ ▸ q' with z | z
    · exact .inl (eq_of_beq z)
    · exact .inr (eq_of_beq z)
  · have hi : i < cap.length := (List.getElem?_eq_some_iff.mp e).1
    have q := List.all_eq_true.mp h6 i (List.mem_range.mpr hi)
    rw [e] at q
    cases hx : N[i]? with
    | none => rw [hx] at q; cases q
    | some x =>
      rw [hx] at q
      have q' : (X.N[j]? == some x && sc.names.lookup x == some .free) = true := q
      simp only [Bool.and_eq_true] at q'
      exact ⟨x, rfl, eq_of_beq q'.1, eq_of_beq q'.2⟩
def capt (cap : List (Option Nat)) (σ : St) : St := cap.map fun o => match o with
  | some i => (σ[i]?).join
  | none => none
section
variable {X : Cx} {pins : List (Addr × Obj)} {σ : St} {H H' : Hp} {s : Shared} {h' : Heap}
theorem HOk.track {P : Program} {w : World} {H : Hp} {h : Heap} {a : Addr} {o : HO} (x : HOk P w H h) (hn : H a = none) (new : ObjOk P w (upd H a o) h a o) : HOk P w (upd H a o) h := fun b u e => by
  by_cases hb : b = a
  · subst hb; rw [upd_same] at e; cases e; exact new
  · rw [upd_ne hb] at e
    exact (x b u e).stay (fun c v _ q => q) (fun c q => by rw [upd_ne (ne_of_none q hn)]; exact q) fun c xs q => by rw [upd_ne (ne_of_none q hn)]; exact q
theorem Inv.turnedL {t' : Nat} (ch : List Addr) (I : Inv X pins σ H s) (hf : ∀ b ∈ ch, FpOk X pins H b) (k : ∀ b o, b ∉ ch → s.heap.get? b = some o → h'.get? b = some o) : Inv X pins σ H { s with heap := h', toks := t' } := by
  have nit : ∀ b u, H b = some u → b ∉ ch := fun b u e z => by rw [(hf b z).1] at e; cases e
  refine I.step (g' := s.gens) (d' := s.drawn) (ch := ch) (fun b hb => ⟨(hf b hb).2.2.2.1, (hf b hb).2.1, (hf b hb).2.2.2.2.1, (hf b hb).2.2.2.2.2⟩) (fun b o _ _ hc e _ => k b o hc e) (fun b o _ _ hc e _ => ⟨o.slots, k b o hc e⟩) (fun _ _ _ _ n => n)
    (fun b o hc e => ⟨o, k b o hc e⟩) (fun _ _ e => e) (fun _ _ _ e => e) (fun b ps e => ⟨#[], by rw [e]; simp⟩) (fun m hm => ?_) (fun b u e => ?_) I.bare
  · obtain ⟨o, es, ep, ho, r⟩ := hm
    exact ⟨o, es, ep, k _ o (fun z => (hf _ z).2.1 rfl) ho, r⟩
  · refine (I.hok b u e).stay (fun c v hc q => k c v ?_ q) (fun _ q => q) fun _ _ q => q
    rcases hc with z | z
    · rw [z]; exact nit b u e
    · exact nit c _ z
theorem Inv.track {a : Addr} {o : HO} (I : Inv X pins σ H s) (hf : FpOk X pins H a) (new : ObjOk X.prog X.w (upd H a o) s.heap a o) : Inv X pins σ (upd H a o) s := by
  have hn := hf.1
  have q := I.step (g' := s.gens) (d' := s.drawn) (h' := s.heap) (t' := s.toks) (H' := upd H a o) (ch := [a]) (fun b hb => ?_) (fun b o _ _ _ e _ => e) (fun b o _ _ _ e _ => ⟨o.slots, e⟩) (fun b u hc e n => ?_) (fun b u _ e => ⟨u, e⟩)
    (fun b xs e => by rw [upd_ne (ne_of_none e hn)]; exact e) (fun b u xs e => by rw [upd_ne (ne_of_none e hn)]; exact e) (fun b ps e => ⟨#[], by rw [upd_ne (ne_of_none e hn), e]; simp⟩) (fun m hm => hm) (I.hok.track hn new) I.bare
  · exact q
  · have e : b = a := by simpa using hb
    subst e
    exact ⟨hf.2.2.2.1, hf.2.1, hf.2.2.2.2.1, hf.2.2.2.2.2⟩
  · rw [upd_ne (by simpa using hc)]
    exact n
theorem FpOk.nobase {b : Addr} (I : Inv X pins σ H s) (h : FpOk X pins H b) : X.base.get? b = none := by
  cases e : X.base.get? b with
  | none => rfl
  | some o =>
    rcases h.2.2.2.1 with z | z
    · exact absurd z (I.ok.noex b o e)
    · exact absurd (Nat.lt_of_lt_of_le (Nat.lt_of_lt_of_le (Heap.lt_size e) I.ok.bsz) z) (Nat.lt_irrefl _)
theorem clos_of (I : Inv X pins σ H s) {sc : Scope} {N : List Str} {cap : List (Option Nat)} (C : CompOk X sc N cap) : ∀ y ∈ sc.names, y.2 = .free → ∃ c, X.env.cells.lookup y.1 = some c := fun y hy e => I.ok.has _ (C.frees y hy e)
theorem clos_sub (I : Inv X pins σ H s) {sc : Scope} {N : List Str} {cap : List (Option Nat)} (C : CompOk X sc N cap) {x : Str} {c : Addr} (h : (closOf X.env sc.names).lookup x = some c) : X.env.cells.lookup x = some c := by
  rcases mem_closF _ _ (PySem.mem_of_lookup h) with z | ⟨y, hy, hk, e, ea⟩
  · cases z
  · obtain ⟨a, e2⟩ := clos_of I C y hy hk
    rw [e] at e2
    rw [ea, e2]
    rfl
theorem clos_has (I : Inv X pins σ H s) {sc : Scope} {N : List Str} {cap : List (Option Nat)} (C : CompOk X sc N cap) {x : Str} (h : sc.names.lookup x = some .free) : ∃ c, (closOf X.env sc.names).lookup x = some c :=
  lookup_of_mem (has_closF (y := (x, .free)) rfl _ _ (PySem.mem_of_lookup h))
theorem Inv.comp0 {sc : Scope} {N : List Str} {cap : List (Option Nat)} {ex : List Addr} {h1 : Heap} {tk : Nat} {m0 : Str → Option Value} {od : Obj} (I : Inv X pins σ H s) (C : CompOk X sc N cap)
    (hex : ∀ b ∈ ex, b < s.heap.objs.size ∧ (∀ x c, X.env.cells.lookup x = some c → c ≠ b) ∧ X.base.get? b = none ∧ b ≠ X.env.locals ∧ b ∉ X.fs)
    (hns : h1.Ns s.heap.objs.size m0) (hsb : Heap.SameBut s.heap.objs.size (s.heap.push od) h1) :
    Inv (cxC X sc N (closOf X.env sc.names) s H ex) [] (capt cap σ) H { s with heap := h1, toks := tk } := by
  have keep : ∀ b o, s.heap.get? b = some o → h1.get? b = some o := fun b o e => hsb.extBut b o (Nat.ne_of_lt (Heap.lt_size e)) (Heap.get?_push_of_some _ e)
  have cellK : ∀ {c v}, s.heap.IsCell c v → h1.IsCell c v := fun {c v} ⟨o, e, d⟩ => ⟨o, keep _ _ e, d⟩
  have kf : ∀ x, ((cxC X sc N (closOf X.env sc.names) s H ex).env.kindOf x = some .cell ∨ (cxC X sc N (closOf X.env sc.names) s H ex).env.kindOf x = some .free) → sc.names.lookup x = some .free := fun x hx => by
    have hx' : (sc.names.map (relF X.env)).lookup x = some .cell ∨ (sc.names.map (relF X.env)).lookup x = some .free := hx
    rcases lookup_relF (env := X.env) (x := x) sc.names with ⟨q1, q2⟩ | ⟨y, hy, q1, q2⟩
    · rw [q1] at hx'
      rcases hx' with z | z <;> cases z
    · rw [q2] at hx'
      rw [q1]
      rcases relF_snd X.env y with ⟨z, _⟩ | ⟨z, _⟩
      · rw [z] at hx'
        rcases hx' with w | w
        · exact absurd (Option.some.inj w) (C.ncell y hy)
        · exact w
      · rw [z]
  have fk : ∀ x, sc.names.lookup x = some .free → (cxC X sc N (closOf X.env sc.names) s H ex).env.kindOf x = some .cell ∨ (cxC X sc N (closOf X.env sc.names) s H ex).env.kindOf x = some .free := fun x hx => by
    show (sc.names.map (relF X.env)).lookup x = some .cell ∨ (sc.names.map (relF X.env)).lookup x = some .free
    rcases lookup_relF (env := X.env) (x := x) sc.names with ⟨q1, q2⟩ | ⟨y, hy, q1, q2⟩
    · rw [q2] at hx; cases hx
    · rw [q1] at hx
      have hx' : y.2 = .free := Option.some.inj hx
      rw [q2]
      rcases relF_snd X.env y with ⟨z, _⟩ | ⟨_, z⟩
      · exact .inr (by rw [z, hx'])
      · exact .inl (by rw [z])
  refine ⟨⟨I.ok.mod, C.kind, I.ok.glob, I.ok.blt, Nat.le_refl _, fun x y c e1 e2 => I.ok.inj x y c (clos_sub I C e1) (clos_sub I C e2), fun x hx => clos_has I C (kf x hx), fun x c hf => Bool.noConfusion hf, I.ok.hd, I.ok.frames, .inl rfl, fun b hb => ⟨Nat.ne_of_lt (hex b hb).1, fun x c e => (hex b hb).2.1 x c (clos_sub I C e)⟩,
      I.bs, Nat.le_trans I.ok.bsz I.sz, fun b o e hb => absurd ((hex b hb).2.2.1.symm.trans e) (by simp), fun b hb z => ?_, I.stack, I.stkFree⟩,
    rfl, I.bare, Un.kept keep, ⟨m0, hns, fun i x v e1 e2 e3 => ?_⟩, fun x c e => ?_, I.hok.fresh (Nat.le_refl _), fun x c e => I.freeC x c (clos_sub I C e), fun p hp => absurd (show p ∈ ([] : List (Addr × Obj)) from hp) (by simp), I.hok.kept keep, ?_⟩
  · rcases List.mem_cons.mp (I.stkSub b z) with e | e
    · exact (hex b hb).2.2.2.1 e
    · exact (hex b hb).2.2.2.2 e
  · have e2' : (capt cap σ)[i]? = some (some v) := e2
    unfold capt at e2'
    rw [List.getElem?_map] at e2'
    cases hc : cap[i]? with
    | none => rw [hc] at e2'; cases e2'
    | some o =>
      rw [hc] at e2'
      cases o with
      | none => cases e2'
      | some j =>
        obtain ⟨x', h1', h2', h3'⟩ := C.capt i j hc
        have ex : x' = x := Option.some.inj (h1'.symm.trans e1)
        subst ex
        have e4 : (σ[j]?).join = some v := Option.some.inj e2'
        have e5 : σ[j]? = some (some v) := by
          cases q : σ[j]? with
          | none => rw [q] at e4; cases e4
          | some z => rw [q] at e4; exact congrArg some e4
        have hfr := C.frees _ (PySem.mem_of_lookup h3') rfl
        obtain ⟨m, hn, hl⟩ := I.loc
        obtain ⟨u, r, l⟩ := hl j x' v h2' e5 (.inr hfr)
        refine ⟨u, r, ?_⟩
        rcases l with ⟨k, _⟩ | ⟨_, c, hc', z⟩
        · rcases hfr with w | w
          · exact absurd (k.symm.trans w) (by decide)
          · exact absurd (k.symm.trans w) (by decide)
        · obtain ⟨c', hc2⟩ := clos_has I C h3'
          have ec : c = c' := Option.some.inj (hc'.symm.trans (clos_sub I C hc2))
          subst ec
          exact .inr ⟨fk x' h3', c, hc2, cellK z⟩
  · obtain ⟨v, z⟩ := I.cell x c (clos_sub I C e)
    exact ⟨v, cellK z⟩
  · show (capt cap σ).length = N.length
    unfold capt
    rw [List.length_map]
    exact C.capN
def PTs (X : Cx) (ifs : List Expr) (t : TT) : Prop :=
  ∀ (pins : List (Addr × Obj)) (s : Shared) (σ : St) (H : Hp) (Q : Bool → Hp → Prop), Inv X pins σ H s → t σ H Q →
    wpAny (model X.prog X.w) X.A (forIn ifs true fun c r => if r = true then do let ok ← isTrue c X.env (eval c X.env); pure (ForInStep.yield ok) else pure (ForInStep.yield r)) (TP X pins σ Q) X.xe s
def tYes : TT := fun _ H Q => Q true H
theorem pts_nil : PTs X [] tYes := fun _ _ _ H _ I h => wpAny_tests_nil ⟨H, I, h⟩
theorem pts_one {c : Expr} {t : TT} (h : PT X c t) : PTs X [c] t := fun pins s σ H Q I hq => wpAny_tests_one (h pins s σ H Q I hq)
theorem compLoop_any {prog : Program} {w : World} {A : Around} {R : Result → Shared → Prop} {s : Shared} {elt target iter : Expr} {ifs : List Expr} {scope : Scope} {pos : Pos} {it acc : Value} {env : Env} (I : Nat → Shared → Prop)
    (turn : ∀ n s, I n s → wpAny (model prog w) A (pyNext it) (fun r s₁ => match r with
      | none => R (.ok .next) s₁
      | some v => wpAny (model prog w) A (letOwnedTupleGo target it v) (fun _ s₀ => wpAny (model prog w) A (assign target env v) (fun _ s₂ =>
          wpAny (model prog w) A (forIn ifs true fun c r => if r = true then do let ok ← isTrue c env (eval c env); pure (ForInStep.yield ok) else pure (ForInStep.yield r)) (fun ok s₃ =>
            if ok = true then wpAny (model prog w) A (eval elt env) (fun x s₄ =>
              wpAny (model prog w) A (call (.builtin "list.append") [acc, x]) (fun _ s₅ => ∃ m, m < n ∧ I m s₅) (fun _ _ => False) s₄) (fun _ _ => False) s₃
            else ∃ m, m < n ∧ I m s₃) (fun _ _ => False) s₂) (fun _ _ => False) s₀) (fun _ _ => False) s₁) (fun _ _ => False) s)
    (n : Nat) (h : I n s) : codeAny (model prog w) A (.compLoop (.ListComp elt [⟨target, iter, ifs, 0⟩] scope pos) 0 it acc env) R s := by
  refine codeAny_loop rfl I (fun n s hI => ?_) n h
  show wpAny _ A ((compTurn (.ListComp elt [⟨target, iter, ifs, 0⟩] scope pos) 0 it acc env).onRaise (fun x => do noteFrame x env; theTreesLotGoes x)) _ _ s
  refine wpAny_noted ?_
  rw [compTurn_list]
  refine wpAny_bind (wpAny_standAt (wpAny_bind (wpAny_mono (turn n s hI) (fun r s₁ h₁ => ?_) fun _ _ h' => False.elim h')))
  cases r with
  | none => exact wpAny_pure h₁
  | some v =>
    refine wpAny_bind (wpAny_mono h₁ (fun _ s₀ h₀ => ?_) fun _ _ h' => False.elim h')
    refine wpAny_bind (wpAny_mono h₀ (fun _ s₂ h₂ => wpAny_bind (wpAny_mono h₂ (fun ok s₃ h₃ => ?_) fun _ _ h' => False.elim h')) fun _ _ h' => False.elim h')
    cases ok with
    | false => exact wpAny_pure ⟨rfl, h₃⟩
    | true =>
      exact wpAny_bind (wpAny_bind (wpAny_mono h₃ (fun x s₄ h₄ => wpAny_bind (wpAny_mono h₄ (fun _ s₅ h₅ => wpAny_pure (wpAny_pure ⟨rfl, h₅⟩)) fun _ _ h' => False.elim h')) fun _ _ h' => False.elim h'))
def kst : St → St → Prop
  | [], [] => True
  | a :: r, b :: r' => (a = none ∨ a = b) ∧ kst r r'
  | _, _ => False
theorem kst_len : ∀ {a b : St}, kst a b → a.length = b.length
  | [], [], _ => rfl
  | _ :: _, _ :: _, h => congrArg (· + 1) (kst_len h.2)
  | [], _ :: _, h => h.elim
  | _ :: _, [], h => h.elim
theorem kst_get : ∀ {a b : St} (i : Nat) (v : V), kst a b → a[i]? = some (some v) → b[i]? = some (some v)
  | [], [], _, _, _, e => e
  | x :: _, y :: _, 0, v, h, e => by
    have e' : x = some v := by simpa using e
    rcases h.1 with z | z
    · rw [e'] at z; cases z
    · rw [← z, e']; rfl
  | _ :: _, _ :: _, i + 1, v, h, e => by
    have q := kst_get i v h.2 (by simpa using e)
    simpa using q
  | [], _ :: _, _, _, h, _ => h.elim
  | _ :: _, [], _, _, h, _ => h.elim
def CompW (J : It) (cap : List (Option Nat)) (g : TG) (tt : TT) (te : TE) (σ : St) (Q : VK) (H1 : Hp) : Prop := ∃ (W : Nat → List V → Hp → Prop) (n : Nat), W 0 [] H1 ∧ ∀ i ys H, W i ys H →
  (J.stop i H ∧ ∀ p, H p = none → Q (.ref p) (upd H p (.lst ys))) ∨
  (J.go i H ∧ i < n ∧ ys.length < sizeLine ∧ ∀ x H', J.yld i H x H' → g x (capt cap σ) H' fun σ2 H2 => kst (capt cap σ) σ2 ∧ tt σ2 H2 fun b H3 => if b = true then te σ2 H3 fun y H4 => W (i + 1) (ys ++ [y]) H4 else W (i + 1) ys H3)
def tComp (cap : List (Option Nat)) (wi : TI) (g : TG) (tt : TT) (te : TE) : TE := fun σ H Q => wi σ H fun J H1 => CompW J cap g tt te σ Q H1
theorem comp_run {tg iter elt : Expr} {ifs : List Expr} {sc : Scope} {pos : Pos} {N : List Str} {cap : List (Option Nat)} {g : TG} {tt : TT} {te : TE} {Q : VK} {it : Addr} {fp : List Addr} {tn : Nat → Heap → Prop} {J : It}
    (I2 : Inv X pins σ H s) (T : Turn X.prog X.w X.K tg J fp it tn) (st2 : tn 0 s.heap) (f2 : ∀ b ∈ fp, FpOk X pins H b) (hc : X.calm = true) (C : CompOk X sc N cap)
    (hg : ∀ cl s₀ H₀ ex, PG (cxC X sc N cl s₀ H₀ ex) tg g) (ht : ∀ cl s₀ H₀ ex, PTs (cxC X sc N cl s₀ H₀ ex) ifs tt) (he : ∀ cl s₀ H₀ ex, PE (cxC X sc N cl s₀ H₀ ex) elt te)
    (W : Nat → List V → Hp → Prop) (n : Nat) (w0 : W 0 [] H) (turn : ∀ i ys H, W i ys H →
      (J.stop i H ∧ ∀ p, H p = none → Q (.ref p) (upd H p (.lst ys))) ∨
      (J.go i H ∧ i < n ∧ ys.length < sizeLine ∧ ∀ x H', J.yld i H x H' → g x (capt cap σ) H' fun σ2 H2 => kst (capt cap σ) σ2 ∧ tt σ2 H2 fun b H3 => if b = true then te σ2 H3 fun y H4 => W (i + 1) (ys ++ [y]) H4 else W (i + 1) ys H3))
    {RR : Value → Addr → Result → Shared → Prop} (hRR : ∀ D Ca s' H' m, Inv X pins σ H' s' → s'.heap.Ns Ca m → FpOk X pins H' Ca → Q (.ref D) H' → RR (.ref D) Ca (.ok .next) s') {E : Value → Shared → Prop} :
    wpAny (model X.prog X.w) X.A (newList []) (fun acc s₃ => wpAny (model X.prog X.w) X.A (newFunctionEnv sc X.env.globals (closOf X.env sc.names) [] X.env.qual none .none (some X.env)) (fun cenv s₄ =>
      codeAny (model X.prog X.w) X.A (.compStart (.ListComp elt [⟨tg, iter, ifs, 0⟩] sc pos) 0 (.ref it) acc { cenv with scope := relabel sc X.env }) (RR acc cenv.locals) s₄) E s₃) E s := by
  refine wpAny_newObj_type (wpAny_newFunctionEnv C.ncell (by intro y hy; simp at hy) (fun h₁ hns₁ hsb₁ => ?_) C.kind)
  dsimp only at hns₁ hsb₁ ⊢
  have hD0 : (s.heap.push { cls := .type "list", dict := none, data := .seq ([] : List Value).toArray }).get? s.heap.objs.size = some { cls := .type "list", data := .seq ([] : List Value).toArray 0 } := Heap.get?_push_size _ rfl
  have up : ∀ b o, s.heap.get? b = some o → (s.heap.push { cls := .type "list", dict := none, data := .seq ([] : List Value).toArray }).get? b = some o := fun b o e => Heap.get?_push_of_some _ e
  have I3 : Inv X pins σ H { s with heap := s.heap.push { cls := .type "list", dict := none, data := .seq ([] : List Value).toArray } } := I2.kept (t' := s.toks) up
  have hsz : (s.heap.push { cls := .type "list", dict := none, data := .seq ([] : List Value).toArray }).objs.size = s.heap.objs.size + 1 := Heap.size_push ..
  generalize hH2 : s.heap.push { cls := .type "list", dict := none, data := .seq ([] : List Value).toArray } = G2 at hns₁ hsb₁ hD0 up I3 hsz ⊢
  generalize hDe : s.heap.objs.size = D at hD0 hsz
  have hDfresh : s.heap.objs.size ≤ D := Nat.le_of_eq hDe
  have fpD : FpOk X pins H D := I2.fpOk hDfresh (I2.hok.fresh hDfresh)
  have fplt : ∀ b ∈ fp, b < D := fun b hb => by
    obtain ⟨o, e, _⟩ := T.obj _ _ st2 b hb
    rw [← hDe]; exact Heap.lt_size e
  have hDfp : D ∉ fp := fun z => Nat.lt_irrefl _ (fplt D z)
  have hexF : ∀ b ∈ D :: fp, FpOk X pins H b := fun b hb => (List.mem_cons.mp hb).elim (fun e => e ▸ fpD) (f2 b)
  have hlt : ∀ b ∈ D :: fp, b < G2.objs.size := fun b hb => by
    rw [hsz]
    rcases List.mem_cons.mp hb with e | hb
    · rw [e]; exact Nat.lt_succ_self _
    · exact Nat.lt_succ_of_lt (fplt b hb)
  have I0 := I3.comp0 (tk := s.toks + ([] : List (Str × Value)).length) C (ex := D :: fp) (fun b hb => ⟨hlt b hb, (hexF b hb).2.2.2.2.1, (hexF b hb).nobase I2, (hexF b hb).2.1, (hexF b hb).2.2.1⟩) hns₁ hsb₁
  have keep1 : ∀ b o, G2.get? b = some o → h₁.get? b = some o := fun b o e => hsb₁.extBut b o (Nat.ne_of_lt (Heap.lt_size e)) (Heap.get?_push_of_some _ e)
  -- the records stay the block's own
  have fpY : ∀ {H' : Hp}, (∀ b ∈ D :: fp, H' b = none) → ∀ b ∈ D :: fp, FpOk (cxC X sc N (closOf X.env sc.names) { s with heap := G2 } H (D :: fp)) [] H' b := fun hn b hb =>
    ⟨hn b hb, Nat.ne_of_lt (hlt b hb), fun z => (List.mem_cons.mp (I2.stkSub b z)).elim (hexF b hb).2.1 (hexF b hb).2.2.1, .inl hb, fun x c e => (hexF b hb).2.2.2.2.1 x c (clos_sub I2 C e), fun p hp => absurd (show p ∈ ([] : List (Addr × Obj)) from hp) (by simp)⟩
  have loop : codeAny (model X.prog X.w) X.A (.compLoop (.ListComp elt [⟨tg, iter, ifs, 0⟩] sc pos) 0 (.ref it) (.ref D) (compEnvC sc (closOf X.env sc.names) G2.objs.size X.env)) (RR (.ref D) G2.objs.size) { s with heap := h₁, toks := s.toks + ([] : List (Str × Value)).length } := by
    refine compLoop_any (fun k s' => ∃ i ys its c H', k = n - i ∧ Inv (cxC X sc N (closOf X.env sc.names) { s with heap := G2 } H (D :: fp)) [] (capt cap σ) H' s' ∧ tn i s'.heap ∧ (∀ b ∈ D :: fp, H' b = none) ∧
      s'.heap.get? D = some { cls := .type "list", data := .seq (List.toArray its) c } ∧ Vals ys its ∧ ys.length ≤ sizeLine ∧ W i ys H') ?_ (n - 0)
      ⟨0, [], [], 0, H, rfl, I0, T.keep _ _ _ st2 (fun b _ o e => keep1 b o (up b o e)), fun b hb => (hexF b hb).1, keep1 _ _ hD0, .nil, Nat.zero_le _, w0⟩
    rintro k s' ⟨i, ys, its, c, H', rfl, I', st', fr', hD', rv, hyl, w'⟩
    have Ip : Inv (cxC X sc N (closOf X.env sc.names) { s with heap := G2 } H (D :: fp)) [(D, { cls := .type "list", data := .seq (List.toArray its) c })] (capt cap σ) H' s' := I'.pins_of fun p hp => by
      have e : p = (D, { cls := .type "list", data := .seq (List.toArray its) c }) := by simpa using hp
      subst e
      have z := fpY fr' D List.mem_cons_self
      exact ⟨hD', z.1, z.2.1, z.2.2.1, fun v q => by cases q⟩
    have fpP : ∀ {H'' : Hp}, (∀ b ∈ fp, H'' b = none) → ∀ b ∈ fp, FpOk (cxC X sc N (closOf X.env sc.names) { s with heap := G2 } H (D :: fp)) [(D, { cls := .type "list", data := .seq (List.toArray its) c })] H'' b := fun {H''} hn b hb => by
      have z := fpY fr' b (List.mem_cons_of_mem _ hb)
      refine ⟨hn b hb, z.2.1, z.2.2.1, z.2.2.2.1, z.2.2.2.2.1, fun p hp q => ?_⟩
      have e : p = (D, { cls := .type "list", data := .seq (List.toArray its) c }) := by
        have hp' : p ∈ ([] : List (Addr × Obj)) ++ [(D, { cls := .type "list", data := .seq (List.toArray its) c })] := hp
        simpa using hp'
      subst e
      have q' : D = b := q
      exact hDfp (by rw [q']; exact hb)
    have frF : ∀ b ∈ fp, H' b = none := fun b hb => fr' b (List.mem_cons_of_mem _ hb)
    rcases turn i ys H' w' with ⟨stop, q⟩ | ⟨go, hin, hys, step⟩
    · refine thn (T.done (cxC X sc N (closOf X.env sc.names) { s with heap := G2 } H (D :: fp)) rfl rfl rfl hc i _ s' (capt cap σ) H' (fun _ _ => False) Ip (fpP frF) st' stop) fun r s1 ⟨hr, I1⟩ => ?_
      subst hr
      have hDs : s1.heap.get? D = some { cls := .type "list", data := .seq (List.toArray its) c } := (I1.pin (D, { cls := .type "list", data := .seq (List.toArray its) c }) (List.mem_append_right _ List.mem_cons_self)).1
      obtain ⟨m1, hn1, _⟩ := id I1.loc
      have un : Un (frs X.stack) fp H H' s.heap s1.heap := by
        have b0 := I1.base
        have nD : ∀ b o, s.heap.get? b = some o → b ∉ fp → b ∉ D :: fp := fun b o e hx z => (List.mem_cons.mp z).elim (fun q => absurd (Heap.lt_size e) (by rw [q, hDe]; exact Nat.lt_irrefl _)) hx
        exact ⟨fun b o e hn hb hx => b0.keep b o (up b o e) hn hb (nD b o e hx), fun b o e hn hb hx => b0.slot b o (up b o e) hn hb (nD b o e hx), fun b o e hn hx => b0.free b o (up b o e) hn (nD b o e hx), fun b o e hx => b0.there b o (up b o e) (nD b o e hx), b0.tups, b0.frzs, b0.tbls⟩
      have IX : Inv X pins σ H' s1 := I2.call' (ch := fp) I1.os un I1.hok I1.bare fun b hb => ⟨(f2 b hb).2.2.2.1, (f2 b hb).2.1, (f2 b hb).2.2.2.2.1, (f2 b hb).2.2.2.2.2⟩
      have fD : FpOk X pins H' D := I2.fpOk hDfresh (fr' D List.mem_cons_self)
      have IT : Inv X pins σ (upd H' D (.lst ys)) s1 := IX.track fD ⟨hyl, its, c, rv, hDs⟩
      have hCD : G2.objs.size ≠ D := by rw [hsz]; exact Nat.succ_ne_self D
      have fC : FpOk X pins (upd H' D (.lst ys)) G2.objs.size := I2.fpOk (by rw [hsz, hDe]; exact Nat.le_succ _) (by rw [upd_ne hCD]; exact I1.free)
      exact hRR D G2.objs.size s1 _ m1 IT hn1 fC (q D (fr' D List.mem_cons_self))
    · refine thn (T.item (cxC X sc N (closOf X.env sc.names) { s with heap := G2 } H (D :: fp)) rfl rfl rfl hc i _ s' (capt cap σ) H' (fun _ _ => False) Ip (fpP frF) st' go) fun r s1 ⟨u, hr, h4⟩ => ?_
      subst hr
      refine thn h4 fun _ s2 ⟨x, H5, I5, r5, y5, st5, fr5⟩ => ?_
      have I5' := I5.pinned (fpP fr5) (T.obj _ _ st5)
      have back : ∀ {s8 : Shared} {σ6 : St} {H8 : Hp}, Inv (cxC X sc N (closOf X.env sc.names) { s with heap := G2 } H (D :: fp)) ([(D, { cls := .type "list", data := .seq (List.toArray its) c })] ++ pinsAt fp s2.heap) σ6 H8 s8 → kst (capt cap σ) σ6 →
          Inv (cxC X sc N (closOf X.env sc.names) { s with heap := G2 } H (D :: fp)) [] (capt cap σ) H8 s8 ∧ tn (i + 1) s8.heap ∧ (∀ b ∈ D :: fp, H8 b = none) ∧ s8.heap.get? D = some { cls := .type "list", data := .seq (List.toArray its) c } := fun {s8 σ6 H8} I8 ks => by
        have pD := I8.pin (D, { cls := .type "list", data := .seq (List.toArray its) c }) (List.mem_append_right _ (List.mem_append_left _ List.mem_cons_self))
        have pF : ∀ b ∈ fp, ∀ o, s2.heap.get? b = some o → s8.heap.get? b = some o ∧ H8 b = none := fun b hb o e => by
          have z := I8.pin (b, o) (List.mem_append_right _ (List.mem_append_right _ (mem_pinsAt hb e)))
          exact ⟨z.1, z.2.1⟩
        refine ⟨(I8.pins_of fun p hp => absurd hp (by simp)).weak (kst_len ks) fun j v e => kst_get j v ks e, T.keep _ _ _ st5 fun b hb o e => (pF b hb o e).1, fun b hb => ?_, pD.1⟩
        rcases List.mem_cons.mp hb with e | hb
        · rw [e]; exact pD.2.1
        · obtain ⟨o, e, _⟩ := T.obj _ _ st5 b hb
          exact (pF b hb o e).2
      refine thn (hg _ _ _ _ _ s2 (capt cap σ) H5 x u _ I5' r5 (step x H5 y5)) fun _ s6 ⟨σ6, H6, I6, ks, q6⟩ => ?_
      refine thn (ht _ _ _ _ _ s6 σ6 H6 _ I6 q6) fun ok s7 ⟨H7, I7, q7⟩ => ?_
      cases ok with
      | false =>
        rw [if_neg Bool.false_ne_true] at q7 ⊢
        obtain ⟨J8, st8, fr8, hD8⟩ := back I7 ks
        exact ⟨n - (i + 1), by omega, i + 1, ys, its, c, H7, rfl, J8, st8, fr8, hD8, rv, hyl, q7⟩
      | true =>
        rw [if_pos rfl] at q7 ⊢
        refine thn (he _ _ _ _ _ s7 σ6 H7 _ I7 q7) fun v s8 ⟨y, H8, I8, r8, q8⟩ => ?_
        obtain ⟨J8, st8, fr8, hD8⟩ := back I8 ks
        have lenV := rv.length
        refine append_at hD8 (fun h9 hs9 hD9 => ?_) (by rw [List.size_toArray]; omega)
        have fY := fpY fr8
        have J9 := J8.turnedL (t' := s8.toks) (h' := h9) [D] (fun b hb => by
          have e : b = D := by simpa using hb
          rw [e]
          exact fY D List.mem_cons_self) fun b o hb e => hs9.extBut b o (by simpa using hb) e
        refine ⟨n - (i + 1), by omega, i + 1, ys ++ [y], its ++ [v], c + 1, H8, rfl, J9, T.keep _ _ _ st8 fun b hb o e => hs9.extBut b o (fun q => hDfp (q ▸ hb)) e, fr8, by rw [hD9, List.push_toArray], rv.append (.cons r8 .nil), ?_, q8⟩
        rw [List.length_append, List.length_singleton]
        omega
  exact codeAny_compStart_list loop (T.self X.A 0 _ _ _ (T.keep _ _ _ st2 (fun b _ o e => keep1 b o (up b o e))) loop)
theorem pe_comp {tg iter elt : Expr} {ifs : List Expr} {sc : Scope} {pos : Pos} {N : List Str} {cap : List (Option Nat)} {wi : TI} {g : TG} {tt : TT} {te : TE} (hc : X.calm = true) (C : CompOk X sc N cap) (hi : PI X tg iter wi)
    (hg : ∀ cl s₀ H₀ ex, PG (cxC X sc N cl s₀ H₀ ex) tg g) (ht : ∀ cl s₀ H₀ ex, PTs (cxC X sc N cl s₀ H₀ ex) ifs tt) (he : ∀ cl s₀ H₀ ex, PE (cxC X sc N cl s₀ H₀ ex) elt te)
    (hs : ∀ x, foldedSetIterable iter X.env x = pure x := by intro _; rfl) : PE X (.ListComp elt [⟨tg, iter, ifs, 0⟩] sc pos) (tComp cap wi g tt te) := by
  intro pins s σ H Q I h
  rw [eval_ListComp]
  refine wpAny_comprehension_free (use := none) rfl hs (closureFor_own (clos_of I C)) C.kind C.names (thn (hi pins s σ H _ I h) fun xv s1 h1 => thn h1 fun itv s2 h2 => ?_)
  obtain ⟨it, fp, tn, J, H2, e, I2, T, st2, f2, W, n, w0, turn⟩ := h2
  subst e
  refine comp_run (Q := Q) (RR := fun acc Ca => compPost (model X.prog X.w) X.A X.xe none (EP X pins σ Q) acc Ca) I2 T st2 f2 hc C hg ht he W n w0 turn ?_
  intro D Ca s' H' m I' hn fC q
  exact ⟨m, hn, fun h' hs' => ⟨.ref D, H', I'.turnedL (t' := s'.toks) [Ca] (fun b hb => by rw [show b = Ca by simpa using hb]; exact fC) (fun b o hb e => hs'.extBut b o (by simpa using hb) e), rfl, q⟩⟩
theorem ps_setC {i : Nat} {y : Str} {tg iter elt : Expr} {ifs : List Expr} {sc : Scope} {pos spos py : Pos} {N : List Str} {cap : List (Option Nat)} {wi : TI} {g : TG} {tt : TT} {te : TE} (hN : X.N.Nodup) (hy : X.N[i]? = some y) (hx : Loc X.env.scope y) (hc : X.calm = true) (C : CompOk X sc N cap) (hi : PI X tg iter wi)
    (hg : ∀ cl s₀ H₀ ex, PG (cxC X sc N cl s₀ H₀ ex) tg g) (ht : ∀ cl s₀ H₀ ex, PTs (cxC X sc N cl s₀ H₀ ex) ifs tt) (he : ∀ cl s₀ H₀ ex, PE (cxC X sc N cl s₀ H₀ ex) elt te)
    (hsw : swapsWith (.ListComp elt [⟨tg, iter, ifs, 0⟩] sc pos) (some (.Name y py)) spos.line X.env = pure true := by rfl)
    (hs : ∀ x, foldedSetIterable iter X.env x = pure x := by intro _; rfl) (hf : X.fn y = true ∨ X.env.scope.names.lookup y = some .local := by first | exact .inl rfl | exact .inr rfl | assumption) :
    PS X (.Assign [.Name y py] (.ListComp elt [⟨tg, iter, ifs, 0⟩] sc pos) spos) (tAsg (tComp cap wi g tt te) (gName i)) := by
  intro pins s σ H Dd I h
  rw [exec_Assign_Name_used _ _ _ _ hsw]
  refine wpAny_bind (wpAny_standAt (wpAny_bind ?_))
  show wpAny _ X.A (do let _ ← comprehension (.ListComp elt [⟨tg, iter, ifs, 0⟩] sc pos) sc X.env _ (newList []) false (eval iter X.env) (some (assign (.Name y py) X.env))) _ _ s
  refine wpAny_bind (wpAny_mono (wpAny_comprehension_free (use := some (assign (.Name y py) X.env)) (Q := fun _ s' => SP X pins Dd .next s') rfl hs (closureFor_own (clos_of I C)) C.kind C.names
    (thn (hi pins s σ H _ I h) fun xv s1 h1 => thn h1 fun itv s2 h2 => ?_)) (fun _ s' hq => wpAny_pure (wpAny_pure hq)) fun _ _ e => e)
  obtain ⟨it, fp, tn, J, H2, e, I2, T, st2, f2, W, n, w0, turn⟩ := h2
  subst e
  refine comp_run (Q := fun x H1 => gName i x σ H1 Dd.nx) (RR := fun acc Ca => compPost (model X.prog X.w) X.A X.xe (some (assign (.Name y py) X.env)) (fun _ s' => SP X pins Dd .next s') acc Ca) I2 T st2 f2 hc C hg ht he W n w0 turn ?_
  intro D Ca s' H' m I' hn fC q
  show wpAny _ X.A (assign (.Name y py) X.env (.ref D)) _ _ _
  refine wpAny_assign_Name (store_ok2 I' hN hy hx (v := .ref D) rfl (fun s3 I3 ⟨a, hsb, ha⟩ => ?_) hf)
  have hCa : Ca ≠ a := by
    rcases ha with e | e
    · rw [e]; exact fC.2.1
    · exact fun z => fC.2.2.2.2.1 _ _ e z.symm
  refine ⟨m, hn.sameBut hsb hCa, fun h' hs' => ?_⟩
  exact ⟨_, H', I3.turnedL (t' := s3.toks) [Ca] (fun b hb => by rw [show b = Ca by simpa using hb]; exact fC) (fun b o hb e => hs'.extBut b o (by simpa using hb) e), q⟩
end
end L2
set_option Elab.async false
set_option linter.all false
set_option maxRecDepth 100000
namespace L2
open PySem PySem.Spec PyProof.Rows
theorem ints_of : ∀ {ns : List Int} {us : List Value}, Vals (ns.map V.int) us → IntsAre us ns
  | [], _, r => by cases r; exact .nil
  | n :: ns, _, r => by
    cases r with
    | cons r rr =>
      obtain ⟨t, rfl⟩ := r
      exact .cons n t (ints_of rr)
def Itz (K : PySem.W.Frag) (a b : Addr) : It :=
  ⟨fun i H => ∃ xs ys x y, SqL K H a xs ∧ SqL K H b ys ∧ xs[i]? = some x ∧ ys[i]? = some y,
   fun i H v H' => ∃ p x y, v = .ref p ∧ H p = none ∧ H' = upd H p (.tup [x, y]) ∧ (∀ xs, SqL K H a xs → xs[i]? = some x) ∧ (∀ ys, SqL K H b ys → ys[i]? = some y),
   fun i H => ∃ xs ys, SqL K H a xs ∧ SqL K H b ys ∧ (xs.length ≤ i ∨ ys.length ≤ i)⟩
theorem turn_zip {P : Program} {w : World} {K : PySem.W.Frag} {elts : List Expr} {kt : Nat} {pt : Pos} (z TI TO i1 i2 a b : Addr) (D : ZipApart z TI TO i1 i2 a b) :
    Turn P w K (.Tuple elts kt pt) (Itz K a b) [z, TI, TO, i1, i2] z (fun i h => IsZip h z TI TO .none ∧ IsPair h TI (.ref i1) (.ref i2) ∧ (∃ c d, IsPair h TO c d) ∧ h.IsListIter i1 a i ∧ h.IsListIter i2 b i) where
  mem := by simp
  obj := fun i h st c hc => by
    obtain ⟨hz, hTI, ⟨_, _, hTO⟩, ⟨o1, e1, c1, d1⟩, ⟨o2, e2, c2, d2⟩⟩ := st
    simp only [List.mem_cons, List.not_mem_nil, or_false] at hc
    rcases hc with rfl | rfl | rfl | rfl | rfl
    · exact ⟨_, hz, fun v q => by
        have q' : Data.fields _ = Data.cell v := q
        cases q'⟩
    · exact ⟨_, hTI, fun v q => by
        have q' : Data.seq _ _ = Data.cell v := q
        cases q'⟩
    · exact ⟨_, hTO, fun v q => by
        have q' : Data.seq _ _ = Data.cell v := q
        cases q'⟩
    · exact ⟨_, e1, fun v q => by rw [d1] at q; cases q⟩
    · exact ⟨_, e2, fun v q => by rw [d2] at q; cases q⟩
  keep := fun i h h' st k => by
    obtain ⟨hz, hTI, ⟨c, d, hTO⟩, h1, h2⟩ := st
    exact ⟨k z (by simp) _ hz, k TI (by simp) _ hTI, ⟨c, d, k TO (by simp) _ hTO⟩, h1.at fun o e => k i1 (by simp) o e, h2.at fun o e => k i2 (by simp) o e⟩
  item := by
    intro X hP hw hK hc i pins s σ H E I hf st hg
    subst hP hw hK
    obtain ⟨xs, ys, x, y, hxs, hys, hx, hy⟩ := hg
    obtain ⟨its, rv, p, hz⟩ := I.list hxs
    obtain ⟨its', rv', p', hz'⟩ := I.list hys
    obtain ⟨u, hu, ru⟩ := rv.get hx
    obtain ⟨u', hu', ru'⟩ := rv'.get hy
    obtain ⟨q1, q2, ⟨c, d, q3⟩, q4, q5⟩ := st
    refine wpAny_pyNext_zip_item D q1 q2 q3 q4 q5 p.isList p'.isList (x := u) (y := u') (by simpa using hu) (by simpa using hu') fun h' a1 a2 a3 a4 a5 a6 hk => ?_
    refine ⟨_, rfl, wpAny_letOwnedTupleGo_zip a1 fun h'' b1 hs' => ?_⟩
    have lt : ∀ {c o}, s.heap.get? c = some o → s.heap.objs.size ≠ c := fun e => Nat.ne_of_gt (Heap.lt_size e)
    have keep : ∀ b o, b ∉ [z, TI, TO, i1, i2] → s.heap.get? b = some o → h''.get? b = some o := fun b o hb e => by
      simp only [List.mem_cons, List.not_mem_nil, or_false, not_or] at hb
      exact hs'.extBut b o hb.1 (hk b o hb.1 hb.2.2.1 hb.2.2.2.1 hb.2.2.2.2 e)
    have I1 : Inv X pins σ H { s with heap := h'' } := I.turnedL (t' := s.toks) _ hf keep
    have Tn : H s.heap.objs.size = none := I.hok.fresh (Nat.le_refl _)
    have fT : FpOk X pins H s.heap.objs.size := I.fpOk (Nat.le_refl _) Tn
    have eT : h''.get? s.heap.objs.size = some { cls := .type "tuple", data := .seq #[u, u'] } := hs'.extBut _ _ (lt q1) a5
    have I2 : Inv X pins σ (upd H s.heap.objs.size (.tup [x, y])) { s with heap := h'' } := I1.track fT ⟨by show 2 ≤ sizeLine; decide, [u, u'], .cons ru (.cons ru' .nil), ⟨_, eT, rfl, _, rfl⟩⟩
    refine ⟨.ref s.heap.objs.size, _, I2, rfl, ⟨_, x, y, rfl, Tn, rfl, fun zs hz => by rw [I.list_inj hz hxs]; exact hx, fun zs hz => by rw [I.list_inj hz hys]; exact hy⟩,
      ⟨b1, hs'.extBut _ _ D.TIz (hk _ _ D.TIz D.TITO D.TIi1 D.TIi2 q2), ⟨_, _, hs'.extBut _ _ D.TOz a2⟩, a3.extBut hs'.extBut D.i1z, a4.extBut hs'.extBut D.i2z⟩, fun b hb => ?_⟩
    have e : b ≠ s.heap.objs.size := fun e => by
      simp only [List.mem_cons, List.not_mem_nil, or_false] at hb
      rcases hb with r | r | r | r | r
      · exact lt q1 (e.symm.trans r)
      · exact lt q2 (e.symm.trans r)
      · exact lt q3 (e.symm.trans r)
      · obtain ⟨_, e1, _⟩ := q4; exact lt e1 (e.symm.trans r)
      · obtain ⟨_, e1, _⟩ := q5; exact lt e1 (e.symm.trans r)
    rw [upd_ne e]
    exact (hf b hb).1
  done := by
    intro X hP hw hK hc i pins s σ H E I hf st hg
    subst hP hw hK
    obtain ⟨xs, ys, hxs, hys, hl⟩ := hg
    obtain ⟨its, rv, p, hz⟩ := I.list hxs
    obtain ⟨its', rv', p', hz'⟩ := I.list hys
    obtain ⟨q1, q2, ⟨c, d, q3⟩, q4, q5⟩ := st
    have l1 := rv.length
    have l2 := rv'.length
    have hend : its.toArray[i]? = none ∨ its'.toArray[i]? = none := by
      rcases hl with r | r
      · exact .inl (by simp; omega)
      · exact .inr (by simp; omega)
    refine wpAny_pyNext_zip_end (I.ok.hd hc) D q1 q2 q3 q4 q5 p.isList p'.isList hend fun h' hk => ⟨rfl, I.turnedL (t' := s.toks) _ hf fun b o hb e => ?_⟩
    simp only [List.mem_cons, List.not_mem_nil, or_false, not_or] at hb
    exact hk b o hb.1 hb.2.2.1 hb.2.2.2.1 hb.2.2.2.2 e
  self := fun _ _ _ _ _ st h => wpAny_pyIter_zip st.1 h
section
variable {X : Cx}
def iZip (K : PySem.W.Frag) (ta : TA) : TI := fun σ H R => ta σ H fun vs H1 => ∃ a b, vs = [.ref a, .ref b] ∧ (∃ xs, SqL K H1 a xs) ∧ (∃ ys, SqL K H1 b ys) ∧ R (Itz K a b) H1
theorem pi_zip {a b : Expr} {elts : List Expr} {kt : Nat} {pt : Pos} {ta : TA} {p pos : Pos} (hg : Gl X "zip") (hm : X.mg "zip" = none) (ha : PA X [a, b] ta) (hs : starEach [a, b] X.env = [(false, eval a X.env), (false, eval b X.env)] := by rfl) (hs2 : starEach [b] X.env = [(false, eval b X.env)] := by rfl) :
    PI X (.Tuple elts kt pt) (.Call (.Name "zip" p) [a, b] [] pos) (iZip X.K ta) := by
  intro pins s σ H R I h
  refine Call_ (ld_blt I hg hm boot_zip (PyProof.Rows.callWith_type1 (thn (ha pos pins s σ H _ I h) fun us s1 ⟨vs, H1, I1, r1, q1⟩ => ?_) (by rw [hs, hs2]) (by rw [hs2]; rfl)))
  obtain ⟨la, lb, e, ⟨xs, hxs⟩, ⟨ys, hys⟩, q⟩ := q1
  subst e
  cases r1 with
  | cons r rr =>
    cases rr with
    | cons r' rr =>
      cases rr
      cases r
      cases r'
      obtain ⟨its, rv, pl, hz⟩ := I1.list hxs
      obtain ⟨its', rv', pl', hz'⟩ := I1.list hys
      have lt1 : la < s1.heap.objs.size := by obtain ⟨_, e, _⟩ := pl.isList; exact Heap.lt_size e
      have lt2 : lb < s1.heap.objs.size := by obtain ⟨_, e, _⟩ := pl'.isList; exact Heap.lt_size e
      refine call_zip_2 pl.isList pl'.isList fun h' z1 z2 z3 z4 z5 z6 hk => wpAny_pyIter_zip z1 ?_
      refine ⟨s1.heap.objs.size + 4, [s1.heap.objs.size + 4, s1.heap.objs.size + 2, s1.heap.objs.size + 3, s1.heap.objs.size, s1.heap.objs.size + 1], _, _, H1, rfl, I1.kept (t' := s1.toks) hk, turn_zip _ _ _ _ _ la lb (zipApart_new lt1 lt2), ⟨z1, z2, ⟨_, _, z3⟩, z4, z5⟩, fun b hb => ?_, q⟩
      have hle : s1.heap.objs.size ≤ b := by
        simp only [List.mem_cons, List.not_mem_nil, or_false] at hb
        rcases hb with r | r | r | r | r <;> rw [r] <;> omega
      exact I1.fpOk hle (I1.hok.fresh hle)
theorem call_sum (hc : X.calm = true) : CallR X (.builtin "sum") (fun xs H Q => ∃ (p : Addr) (ns : List Int), xs = [.ref p] ∧ SqL X.K H p (ns.map V.int) ∧ Q (.int ns.sum) H) := by
  intro pins s σ H xs us Q I r h
  obtain ⟨p, ns, e, hq, q⟩ := h
  subst e
  cases r with
  | cons r rr =>
    cases rr
    cases r
    obtain ⟨its, rv, pl, hz⟩ := I.list hq
    have hi := ints_of rv
    obtain ⟨xs, e⟩ := hi.allInts.items
    have hns : ns = xs.toList.map (·.1) := by rw [← hi.numsOf, ← nums_intItems, ← e]
    have hl := pl.isList
    rw [e] at hl
    refine sum_intListG (I.ok.hd hc) hl fun h' tk t' hk => ⟨.int ns.sum, H, I.kept hk, ⟨t', ?_⟩, q⟩
    rw [preSum_eq, hns]
    congr 1
    rw [List.take_of_length_le (by rw [List.length_map, Array.length_toList]; exact Nat.le_refl _)]
def EqD (K : PySem.W.Frag) (H : Hp) : Nat → V → V → Prop
  | 0, x, y => x = y ∧ flatV x = true
  | n + 1, x, y => (x = y ∧ flatV x = true) ∨ ∃ (a b : Addr) (xs ys : List V), x = .ref a ∧ y = .ref b ∧ xs.length = ys.length ∧ (∀ (i : Nat) p q, xs[i]? = some p → ys[i]? = some q → EqD K H n p q) ∧ ((SqL K H a xs ∧ SqL K H b ys) ∨ (SqT K H a xs ∧ SqT K H b ys))
end
end L2
set_option linter.all false
namespace My
def goodW (row : List Int) (g : Int) : Int := if g = -1 then 0 else row.getD g.toNat 0
def dealW (ws : List (List Int)) (d : List Int) : Int := ((ws.zip d).map fun p => goodW p.1 p.2).sum
def rangeI (lo : Int) (n : Nat) : List Int := (List.range n).map fun (i : Nat) => lo + (i : Int)
def freeG (d : List Int) (goods : Int) : List Int := -1 :: (rangeI 0 goods.toNat).filter (fun g => !decide (g ∈ d))
def moreD (goods : Int) (d : List Int) : List (List Int) := (freeG d goods).map fun g => d ++ [g]
def allD (goods : Int) : Nat → List (List Int)
  | 0 => [[]]
  | n + 1 => (allD goods n).flatMap (moreD goods)
def stepB (ws : List (List Int)) (b : Int × List Int) (d : List Int) : Int × List Int := if dealW ws d > b.1 then (dealW ws d, d) else b
def best (ws : List (List Int)) (goods : Int) : Int × List Int := (allD goods ws.length).foldl (stepB ws) (-1, [])
theorem mem_rangeI {lo : Int} {n : Nat} {g : Int} : g ∈ rangeI lo n ↔ lo ≤ g ∧ g < lo + (n : Int) := by
  unfold rangeI
  rw [List.mem_map]
  constructor
  · rintro ⟨i, hi, rfl⟩
    have := List.mem_range.mp hi
    omega
  · rintro ⟨h1, h2⟩
    exact ⟨(g - lo).toNat, List.mem_range.mpr (by omega), by omega⟩
theorem rangeI_len (lo : Int) (n : Nat) : (rangeI lo n).length = n := by simp [rangeI]
theorem rangeI_get {lo : Int} {n i : Nat} (h : i < n) : (rangeI lo n)[i]? = some (lo + (i : Int)) := by
  unfold rangeI
  rw [List.getElem?_map, List.getElem?_range h]
  rfl
theorem len_flatMap {α β : Type} (f : α → List β) (k : Nat) (h : ∀ a, (f a).length ≤ k) : ∀ l : List α, (l.flatMap f).length ≤ l.length * k
  | [] => by simp
  | a :: l => by
    rw [List.flatMap_cons, List.length_append, List.length_cons, Nat.succ_mul]
    have := len_flatMap f k h l
    have := h a
    omega
end My
set_option linter.all false
namespace My
end My
set_option linter.all false
namespace My
theorem nd1 {α : Type} {a : α} : ([a] : List α).Nodup := by simp
theorem nd2 {α : Type} {a b : α} (h : a ≠ b) : ([a, b] : List α).Nodup := by simp [h]
theorem nd3 {α : Type} {a b c : α} (h1 : a ≠ b) (h2 : a ≠ c) (h3 : b ≠ c) : ([a, b, c] : List α).Nodup := by simp [h1, h2, h3]
theorem nd4 {α : Type} {a b c d : α} (h1 : a ≠ b) (h2 : a ≠ c) (h3 : a ≠ d) (h4 : b ≠ c) (h5 : b ≠ d) (h6 : c ≠ d) : ([a, b, c, d] : List α).Nodup := by simp [h1, h2, h3, h4, h5, h6]
def lexLt : List Int → List Int → Prop
  | [], [] => False
  | [], _ :: _ => True
  | _ :: _, [] => False
  | a :: as, b :: bs => a < b ∨ (a = b ∧ lexLt as bs)
theorem lex_irr : ∀ a : List Int, ¬ lexLt a a
  | [], h => h
  | a :: as, h => by
    rcases h with h | ⟨_, h⟩
    · omega
    · exact lex_irr as h
theorem lex_asymm : ∀ {a b : List Int}, lexLt a b → lexLt b a → False
  | [], [], h, _ => h
  | [], _ :: _, _, h => h
  | _ :: _, [], h, _ => h
  | a :: as, b :: bs, h1, h2 => by
    rcases h1 with h1 | ⟨e, h1⟩ <;> rcases h2 with h2 | ⟨e2, h2⟩
    · omega
    · omega
    · omega
    · exact lex_asymm h1 h2
theorem lex_trans : ∀ {a b c : List Int}, lexLt a b → lexLt b c → lexLt a c
  | [], [], _, h, _ => h.elim
  | [], _ :: _, [], _, h => h.elim
  | [], _ :: _, _ :: _, _, _ => trivial
  | _ :: _, [], _, h, _ => h.elim
  | _ :: _, _ :: _, [], _, h => h.elim
  | a :: as, b :: bs, c :: cs, h1, h2 => by
    rcases h1 with h1 | ⟨e, h1⟩ <;> rcases h2 with h2 | ⟨e2, h2⟩
    · exact .inl (by omega)
    · exact .inl (by omega)
    · exact .inl (by omega)
    · exact .inr ⟨by omega, lex_trans h1 h2⟩
theorem lex_total : ∀ (a b : List Int), a = b ∨ lexLt a b ∨ lexLt b a
  | [], [] => .inl rfl
  | [], _ :: _ => .inr (.inl trivial)
  | _ :: _, [] => .inr (.inr trivial)
  | a :: as, b :: bs => by
    by_cases h1 : a < b
    · exact .inr (.inl (.inl h1))
    · by_cases h2 : b < a
      · exact .inr (.inr (.inl h2))
      · have e : a = b := by omega
        subst e
        rcases lex_total as bs with h | h | h
        · exact .inl (by rw [h])
        · exact .inr (.inl (.inr ⟨rfl, h⟩))
        · exact .inr (.inr (.inr ⟨rfl, h⟩))
def pieW (row : List Int) (c : Int) : Int := (row.take c.toNat).sum
def totP (ws : List (List Int)) (d : List Int) : Int := ((ws.zip d).map fun p => pieW p.1 p.2).sum
def Feas : Int → List (List Int) → List Int → Prop
  | p, [], [] => 0 ≤ p
  | p, w :: ws, c :: d => 0 ≤ c ∧ c ≤ (w.length : Int) ∧ Feas (p - c) ws d
  | _, [], _ :: _ => False
  | _, _ :: _, [] => False
def okH (ws : List (List Int)) : Prop := ∀ row ∈ ws, row.length ≤ 5 ∧ (∀ v ∈ row, 0 ≤ v ∧ v ≤ 1000) ∧ row.Pairwise (fun a b => b ≤ a)
theorem rev_ind {α : Type} {Q : List α → Prop} (h0 : Q []) (h1 : ∀ l a, Q l → Q (l ++ [a])) (l : List α) : Q l := by
  rw [← List.reverse_reverse l]
  induction l.reverse with
  | nil => exact h0
  | cons a l ih => rw [List.reverse_cons]; exact h1 _ _ ih
structure BestP (p : Int) (ws : List (List Int)) (m : Int) (d : List Int) : Prop where
  feas : Feas p ws d
  val : totP ws d = m
  le : ∀ e, Feas p ws e → totP ws e ≤ m
  first : ∀ e, Feas p ws e → totP ws e = m → e = d ∨ lexLt d e
end My
set_option linter.all false
namespace My
def costR (cs row : List Int) : Int := (row.map fun r => cs.getD r.toNat 0).sum
def LeastR (C : List Int → Prop) (cs : List Int) : Option (Int × List Int) → Prop
  | none => ∀ e, ¬ C e
  | some (m, d) => C d ∧ costR cs d = m ∧ ∀ e, C e → m < costR cs e ∨ (m = costR cs e ∧ (e = d ∨ lexLt d e))
section
variable {C C' : List Int → Prop} {cs : List Int} {o o' : Option (Int × List Int)} {m : Int} {d x : List Int}
theorem LeastR.le (h : LeastR C cs (some (m, d))) {e : List Int} (he : C e) : m ≤ costR cs e := by
  rcases h.2.2 e he with z | z
  · omega
  · omega
theorem LeastR.uniq (h : LeastR C cs o) (h' : LeastR C cs o') : o = o' := by
  cases o with
  | none =>
    cases o' with
    | none => rfl
    | some p => exact absurd h'.1 (h p.2)
  | some p =>
    obtain ⟨m, d⟩ := p
    cases o' with
    | none => exact absurd h.1 (h' d)
    | some p' =>
      obtain ⟨m', d'⟩ := p'
      have a := h.le h'.1
      have b := h'.le h.1
      have e1 := h.2.1
      have e2 := h'.2.1
      have em : m = m' := by omega
      subst em
      have ed : d' = d := by
        rcases h.2.2 d' h'.1 with z | ⟨_, z | z⟩
        · omega
        · exact z
        · rcases h'.2.2 d h.1 with y | ⟨_, y | y⟩
          · omega
          · exact y.symm
          · exact (lex_asymm z y).elim
      rw [ed]
theorem LeastR.clash {p : Int × List Int} (h : LeastR C cs (some p)) (h' : LeastR C cs none) : False := h' _ h.1
theorem LeastR.congr (hc : ∀ e, C e ↔ C' e) (h : LeastR C cs o) : LeastR C' cs o := by
  cases o with
  | none => exact fun e z => h e ((hc e).mpr z)
  | some p => exact ⟨(hc _).mp h.1, h.2.1, fun e z => h.2.2 e ((hc e).mpr z)⟩
end
def without (C : List Int → Prop) (r : Int) : List Int → Prop := fun e => C e ∧ r ∉ e
def Rows (n : Nat) (C : List Int → Prop) : Prop := ∀ e, C e → (∀ v ∈ e, 0 ≤ v ∧ v < (n : Int)) ∧ e.Nodup
section
variable {n : Nat} {C : List Int → Prop} {cs : List Int} {r x c : Int} {m m' o o' : Int} {d d' e e' : List Int}
end
inductive GetsR (C : List Int → Prop) (cs : List Int) (n : Nat) (m : Int) (d : List Int) : List Int ⊕ Int → Prop
  | all (gs : List Int) (hl : gs.length = n) (hin : ∀ r : Int, r ∈ d → ∃ o e c, LeastR (without C r) cs (some (o, e)) ∧ cs[r.toNat]? = some c ∧ gs[r.toNat]? = some (o - m + c)) (hout : ∀ (r : Nat), r < n → (r : Int) ∉ d → gs[r]? = some 0) : GetsR C cs n m d (.inl gs)
  | one (a b : List Int) (r : Int) (hd : d = a ++ r :: b) (hb : ∀ v ∈ a, ∃ o, LeastR (without C v) cs (some o)) (hn : LeastR (without C r) cs none) : GetsR C cs n m d (.inr r)
theorem GetsR.uniq {C : List Int → Prop} {cs : List Int} {n : Nat} {m : Int} {d : List Int} {x y : List Int ⊕ Int} (hd : ∀ v ∈ d, 0 ≤ v ∧ v < (n : Int)) (h : GetsR C cs n m d x) (h' : GetsR C cs n m d y) : x = y := by
  cases h with
  | all gs hl hin hout =>
    cases h' with
    | all gs' hl' hin' hout' =>
      congr 1
      refine List.ext_getElem? fun i => ?_
      by_cases hi : i < n
      · by_cases hm : (i : Int) ∈ d
        · obtain ⟨o, e, c, a1, a2, a3⟩ := hin _ hm
          obtain ⟨o', e', c', b1, b2, b3⟩ := hin' _ hm
          rw [Int.toNat_natCast] at a2 a3 b2 b3
          have z := LeastR.uniq a1 b1
          cases z
          rw [a2] at b2
          cases b2
          rw [a3, b3]
        · rw [hout i hi hm, hout' i hi hm]
      · rw [List.getElem?_eq_none (by omega), List.getElem?_eq_none (by omega)]
    | one a b r e hb hn =>
      obtain ⟨o, e', c, a1, _⟩ := hin r (by rw [e]; exact List.mem_append_right _ List.mem_cons_self)
      exact nomatch LeastR.uniq a1 hn
  | one a b r e hb hn =>
    cases h' with
    | all gs hl hin hout =>
      obtain ⟨o, e', c, a1, _⟩ := hin r (by rw [e]; exact List.mem_append_right _ List.mem_cons_self)
      exact nomatch LeastR.uniq a1 hn
    | one a' b' r' e' hb' hn' =>
      congr 1
      rw [e] at e'
      clear e hd
      have key : ∀ (a a' : List Int), (∀ v ∈ a, ∃ o, LeastR (without C v) cs (some o)) → (∀ v ∈ a', ∃ o, LeastR (without C v) cs (some o)) → a ++ r :: b = a' ++ r' :: b' → r = r' := by
        intro a
        induction a with
        | nil =>
          intro a' _ h2 e
          cases a' with
          | nil => injection e
          | cons v a' =>
            injection e with e1 e2
            obtain ⟨o, ho⟩ := h2 v List.mem_cons_self
            rw [← e1] at ho
            exact nomatch LeastR.uniq ho hn
        | cons v a ih =>
          intro a' h1 h2 e
          cases a' with
          | nil =>
            injection e with e1 e2
            obtain ⟨o, ho⟩ := h1 v List.mem_cons_self
            rw [e1] at ho
            exact nomatch LeastR.uniq ho hn'
          | cons v' a' =>
            injection e with e1 e2
            exact ih a' (fun v hv => h1 v (List.mem_cons_of_mem _ hv)) (fun v hv => h2 v (List.mem_cons_of_mem _ hv)) e2
      exact key a a' hb hb' e'
section
variable {C : List Int → Prop} {cs gs gs' : List Int} {n : Nat} {m m' c k g g' x : Int} {d d' : List Int}
end
end My
set_option linter.all false
namespace My
section
variable {goods : Int} {ws : List (List Int)} {k : Nat} {t lie : List Int} {g : Int}
end
end My
set_option linter.all false
namespace My
theorem perm_desc : ∀ {l m : List Int}, l.Perm m → l.Pairwise (fun a b => b ≤ a) → m.Pairwise (fun a b => b ≤ a) → l = m
  | [], m, h, _, _ => (List.nil_perm.mp h).symm
  | a :: l, m, h, h1, h2 => by
    cases m with
    | nil => exact absurd h.length_eq (by simp)
    | cons b m =>
      obtain ⟨p1, p2⟩ := List.pairwise_cons.mp h1
      obtain ⟨q1, q2⟩ := List.pairwise_cons.mp h2
      have ha : a ∈ b :: m := h.mem_iff.mp List.mem_cons_self
      have hb : b ∈ a :: l := h.mem_iff.mpr List.mem_cons_self
      have e : a = b := by
        rcases List.mem_cons.mp ha with z | z
        · exact z
        rcases List.mem_cons.mp hb with y | y
        · exact y.symm
        have := q1 a z
        have := p1 b y
        omega
      subst e
      rw [perm_desc (List.Perm.cons_inv h) p2 q2]
inductive Cut (p q : Int) : Int → List (List Int) → List Int → Prop
  | nil (i : Int) : Cut p q i [] []
  | cons {i : Int} {A T : List Int} {ws : List (List Int)} {d : List Int} (hA : ∀ a ∈ A, p ≤ a ∧ (i < q → p < a)) (hT : ∀ t ∈ T, t ≤ p ∧ (q < i → t < p)) (h : Cut p q (i + 1) ws d) : Cut p q i ((A ++ T) :: ws) ((A.length : Int) :: d)
end My
set_option linter.all false
namespace My
def endsR (rds : List (Int × Int)) (r : Int) : Int × Int := rds.getD r.toNat (0, 0)
def stepJ (rds : List (Int × Int)) (name : List Int) (r : Int) : List Int :=
  let a := name.getD (endsR rds r).1.toNat 0
  let b := name.getD (endsR rds r).2.toNat 0
  name.map fun x => if x = (if b > a then b else a) then (if b < a then b else a) else x
def joinsL (places : Int) (rds : List (Int × Int)) (row : List Int) : List Int := row.foldl (stepJ rds) (rangeI 0 places.toNat)
def endsL (rds : List (Int × Int)) (row : List Int) : List Int := row.flatMap fun r => [(endsR rds r).1, (endsR rds r).2]
def cntOk (places p : Int) (n : Nat) : Prop := if p = 0 ∨ p = places - 1 then n = 1 else n = 0 ∨ n = 2
def usedL (places : Int) (rds : List (Int × Int)) (row : List Int) : List Int := (rangeI 0 places.toNat).filter fun p => decide (p ∈ endsL rds row)
def isWayL (places : Int) (rds : List (Int × Int)) (row : List Int) : Prop := (∀ p : Int, 0 ≤ p → p < places → cntOk places p ((endsL rds row).count p)) ∧ 0 < (usedL places rds row).length ∧ (row.length : Int) = ((usedL places rds row).length : Int) - 1 ∧ ∀ p ∈ usedL places rds row, (joinsL places rds row).getD p.toNat 0 = 0
def okRds (places : Int) (rds : List (Int × Int)) : Prop := ∀ r ∈ rds, (0 ≤ r.1 ∧ r.1 < places) ∧ (0 ≤ r.2 ∧ r.2 < places) ∧ r.1 ≠ r.2
theorem stepJ_len (rds : List (Int × Int)) (name : List Int) (r : Int) : (stepJ rds name r).length = name.length := by
  unfold stepJ
  rw [List.length_map]
theorem joins_snoc (places : Int) (rds : List (Int × Int)) (row : List Int) (r : Int) : joinsL places rds (row ++ [r]) = stepJ rds (joinsL places rds row) r := by
  unfold joinsL
  rw [List.foldl_append]
  rfl
def nm (l : List Int) (p : Int) : Int := l.getD p.toNat 0
structure Nmd (places : Int) (l : List Int) : Prop where
  len : l.length = places.toNat
  rng : ∀ x ∈ l, 0 ≤ x ∧ x < places
  zero : nm l 0 = 0
theorem nm_mem {places : Int} {l : List Int} (h : l.length = places.toNat) {p : Int} (p0 : 0 ≤ p) (p1 : p < places) : nm l p ∈ l := by
  unfold nm
  have hl : p.toNat < l.length := by omega
  rw [List.getD_eq_getElem?_getD, List.getElem?_eq_getElem hl]
  exact List.getElem_mem hl
theorem nm_map {l : List Int} {f : Int → Int} {p : Int} (h : p.toNat < l.length) : nm (l.map f) p = f (nm l p) := by
  unfold nm
  rw [List.getD_eq_getElem?_getD, List.getD_eq_getElem?_getD, List.getElem?_map, List.getElem?_eq_getElem h]
  rfl
def lo2 (a b : Int) : Int := if b < a then b else a
def hi2 (a b : Int) : Int := if b > a then b else a
theorem stepJ_eq (rds : List (Int × Int)) (l : List Int) (r : Int) : stepJ rds l r = l.map fun x => if x = hi2 (nm l (endsR rds r).1) (nm l (endsR rds r).2) then lo2 (nm l (endsR rds r).1) (nm l (endsR rds r).2) else x := rfl
theorem lohi (a b : Int) : (lo2 a b = a ∧ hi2 a b = b ∧ a ≤ b) ∨ (lo2 a b = b ∧ hi2 a b = a ∧ b < a) := by
  unfold lo2 hi2
  by_cases h : b < a
  · rw [if_pos h, if_neg (by omega)]; exact .inr ⟨rfl, rfl, h⟩
  · rw [if_neg h]
    by_cases h2 : b > a
    · rw [if_pos h2]; exact .inl ⟨rfl, rfl, by omega⟩
    · rw [if_neg h2]; exact .inl ⟨rfl, by omega, by omega⟩
theorem endsR_ok {places : Int} {rds : List (Int × Int)} (ok : okRds places rds) {r : Int} (r0 : 0 ≤ r) (r1 : r < (rds.length : Int)) : (0 ≤ (endsR rds r).1 ∧ (endsR rds r).1 < places) ∧ (0 ≤ (endsR rds r).2 ∧ (endsR rds r).2 < places) ∧ (endsR rds r).1 ≠ (endsR rds r).2 := by
  have hl : r.toNat < rds.length := by omega
  have e : endsR rds r = rds[r.toNat] := by unfold endsR; rw [List.getD_eq_getElem?_getD, List.getElem?_eq_getElem hl]; rfl
  rw [e]
  exact ok _ (List.getElem_mem hl)
section
variable {places : Int} {rds : List (Int × Int)} {l : List Int} {r : Int}
theorem Nmd.step (h : Nmd places l) (hp : 0 < places) (e1 : 0 ≤ (endsR rds r).1 ∧ (endsR rds r).1 < places) (e2 : 0 ≤ (endsR rds r).2 ∧ (endsR rds r).2 < places) : Nmd places (stepJ rds l r) := by
  have m1 := h.rng _ (nm_mem h.len e1.1 e1.2)
  have m2 := h.rng _ (nm_mem h.len e2.1 e2.2)
  refine ⟨by rw [stepJ_len, h.len], fun x hx => ?_, ?_⟩
  · rw [stepJ_eq] at hx
    obtain ⟨y, hy, rfl⟩ := List.mem_map.mp hx
    split
    · rcases lohi (nm l (endsR rds r).1) (nm l (endsR rds r).2) with ⟨z, _⟩ | ⟨z, _⟩
      · rw [z]; exact m1
      · rw [z]; exact m2
    · exact h.rng y hy
  · rw [stepJ_eq, nm_map (by rw [h.len]; omega), h.zero]
    split
    · rename_i c
      rcases lohi (nm l (endsR rds r).1) (nm l (endsR rds r).2) with ⟨z1, z2, z3⟩ | ⟨z1, z2, z3⟩ <;> omega
    · rfl
theorem nmd_range (hp : 0 < places) : Nmd places (rangeI 0 places.toNat) := by
  refine ⟨rangeI_len _ _, fun x hx => ?_, ?_⟩
  · have := mem_rangeI.mp hx
    omega
  · unfold nm
    rw [List.getD_eq_getElem?_getD, rangeI_get (by omega)]
    rfl
theorem nmd_joins (hp : 0 < places) (ok : okRds places rds) {row : List Int} (h : ∀ v ∈ row, 0 ≤ v ∧ v < (rds.length : Int)) : Nmd places (joinsL places rds row) := by
  revert h
  refine rev_ind (Q := fun row => (∀ v ∈ row, 0 ≤ v ∧ v < (rds.length : Int)) → Nmd places (joinsL places rds row)) (fun _ => nmd_range hp) (fun row r ih h => ?_) row
  rw [joins_snoc]
  have z := h r (List.mem_append_right _ List.mem_cons_self)
  have e := endsR_ok ok z.1 z.2
  exact (ih fun v hv => h v (List.mem_append_left _ hv)).step hp e.1 e.2.1
def clsN (places : Int) (l : List Int) : Nat := ((rangeI 0 places.toNat).filter fun x => decide (x ∈ l)).length
theorem filter_less {α : Type} {p q : α → Bool} {a : α} : ∀ {l : List α}, l.Nodup → a ∈ l → p a = true → q a = false → (∀ x ∈ l, x ≠ a → q x = p x) → (l.filter q).length + 1 = (l.filter p).length
  | [], _, h, _, _, _ => nomatch h
  | b :: l, hn, h, hp, hq, hs => by
    obtain ⟨n1, n2⟩ := List.nodup_cons.mp hn
    rw [List.filter_cons, List.filter_cons]
    by_cases e : b = a
    · subst e
      rw [if_neg (by rw [hq]; decide), if_pos hp, List.length_cons]
      congr 2
      refine List.filter_congr fun x hx => hs x (List.mem_cons_of_mem _ hx) fun z => n1 (z ▸ hx)
    · have hm : a ∈ l := (List.mem_cons.mp h).resolve_left (Ne.symm e)
      have ih := filter_less n2 hm hp hq fun x hx => hs x (List.mem_cons_of_mem _ hx)
      rw [hs b List.mem_cons_self e]
      split
      · rw [List.length_cons, List.length_cons]; omega
      · exact ih
theorem rangeI_nodup (n : Nat) : (rangeI 0 n).Nodup := by
  unfold rangeI
  refine List.Pairwise.map _ ?_ List.nodup_range
  intro a b h e
  exact h (by omega)
theorem clsN_step (h : Nmd places l) (e1 : 0 ≤ (endsR rds r).1 ∧ (endsR rds r).1 < places) (e2 : 0 ≤ (endsR rds r).2 ∧ (endsR rds r).2 < places) :
    (nm l (endsR rds r).1 ≠ nm l (endsR rds r).2 → clsN places (stepJ rds l r) + 1 = clsN places l) ∧ (nm l (endsR rds r).1 = nm l (endsR rds r).2 → stepJ rds l r = l) := by
  have m1 := nm_mem h.len e1.1 e1.2
  have m2 := nm_mem h.len e2.1 e2.2
  rw [stepJ_eq]
  obtain ⟨a, ha⟩ : ∃ a, a = nm l (endsR rds r).1 := ⟨_, rfl⟩
  obtain ⟨b, hb⟩ : ∃ b, b = nm l (endsR rds r).2 := ⟨_, rfl⟩
  rw [← ha, ← hb]
  rw [← ha] at m1
  rw [← hb] at m2
  have hlo : lo2 a b ∈ l := by rcases lohi a b with ⟨z, _⟩ | ⟨z, _⟩ <;> rw [z] <;> assumption
  have hhi : hi2 a b ∈ l := by rcases lohi a b with ⟨_, z, _⟩ | ⟨_, z, _⟩ <;> rw [z] <;> assumption
  constructor
  · intro hne
    have hd : lo2 a b ≠ hi2 a b := by rcases lohi a b with ⟨z1, z2, _⟩ | ⟨z1, z2, _⟩ <;> rw [z1, z2] <;> omega
    refine filter_less (a := hi2 a b) (rangeI_nodup _) (mem_rangeI.mpr ?_) (decide_eq_true hhi) (decide_eq_false fun z => ?_) fun x _ hx => ?_
    · have := h.rng _ hhi
      omega
    · obtain ⟨y, hy, e⟩ := List.mem_map.mp z
      by_cases c : y = hi2 a b
      · rw [if_pos c] at e; exact hd e
      · rw [if_neg c] at e; exact c e
    · rw [Bool.eq_iff_iff, decide_eq_true_iff, decide_eq_true_iff, List.mem_map]
      constructor
      · rintro ⟨y, hy, e⟩
        by_cases c : y = hi2 a b
        · rw [if_pos c] at e; rw [← e]; exact hlo
        · rw [if_neg c] at e; rw [← e]; exact hy
      · intro z
        exact ⟨x, z, by rw [if_neg hx]⟩
  · intro e
    rw [← e]
    have z : ∀ x : Int, (if x = hi2 a a then lo2 a a else x) = x := fun x => by
      rcases lohi a a with ⟨z1, z2, _⟩ | ⟨z1, z2, _⟩
      · rw [z1, z2]; split <;> omega
      · rw [z1, z2]; split <;> omega
    simp only [z]
    exact List.map_id' _
def Acy (places : Int) (rds : List (Int × Int)) : List Int → Prop := fun row => ∀ a r b, row = a ++ r :: b → nm (joinsL places rds a) (endsR rds r).1 ≠ nm (joinsL places rds a) (endsR rds r).2
theorem acy_nil : Acy places rds [] := fun a r b e => by
  cases a <;> cases e
theorem acy_snoc {row : List Int} : Acy places rds (row ++ [r]) ↔ Acy places rds row ∧ nm (joinsL places rds row) (endsR rds r).1 ≠ nm (joinsL places rds row) (endsR rds r).2 := by
  constructor
  · intro h
    exact ⟨fun a x b e => h a x (b ++ [r]) (by rw [e]; simp), h row r [] (by simp)⟩
  · rintro ⟨h1, h2⟩ a x b e
    rcases List.eq_nil_or_concat b with z | ⟨c, y, rfl⟩
    · subst z
      have := List.append_inj' e rfl
      obtain ⟨e1, e2⟩ := this
      cases e2
      rw [← e1]
      exact h2
    · rw [List.concat_eq_append, show a ++ x :: (c ++ [y]) = (a ++ x :: c) ++ [y] by simp] at e
      obtain ⟨e1, e2⟩ := List.append_inj' e rfl
      exact h1 a x c e1
end
def addF (n : Nat) (rd : Int × Int) (f : List Int × List Int) : List Int × List Int := (f.1 ++ [(n : Int)], f.2.map fun x => if x = nm f.2 rd.2 then nm f.2 rd.1 else x)
def forestsL (places : Int) (rds : List (Int × Int)) : Nat → List (List Int × List Int)
  | 0 => [([], rangeI 0 places.toNat)]
  | n + 1 => forestsL places rds n ++ ((forestsL places rds n).filter fun f => decide (nm f.2 (endsR rds (n : Int)).1 ≠ nm f.2 (endsR rds (n : Int)).2)).map (addF n (endsR rds (n : Int)))
def treesL (places : Int) (rds : List (Int × Int)) : List (List Int) := ((forestsL places rds rds.length).filter fun f => decide ((f.1.length : Int) = places - 1)).map (·.1)
def SameP (places : Int) (l m : List Int) : Prop := m.length = places.toNat ∧ ∀ p q : Int, 0 ≤ p → p < places → 0 ≤ q → q < places → (nm l p = nm l q ↔ nm m p = nm m q)
section
variable {places : Int} {rds : List (Int × Int)}
theorem merge_iff {u v x y : Int} (h : u ≠ v) : ((if x = v then u else x) = (if y = v then u else y)) ↔ (x = y ∨ ((x = u ∨ x = v) ∧ (y = u ∨ y = v))) := by
  by_cases a : x = v <;> by_cases b : y = v
  · rw [if_pos a, if_pos b]; exact ⟨fun _ => .inl (by omega), fun _ => rfl⟩
  · rw [if_pos a, if_neg b]
    constructor
    · intro e; exact .inr ⟨.inr a, .inl e.symm⟩
    · rintro (e | ⟨_, e⟩) <;> omega
  · rw [if_neg a, if_pos b]
    constructor
    · intro e; exact .inr ⟨.inl e, .inr b⟩
    · rintro (e | ⟨e, _⟩) <;> omega
  · rw [if_neg a, if_neg b]
    constructor
    · intro e; exact .inl e
    · rintro (e | ⟨e, f⟩) <;> omega
theorem forest_mem (hp : 0 < places) (ok : okRds places rds) : ∀ {n : Nat}, n ≤ rds.length → ∀ {f : List Int × List Int}, f ∈ forestsL places rds n → (∀ v ∈ f.1, 0 ≤ v ∧ v < (n : Int)) ∧ f.1.Pairwise (· < ·) ∧ Acy places rds f.1 ∧ SameP places (joinsL places rds f.1) f.2
  | 0, _, f, h => by
    rw [List.mem_singleton.mp (show f ∈ [([], rangeI 0 places.toNat)] from h)]
    exact ⟨(fun v hv => nomatch hv), .nil, acy_nil, rangeI_len _ _, fun p q _ _ _ _ => Iff.rfl⟩
  | n + 1, hn, f, h => by
    rcases List.mem_append.mp (show f ∈ forestsL places rds n ++ _ from h) with z | z
    · obtain ⟨a, b, c, d⟩ := forest_mem hp ok (by omega) z
      exact ⟨fun v hv => by have := a v hv; omega, b, c, d⟩
    · obtain ⟨g, hg, rfl⟩ := List.mem_map.mp z
      obtain ⟨hg1, hg2⟩ := List.mem_filter.mp hg
      have hg2 := of_decide_eq_true hg2
      obtain ⟨a, b, c, d⟩ := forest_mem hp ok (by omega) hg1
      have hr := endsR_ok ok (r := (n : Int)) (by omega) (by omega)
      have hne : nm (joinsL places rds g.1) (endsR rds (n : Int)).1 ≠ nm (joinsL places rds g.1) (endsR rds (n : Int)).2 := fun e => hg2 ((d.2 _ _ hr.1.1 hr.1.2 hr.2.1.1 hr.2.1.2).mp e)
      have hN := nmd_joins (row := g.1) hp ok fun v hv => by have := a v hv; omega
      refine ⟨fun v hv => ?_, ?_, acy_snoc.mpr ⟨c, hne⟩, by show (g.2.map _).length = _; rw [List.length_map]; exact d.1, fun p q p0 p1 q0 q1 => ?_⟩
      · rcases List.mem_append.mp (show v ∈ g.1 ++ [(n : Int)] from hv) with y | y
        · have := a v y
          omega
        · rw [List.mem_singleton.mp y]
          omega
      · show (g.1 ++ [(n : Int)]).Pairwise _
        rw [List.pairwise_append]
        refine ⟨b, List.pairwise_singleton _ _, fun x hx y hy => ?_⟩
        rw [List.mem_singleton.mp hy]
        exact (a x hx).2
      · show nm (joinsL places rds (g.1 ++ [(n : Int)])) p = nm (joinsL places rds (g.1 ++ [(n : Int)])) q ↔ nm (g.2.map _) p = nm (g.2.map _) q
        rw [joins_snoc, stepJ_eq, nm_map (by rw [hN.len]; omega), nm_map (by rw [hN.len]; omega), nm_map (by rw [d.1]; omega), nm_map (by rw [d.1]; omega)]
        have dpq := d.2 p q p0 p1 q0 q1
        have dp1 := d.2 p _ p0 p1 hr.1.1 hr.1.2
        have dp2 := d.2 p _ p0 p1 hr.2.1.1 hr.2.1.2
        have dq1 := d.2 q _ q0 q1 hr.1.1 hr.1.2
        have dq2 := d.2 q _ q0 q1 hr.2.1.1 hr.2.1.2
        rw [merge_iff hg2]
        rcases lohi (nm (joinsL places rds g.1) (endsR rds (n : Int)).1) (nm (joinsL places rds g.1) (endsR rds (n : Int)).2) with ⟨z1, z2, _⟩ | ⟨z1, z2, _⟩
        · rw [z1, z2, merge_iff hne, dpq, dp1, dp2, dq1, dq2]
        · rw [z1, z2, merge_iff (Ne.symm hne), dpq, dp1, dp2, dq1, dq2]
          constructor
          · rintro (e | ⟨e, e2⟩)
            · exact .inl e
            · exact .inr ⟨e.symm, e2.symm⟩
          · rintro (e | ⟨e, e2⟩)
            · exact .inl e
            · exact .inr ⟨e.symm, e2.symm⟩
end
end My
set_option linter.all false
namespace My
def waysOn (places : Int) (rds : List (Int × Int)) : Nat → Int → List Int → List (List Int)
  | 0, _, _ => []
  | k + 1, place, seen => if place = places - 1 then [[]] else (List.range rds.length).flatMap fun (r : Nat) =>
      if place = (endsR rds (r : Int)).1 ∨ place = (endsR rds (r : Int)).2 then
        (if (endsR rds (r : Int)).1 + (endsR rds (r : Int)).2 - place ∈ seen then [] else (waysOn places rds k ((endsR rds (r : Int)).1 + (endsR rds (r : Int)).2 - place) (seen ++ [(endsR rds (r : Int)).1 + (endsR rds (r : Int)).2 - place])).map fun rest => (r : Int) :: rest)
      else []
inductive Pth (places : Int) (rds : List (Int × Int)) : Int → List Int → List Int → Prop
  | stop {seen : List Int} : Pth places rds (places - 1) seen []
  | go {place r there : Int} {seen rest : List Int} (hp : place ≠ places - 1) (r0 : 0 ≤ r) (r1 : r < (rds.length : Int)) (hin : place = (endsR rds r).1 ∨ place = (endsR rds r).2) (ht : there = (endsR rds r).1 + (endsR rds r).2 - place) (hs : there ∉ seen)
      (h : Pth places rds there (seen ++ [there]) rest) : Pth places rds place seen (r :: rest)
section
variable {places : Int} {rds : List (Int × Int)}
theorem pth_of_ways : ∀ {k : Nat} {place : Int} {seen rs : List Int}, rs ∈ waysOn places rds k place seen → Pth places rds place seen rs
  | 0, _, _, _, h => nomatch h
  | k + 1, place, seen, rs, h => by
    unfold waysOn at h
    by_cases c : place = places - 1
    · rw [if_pos c] at h
      rw [List.mem_singleton.mp h, c]
      exact .stop
    · rw [if_neg c] at h
      obtain ⟨r, hr, h⟩ := List.mem_flatMap.mp h
      have hr := List.mem_range.mp hr
      by_cases c2 : place = (endsR rds (r : Int)).1 ∨ place = (endsR rds (r : Int)).2
      · rw [if_pos c2] at h
        by_cases c3 : (endsR rds (r : Int)).1 + (endsR rds (r : Int)).2 - place ∈ seen
        · rw [if_pos c3] at h
          cases h
        · rw [if_neg c3] at h
          obtain ⟨rest, hrest, rfl⟩ := List.mem_map.mp h
          exact .go c (by omega) (by omega) c2 rfl c3 (pth_of_ways hrest)
      · rw [if_neg c2] at h
        cases h
theorem nodup_sub : ∀ {l m : List Int}, l.Nodup → (∀ x ∈ l, x ∈ m) → l.length ≤ m.length
  | [], _, _, _ => Nat.zero_le _
  | a :: l, m, hn, h => by
    obtain ⟨n1, n2⟩ := List.nodup_cons.mp hn
    have ha := h a List.mem_cons_self
    have z := nodup_sub (m := m.erase a) n2 fun x hx => (List.mem_erase_of_ne (show x ≠ a from fun e => n1 (e ▸ hx))).mpr (h x (List.mem_cons_of_mem _ hx))
    have := List.length_erase_of_mem ha
    have := List.length_pos_of_mem ha
    rw [List.length_cons]
    omega
theorem nodup_perm : ∀ {l m : List Int}, l.Nodup → m.Nodup → (∀ x, x ∈ l ↔ x ∈ m) → l.Perm m
  | [], m, _, _, h => by
    cases m with
    | nil => exact .nil
    | cons b m => exact absurd ((h b).mpr List.mem_cons_self) (by simp)
  | a :: l, m, hn, hm, h => by
    obtain ⟨n1, n2⟩ := List.nodup_cons.mp hn
    have ha := (h a).mp List.mem_cons_self
    refine (List.Perm.cons a (nodup_perm (m := m.erase a) n2 (hm.erase a) fun x => ?_)).trans (List.perm_cons_erase ha).symm
    rw [hm.mem_erase_iff]
    constructor
    · intro hx; exact ⟨fun e => n1 (e ▸ hx), (h x).mp (List.mem_cons_of_mem _ hx)⟩
    · rintro ⟨hne, hx⟩
      exact (List.mem_cons.mp ((h x).mpr hx)).resolve_left hne
theorem one_more {D R : List Int} (hD : D.Nodup) (hR : R.Nodup) (hs : ∀ x ∈ D, x ∈ R) (hl : R.length = D.length + 1) : ∃ r, r ∈ R ∧ r ∉ D ∧ ∀ x ∈ R, x ∈ D ∨ x = r := by
  have e1 : (R.filter fun x => decide (x ∈ D)).length = D.length := (nodup_perm (hR.filter _) hD fun x => by
    rw [List.mem_filter, decide_eq_true_iff]
    exact ⟨fun h => h.2, fun h => ⟨hs x h, h⟩⟩).length_eq
  have e2 : (R.filter fun x => decide (x ∈ D)).length + (R.filter fun x => !decide (x ∈ D)).length = R.length := by
    have z := List.length_eq_countP_add_countP (fun x => decide (x ∈ D)) (l := R)
    rw [List.countP_eq_length_filter, List.countP_eq_length_filter] at z
    rw [z]
    congr 2
    refine List.filter_congr fun x _ => ?_
    by_cases c : x ∈ D <;> simp [c]
  obtain ⟨r, hr⟩ := List.length_eq_one_iff.mp (show (R.filter fun x => !decide (x ∈ D)).length = 1 by omega)
  have hm : r ∈ R.filter fun x => !decide (x ∈ D) := by rw [hr]; exact List.mem_singleton.mpr rfl
  obtain ⟨m1, m2⟩ := List.mem_filter.mp hm
  refine ⟨r, m1, by simpa using m2, fun x hx => ?_⟩
  by_cases c : x ∈ D
  · exact .inl c
  · have : x ∈ R.filter fun x => !decide (x ∈ D) := List.mem_filter.mpr ⟨hx, by simpa using c⟩
    rw [hr] at this
    exact .inr (List.mem_singleton.mp this)
def incR (rds : List (Int × Int)) (p r : Int) : Bool := decide (p = (endsR rds r).1 ∨ p = (endsR rds r).2)
def apartR (rds : List (Int × Int)) (l : List Int) : Prop := ∀ r ∈ l, (endsR rds r).1 ≠ (endsR rds r).2
theorem deg_inc (p : Int) : ∀ {l : List Int}, apartR rds l → (endsL rds l).count p = (l.filter (incR rds p)).length
  | [], _ => rfl
  | r :: l, h => by
    have ih := deg_inc p (l := l) fun x hx => h x (List.mem_cons_of_mem _ hx)
    have hr := h r List.mem_cons_self
    show ((endsR rds r).1 :: (endsR rds r).2 :: endsL rds l).count p = _
    rw [List.count_cons, List.count_cons, ih]
    by_cases c1 : p = (endsR rds r).1
    · have c2 : (endsR rds r).2 ≠ p := fun e => hr (by omega)
      rw [List.filter_cons_of_pos (show incR rds p r = true from decide_eq_true (.inl c1)), List.length_cons, if_neg (by simpa using c2), if_pos (by simpa using c1.symm)]
    · by_cases c2 : p = (endsR rds r).2
      · rw [List.filter_cons_of_pos (show incR rds p r = true from decide_eq_true (.inr c2)), List.length_cons, if_pos (by simpa using c2.symm), if_neg (by simpa using Ne.symm c1)]
      · rw [List.filter_cons_of_neg (show ¬ incR rds p r = true from fun z => by rcases (of_decide_eq_true z : p = (endsR rds r).1 ∨ p = (endsR rds r).2) with y | y; exact c1 y; exact c2 y), if_neg (by simpa using Ne.symm c2), if_neg (by simpa using Ne.symm c1)]
        rfl
theorem other_ends {p r : Int} (h : p = (endsR rds r).1 ∨ p = (endsR rds r).2) : ((endsR rds r).1 = p ∧ (endsR rds r).2 = (endsR rds r).1 + (endsR rds r).2 - p) ∨ ((endsR rds r).2 = p ∧ (endsR rds r).1 = (endsR rds r).1 + (endsR rds r).2 - p) := by
  rcases h with h | h
  · exact .inl ⟨h.symm, by omega⟩
  · exact .inr ⟨h.symm, by omega⟩
theorem deg_cons {p place r : Int} {rest : List Int} (h : place = (endsR rds r).1 ∨ place = (endsR rds r).2) : (endsL rds (r :: rest)).count p = (if p = place then 1 else 0) + (if p = (endsR rds r).1 + (endsR rds r).2 - place then 1 else 0) + (endsL rds rest).count p := by
  show ((endsR rds r).1 :: (endsR rds r).2 :: endsL rds rest).count p = _
  rw [List.count_cons, List.count_cons]
  have flip : ∀ a : Int, (if (a == p) = true then 1 else 0) = if p = a then (1 : Nat) else 0 := fun a => by
    by_cases c : p = a
    · rw [if_pos c, if_pos (by simpa using c.symm)]
    · rw [if_neg c, if_neg (by simpa using Ne.symm c)]
  rw [flip, flip]
  rcases other_ends h with ⟨e1, e2⟩ | ⟨e1, e2⟩
  · rw [← e2, e1]; omega
  · rw [← e2, e1]; omega
theorem pth_info (ok : okRds places rds) {place : Int} {seen rs : List Int} (h : Pth places rds place seen rs) : place ∈ seen → ∃ vs : List Int, vs.length = rs.length ∧ vs.Nodup ∧ (∀ v ∈ vs, v ∉ seen ∧ 0 ≤ v ∧ v < places) ∧ (∀ p, p ≠ place → p ∉ vs → (endsL rds rs).count p = 0) ∧
    (rs = [] → place = places - 1) ∧ (rs ≠ [] → place ≠ places - 1 ∧ places - 1 ∈ vs ∧ (endsL rds rs).count place = 1 ∧ (endsL rds rs).count (places - 1) = 1 ∧ ∀ p ∈ vs, p ≠ places - 1 → (endsL rds rs).count p = 2) := by
  induction h with
  | stop => intro _; exact ⟨[], rfl, .nil, (fun v hv => nomatch hv), fun _ _ _ => rfl, fun _ => rfl, fun e => absurd rfl e⟩
  | @go place r there seen rest hp r0 r1 hin ht hs h ih =>
    intro hpl
    obtain ⟨vs, hl, hn, hv, h0, he, hne⟩ := ih (List.mem_append_right _ List.mem_cons_self)
    have hE := endsR_ok ok r0 r1
    have htr : 0 ≤ there ∧ there < places := by rcases hin with z | z <;> omega
    have hpt : place ≠ there := fun e => hs (e ▸ hpl)
    have hvs : ∀ v ∈ vs, v ∉ seen ∧ v ≠ there := fun v hv' => ⟨fun z => (hv v hv').1 (List.mem_append_left _ z), fun z => (hv v hv').1 (by rw [z]; exact List.mem_append_right _ List.mem_cons_self)⟩
    have hpv : place ∉ vs := fun z => (hvs place z).1 hpl
    have dc : ∀ p, (endsL rds (r :: rest)).count p = (if p = place then 1 else 0) + (if p = there then 1 else 0) + (endsL rds rest).count p := fun p => by rw [deg_cons hin, ht]
    refine ⟨there :: vs, by rw [List.length_cons, List.length_cons, hl], List.nodup_cons.mpr ⟨fun z => (hvs there z).2 rfl, hn⟩, fun v hv' => ?_, fun p h1 h2 => ?_, (fun e => nomatch e), fun _ => ⟨hp, ?_, ?_, ?_, fun p h1 h2 => ?_⟩⟩
    · rcases List.mem_cons.mp hv' with z | z
      · rw [z]; exact ⟨hs, htr⟩
      · exact ⟨(hvs v z).1, (hv v z).2⟩
    · have p1 : p ≠ there := fun z => h2 (by rw [z]; exact List.mem_cons_self)
      rw [dc, if_neg h1, if_neg p1, h0 p p1 fun z => h2 (List.mem_cons_of_mem _ z)]
    · by_cases c : rest = []
      · rw [← he c]; exact List.mem_cons_self
      · exact List.mem_cons_of_mem _ (hne c).2.1
    · rw [dc, if_pos rfl, if_neg hpt, h0 place hpt hpv]
    · rw [dc, if_neg (Ne.symm hp)]
      by_cases c : rest = []
      · rw [if_pos (he c).symm, c]; rfl
      · rw [if_neg (Ne.symm (hne c).1), (hne c).2.2.2.1]
    · have c : rest ≠ [] := fun c => by
        rcases List.mem_cons.mp h1 with z | z
        · exact h2 (z.trans (he c))
        · rw [c] at hl
          rw [List.length_eq_zero_iff.mp hl] at z
          cases z
      rcases List.mem_cons.mp h1 with z | z
      · rw [dc, z, if_neg (Ne.symm hpt), if_pos rfl, (hne c).2.2.1]
      · rw [dc, if_neg (show p ≠ place from fun e => hpv (e ▸ z)), if_neg (hvs p z).2, (hne c).2.2.2.2 p z h2]
theorem pth_roads (ok : okRds places rds) {place : Int} {seen rs : List Int} (h : Pth places rds place seen rs) : place ∈ seen → rs.Nodup ∧ ∀ r ∈ rs, (0 ≤ r ∧ r < (rds.length : Int)) ∧ ((endsR rds r).1 ∉ seen ∨ (endsR rds r).2 ∉ seen) := by
  induction h with
  | stop => intro _; exact ⟨.nil, (fun v hv => nomatch hv)⟩
  | @go place r there seen rest hp r0 r1 hin ht hs h ih =>
    intro hpl
    obtain ⟨i1, i2⟩ := ih (List.mem_append_right _ List.mem_cons_self)
    have h2 : ∀ x ∈ seen, x ∈ seen ++ [there] := fun x hx => List.mem_append_left _ hx
    have ht2 : there ∈ seen ++ [there] := List.mem_append_right _ List.mem_cons_self
    refine ⟨List.nodup_cons.mpr ⟨fun z => ?_, i1⟩, fun x hx => ?_⟩
    · rcases other_ends hin with ⟨e1, e2⟩ | ⟨e1, e2⟩
      · rcases (i2 r z).2 with y | y
        · exact y (by rw [e1]; exact h2 _ hpl)
        · exact y (by rw [e2, ← ht]; exact ht2)
      · rcases (i2 r z).2 with y | y
        · exact y (by rw [e2, ← ht]; exact ht2)
        · exact y (by rw [e1]; exact h2 _ hpl)
    · rcases List.mem_cons.mp hx with z | z
      · subst z
        refine ⟨⟨r0, r1⟩, ?_⟩
        rcases other_ends hin with ⟨e1, e2⟩ | ⟨e1, e2⟩
        · exact .inr (by rw [e2, ← ht]; exact hs)
        · exact .inl (by rw [e2, ← ht]; exact hs)
      · refine ⟨(i2 x z).1, ?_⟩
        rcases (i2 x z).2 with y | y
        · exact .inl fun q => y (h2 _ q)
        · exact .inr fun q => y (h2 _ q)
theorem pth_len {place : Int} {seen rs : List Int} (ok : okRds places rds) (hp : 0 ≤ places) (h : Pth places rds place seen rs) (hpl : place ∈ seen) (hn : seen.Nodup) (hr : ∀ v ∈ seen, 0 ≤ v ∧ v < places) : seen.length + rs.length ≤ places.toNat := by
  obtain ⟨vs, hl, hvn, hv, _⟩ := pth_info ok h hpl
  have z := nodup_sub (l := seen ++ vs) (m := rangeI 0 places.toNat) (List.nodup_append.mpr ⟨hn, hvn, fun a ha b hb e => (hv b hb).1 (e ▸ ha)⟩) fun x hx => mem_rangeI.mpr (by
    rcases List.mem_append.mp hx with y | y
    · have := hr x y; omega
    · have := (hv x y).2; omega)
  rw [rangeI_len, List.length_append, hl] at z
  exact z
theorem joins_apart (hp : 0 < places) (ok : okRds places rds) {S : Int → Prop} {row : List Int} (h : ∀ v ∈ row, 0 ≤ v ∧ v < (rds.length : Int)) (hS : ∀ r ∈ row, (S (endsR rds r).1 ↔ S (endsR rds r).2)) :
    ∀ p q : Int, 0 ≤ p → p < places → 0 ≤ q → q < places → S p → ¬ S q → nm (joinsL places rds row) p ≠ nm (joinsL places rds row) q := by
  revert h hS
  refine rev_ind (Q := fun row => (∀ v ∈ row, 0 ≤ v ∧ v < (rds.length : Int)) → (∀ r ∈ row, (S (endsR rds r).1 ↔ S (endsR rds r).2)) → ∀ p q : Int, 0 ≤ p → p < places → 0 ≤ q → q < places → S p → ¬ S q → nm (joinsL places rds row) p ≠ nm (joinsL places rds row) q) (fun _ _ p q p0 p1 q0 q1 sp sq e => ?_) (fun row x ih h hS p q p0 p1 q0 q1 sp sq => ?_) row
  · have nr : ∀ v : Int, 0 ≤ v → v < places → nm (joinsL places rds []) v = v := fun v v0 v1 => by
      show (rangeI 0 places.toNat).getD v.toNat 0 = v
      rw [List.getD_eq_getElem?_getD, rangeI_get (by omega)]
      show 0 + ((v.toNat : Nat) : Int) = v
      omega
    rw [nr p p0 p1, nr q q0 q1] at e
    exact sq (e ▸ sp)
  · have hrow : ∀ v ∈ row, 0 ≤ v ∧ v < (rds.length : Int) := fun v hv => h v (List.mem_append_left _ hv)
    have ih := ih hrow fun r hr => hS r (List.mem_append_left _ hr)
    have hN := nmd_joins hp ok hrow
    have zx := h x (List.mem_append_right _ List.mem_cons_self)
    have ex := endsR_ok ok zx.1 zx.2
    have sx := hS x (List.mem_append_right _ List.mem_cons_self)
    have hpq := ih p q p0 p1 q0 q1 sp sq
    rw [joins_snoc]
    by_cases c : nm (joinsL places rds row) (endsR rds x).1 = nm (joinsL places rds row) (endsR rds x).2
    · rw [(clsN_step hN ex.1 ex.2.1).2 c]
      exact hpq
    · rw [stepJ_eq, nm_map (by rw [hN.len]; omega), nm_map (by rw [hN.len]; omega)]
      have key : ¬ ((nm (joinsL places rds row) p = nm (joinsL places rds row) (endsR rds x).1 ∨ nm (joinsL places rds row) p = nm (joinsL places rds row) (endsR rds x).2) ∧ (nm (joinsL places rds row) q = nm (joinsL places rds row) (endsR rds x).1 ∨ nm (joinsL places rds row) q = nm (joinsL places rds row) (endsR rds x).2)) := by
        rintro ⟨a, b⟩
        by_cases s1 : S (endsR rds x).1
        · have s2 := sx.mp s1
          rcases b with b | b
          · exact ih _ q ex.1.1 ex.1.2 q0 q1 s1 sq b.symm
          · exact ih _ q ex.2.1.1 ex.2.1.2 q0 q1 s2 sq b.symm
        · have s2 : ¬ S (endsR rds x).2 := fun z => s1 (sx.mpr z)
          rcases a with a | a
          · exact ih p _ p0 p1 ex.1.1 ex.1.2 sp s1 a
          · exact ih p _ p0 p1 ex.2.1.1 ex.2.1.2 sp s2 a
      rcases lohi (nm (joinsL places rds row) (endsR rds x).1) (nm (joinsL places rds row) (endsR rds x).2) with ⟨z1, z2, _⟩ | ⟨z1, z2, _⟩
      · rw [z1, z2]
        intro e
        rcases (merge_iff c).mp e with e | e
        · exact hpq e
        · exact key e
      · rw [z1, z2]
        intro e
        rcases (merge_iff (Ne.symm c)).mp e with e | e
        · exact hpq e
        · exact key ⟨e.1.symm, e.2.symm⟩
theorem walk_of (h2 : 2 ≤ places) (ok : okRds places rds) {row : List Int} (hr : ∀ v ∈ row, 0 ≤ v ∧ v < (rds.length : Int)) (hnd : row.Nodup) (hw : isWayL places rds row) : ∀ (m : Nat) (place : Int) (seen done : List Int), places.toNat + 1 ≤ seen.length + m → seen.Nodup → (∀ v ∈ seen, 0 ≤ v ∧ v < places) → place ∈ seen → (0 : Int) ∈ seen →
    done.Nodup → (∀ r ∈ done, r ∈ row ∧ (endsR rds r).1 ∈ seen ∧ (endsR rds r).2 ∈ seen) → (∀ v ∈ seen, v ≠ place → ∀ r ∈ row, incR rds v r = true → r ∈ done) → (done.filter (incR rds place)).length = (if place = 0 then 0 else 1) →
    ∃ rs, Pth places rds place seen rs ∧ (done ++ rs).Perm row
  | 0, place, seen, done, hm, hn, hv, _, _, _, _, _, _ => by
    have z := nodup_sub (m := rangeI 0 places.toNat) hn fun x hx => mem_rangeI.mpr (by have := hv x hx; omega)
    rw [rangeI_len] at z
    omega
  | m + 1, place, seen, done, hm, hn, hv, hpl, h0, hdn, hd, hsat, hinc => by
    obtain ⟨w1, w2, w3, w4⟩ := hw
    have hap : apartR rds row := fun r hr' => (endsR_ok ok (hr r hr').1 (hr r hr').2).2.2
    have hdeg := w1 place (hv place hpl).1 (hv place hpl).2
    rw [deg_inc place hap] at hdeg
    have hsub : ∀ x ∈ done.filter (incR rds place), x ∈ row.filter (incR rds place) := fun x hx => by
      obtain ⟨a, b⟩ := List.mem_filter.mp hx
      exact List.mem_filter.mpr ⟨(hd x a).1, b⟩
    have hle := nodup_sub (hdn.filter (incR rds place)) hsub
    unfold cntOk at hdeg
    by_cases hend : place = places - 1
    · -- at the end: nothing is left
      rw [if_pos (.inr hend)] at hdeg
      rw [if_neg (by omega)] at hinc
      have hsat2 : ∀ v ∈ seen, ∀ r ∈ row, incR rds v r = true → r ∈ done := fun v hv' r hr' hi => by
        by_cases c : v = place
        · subst c
          have hperm := nodup_perm (l := done.filter (incR rds v)) (m := row.filter (incR rds v)) (hdn.filter _) (hnd.filter _)
          obtain ⟨x, hx⟩ := List.length_eq_one_iff.mp hdeg
          obtain ⟨y, hy⟩ := List.length_eq_one_iff.mp hinc
          have e1 := hsub y (by rw [hy]; exact List.mem_cons_self)
          rw [hx] at e1
          have e2 : r ∈ row.filter (incR rds v) := List.mem_filter.mpr ⟨hr', hi⟩
          rw [hx] at e2
          have e3 : y ∈ done.filter (incR rds v) := by rw [hy]; exact List.mem_cons_self
          rw [List.mem_singleton.mp e2, ← List.mem_singleton.mp e1]
          exact (List.mem_filter.mp e3).1
        · exact hsat v hv' c r hr' hi
      have hclosed : ∀ r ∈ row, ((endsR rds r).1 ∈ seen ↔ (endsR rds r).2 ∈ seen) := fun r hr' => by
        constructor
        · intro z; exact (hd r (hsat2 _ z r hr' (by simp [incR]))).2.2
        · intro z; exact (hd r (hsat2 _ z r hr' (by simp [incR]))).2.1
      have hall : ∀ r ∈ row, r ∈ done := fun r hr' => by
        have er := endsR_ok ok (hr r hr').1 (hr r hr').2
        have hu : (endsR rds r).1 ∈ usedL places rds row := List.mem_filter.mpr ⟨mem_rangeI.mpr (by omega), decide_eq_true (List.mem_flatMap.mpr ⟨r, hr', List.mem_cons_self⟩)⟩
        have e0 : nm (joinsL places rds row) (endsR rds r).1 = 0 := w4 _ hu
        have hin : (endsR rds r).1 ∈ seen := by
          by_cases c : (endsR rds r).1 ∈ seen
          · exact c
          · refine absurd ?_ (joins_apart (S := fun v => v ∈ seen) (by omega) ok hr hclosed 0 _ (Int.le_refl 0) (by omega) er.1.1 er.1.2 h0 c)
            rw [e0]
            exact (nmd_joins (by omega) ok hr).zero
        exact hsat2 _ hin r hr' (by simp [incR])
      refine ⟨[], hend ▸ .stop, ?_⟩
      rw [List.append_nil]
      exact nodup_perm hdn hnd fun x => ⟨fun z => (hd x z).1, hall x⟩
    · -- one road on
      have hmore : (row.filter (incR rds place)).length = (done.filter (incR rds place)).length + 1 := by
        by_cases c : place = 0
        · rw [if_pos (.inl c)] at hdeg
          rw [if_pos c] at hinc
          omega
        · rw [if_neg (by omega)] at hdeg
          rw [if_neg c] at hinc
          omega
      obtain ⟨r, hr1, hr2, hr3⟩ := one_more (hdn.filter _) (hnd.filter _) hsub hmore
      obtain ⟨hrow, hri⟩ := List.mem_filter.mp hr1
      have hrd : r ∉ done := fun z => hr2 (List.mem_filter.mpr ⟨z, hri⟩)
      have hin : place = (endsR rds r).1 ∨ place = (endsR rds r).2 := of_decide_eq_true hri
      have er := endsR_ok ok (hr r hrow).1 (hr r hrow).2
      obtain ⟨there, ht⟩ : ∃ x, x = (endsR rds r).1 + (endsR rds r).2 - place := ⟨_, rfl⟩
      have htr : 0 ≤ there ∧ there < places := by rcases hin with z | z <;> omega
      have hpt : there ≠ place := by rcases hin with z | z <;> omega
      have hti : incR rds there r = true := by
        refine decide_eq_true ?_
        rcases hin with z | z
        · exact .inr (by omega)
        · exact .inl (by omega)
      have hts : there ∉ seen := fun z => hrd (hsat there z hpt r hrow hti)
      have hends : (endsR rds r).1 ∈ seen ++ [there] ∧ (endsR rds r).2 ∈ seen ++ [there] := by
        have a : place ∈ seen ++ [there] := List.mem_append_left _ hpl
        have b : there ∈ seen ++ [there] := List.mem_append_right _ List.mem_cons_self
        rcases hin with z | z
        · exact ⟨z ▸ a, by rw [show (endsR rds r).2 = there by omega]; exact b⟩
        · exact ⟨by rw [show (endsR rds r).1 = there by omega]; exact b, z ▸ a⟩
      obtain ⟨rs, hrs, hperm⟩ := walk_of h2 ok hr hnd ⟨w1, w2, w3, w4⟩ m there (seen ++ [there]) (done ++ [r]) (by rw [List.length_append, List.length_singleton]; omega)
        (List.nodup_append.mpr ⟨hn, List.nodup_cons.mpr ⟨(fun z => nomatch z), .nil⟩, fun a ha b hb e => hts (by rw [List.mem_singleton.mp hb] at e; exact e ▸ ha)⟩)
        (fun v hv' => by
          rcases List.mem_append.mp hv' with z | z
          · exact hv v z
          · rw [List.mem_singleton.mp z]; exact htr)
        (List.mem_append_right _ List.mem_cons_self) (List.mem_append_left _ h0)
        (List.nodup_append.mpr ⟨hdn, List.nodup_cons.mpr ⟨(fun z => nomatch z), .nil⟩, fun a ha b hb e => hrd (by rw [List.mem_singleton.mp hb] at e; exact e ▸ ha)⟩)
        (fun x hx => by
          rcases List.mem_append.mp hx with z | z
          · obtain ⟨a, b, c⟩ := hd x z
            exact ⟨a, List.mem_append_left _ b, List.mem_append_left _ c⟩
          · rw [List.mem_singleton.mp z]; exact ⟨hrow, hends⟩)
        (fun v hv' hne x hx hi => by
          rcases List.mem_append.mp hv' with z | z
          · by_cases c : v = place
            · subst c
              rcases hr3 x (List.mem_filter.mpr ⟨hx, hi⟩) with y | y
              · exact List.mem_append_left _ (List.mem_filter.mp y).1
              · rw [y]; exact List.mem_append_right _ List.mem_cons_self
            · exact List.mem_append_left _ (hsat v z c x hx hi)
          · exact absurd (List.mem_singleton.mp z) hne)
        (by
          have e1 : done.filter (incR rds there) = [] := by
            rw [List.filter_eq_nil_iff]
            intro x hx hi
            obtain ⟨_, b, c⟩ := hd x hx
            rcases (of_decide_eq_true hi : there = (endsR rds x).1 ∨ there = (endsR rds x).2) with z | z
            · exact hts (z ▸ b)
            · exact hts (z ▸ c)
          rw [List.filter_append, e1, List.nil_append, List.filter_cons, if_pos hti, if_neg (show there ≠ 0 from fun e => hts (e ▸ h0))]
          rfl)
      refine ⟨r :: rs, .go hend (hr r hrow).1 (hr r hrow).2 hin ht hts hrs, ?_⟩
      rw [List.append_assoc] at hperm
      exact hperm
def wayP (places : Int) (rds : List (Int × Int)) (row : List Int) : Prop := ∃ w ∈ waysOn places rds 7 0 [0], row.Perm w ∧ row.Pairwise (· ≤ ·)
theorem rise_lt : ∀ {l : List Int}, l.Nodup → l.Pairwise (· ≤ ·) → l.Pairwise (· < ·)
  | [], _, _ => .nil
  | a :: l, hn, hp => by
    obtain ⟨n1, n2⟩ := List.nodup_cons.mp hn
    obtain ⟨p1, p2⟩ := List.pairwise_cons.mp hp
    refine List.pairwise_cons.mpr ⟨fun x hx => ?_, rise_lt n2 p2⟩
    have := p1 x hx
    have : a ≠ x := fun e => n1 (e ▸ hx)
    omega
end
end My
set_option Elab.async false
set_option linter.all false
set_option maxRecDepth 100000
namespace L2
open PySem PySem.Spec PyProof.Rows
section
variable {K : PySem.W.Frag} {cap : List (Option Nat)} {g : TG} {tt : TT} {te : TE} {σ : St} {H : Hp} {Q : VK}
theorem comp_list {a : Addr} {xs : List V} (Pv : Nat → List V → Hp → Prop) (h0 : Pv 0 [] H) (hlen : xs.length ≤ sizeLine) (hl : ∀ i zs H, i ≤ xs.length → Pv i zs H → SqL K H a xs ∧ zs.length ≤ i)
    (hs : ∀ i x zs H, xs[i]? = some x → Pv i zs H → g x (capt cap σ) H fun σ2 H2 => kst (capt cap σ) σ2 ∧ tt σ2 H2 fun b H3 => if b = true then te σ2 H3 fun v H4 => Pv (i + 1) (zs ++ [v]) H4 else Pv (i + 1) zs H3)
    (hd : ∀ zs H, Pv xs.length zs H → ∀ p, H p = none → Q (.ref p) (upd H p (.lst zs))) : CompW (Itl K a) cap g tt te σ Q H := by
  refine ⟨fun i zs H => i ≤ xs.length ∧ Pv i zs H, xs.length, ⟨Nat.zero_le _, h0⟩, ?_⟩
  rintro i zs H ⟨hi, p⟩
  obtain ⟨q1, q3⟩ := hl i zs H hi p
  by_cases hlt : i < xs.length
  · refine .inr ⟨⟨xs, xs[i], q1, List.getElem?_eq_getElem hlt⟩, hlt, by omega, ?_⟩
    rintro v H' ⟨rfl, hx⟩
    have z := hs i v zs H' (hx xs q1) p
    have hn : i + 1 ≤ xs.length := hlt
    simp only [hn, true_and]
    exact z
  · have e : i = xs.length := by omega
    subst e
    exact .inl ⟨⟨xs, q1, Nat.le_refl _⟩, hd zs H p⟩
theorem comp_range {lo : Int} {n : Nat} (Pv : Nat → List V → Hp → Prop) (h0 : Pv 0 [] H) (hlen : n ≤ sizeLine) (hl : ∀ i zs H, i ≤ n → Pv i zs H → zs.length ≤ i)
    (hs : ∀ i zs H, i < n → Pv i zs H → g (.int (lo + (i : Int))) (capt cap σ) H fun σ2 H2 => kst (capt cap σ) σ2 ∧ tt σ2 H2 fun b H3 => if b = true then te σ2 H3 fun v H4 => Pv (i + 1) (zs ++ [v]) H4 else Pv (i + 1) zs H3)
    (hd : ∀ zs H, Pv n zs H → ∀ p, H p = none → Q (.ref p) (upd H p (.lst zs))) : CompW (Itr lo n) cap g tt te σ Q H := by
  refine ⟨fun i zs H => i ≤ n ∧ Pv i zs H, n, ⟨Nat.zero_le _, h0⟩, ?_⟩
  rintro i zs H ⟨hi, p⟩
  have q3 := hl i zs H hi p
  by_cases hlt : i < n
  · refine .inr ⟨hlt, hlt, by omega, ?_⟩
    rintro v H' ⟨rfl, rfl⟩
    have z := hs i zs H' hlt p
    have hn : i + 1 ≤ n := hlt
    simp only [hn, true_and]
    exact z
  · have e : i = n := by omega
    subst e
    exact .inl ⟨Nat.le_refl _, hd zs H p⟩
end
theorem same_new {H : Hp} {p : Addr} (h : H p = none) (o : HO) : Same H (upd H p o) := fun b u q => by rw [upd_ne (ne_of_none q h)]; exact q
theorem same_upd {H H1 : Hp} {p : Addr} (s : Same H H1) (h : H p = none) (o : HO) : Same H (upd H1 p o) := fun b u q => by rw [upd_ne (ne_of_none q h)]; exact s b u q
theorem inV_int (g : Int) : ∀ ds : List Int, inV (.int g) (ds.map V.int) = decide (g ∈ ds)
  | [] => rfl
  | d :: ds => by
    have ih := inV_int g ds
    unfold inV at ih ⊢
    rw [List.map_cons, List.any_cons, ih]
    show ((d == g) || decide (g ∈ ds)) = decide (g ∈ d :: ds)
    by_cases h : d = g
    · subst h
      rw [beq_self_eq_true, Bool.true_or, decide_eq_true List.mem_cons_self]
    · rw [beq_eq_false_iff_ne.mpr h, Bool.false_or]
      by_cases h2 : g ∈ ds
      · rw [decide_eq_true h2, decide_eq_true (List.mem_cons_of_mem _ h2)]
      · rw [decide_eq_false h2, decide_eq_false fun z => (List.mem_cons.mp z).elim (fun e => h e.symm) h2]
theorem flat_ints : ∀ ds : List Int, (ds.map V.int).all flatV = true
  | [] => rfl
  | _ :: ds => flat_ints ds
theorem pget {α β : Type} {F : α → β → Prop} : ∀ {as : List α} {bs : List β} {i : Nat} {a : α}, Paired F as bs → as[i]? = some a → ∃ b, bs[i]? = some b ∧ F a b
  | _, _, _, _, .nil, e => by simp at e
  | _, _, 0, _, .cons r _, e => by simp at e; subst e; exact ⟨_, rfl, r⟩
  | _, _, i + 1, a, .cons _ t, e => by
    obtain ⟨u, h1, h2⟩ := pget (i := i) (a := a) t (by simpa using e)
    exact ⟨u, by simpa using h1, h2⟩
theorem papp {α β : Type} {F : α → β → Prop} : ∀ {as as' : List α} {bs bs' : List β}, Paired F as bs → Paired F as' bs' → Paired F (as ++ as') (bs ++ bs')
  | _, _, _, _, .nil, s => s
  | _, _, _, _, .cons r t, s => .cons r (papp t s)
theorem pimp {α β : Type} {F G : α → β → Prop} : ∀ {as : List α} {bs : List β}, Paired F as bs → (∀ a ∈ as, ∀ b, F a b → G a b) → Paired G as bs
  | _, _, .nil, _ => .nil
  | _, _, .cons r t, f => .cons (f _ List.mem_cons_self _ r) (pimp t fun a ha b => f a (List.mem_cons_of_mem _ ha) b)
theorem map_ref_get {as : List Addr} {i : Nat} {x : V} (h : (as.map V.ref)[i]? = some x) : ∃ a, as[i]? = some a ∧ x = .ref a := by
  rw [List.getElem?_map] at h
  cases e : as[i]? with
  | none => rw [e] at h; cases h
  | some a => rw [e] at h; exact ⟨a, rfl, (Option.some.inj h).symm⟩
theorem map_int_get {ns : List Int} {i : Nat} {x : V} (h : (ns.map V.int)[i]? = some x) : ∃ n, ns[i]? = some n ∧ x = .int n := by
  rw [List.getElem?_map] at h
  cases e : ns[i]? with
  | none => rw [e] at h; cases h
  | some a => rw [e] at h; exact ⟨a, rfl, (Option.some.inj h).symm⟩
theorem take_snoc {α : Type} {l : List α} {i : Nat} {a : α} (h : l[i]? = some a) : l.take (i + 1) = l.take i ++ [a] := by
  rw [List.take_add_one, h]
  rfl
theorem decT {p : Prop} [Decidable p] (h : p) {A B : Prop} (a : A) : if decide p = true then A else B := by
  rw [decide_eq_true h, if_pos rfl]; exact a
theorem decF {p : Prop} [Decidable p] (h : ¬ p) {A B : Prop} (b : B) : if decide p = true then A else B := by
  rw [decide_eq_false h, if_neg Bool.false_ne_true]; exact b
theorem ndecT {p : Prop} [Decidable p] (h : ¬ p) {A B : Prop} (a : A) : if (!decide p) = true then A else B := by
  rw [decide_eq_false h, Bool.not_false, if_pos rfl]; exact a
theorem ndecF {p : Prop} [Decidable p] (h : p) {A B : Prop} (b : B) : if (!decide p) = true then A else B := by
  rw [decide_eq_true h, Bool.not_true, if_neg Bool.false_ne_true]; exact b
theorem dec2 {p : Prop} [Decidable p] {A B : Prop} (a : p → A) (b : ¬ p → B) : if decide p = true then A else B := by
  by_cases h : p
  · exact decT h (a h)
  · exact decF h (b h)
theorem small {n : Nat} (h : n ≤ 1000) : n ≤ sizeLine := Nat.le_of_lt (small1000 h)
theorem atI_of {α : Type} {xs : List α} {i : Int} (h0 : 0 ≤ i) (h : i < (xs.length : Int)) : ∃ v, atI xs i = some v ∧ xs[i.toNat]? = some v := by
  have hk : i.toNat < xs.length := by omega
  have e : i = ((i.toNat : Nat) : Int) := by omega
  have q : atI xs ((i.toNat : Nat) : Int) = some xs[i.toNat] := atI_nat (List.getElem?_eq_getElem hk)
  rw [← e] at q
  exact ⟨xs[i.toNat], q, List.getElem?_eq_getElem hk⟩
end L2
namespace My
open PySem L2
def IL (H : Hp) (a : Addr) (ns : List Int) : Prop := H a = some (.lst (ns.map V.int))
def ILL (H : Hp) (a : Addr) (nss : List (List Int)) : Prop := ∃ as : List Addr, H a = some (.lst (as.map V.ref)) ∧ Paired (IL H) as nss
def ILLn (H0 H : Hp) (a : Addr) (nss : List (List Int)) : Prop := H0 a = none ∧ ∃ as : List Addr, H a = some (.lst (as.map V.ref)) ∧ Paired (IL H) as nss ∧ ∀ b ∈ as, H0 b = none
theorem IL.mono {H H' : Hp} {a : Addr} {ns : List Int} (s : Same H H') (h : IL H a ns) : IL H' a ns := s _ _ h
theorem pmono {H H' : Hp} {as : List Addr} {nss : List (List Int)} (s : Same H H') (h : Paired (IL H) as nss) : Paired (IL H') as nss := pimp h fun _ _ _ z => z.mono s
end My
set_option Elab.async false
set_option linter.all false
set_option maxRecDepth 100000
namespace L2
open PySem PySem.Spec PyProof.Rows
def Ite (K : PySem.W.Frag) (a : Addr) : It :=
  ⟨fun i H => ∃ xs x, SqL K H a xs ∧ xs[i]? = some x,
   fun i H v H' => ∃ p x, v = .ref p ∧ H p = none ∧ H' = upd H p (.tup [.int (i : Int), x]) ∧ (∀ xs, SqL K H a xs → xs[i]? = some x),
   fun i H => ∃ xs, SqL K H a xs ∧ xs.length ≤ i⟩
theorem turn_enum {P : Program} {w : World} {K : PySem.W.Frag} {elts : List Expr} {kt : Nat} {pt : Pos} (e it a : Addr) (hne : e ≠ it) :
    Turn P w K (.Tuple elts kt pt) (Ite K a) [e, it] e (fun i h => (∃ old, IsEnum h e it (i : Int) old) ∧ h.IsListIter it a i) where
  mem := by simp
  obj := fun i h st c hc => by
    obtain ⟨⟨old, he⟩, ⟨o1, e1, c1, d1⟩⟩ := st
    simp only [List.mem_cons, List.not_mem_nil, or_false] at hc
    rcases hc with rfl | rfl
    · exact ⟨_, he, fun v q => by
        have q' : Data.fields _ = Data.cell v := q
        cases q'⟩
    · exact ⟨_, e1, fun v q => by rw [d1] at q; cases q⟩
  keep := fun i h h' st k => by
    obtain ⟨⟨old, he⟩, h1⟩ := st
    exact ⟨⟨old, k e (by simp) _ he⟩, h1.at fun o e => k it (by simp) o e⟩
  item := by
    intro X hP hw hK hc i pins s σ H E I hf st hg
    subst hP hw hK
    obtain ⟨xs, x, hxs, hx⟩ := hg
    obtain ⟨its, rv, p, hz⟩ := I.list hxs
    obtain ⟨u, hu, ru⟩ := rv.get hx
    obtain ⟨⟨old, q1⟩, q2⟩ := st
    refine wpAny_pyNext_enum_item q1 q2 p.isList (x := u) (by simpa using hu) hne fun h' a1 a2 a3 a4 hk => ?_
    refine ⟨_, rfl, wpAny_letOwnedTupleGo_enum a1 fun h'' b1 hs' => ?_⟩
    have lt : ∀ {c o}, s.heap.get? c = some o → s.heap.objs.size ≠ c := fun e => Nat.ne_of_gt (Heap.lt_size e)
    have keep : ∀ b o, b ∉ [e, it] → s.heap.get? b = some o → h''.get? b = some o := fun b o hb eo => by
      simp only [List.mem_cons, List.not_mem_nil, or_false, not_or] at hb
      exact hs'.extBut b o hb.1 (hk b o hb.1 hb.2 eo)
    have I1 : Inv X pins σ H { s with heap := h'', toks := s.toks + 1 } := I.turnedL (t' := s.toks + 1) _ hf keep
    have Tn : H s.heap.objs.size = none := I.hok.fresh (Nat.le_refl _)
    have fT : FpOk X pins H s.heap.objs.size := I.fpOk (Nat.le_refl _) Tn
    have eT : h''.get? s.heap.objs.size = some { cls := .type "tuple", data := .seq #[.int (i : Int) s.toks, u] } := hs'.extBut _ _ (lt q1) a3
    have I2 : Inv X pins σ (upd H s.heap.objs.size (.tup [.int (i : Int), x])) { s with heap := h'', toks := s.toks + 1 } := I1.track fT ⟨by show 2 ≤ sizeLine; decide, [.int (i : Int) s.toks, u], .cons ⟨_, rfl⟩ (.cons ru .nil), ⟨_, eT, rfl, _, rfl⟩⟩
    refine ⟨.ref s.heap.objs.size, _, I2, rfl, ⟨_, x, rfl, Tn, rfl, fun zs hz => by rw [I.list_inj hz hxs]; exact hx⟩, ⟨⟨_, by simpa using b1⟩, a2.extBut hs'.extBut (Ne.symm hne)⟩, fun b hb => ?_⟩
    have eb : b ≠ s.heap.objs.size := fun z => by
      simp only [List.mem_cons, List.not_mem_nil, or_false] at hb
      rcases hb with r | r
      · exact lt q1 (z.symm.trans r)
      · obtain ⟨_, e1, _⟩ := q2; exact lt e1 (z.symm.trans r)
    rw [upd_ne eb]
    exact (hf b hb).1
  done := by
    intro X hP hw hK hc i pins s σ H E I hf st hg
    subst hP hw hK
    obtain ⟨xs, hxs, hl⟩ := hg
    obtain ⟨its, rv, p, hz⟩ := I.list hxs
    obtain ⟨⟨old, q1⟩, q2⟩ := st
    have l1 := rv.length
    refine wpAny_pyNext_enum_end (I.ok.hd hc) q1 q2 p.isList (by simp; omega) fun h' hk => ⟨rfl, I.turnedL (t' := s.toks) _ hf fun b o hb eo => ?_⟩
    simp only [List.mem_cons, List.not_mem_nil, or_false, not_or] at hb
    exact hk b o hb.2 eo
  self := fun _ _ _ _ _ st h => by
    obtain ⟨⟨old, he⟩, _⟩ := st
    exact wpAny_pyIter_enum he h
section
variable {X : Cx}
theorem boot_enum : bootBuiltins "enumerate" = some (.type "enumerate") := by decide +kernel
def iEnum (K : PySem.W.Frag) (ta : TA) : TI := fun σ H R => ta σ H fun vs H1 => ∃ a, vs = [.ref a] ∧ (∃ xs, H1 a = some (.lst xs)) ∧ R (Ite K a) H1
theorem pi_enum {a : Expr} {elts : List Expr} {kt : Nat} {pt : Pos} {ta : TA} {p pos : Pos} (hg : Gl X "enumerate") (hm : X.mg "enumerate" = none) (ha : PA X [a] ta) (hs : starEach [a] X.env = [(false, eval a X.env)] := by rfl) :
    PI X (.Tuple elts kt pt) (.Call (.Name "enumerate" p) [a] [] pos) (iEnum X.K ta) := by
  intro pins s σ H R I h
  refine Call_ (ld_blt I hg hm boot_enum (PyProof.Rows.callWith_type1 (thn (ha pos pins s σ H _ I h) fun us s1 ⟨vs, H1, I1, r1, q1⟩ => ?_) hs rfl))
  obtain ⟨la, e, ⟨xs, hxs⟩, q⟩ := q1
  subst e
  cases r1 with
  | cons r rr =>
    cases rr
    cases r
    obtain ⟨hz, its, n, rv, ho⟩ := (show ObjOk X.prog X.w H1 s1.heap la (.lst xs) from I1.hok la _ hxs)
    refine call_enumerate_1 ho fun h' z1 z2 z3 hk => wpAny_pyIter_enum z1 ?_
    refine ⟨s1.heap.objs.size + 1, [s1.heap.objs.size + 1, s1.heap.objs.size], _, _, H1, rfl, I1.kept (t' := s1.toks) hk, turn_enum _ _ la (Nat.succ_ne_self _), ⟨⟨_, z1⟩, z2⟩, fun b hb => ?_, q⟩
    have hle : s1.heap.objs.size ≤ b := by
      simp only [List.mem_cons, List.not_mem_nil, or_false] at hb
      rcases hb with r | r <;> rw [r] <;> omega
    exact I1.fpOk hle (I1.hok.fresh hle)
end
section
variable {K : PySem.W.Frag} {cap : List (Option Nat)} {g : TG} {tt : TT} {te : TE} {σ : St} {H : Hp} {Q : VK}
end
section
variable {X : Cx} (K : PySem.W.Frag)
theorem op_notInK (hK : X.K = K) : OpR X (compareOp .NotIn) (rIn K true) := by
  subst hK
  exact op_notIn_seq
theorem ix_listK (hK : X.K = K) : IxR X (rIxL K) := by
  subst hK
  exact ix_list
theorem call_lenK (hK : X.K = K) : CallR X (.builtin "len") (fun xs H Q => ∃ p ys, xs = [.ref p] ∧ (SqL K H p ys ∨ SqT K H p ys) ∧ Q (.int ys.length) H) := by
  subst hK
  exact call_len_seq
theorem pg_tupK {es : List Expr} {k : Nat} {t : TGs} {n : Nat} {pos : Pos} (hK : X.K = K) (hc : X.calm = true) (h : PGs X es t)
    (hn : (assignEach es X.env).length = n := by rfl) (hst : (assignEach es X.env).findIdx? (·.1) = none := by rfl) : PG X (.Tuple es k pos) (gTup K n t) := by
  subst hK
  exact pg_tup hc h hn hst
end
end L2
set_option Elab.async false
set_option linter.all false
set_option maxRecDepth 100000
namespace L2
open PySem PySem.Spec PyProof.Rows
section
variable {X : Cx}
theorem ints_vals : ∀ {us : List Value} {ns : List Int}, IntsAre us ns → Vals (ns.map V.int) us
  | _, _, .nil => .nil
  | _, _, .cons n t r => .cons ⟨t, rfl⟩ (ints_vals r)
theorem call_sorted : CallR X (.builtin "sorted") (fun xs H Q => ∃ (p : Addr) (ns : List Int), xs = [.ref p] ∧ SqL X.K H p (ns.map V.int) ∧ ns.length < 64 ∧ ∀ (l : Addr) (ms : List Int), H l = none → ms.Perm ns → ms.Pairwise (· ≤ ·) → Q (.ref l) (upd H l (.lst (ms.map V.int)))) := by
  intro pins s σ H xs us Q I r h
  obtain ⟨p, ns, rfl, hq, hl, q⟩ := h
  obtain ⟨u, rfl, ru⟩ := vals1 r
  cases ru
  obtain ⟨its, rv, pl, hz⟩ := I.list hq
  have lenV : ns.length = its.length := by have := rv.length; rwa [List.length_map] at this
  refine sorted_ints pl.isList (ints_of rv) (by omega) fun out ms a1 a2 a3 => ?_
  obtain ⟨e, he⟩ := sortedAll_at s.heap its out
  have hlen : (ms.map V.int).length ≤ sizeLine := by
    rw [List.length_map, a2.length_eq]
    exact Nat.le_trans (Nat.le_of_lt hl) (by decide)
  refine ⟨.ref (s.heap.objs.size + 1), _, I.laid (t' := s.toks) (a := s.heap.objs.size + 1) (o := .lst (ms.map V.int)) (fun b o e => sortedAll_old e) (Nat.le_succ _) ⟨hlen, out.toList, e, ints_vals a1, by simpa [seqObj] using he⟩, rfl, q _ ms (I.hok.fresh (Nat.le_succ _)) a2 a3⟩
def tRngV (ta : TA) : TE := fun σ H Q => ta σ H fun vs H1 => ∃ j : Int, vs = [.int j] ∧ ∀ p, H1 p = none → Q (.ref p) (upd H1 p (.rng 0 j))
theorem pe_rangeV {a : Expr} {ta : TA} {p pos : Pos} (hg : Gl X "range") (hm : X.mg "range" = none) (ha : PA X [a] ta) (hs : starEach [a] X.env = [(false, eval a X.env)] := by rfl) : PE X (.Call (.Name "range" p) [a] [] pos) (tRngV ta) := by
  intro pins s σ H Q I h
  refine Call_ (ld_blt I hg hm boot_range (PyProof.Rows.callWith_type1 (thn (ha pos pins s σ H _ I h) fun us s1 ⟨vs, H1, I1, r1, j, e, q⟩ => ?_) hs rfl))
  subst e
  obtain ⟨u, rfl, t, rfl⟩ := vals1 r1
  exact call_range_1 ⟨.ref s1.heap.objs.size, _, I1.laid (o := .rng 0 j) (fun b o e => Heap.get?_push_of_some _ e) (Nat.le_refl _) ⟨_, _, _, Heap.get?_push_size _ rfl⟩, rfl, q _ (I1.hok.fresh (Nat.le_refl _))⟩
theorem call_listRng (hc : X.calm = true) : CallR X (.type "list") (fun xs H Q => ∃ (p : Addr) (j : Int), xs = [.ref p] ∧ H p = some (.rng 0 j) ∧ 0 ≤ j ∧ j ≤ 1000 ∧ ∀ l, H l = none → Q (.ref l) (upd H l (.lst ((List.range j.toNat).map fun (i : Nat) => V.int (i : Int))))) := by
  intro pins s σ H xs us Q I r h
  obtain ⟨p, j, rfl, hq, h0, h1, q⟩ := h
  obtain ⟨u, rfl, ru⟩ := vals1 r
  cases ru
  obtain ⟨t1, t2, t3, e⟩ := (show ObjOk X.prog X.w H s.heap p (.rng 0 j) from I.hok p _ hq)
  have hsz : Builtin.Range.rangeSize 0 j 1 = (j.toNat : Int) := by rw [rangeSize_one]; split <;> omega
  refine call_list_range (n := j.toNat) (I.ok.hd hc) (show IsRange s.heap p 0 j 1 t1 t2 t3 from e) (small_one (by decide) (by decide) (by omega) (by omega)) hsz (by omega) fun h' tk acc c' kp ho it => ?_
  obtain ⟨hl, hit⟩ := it
  have rv : ∀ (n : Nat) (l : List Value), l.length = n → ∀ k : Nat, (∀ (i : Nat) v, l[i]? = some v → ∃ t, v = Value.int ((k + i : Nat) : Int) t) → Vals ((List.range' k n).map fun (i : Nat) => V.int (i : Int)) l := by
    intro n
    induction n with
    | zero => intro l hl k _; rw [List.length_eq_zero_iff.mp hl]; exact .nil
    | succ n ih =>
      intro l hl k hk
      cases l with
      | nil => cases hl
      | cons v l =>
        rw [List.range'_succ, List.map_cons]
        refine .cons ?_ (ih l (by simpa using hl) (k + 1) fun i v hv => ?_)
        · obtain ⟨t, z⟩ := hk 0 v rfl
          exact ⟨t, by simpa using z⟩
        · obtain ⟨t, z⟩ := hk (i + 1) v (by simpa using hv)
          exact ⟨t, by rw [z]; congr 1; omega⟩
  have rr : Vals ((List.range j.toNat).map fun (i : Nat) => V.int (i : Int)) acc.toList := by
    rw [List.range_eq_range']
    refine rv j.toNat acc.toList (by simpa using hl) 0 fun i v hv => ?_
    obtain ⟨t, z⟩ := hit i v (by simpa using hv)
    exact ⟨t, by rw [z]; congr 1; omega⟩
  refine ⟨.ref s.heap.objs.size, _, I.laid (t' := tk) (o := .lst ((List.range j.toNat).map fun (i : Nat) => V.int (i : Int))) kp (Nat.le_refl _) ⟨?_, acc.toList, c', rr, by simpa using ho⟩, rfl, q _ (I.hok.fresh (Nat.le_refl _))⟩
  rw [List.length_map, List.length_range]
  exact small (by omega)
open PySem.AutoSeq1 (wpAny_loadPart') in
theorem countP_eqU {y : V} : ∀ {xs : List V} {us : List Value}, Vals xs us → xs.all flatV = true → us.countP (eqU y) = xs.countP fun z => eqV z y
  | _, _, .nil, _ => rfl
  | z :: xs, u :: us, .cons r t, f => by
    rw [List.all_cons, Bool.and_eq_true] at f
    rw [List.countP_cons, List.countP_cons, eqU_of r f.1, countP_eqU t f.2]
def rCountV (K : PySem.W.Frag) : V → List V → Hp → VK → Prop := fun x vs H Q => ∃ l xs y, x = .ref l ∧ vs = [y] ∧ SqL K H l xs ∧ flatV y = true ∧ xs.all flatV = true ∧ Q (.int (xs.countP fun z => eqV z y : Nat)) H
theorem mt_countV : MtR X "list.count" (rCountV X.K) := by
  intro pins s σ H x vs v us Q I rx rv h
  obtain ⟨l, xs, y, rfl, rfl, hq, fy, fs, q⟩ := h
  cases rx
  obtain ⟨u, rfl, ru⟩ := rv.one
  obtain ⟨its, r, pl, hz⟩ := I.list hq
  obtain ⟨⟨oc, od, oda, osl⟩, ho, hc, n, hd⟩ := pl.isList
  dsimp only at hc hd
  subst hc hd
  refine call_meets F.slot_list_count ⟨_, ho, rfl⟩ F.entry_list_count (F.args_list_count_2 _ _) (SeqAt.list_countAt l its.toArray n od osl u (eqU y)) ⟨ho, fun w hw => mem_eqAt ru fy r fs w (by simpa using hw), ?_⟩
  rw [show its.toArray.toList.countP (eqU y) = its.countP (eqU y) by simp, countP_eqU r fs]
  exact ⟨.int _, H, I.tok _, ⟨_, rfl⟩, q⟩
def rIndexV (K : PySem.W.Frag) : V → List V → Hp → VK → Prop := fun x vs H Q => ∃ l xs y, ∃ j : Nat, x = .ref l ∧ vs = [y] ∧ SqL K H l xs ∧ flatV y = true ∧ xs.all flatV = true ∧ (∃ z, xs[j]? = some z ∧ eqV z y = true) ∧ (∀ (m : Nat) z, m < j → xs[m]? = some z → eqV z y = false) ∧ Q (.int (j : Int)) H
theorem mt_indexV : MtR X "list.index" (rIndexV X.K) := by
  intro pins s σ H x vs v us Q I rx rv h
  obtain ⟨l, xs, y, j, rfl, rfl, hq, fy, fs, ⟨z, hz1, hz2⟩, hno, q⟩ := h
  cases rx
  obtain ⟨u, rfl, ru⟩ := rv.one
  obtain ⟨its, r, pl, hz⟩ := I.list hq
  obtain ⟨⟨oc, od, oda, osl⟩, ho, hc, n, hd⟩ := pl.isList
  dsimp only at hc hd
  subst hc hd
  have hlen := r.length
  have at_ : ∀ (m : Nat) z, xs[m]? = some z → ∃ w, its[m]? = some w ∧ eqU y w = eqV z y := fun m z hm => by
    obtain ⟨w, hw, rw'⟩ := r.get hm
    exact ⟨w, hw, eqU_of rw' (List.all_eq_true.mp fs z (List.mem_of_getElem? hm))⟩
  obtain ⟨w, hw, ew⟩ := at_ j z hz1
  have hj : j < its.toArray.size := by rw [List.size_toArray]; exact (List.getElem?_eq_some_iff.mp hw).1
  have hlt : xs.length < 2 ^ 63 := Nat.lt_of_le_of_lt hz line63
  rw [List.size_toArray] at hj
  have hb24 : xs.length ≤ 16777216 := by rw [← sizeLine_eq]; exact hz
  have hjs : (j : Int) < 2 ^ 63 - 1 := by omega
  refine call_meets F.slot_list_index ⟨_, ho, rfl⟩ F.entry_list_index (F.args_list_index_2 _ _) (SeqAt.list_indexAt l its.toArray n od osl u (eqU y) j (by rw [List.size_toArray]; exact hj) hjs ?_ (fun m hm hmj => ?_)) ⟨ho, fun w hw => mem_eqAt ru fy r fs w (by simpa using hw), ⟨.int j, H, I.tok _, ⟨_, rfl⟩, q⟩⟩
  · have e : its.toArray[j]'(by rw [List.size_toArray]; exact hj) = w := by
      have := List.getElem?_eq_getElem hj
      rw [hw] at this
      simpa using this.symm
    rw [e, ew, hz2]
  · rw [List.size_toArray] at hm
    have hmx : m < xs.length := by omega
    obtain ⟨w2, hw2, ew2⟩ := at_ m _ (List.getElem?_eq_getElem hmx)
    have e : its.toArray[m]'(by rw [List.size_toArray]; exact hm) = w2 := by
      have := List.getElem?_eq_getElem hm
      rw [hw2] at this
      simpa using this.symm
    rw [e, ew2, hno m _ hmj (List.getElem?_eq_getElem hmx)]
end
section
open PySem.AutoSeq1 (wpAny_loadPart')
open PySem.SeqAt PySem.MeetsSeq PySem.MeetsSeq2 PySem.MeetsSeq3
theorem ints_at : ∀ {us : List Value} {ns : List Int} {i : Nat} {n : Int}, IntsAre us ns → ns[i]? = some n → ∃ t, us[i]? = some (.int n t)
  | _, _, _, _, .nil, h => by simp at h
  | _, _, 0, _, .cons n t r, h => by simp at h; subst h; exact ⟨t, rfl⟩
  | _, _, i + 1, _, .cons n t r, h => by
    obtain ⟨t', e⟩ := ints_at (i := i) r (by simpa using h)
    exact ⟨t', by simpa using e⟩
theorem lt_loopI (l b : Addr) (ia ib : Array Value) (n n2 : Nat) (dd dd2 : Option Addr) (sl sl2 : Array (Option Value)) (ns ms : List Int) (hi : IntsAre ia.toList ns) (hj : IntsAre ib.toList ms) (k : Nat) :
    ∀ i : Nat, ia.size - i = k → i ≤ ia.size → i ≤ ib.size → Meets (Builtin.«list.__eq__.loop» ⟨[.ref l, .ref b, rawInt i, rawInt 0], []⟩)
      (fun _ R s => s.heap.get? l = some { cls := .type "list", dict := dd, data := .seq ia n, slots := sl } ∧ s.heap.get? b = some { cls := .type "list", dict := dd2, data := .seq ib n2, slots := sl2 } ∧
        R (.ok (.ret (.bool (HT.lexLt (ns.drop i) (ms.drop i))))) s) := by
  have z1 : ia.size = ns.length := by rw [← hi.length]; simp
  have z2 : ib.size = ms.length := by rw [← hj.length]; simp
  have ends : ∀ i : Nat, i ≤ ia.size → i ≤ ib.size → (i = ia.size ∨ i = ib.size) → HT.lexLt (ns.drop i) (ms.drop i) = decide (ia.size < ib.size) := by
    intro i h1 h2 h3
    by_cases c : i = ia.size
    · have e1 : ns.drop i = [] := by simp; omega
      rw [e1]
      by_cases c2 : i = ib.size
      · have e2 : ms.drop i = [] := by simp; omega
        rw [e2, HT.lexLt_nil_nil]
        exact (decide_eq_false (by omega)).symm
      · obtain ⟨x, r, e2⟩ : ∃ x r, ms.drop i = x :: r := by
          cases q : ms.drop i with
          | nil => simp at q; omega
          | cons x r => exact ⟨x, r, rfl⟩
        rw [e2, HT.lexLt_nil_cons]
        exact (decide_eq_true (by omega)).symm
    · have c2 : i = ib.size := h3.resolve_left c
      have e2 : ms.drop i = [] := by simp; omega
      obtain ⟨x, r, e1⟩ : ∃ x r, ns.drop i = x :: r := by
        cases q : ns.drop i with
        | nil => simp at q; omega
        | cons x r => exact ⟨x, r, rfl⟩
      rw [e1, e2, HT.lexLt_cons_nil]
      exact (decide_eq_false (by omega)).symm
  have stop : ∀ i : Nat, i ≤ ia.size → i ≤ ib.size → (i = ia.size ∨ i = ib.size) → Meets (Builtin.«list.__eq__.loop» ⟨[.ref l, .ref b, rawInt i, rawInt 0], []⟩)
      (fun _ R s => s.heap.get? l = some { cls := .type "list", dict := dd, data := .seq ia n, slots := sl } ∧ s.heap.get? b = some { cls := .type "list", dict := dd2, data := .seq ib n2, slots := sl2 } ∧
        R (.ok (.ret (.bool (HT.lexLt (ns.drop i) (ms.drop i))))) s) := by
    intro i h1 h2 h3 prog w A R s h
    obtain ⟨hp, g, d, tk, os⟩ := s
    obtain ⟨ga, gb, h⟩ := h
    rw [ends i h1 h2 h3] at h
    wp_walk using wpAny_loadPart' ga, wpAny_loadPart' gb
    by_cases c : i = ia.size
    · have i1 : ia[((i : Nat) : Int).toNat]? = none := by simp; omega
      rw [i1]
      cases q : ib[((i : Nat) : Int).toNat]? with
      | none =>
        wp_walk using wpAny_loadPart' ga, wpAny_loadPart' gb
        exact h
      | some v =>
        wp_walk using wpAny_loadPart' ga, wpAny_loadPart' gb
        exact h
    · have c2 : i = ib.size := h3.resolve_left c
      have i1 : ia[((i : Nat) : Int).toNat]? = some (ia[i]'(by omega)) := by first | (simp; done) | (simp; omega)
      have i2 : ib[((i : Nat) : Int).toNat]? = none := by simp; omega
      rw [i1, i2]
      wp_walk using wpAny_loadPart' ga, wpAny_loadPart' gb
      exact h
  induction k with
  | zero => intro i hk h1 h2; exact stop i h1 h2 (.inl (by omega))
  | succ k ih =>
    intro i hk h1 h2
    by_cases c : i = ib.size
    · exact stop i h1 h2 (.inr c)
    intro prog w A R s h
    obtain ⟨hp, g, d, tk, os⟩ := s
    obtain ⟨ga, gb, h⟩ := h
    have lt1 : i < ia.size := by omega
    have lt2 : i < ib.size := by omega
    obtain ⟨p, hp1⟩ : ∃ p, ns[i]? = some p := ⟨_, List.getElem?_eq_getElem (by omega)⟩
    obtain ⟨q, hq1⟩ : ∃ q, ms[i]? = some q := ⟨_, List.getElem?_eq_getElem (by omega)⟩
    obtain ⟨t, e1⟩ := ints_at hi hp1
    obtain ⟨u, e2⟩ := ints_at hj hq1
    have i1 : ia[((i : Nat) : Int).toNat]? = some (.int p t) := by simpa using e1
    have i2 : ib[((i : Nat) : Int).toNat]? = some (.int q u) := by simpa using e2
    have d1 : ns.drop i = p :: ns.drop (i + 1) := by
      obtain ⟨hl, e⟩ := List.getElem?_eq_some_iff.mp hp1
      rw [List.drop_eq_getElem_cons hl, e]
    have d2 : ms.drop i = q :: ms.drop (i + 1) := by
      obtain ⟨hl, e⟩ := List.getElem?_eq_some_iff.mp hq1
      rw [List.drop_eq_getElem_cons hl, e]
    rw [d1, d2, HT.lexLt_cons] at h
    have hc : ((i : Int) + 1) = ((i + 1 : Nat) : Int) := by push_cast; rfl
    wp_walk using wpAny_loadPart' ga, wpAny_loadPart' gb
    rw [i1, i2]
    obtain ⟨e, he, hiff⟩ := HT.eqAt_int A.in1 ⟨hp, g, d, tk, os⟩ p t q u
    refine wpAny_bind (he prog w _ _ ?_)
    cases e with
    | true =>
      rw [if_pos (hiff.mp rfl)] at h
      wp_walk
      rw [hc]
      exact ⟨plainId_quiet plain_eq_loop _, codeAny_builtin entry_eq_loop (by
        rw [Around.under_plainId plain_eq_loop _]
        exact ih (i + 1) (by omega) (by omega) (by omega) prog w A R _ ⟨ga, gb, h⟩)⟩
    | false =>
      rw [if_neg (fun z => absurd (hiff.mpr z) Bool.false_ne_true)] at h
      have hri := HT.rcLt_int A.in1 ⟨hp, g, d, tk, os⟩ p t q u prog w
      wp_walk using wpAny_loadPart' ga, wpAny_loadPart' gb
      rw [i1, i2]
      wp_walk using hri
      exact h
theorem list_ltI (l b : Addr) (ia ib : Array Value) (n n2 : Nat) (dd dd2 : Option Addr) (sl sl2 : Array (Option Value)) (ns ms : List Int) (hi : IntsAre ia.toList ns) (hj : IntsAre ib.toList ms) :
    Meets (Builtin.«list.__lt__» ⟨[.ref l, .ref b], []⟩)
      (fun _ R s => s.heap.get? l = some { cls := .type "list", dict := dd, data := .seq ia n, slots := sl } ∧ s.heap.get? b = some { cls := .type "list", dict := dd2, data := .seq ib n2, slots := sl2 } ∧ R (.ok (.ret (.bool (HT.lexLt ns ms)))) s) := by
  intro prog w A R s h
  obtain ⟨hp, g, d, tk, os⟩ := s
  obtain ⟨ga, gb, h⟩ := h
  have e3 := AutoSeq1.sub_list_list
  wp_walk using wpAny_loadPart' ga, wpAny_loadPart' gb
  exact ⟨plainId_quiet plain_eq_loop _, codeAny_builtin entry_eq_loop (by
    rw [Around.under_plainId plain_eq_loop _]
    exact lt_loopI l b ia ib n n2 dd dd2 sl sl2 ns ms hi hj _ 0 rfl (Nat.zero_le _) (Nat.zero_le _) prog w A R _ ⟨ga, gb, h⟩)⟩
theorem rcLt_list {A : Around} {s : Shared} {l b : Addr} {ia ib : Array Value} {ns ms : List Int} (hl : s.heap.IsList l ia) (hb : s.heap.IsList b ib) (hi : IntsAre ia.toList ns) (hj : IntsAre ib.toList ms) (hu : A.units < cLine)
    (prog : Program) (w : World) (E : Value → Shared → Prop) (Q : Value → Shared → Prop) (h : Q (.bool (HT.lexLt ns ms)) s) : wpAny (model prog w) A (richCompare .Lt (.ref l) (.ref b)) Q E s := by
  obtain ⟨⟨c1, d1, a1, s1⟩, ho, hc, n, hd⟩ := hl
  obtain ⟨⟨c2, d2, a2, s2⟩, ho2, hc2, n2, hd2⟩ := hb
  dsimp only at hc hd hc2 hd2
  subst hc hd hc2 hd2
  exact richCompare_meets_room (op := .Lt) ⟨_, ho, rfl⟩ ⟨_, ho2, rfl⟩ PySem.F.slot_list_lt PySem.F.entry_list_lt (PySem.F.args_list_lt_2 _ _) (list_ltI l b ia ib n n2 d1 d2 s1 s2 ns ms hi hj)
    ⟨ho, ho2, show Value.bool (HT.lexLt ns ms) ≠ Value.notImplemented ∧ Q (.bool (HT.lexLt ns ms)) s from ⟨(fun x => nomatch x), h⟩⟩ hu
inductive LtRes (A : Around) (s : Shared) : List Value → List Value → Bool → Prop where
  | nn : LtRes A s [] [] false
  | nc {x : Value} {r : List Value} : LtRes A s [] (x :: r) true
  | cn {x : Value} {r : List Value} : LtRes A s (x :: r) [] false
  | eq {x y : Value} {r t : List Value} {b : Bool} : SeqAt.EqAt A s x y true → LtRes A s r t b → LtRes A s (x :: r) (y :: t) b
  | lt {x y : Value} {r t : List Value} {b : Bool} : SeqAt.EqAt A s x y false → (∀ (prog : Program) (w : World) (E : Value → Shared → Prop) (Q : Value → Shared → Prop), Q (.bool b) s → wpAny (model prog w) A (richCompare .Lt x y) Q E s) → LtRes A s (x :: r) (y :: t) b
theorem tuple_ltR (l b : Addr) (ia ib : Array Value) (n n2 : Nat) (dd dd2 : Option Addr) (sl sl2 : Array (Option Value)) (res : Bool) :
    Meets (Builtin.«tuple.__lt__» ⟨[.ref l, .ref b], []⟩)
      (fun A R s => s.heap.get? l = some { cls := .type "tuple", dict := dd, data := .seq ia n, slots := sl } ∧ s.heap.get? b = some { cls := .type "tuple", dict := dd2, data := .seq ib n2, slots := sl2 } ∧
        LtRes A.in1 s ia.toList ib.toList res ∧ R (.ok (.ret (.bool res))) s) :=
  .of_wp fun prog w A R s h => by
    obtain ⟨hp, g, d, tk, os⟩ := s
    obtain ⟨ga, gb, hL, h⟩ := h
    have f2 := AutoSeq1.sub_tuple_tuple
    wp_walk using wpAny_loadPart' ga, wpAny_loadPart' gb, wpAny_forIn_list _ (fun rest b s' => b.1 = none ∧ s' = ⟨hp, g, d, tk, os⟩ ∧ ∃ (vs ws : List Value), rest = vs.zip ws ∧ vs.length + ib.size = ws.length + ia.size ∧ LtRes A.in1 ⟨hp, g, d, tk, os⟩ vs ws res) _
    case turn =>
      rintro ⟨y, x⟩ rest b s' ⟨hb', rfl, vs, ws, hz, hlen, hR⟩
      cases hR with
      | nn => cases hz
      | nc => cases hz
      | cn => rw [List.zip_nil_right] at hz; cases hz
      | eq he hR =>
        rw [List.zip_cons_cons] at hz
        injection hz with hyx hrest
        injection hyx with hy hx
        subst hy hx
        simp only [List.length_cons] at hlen
        refine wpAny_bind (he prog w _ _ ?_)
        wp_walk
        exact ⟨rfl, rfl, _, _, hrest, by omega, hR⟩
      | lt he hlt =>
        rw [List.zip_cons_cons] at hz
        injection hz with hyx hrest
        injection hyx with hy hx
        subst hy hx
        refine wpAny_bind (he prog w _ _ ?_)
        have hri := hlt prog w
        wp_walk using hri
        exact ⟨_, rfl, by simpa using h⟩
    case fin =>
      rintro ⟨b1, b2⟩ s' ⟨hb', rfl, vs, ws, hz, hlen, hR⟩
      simp only at hb'
      subst hb'
      have hv : res = decide (ia.size < ib.size) := by
        cases hR with
        | nn => simp only [List.length_nil] at hlen; exact (decide_eq_false (by omega)).symm
        | nc => simp only [List.length_nil, List.length_cons] at hlen; exact (decide_eq_true (by omega)).symm
        | cn => simp only [List.length_nil, List.length_cons] at hlen; exact (decide_eq_false (by omega)).symm
        | eq _ _ => rw [List.zip_cons_cons] at hz; cases hz
        | lt _ _ => rw [List.zip_cons_cons] at hz; cases hz
      rw [hv] at h
      wp_walk
      exact ⟨_, rfl, by simpa [Builtin.Tuple.tupleCompareSizes] using h⟩
    case h =>
      exact ⟨rfl, rfl, ia.toList, ib.toList, rfl, by simp; omega, hL⟩
end
section
variable {X : Cx}
theorem lexLt_self : ∀ ns : List Int, HT.lexLt ns ns = false
  | [] => rfl
  | n :: ns => by rw [HT.lexLt_cons, if_pos rfl]; exact lexLt_self ns
end
end L2
set_option Elab.async false
set_option linter.all false
set_option maxRecDepth 100000
namespace My
open PySem L2 PyProof.Rows
seal L2.PSs L2.PS L2.PE L2.PT L2.PW L2.PA L2.PG L2.PGs L2.PI L2.PTs L2.PO L2.OpR L2.UnR L2.CallR L2.IxR L2.SlR
section
variable {K : PySem.W.Frag}
theorem cut_from {xs : List V} {k : Int} (h0 : 0 ≤ k) (h : k ≤ (xs.length : Int)) : cutV xs (some k) none = xs.drop k.toNat := by
  obtain ⟨n, rfl⟩ : ∃ n : Nat, k = (n : Int) := ⟨k.toNat, by omega⟩
  unfold cutV
  rw [HT.sIx_nat, HT.sIx_none, Nat.min_eq_left (by omega), Int.toNat_natCast, List.take_of_length_le (by rw [List.length_drop]; exact Nat.le_refl _)]
theorem boot_sorted : bootBuiltins "sorted" = some (.builtin "sorted") := by decide +kernel
end
end My
namespace L2
open PySem PyProof.Rows
section
variable {X : Cx} (K : PySem.W.Frag)
end
end L2
set_option Elab.async false
set_option linter.all false
set_option maxRecDepth 100000
namespace L2
open PySem PySem.Spec PyProof.Rows
structure Moved (h h' : Heap) (fr ch : List Addr) : Prop where
  keep : ∀ b o, h.get? b = some o → b ∉ fr → b ∉ ch → h'.get? b = some o
  slot : ∀ b o, h.get? b = some o → b ∈ fr → b ∉ ch → ∃ sl, h'.get? b = some { o with slots := sl }
theorem Moved.any {h h' : Heap} {fr ch : List Addr} (m : Moved h h' fr ch) {b : Addr} {o : Obj} (e : h.get? b = some o) (n : b ∉ ch) : ∃ sl, h'.get? b = some { o with slots := sl } := by
  by_cases hb : b ∈ fr
  · exact m.slot b o e hb n
  · exact ⟨o.slots, m.keep b o e hb n⟩
theorem Moved.trans {h h1 h2 : Heap} {fr fr' c1 c2 ch : List Addr} (a : Moved h h1 fr c1) (b : Moved h1 h2 fr' c2) (h1' : ∀ x ∈ fr', x ∈ fr) (hc1 : ∀ x ∈ c1, x ∈ ch) (hc2 : ∀ x o, h.get? x = some o → x ∈ c2 → x ∈ ch) : Moved h h2 fr ch where
  keep := fun x o e hx hn => b.keep x o (a.keep x o e hx fun z => hn (hc1 x z)) (fun z => hx (h1' x z)) fun z => hn (hc2 x o e z)
  slot := fun x o e hx hn => by
    obtain ⟨sl, e1⟩ := a.slot x o e hx fun z => hn (hc1 x z)
    obtain ⟨sl', e2⟩ := b.any e1 fun z => hn (hc2 x o e z)
    exact ⟨sl', e2⟩
def Exc (h : Heap) (e : Addr) (cls : Value) (dct : Option Addr) (T : Addr) (fl : Value) : Prop :=
  ∃ oe vs oT ts, h.get? e = some oe ∧ oe.cls = cls ∧ oe.dict = dct ∧ oe.data = .fields vs ∧ vs[1]? = some (.ref T) ∧ T ≠ e ∧ h.get? T = some oT ∧ oT.data = .fields ts ∧ ts[3]? = some fl
def ExcN (h : Heap) (e : Addr) (cls : Value) (dct : Option Addr) : Prop :=
  ∃ oe vs, h.get? e = some oe ∧ oe.cls = cls ∧ oe.dict = dct ∧ oe.data = .fields vs ∧ vs[1]? = some Value.none
theorem mapF_data {o : Obj} {vs : Array Value} {f : Array Value → Array Value} (h : o.data = .fields vs) : (Obj.mapFields f o).data = .fields (f vs) := Obj.data_mapFields h f
theorem mapF_cls (f : Array Value → Array Value) : ∀ o : Obj, (Obj.mapFields f o).cls = o.cls
  | ⟨_, _, d, _⟩ => by cases d <;> rfl
theorem mapF_dict (f : Array Value → Array Value) : ∀ o : Obj, (Obj.mapFields f o).dict = o.dict
  | ⟨_, _, d, _⟩ => by cases d <;> rfl
theorem upd_at {h : Heap} {a : Addr} {o : Obj} {vs : Array Value} {f : Array Value → Array Value} (e : h.get? a = some o) (d : o.data = .fields vs) : (h.update a (Obj.mapFields f)).get? a = some (Obj.mapFields f o) :=
  Heap.get?_update_self _ e (Obj.isFreed_of_fields (mapF_data d))
section
variable {M : Model} {A : Around} {E : Value → Shared → Prop} {s : Shared} {env : Env} {outer : List Env} {base : Heap} {L e T : Addr} {cls : Value} {dct : Option Addr} {fl : Value} {Q : Unit → Shared → Prop}
theorem st_entry {oe : Obj} {vs : Array Value} {head : Value} {had : Bool} (hfr : A.frames = some (env :: outer)) (hl : s.heap.FunFrames base (env :: outer)) (hf : env.frame = some L)
    (he : s.heap.get? e = some oe) (hd : oe.data = .fields vs) (hz : 1 < vs.size)
    (q : ∀ h', Moved s.heap h' (frs (env :: outer)) [e] → Exc h' e oe.cls oe.dict s.heap.objs.size (rawInt L) → Q () { s with heap := h' }) :
    wpAny M A (do let x ← frameOf env; let pl ← entryPlaceOf L had; let y ← EntryCells.newEntry head x .none (rawInt L) .none pl; setField (.ref e) 1 y) Q E s := by
  have nfr : e ∉ frs (env :: outer) := fun z => by
    obtain ⟨_, o, ho, hn⟩ := hl.mem z
    rw [he] at ho; cases ho
    exact hn vs hd
  refine wpAny_bind (wpAny_frameOf_fun hfr hl hf fun g1 k1 => ?_)
  obtain ⟨ksz, kk, ks⟩ := k1
  refine wpAny_bind (wpAny_entryPlaceOf fun pl hp => ?_)
  unfold EntryCells.newEntry newFields
  refine wpAny_bind (wpAny_newObj_type ?_ (hp.sizeOk5 _ _ _ _ _))
  have e1 : g1.get? e = some oe := (kk e nfr).trans he
  have hlt : e < g1.objs.size := Heap.lt_size e1
  have e2 := Heap.get?_push_of_some (h := g1) { cls := .type "traceback", dict := none, data := .fields ([head, .ref L, .none, rawInt L, .none] ++ (if pl.isEmpty then List.replicate 6 Value.none else pl)).toArray } e1
  have t2 := Heap.get?_push_size g1 (o := { cls := .type "traceback", dict := none, data := .fields ([head, .ref L, .none, rawInt L, .none] ++ (if pl.isEmpty then List.replicate 6 Value.none else pl)).toArray }) rfl
  refine wpAny_setField e2 hd hz (q _ ⟨fun b o hb hn hc => ?_, fun b o hb hn hc => ?_⟩ ?_)
  · rw [Heap.get?_update_other _ _ (fun z => hc (by simp [z]))]
    exact Heap.get?_push_of_some _ ((kk b hn).trans hb)
  · obtain ⟨sl, z⟩ := ks b o hb
    refine ⟨sl, ?_⟩
    rw [Heap.get?_update_other _ _ (fun z => hc (by simp [z]))]
    exact Heap.get?_push_of_some _ z
  · rw [← ksz]
    refine ⟨_, _, _, _, upd_at e2 hd, mapF_cls _ _, mapF_dict _ _, mapF_data hd, by simp [hz], Nat.ne_of_gt hlt, (Heap.get?_update_other _ _ (Nat.ne_of_lt hlt)).trans t2, rfl, ?_⟩
    simp
theorem vs_lt {vs : Array Value} {i : Nat} {x : Value} (h : vs[i]? = some x) : i < vs.size := (Array.getElem?_eq_some_iff.mp h).1
theorem st_first (hfr : A.frames = some (env :: outer)) (hl : s.heap.FunFrames base (env :: outer)) (hf : env.frame = some L) (x : ExcN s.heap e cls dct)
    (q : ∀ h', Moved s.heap h' (frs (env :: outer)) [e] → Exc h' e cls dct s.heap.objs.size (rawInt L) → Q () { s with heap := h' }) : wpAny M A (noteFrame (.ref e) env) Q E s := by
  obtain ⟨oe, vs, he, rfl, rfl, hd, h1⟩ := x
  unfold noteFrame
  simp only [hf]
  refine wpAny_bind (wpAny_field he hd h1 ?_)
  rw [if_neg (by decide)]
  exact st_entry hfr hl hf he hd (vs_lt h1) q
theorem st_next (hfr : A.frames = some (env :: outer)) (hl : s.heap.FunFrames base (env :: outer)) (hf : env.frame = some L) (x : Exc s.heap e cls dct T .none)
    (q : ∀ h', Moved s.heap h' (frs (env :: outer)) [e, T] → Exc h' e cls dct s.heap.objs.size (rawInt L) → Q () { s with heap := h' }) : wpAny M A (noteFrame (.ref e) env) Q E s := by
  obtain ⟨oe, vs, oT, ts, he, rfl, rfl, hd, h1, hne, hT, hdT, h3⟩ := x
  unfold noteFrame
  simp only [hf]
  refine wpAny_bind (wpAny_field he hd h1 ?_)
  rw [if_pos (by simp)]
  refine wpAny_bind (wpAny_field hT hdT h3 ?_)
  rw [if_neg (by simp [rawInt])]
  refine wpAny_bind (wpAny_setField hT hdT (vs_lt h3) ?_)
  have oth : ∀ b, b ≠ T → (s.heap.update T (Obj.mapFields fun z => z.setIfInBounds 3 Value.none)).get? b = s.heap.get? b := fun b hb => Heap.get?_update_other _ _ (Ne.symm hb)
  have hsz : (s.heap.update T (Obj.mapFields fun z => z.setIfInBounds 3 Value.none)).objs.size = s.heap.objs.size := by simp [Heap.update]
  have nT : T ∉ frs (env :: outer) := fun z => by
    obtain ⟨_, o, ho, hn⟩ := hl.mem z
    rw [hT] at ho; cases ho
    exact hn ts hdT
  refine st_entry hfr (hl.of_keeps fun b o hb hn => ⟨o, (oth b fun z => by rw [z, hT] at hb; cases hb; exact hn ts hdT).trans hb, rfl⟩) hf ((oth e (Ne.symm hne)).trans he) hd (vs_lt h1) fun h' mv ex => q h' ⟨fun b o hb hn hc => ?_, fun b o hb hn hc => ?_⟩ (by rw [hsz] at ex; exact ex)
  · exact mv.keep b o ((oth b fun z => hc (by simp [z])).trans hb) hn fun z => hc (List.mem_cons.mpr (.inl (by simpa using z)))
  · exact mv.slot b o ((oth b fun z => hc (by simp [z])).trans hb) hn fun z => hc (List.mem_cons.mpr (.inl (by simpa using z)))
theorem st_land (x : Exc s.heap e cls dct T fl) (q : ∀ h', Moved s.heap h' [] [T] → h'.objs.size = s.heap.objs.size → Exc h' e cls dct T .none → Q () { s with heap := h' }) : wpAny M A (setFlight (.ref e) none) Q E s := by
  obtain ⟨oe, vs, oT, ts, he, rfl, rfl, hd, h1, hne, hT, hdT, h3⟩ := x
  unfold setFlight
  refine wpAny_bind (wpAny_field he hd h1 ?_)
  rw [if_pos (by simp)]
  refine wpAny_setField hT hdT (vs_lt h3) (q _ ⟨fun b o hb _ hc => ?_, fun b o _ hn _ => nomatch hn⟩ (by simp [Heap.update]) ?_)
  · rw [Heap.get?_update_other _ _ (fun z => hc (by simp [z]))]
    exact hb
  · refine ⟨oe, vs, _, _, (Heap.get?_update_other _ _ hne).trans he, rfl, rfl, hd, h1, hne, upd_at hT hdT, mapF_data hdT, ?_⟩
    simp [vs_lt h3]
theorem st_leave (hfr : A.frames = some (env :: outer)) (hl : s.heap.FunFrames base (env :: outer)) (hf : env.frame = some L) (x : Exc s.heap e cls dct T .none)
    (q : ∀ h', Moved s.heap h' (frs (env :: outer)) [e, T] → Exc h' e cls dct s.heap.objs.size .none → Q () { s with heap := h' }) : wpAny M A (leaving env (.ref e)) Q E s := by
  unfold leaving
  refine wpAny_bind (st_next hfr hl hf x fun h1 m1 x1 => st_land (s := { s with heap := h1 }) x1 fun h2 m2 _ x2 => q h2 ?_ x2)
  exact m1.trans m2 (fun _ z => nomatch z) (fun _ z => z) fun b o hb z => by
    have : b = s.heap.objs.size := by simpa using z
    exact absurd (Heap.lt_size hb) (by rw [this]; exact Nat.lt_irrefl _)
theorem st_leaveN (hfr : A.frames = some (env :: outer)) (hl : s.heap.FunFrames base (env :: outer)) (hf : env.frame = some L) (x : ExcN s.heap e cls dct)
    (q : ∀ h', Moved s.heap h' (frs (env :: outer)) [e] → Exc h' e cls dct s.heap.objs.size .none → Q () { s with heap := h' }) : wpAny M A (leaving env (.ref e)) Q E s := by
  unfold leaving
  refine wpAny_bind (st_first hfr hl hf x fun h1 m1 x1 => st_land (s := { s with heap := h1 }) x1 fun h2 m2 _ x2 => q h2 ?_ x2)
  exact m1.trans m2 (fun _ z => nomatch z) (fun _ z => z) fun b o hb z => by
    have : b = s.heap.objs.size := by simpa using z
    exact absurd (Heap.lt_size hb) (by rw [this]; exact Nat.lt_irrefl _)
theorem st_look (hfr : A.frames = some (env :: outer)) (hl : s.heap.FunFrames base (env :: outer)) (hf : env.frame = some L) (x : Exc s.heap e cls dct T .none)
    (q : ∀ h', Moved s.heap h' (frs (env :: outer)) [e, T] → Exc h' e cls dct s.heap.objs.size .none → Q () { s with heap := h' }) :
    wpAny M A (noteFrame (.ref e) env) (fun _ s1 => wpAny M A (setFlight (.ref e) none) Q E s1) E s :=
  st_next hfr hl hf x fun h1 m1 x1 => st_land (s := { s with heap := h1 }) x1 fun h2 m2 _ x2 => q h2 (m1.trans m2 (fun _ z => nomatch z) (fun _ z => z) fun b o hb z => by
    have : b = s.heap.objs.size := by simpa using z
    exact absurd (Heap.lt_size hb) (by rw [this]; exact Nat.lt_irrefl _)) x2
end
end L2
set_option Elab.async false
set_option linter.all false
set_option maxRecDepth 100000
namespace L2
open PySem PySem.Spec PyProof.Rows
def CXX (P : Program) (w : World) : CXT := fun outer H s E e s' =>
  ∃ ea T cls dct H', e = Value.ref ea ∧ s'.os = s.os ∧ AllBare s'.gens ∧ Un (frs outer) [] H H' s.heap s'.heap ∧ HOk P w H' s'.heap ∧ Exc s'.heap ea cls dct T .none ∧ H' ea = none ∧ H' T = none ∧ s.heap.get? ea = none ∧ s.heap.get? T = none ∧ E cls dct H'
abbrev XR := Value → Option Addr → St → Hp → Prop
def Takes (X : Cx) (R : XR) : Prop :=
  ∀ (pins : List (Addr × Obj)) (σ : St) (H : Hp) (s s' : Shared) (ea T : Addr) (cls : Value) (dct : Option Addr) (H' : Hp), Inv X pins σ H s → s'.os = s.os → AllBare s'.gens → Un (frs X.stack) [] H H' s.heap s'.heap → HOk X.prog X.w H' s'.heap →
    Exc s'.heap ea cls dct T .none → H' ea = none → H' T = none → s.heap.get? ea = none → s.heap.get? T = none → R cls dct σ H' → X.xe (.ref ea) s'
def Raises (X : Cx) (R : XR) : Prop :=
  ∀ (pins : List (Addr × Obj)) (σ : St) (H : Hp) (s : Shared) (ea : Addr) (cls : Value) (dct : Option Addr), Inv X pins σ H s → ExcN s.heap ea cls dct → H ea = none → X.s₀.heap.get? ea = none → R cls dct σ H → X.xe (.ref ea) s
theorem ObjOk.there {P : Program} {w : World} {H : Hp} {h : Heap} {a : Addr} {o : HO} (x : ObjOk P w H h a o) : ∃ ob, h.get? a = some ob := by
  cases o with
  | lst xs => obtain ⟨_, _, _, _, e⟩ := x; exact ⟨_, e⟩
  | tup xs => obtain ⟨_, _, _, o, e, _⟩ := x; exact ⟨_, e⟩
  | dK kvs => obtain ⟨_, _, _, _, o, _, _, e, _⟩ := x; exact ⟨_, e⟩
  | dT kvs => obtain ⟨_, _, _, _, o, _, _, e, _⟩ := x; exact ⟨_, e⟩
  | set S n => obtain ⟨o, _, _, _, e, _⟩ := x; exact ⟨_, e⟩
  | ins C dx fs => obtain ⟨_, _, _, e, _⟩ := x; exact ⟨_, e⟩
  | own y => exact x
  | xd fs => obtain ⟨_, ⟨_, _, _, e, _⟩, _⟩ := x; exact ⟨_, e⟩
  | rng lo hi => obtain ⟨_, _, _, e⟩ := x; exact ⟨_, e⟩
  | frz o u => exact ⟨_, x.1⟩
  | tbl ps => exact ⟨_, x⟩
  | met f y => exact ⟨_, x⟩
  | ext φ => exact x.2.1
theorem HOk.untracked {P : Program} {w : World} {H : Hp} {h : Heap} {a : Addr} (x : HOk P w H h) (e : h.get? a = none) : H a = none := by
  cases q : H a with
  | none => rfl
  | some o =>
    obtain ⟨ob, z⟩ := (x a o q).there
    rw [e] at z; cases z
section
variable {P : Program} {w : World} {K : PySem.W.Frag} {mg : Str → Option Value} {base : Heap} {N : List Str} {qual : Str} {scope : Scope} {f : Addr} {cd : Value} {A : Around} {outer : List Env} {s0 : Shared} {H0 : Hp} {E : XK}
theorem left_cx {pins : List (Addr × Obj)} {σ : St} {H : Hp} {s : Shared} {h' : Heap} {ea : Addr} {cls : Value} {dct : Option Addr} {ch : List Addr} (I : Inv (cxOf (CXX P w) P w K mg base N qual scope f cd A outer s0 H0 E) pins σ H s)
    (mv : Moved s.heap h' (frs (envOfC qual scope s0.heap.objs.size f cd :: outer)) ch) (hch : ∀ b ∈ ch, H b = none ∧ s0.heap.get? b = none) (ex : Exc h' ea cls dct s.heap.objs.size .none) (hHe : H ea = none) (f0 : s0.heap.get? ea = none) (hE : E cls dct H) :
    CXX P w outer H0 s0 E (.ref ea) { s with heap := h' } := by
  have nch : ∀ b o, s0.heap.get? b = some o → b ∉ ch := fun b o e z => by rw [(hch b z).2] at e; cases e
  have nst : ∀ b o, s0.heap.get? b = some o → b ∉ frs outer → b ∉ frs (envOfC qual scope s0.heap.objs.size f cd :: outer) := fun b o e hb z => by
    rcases List.mem_cons.mp (I.stkSub b z) with q | q
    · exact absurd (Heap.lt_size e) (by rw [q]; exact Nat.not_lt.mpr I.ok.above)
    · exact hb q
  refine ⟨ea, _, cls, dct, H, rfl, I.os, I.bare, ⟨fun b o e n hb hx => ?_, fun b o e n hb hx => ?_, fun b o e n hx => I.base.free b o e n hx, fun b o e hx => ?_, I.base.tups, I.base.frzs, I.base.tbls⟩, fun b u q => ?_, ex, hHe, I.hok.fresh (Nat.le_refl _), f0, Heap.get?_none_of_le I.sz, hE⟩
  · exact mv.keep b o (I.base.keep b o e n hb hx) (nst b o e hb) (nch b o e)
  · obtain ⟨sl, k⟩ := I.base.slot b o e n hb hx
    obtain ⟨sl', k'⟩ := mv.any k (nch b o e)
    exact ⟨sl', k'⟩
  · obtain ⟨o', k⟩ := I.base.there b o e hx
    obtain ⟨sl, k'⟩ := mv.any k (nch b o e)
    exact ⟨_, k'⟩
  · refine (I.hok b u q).stay (fun c v hc r => mv.keep c v r (fun z => ?_) fun z => ?_) (fun _ q => q) fun _ _ q => q
    · have := I.stkFree c z
      rcases hc with rfl | hc
      · rw [q] at this; cases this
      · rw [hc] at this; cases this
    · have := (hch c z).1
      rcases hc with rfl | hc
      · rw [q] at this; cases this
      · rw [hc] at this; cases this
theorem takes_cx : Takes (cxOf (CXX P w) P w K mg base N qual scope f cd A outer s0 H0 E) (fun c d _ H => E c d H) := by
  intro pins σ H s s' ea T cls dct H' I os bare un hok ex hHe hHT ne nT hE
  have I' : Inv (cxOf (CXX P w) P w K mg base N qual scope f cd A outer s0 H0 E) pins σ H' s' := I.call' os un hok bare (fun b z => absurd z (by simp))
  have fr : ∀ b, s.heap.get? b = none → s0.heap.get? b = none := fun b e => by
    cases q : s0.heap.get? b with
    | none => rfl
    | some o =>
      obtain ⟨o', z⟩ := I.base.there b o q (fun z => nomatch z)
      rw [e] at z; cases z
  show wpAny (model P w) (A.deeper (envOfC qual scope s0.heap.objs.size f cd)) (leaving (envOfC qual scope s0.heap.objs.size f cd) (.ref ea)) _ _ s'
  refine st_leave (base := base) I'.ok.frames I'.stack rfl ex fun h' mv ex' => ?_
  exact left_cx I' mv (fun b z => by
    rcases List.mem_cons.mp z with rfl | z
    · exact ⟨hHe, fr _ ne⟩
    · have : b = T := by simpa using z
      subst this
      exact ⟨hHT, fr _ nT⟩) ex' hHe (fr _ ne) hE
theorem raises_cx : Raises (cxOf (CXX P w) P w K mg base N qual scope f cd A outer s0 H0 E) (fun c d _ H => E c d H) := by
  intro pins σ H s ea cls dct I ex hHe f0 hE
  show wpAny (model P w) (A.deeper (envOfC qual scope s0.heap.objs.size f cd)) (leaving (envOfC qual scope s0.heap.objs.size f cd) (.ref ea)) _ _ s
  refine st_leaveN (base := base) I.ok.frames I.stack rfl ex fun h' mv ex' => ?_
  exact left_cx I mv (fun b z => by
    have : b = ea := by simpa using z
    subst this
    exact ⟨hHe, f0⟩) ex' hHe f0 hE
theorem passes_cx : PassesOwn (model P w) (A.deeper (envOfC qual scope s0.heap.objs.size f cd)) (envOfC qual scope s0.heap.objs.size f cd) (cxOf (CXX P w) P w K mg base N qual scope f cd A outer s0 H0 E).xe := PassesOwn.leaving
theorem Fun.okX {x qual : Str} {st : Stmt} {f : Addr} {fd : FuncData} {N ps : List Str} {k : Nat} {sp : Sp} (F : Fun K x qual st f fd) (S : FnScope N ps (defScope st)) (len : ∀ vs H Q E, sp vs H Q E → vs.length = ps.length)
    (hbody : ∀ (X : Cx) (cdv : Value) (A : Around) (outer : List Env) (s : Shared) (H : Hp) (vs : List V) (Q : VK) (E : XK), X = cxOf (CXX P w) P w K mg base N qual (defScope st) f cdv A outer s H E → Room k (A.deeper (envOfC qual (defScope st) s.heap.objs.size f cdv)) → sp vs H Q E →
      ∃ t, PSs (cxOf (CXX P w) P w K mg base N qual (defScope st) f cdv A outer s H E) (defBody st) t ∧ t { nx := fun _ H' => Q .non H', rt := Q } (start N vs) H) : FnOk P w K mg base (CXX P w) (k + 1) f fd ps sp := by
  obtain ⟨oc, od, kV, doc, pm, an, cdv, ct, osl, rfl, lk, hcd⟩ := F.ex
  exact fn_of lk hcd S len fun A outer s H vs Q E hr hsp => hbody _ cdv A outer s H vs Q E rfl hr hsp
end
section
variable {X : Cx} {R : XR} {k : Nat} {f C : Addr} {fd : FuncData} {ps : List Str} {sp : Sp} {dvs : List V} {ds : List Value} {x : Str} {p pos : Pos} {e : Expr} {es : List Expr} {t : TA}
theorem run_fnX {pins : List (Addr × Obj)} {σ : St} {H : Hp} {s : Shared} {Q : VK} {us : List Value} {vs : List V} (F : FnOk X.prog X.w X.K X.mg X.base (CXX X.prog X.w) k f fd ps sp) (hr : Room k X.A) (hb : Binds X.K fd ps ds) (hd : Vals dvs ds) (hx : Takes X R)
    (I : Inv X pins σ H s) (r : Vals vs us) (h : sp (vs ++ dvs) H Q fun c d H' => R c d σ H') : wpAny (model X.prog X.w) X.A (call (.ref f) us) (EP X pins σ Q) X.xe s := by
  have r2 : Vals (vs ++ dvs) (us ++ ds) := r.append hd
  have hl : (us ++ ds).length = ps.length := by rw [← r2.length]; exact F.len _ _ _ _ h
  refine wpAny_call (codeAny_mono (F.run X.A X.stack s H ⟨us, []⟩ (us ++ ds) (vs ++ dvs) Q _ hr I.env0 (hb s us I.kIn hl) r2 h) fun res s' hq => ?_)
  cases res with
  | error e =>
    obtain ⟨ea, T, cls, dct, H', rfl, os, bare, un, hok, ex, h1, h2, h3, h4, hE⟩ := hq
    exact hx pins σ H s s' ea T cls dct H' I os bare un hok ex h1 h2 h3 h4 hE
  | ok fl =>
    cases fl with
    | ret u => exact I.after hq
    | next => exact False.elim hq
    | brk => exact False.elim hq
    | cont => exact False.elim hq
def tCallX (sp : Sp) (dvs : List V) (R : XR) (t : TA) : TE := fun σ H Q => t σ H fun vs H1 => sp (vs ++ dvs) H1 Q fun c d H' => R c d σ H'
theorem pe_callX (F : FnOk X.prog X.w X.K X.mg X.base (CXX X.prog X.w) k f fd ps sp) (hr : Room k X.A) (hg : Gl X x) (hm : X.mg x = some (.ref f)) (hk : PySem.W.keepIn X.K (.ref f) = true) (hb : Binds X.K fd ps ds) (hd : Vals dvs ds) (hx : Takes X R)
    (ha : PA X (e :: es) t) (hdb : (x == ("__debug__" : Str)) = false := by decide) (he : starEach (e :: es) X.env = (false, eval e X.env) :: starEach es X.env := by rfl) (hpl : (backTo pos (starEach es X.env)).any (·.1) = false := by rfl) :
    PE X (.Call (.Name x p) (e :: es) [] pos) (tCallX sp dvs R t) := by
  intro pins s σ H Q I h
  refine wpAny_Call_Name_kw (ld_glob I hg hm ?_ hdb)
  refine PySem.W.callWith_K (h₀ := X.base) I.ok.mod.kin hk (thn (ha pos pins s σ H _ I h) fun us s1 ⟨vs, H1, I1, r, q⟩ => ⟨I1.kIn, ?_⟩) he hpl
  exact run_fnX F hr hb hd hx I1 r q
abbrev vb : List Value := [.type "ValueError", .type "Exception", .type "BaseException", .type "object"]
abbrev ExcK (K : PySem.W.Frag) (C : Addr) : Prop := PySem.W.excIn K C vb "ValueError.__new__" = true
theorem excK_obj {K : PySem.W.Frag} {h : Heap} {C : Addr} (q : ExcK K C) (X : K.In h) :
    ∃ bm N nm qn bs hd sn sub ab col dd k0 k1 k2 k3 k5, h.get? C = some (excClassObj nm qn C N bs bm hd sn sub ab col dd k0 k1 k2 k3 k5 "ValueError.__new__") ∧ OwnTail h vb bm ∧ h.Ns N (h.nsMap N) ∧ h.nsMap N "__init__" = none := by
  unfold ExcK PySem.W.excIn at q
  split at q
  · next dd cd sl lk =>
    split at q
    · next C1 bm a0 a1 a2 a3 nn a5 em es =>
      simp only [Bool.and_eq_true, beq_iff_eq, Bool.not_eq_true'] at q
      obtain ⟨⟨⟨⟨⟨z1, z2⟩, z3⟩, z4⟩, z5⟩, z6⟩ := q
      have hsl : sl = #[a0, a1, a2, a3, some (.builtin nn), a5] := by
        cases sl
        exact congrArg Array.mk es
      obtain ⟨c1, c2, c3, c4, c5, c6, c7, c8, c9, c10, c11⟩ := cd
      dsimp only at em z3 z5 z6
      rw [z1] at em
      rw [z2] at hsl
      subst em z3 hsl
      exact ⟨bm, c4, c1, c5, c2, c6, c7, c8, c9, c10, dd, a0, a1, a2, a3, a5, X _ _ lk, PySem.W.tail_of_in X z4, .of_isNs (PySem.W.isNs_of_in X z5), PySem.W.nsMap_none_of_in X z5 z6⟩
    · cases q
  · cases q
def tRaise (C : Addr) (R : XR) (t : TA) : TS := fun _ σ H => t σ H fun vs H1 => vs.length ≤ sizeLine ∧ R (.ref C) none σ H1
theorem ps_raise {np : Pos} (hC : ExcK X.K C) (hg : Gl X x) (hm : X.mg x = some (.ref C)) (hc : X.calm = true) (hex : X.ex = []) (hx : Raises X R) (ha : PA X (e :: es) t) (hdb : (x == ("__debug__" : Str)) = false := by decide)
    (he : starEach (e :: es) X.env = (false, eval e X.env) :: starEach es X.env := by rfl) (hpl : (backTo p (starEach es X.env)).any (·.1) = false := by rfl) :
    PS X (.Raise (some (.Call (.Name x np) (e :: es) [] p)) none pos) (tRaise C R t) := by
  intro pins s σ H D I h
  obtain ⟨bm, N, nm, qn, bs, hd, sn, sub, ab, col, dd, k0, k1, k2, k3, k5, o1, T1, n1, i1⟩ := excK_obj hC I.mod.kin
  refine wpAny_Raise_call_subT (nm := nm) (q := qn) (N := N) (bs := bs) (hdct := hd) (sn := sn) (sub := sub) (ab := ab) (col := col) (dd := dd) (k0 := k0) (k1 := k1) (k2 := k2) (k3 := k3) (k5 := k5)
    PySem.F.excBase_ValueError (mN := X.base.nsMap N) (T1.hasType rfl) (I.ok.hd hc) ?_ i1 (ld_glob I hg hm ⟨rfl, ?_⟩ hdb)
  · rw [he]; exact hpl
  · have go := ha p pins s σ H _ I h
    rw [he] at go ⊢
    refine Calls.evalArgs_plain (thn go fun us s1 ⟨vs, H1, I1, r, z, q⟩ => ⟨rfl, by rw [← r.length]; exact z, I1.bk _ _ o1, n1.keeps I1.bk, T1.keeps I1.bk, fun h' ea mk => ?_⟩)
    obtain ⟨tt, m1, _, _⟩ := mk.there
    have f0 : X.s₀.heap.get? ea = none := by
      cases q : X.s₀.heap.get? ea with
      | none => rfl
      | some o =>
        obtain ⟨o', z⟩ := I1.base.there ea o q (by rw [hex]; exact fun z => nomatch z)
        rw [mk.new] at z; cases z
    exact hx pins σ H1 { s1 with heap := h' } ea (.ref C) none (I1.kept (t' := s1.toks) mk.keeps) ⟨_, _, m1, rfl, rfl, rfl, rfl⟩ (I1.hok.untracked mk.new) f0 q
end
end L2
set_option Elab.async false
set_option linter.all false
set_option maxRecDepth 100000
namespace L2
open PySem PySem.Spec PyProof.Rows
def xcO (ea : Addr) (cls : Value) (dct : Option Addr) : HO := .ext fun h => ∃ oe vs, h.get? ea = some oe ∧ oe.cls = cls ∧ oe.dict = dct ∧ oe.data = .fields vs
theorem xcO_ok {P : Program} {w : World} {H : Hp} {h : Heap} {ea T : Addr} {cls fl : Value} {dct : Option Addr} (x : Exc h ea cls dct T fl) : ObjOk P w H h ea (xcO ea cls dct) := by
  obtain ⟨oe, vs, oT, ts, he, h1, h2, hd, _⟩ := x
  exact ⟨⟨oe, vs, he, h1, h2, hd⟩, ⟨oe, he⟩, fun a b ⟨o, v, p, q⟩ k => ⟨o, v, k o p, q⟩⟩
abbrev Cx.caught (X : Cx) (ea : Addr) : Cx := { X with A := X.A.mark (some (.ref ea)), calm := false, xe := fun _ _ => False }
abbrev Cx.tried (X : Cx) (pn : List (Addr × Obj)) (xe : Value → Shared → Prop) : Cx := { X with pn := pn, xe := xe }
section
variable {X : Cx} {pins pn : List (Addr × Obj)} {σ : St} {H : Hp} {s : Shared} {ea : Addr} {xe : Value → Shared → Prop}
theorem Inv.caught (I : Inv X pins σ H s) (ea : Addr) : Inv (X.caught ea) pins σ H s :=
  have ok := I.ok
  ⟨⟨ok.mod, ok.kind, ok.glob, ok.blt, ok.above, ok.inj, ok.has, ok.cab, fun z => (by cases z), ok.frames, ok.stk, ok.exf, ok.bs, ok.bsz, ok.noex, ok.exfs, ok.funs, ok.frf⟩, I.os, I.bare, I.base, I.loc, I.cell, I.free, I.freeC, I.pin, I.hok, I.len⟩
theorem Inv.uncaught (ok : X.Ok) (I : Inv (X.caught ea) pins σ H s) : Inv X pins σ H s := ⟨ok, I.os, I.bare, I.base, I.loc, I.cell, I.free, I.freeC, I.pin, I.hok, I.len⟩
theorem Inv.tried (I : Inv X pins σ H s) : Inv (X.tried (X.pn ++ pins) xe) [] σ H s :=
  have ok := I.ok
  ⟨⟨ok.mod, ok.kind, ok.glob, ok.blt, ok.above, ok.inj, ok.has, ok.cab, ok.hd, ok.frames, ok.stk, ok.exf, ok.bs, ok.bsz, ok.noex, ok.exfs, ok.funs, ok.frf⟩, I.os, I.bare, I.base, I.loc, I.cell, I.free, I.freeC, fun p hp => I.pin p (by simpa using hp), I.hok, I.len⟩
theorem Inv.untried {pins' : List (Addr × Obj)} (I : Inv (X.tried (X.pn ++ pins) xe) pins' σ H s) : Inv X pins σ H s :=
  have ok := I.ok
  ⟨⟨ok.mod, ok.kind, ok.glob, ok.blt, ok.above, ok.inj, ok.has, ok.cab, ok.hd, ok.frames, ok.stk, ok.exf, ok.bs, ok.bsz, ok.noex, ok.exfs, ok.funs, ok.frf⟩, I.os, I.bare, I.base, I.loc, I.cell, I.free, I.freeC, fun p hp => I.pin p (List.mem_append_left _ hp), I.hok, I.len⟩
theorem SP.untried {pins' : List (Addr × Obj)} {D : Ends} {f : Flow} (h : SP (X.tried (X.pn ++ pins) xe) pins' D f s) : SP X pins D f s := by
  cases f with
  | next => obtain ⟨σ', H', I, q⟩ := h; exact ⟨σ', H', I.untried, q⟩
  | brk => obtain ⟨σ', H', I, q⟩ := h; exact ⟨σ', H', I.untried, q⟩
  | cont => obtain ⟨σ', H', I, q⟩ := h; exact ⟨σ', H', I.untried, q⟩
  | ret u => obtain ⟨v, σ', H', I, r, q⟩ := h; exact ⟨v, σ', H', I.untried, r, q⟩
theorem Inv.lost {h' : Heap} {t' : Nat} {m' : Str → Option Value} (I : Inv X pins σ H s) (hn : h'.Ns X.env.locals m') (sm : Heap.SameBut X.env.locals s.heap h') : Inv X pins (σ.map fun _ => none) H { s with heap := h', toks := t' } := by
  have kp : ∀ b o, b ≠ X.env.locals → s.heap.get? b = some o → h'.get? b = some o := fun b o hb e => (sm.2 b hb).trans e
  have neL : ∀ b o, X.s₀.heap.get? b = some o → b ≠ X.env.locals := fun b o e => Nat.ne_of_lt (Nat.lt_of_lt_of_le (Heap.lt_size e) I.ok.above)
  have nT : ∀ b u, H b = some u → b ≠ X.env.locals := fun b u e z => by rw [z, I.free] at e; cases e
  refine ⟨I.ok, I.os, I.bare, ⟨fun b o e n hb hx => kp b o (neL b o e) (I.base.keep b o e n hb hx), fun b o e n hb hx => ?_, I.base.free, fun b o e hx => ?_, I.base.tups, I.base.frzs, I.base.tbls⟩, ⟨m', hn, fun i x v _ e2 _ => ?_⟩, fun x c e => ?_, I.free, I.freeC, fun p hp => ?_, fun b u e => ?_, by rw [List.length_map]; exact I.len⟩
  · obtain ⟨sl, k⟩ := I.base.slot b o e n hb hx
    exact ⟨sl, kp b _ (neL b o e) k⟩
  · obtain ⟨o', k⟩ := I.base.there b o e hx
    exact ⟨o', kp b _ (neL b o e) k⟩
  · rw [List.getElem?_map] at e2
    cases q : σ[i]? with
    | none => rw [q] at e2; cases e2
    | some z => rw [q] at e2; cases e2
  · obtain ⟨v, o, ho, hd⟩ := I.cell x c e
    exact ⟨v, o, kp c o (I.cne x c e) ho, hd⟩
  · obtain ⟨e, n, ne, nf, d⟩ := I.pin p hp
    exact ⟨kp _ _ ne e, n, ne, nf, d⟩
  · exact (I.hok b u e).stay (fun c v hc q => kp c v (by rcases hc with rfl | hc; exact nT _ _ e; exact nT _ _ hc) q) (fun _ q => q) fun _ _ q => q
end
structure Caught (X : Cx) (pins : List (Addr × Obj)) (σ : St) (H : Hp) (ea T : Addr) (cls : Value) (dct : Option Addr) (s : Shared) : Prop where
  inv : Inv X pins σ (upd H ea (xcO ea cls dct)) s
  ex : Exc s.heap ea cls dct T .none
  fp : FpOk X pins (upd H ea (xcO ea cls dct)) T
  un : H ea = none
theorem Caught.again {X : Cx} {pins : List (Addr × Obj)} {σ : St} {H : Hp} {ea T : Addr} {cls : Value} {dct : Option Addr} {s : Shared} {M : Model} {A : Around} {E : Value → Shared → Prop} {Q : Unit → Shared → Prop} (c : Caught X pins σ H ea T cls dct s)
    (q : ∀ h', Caught X pins σ H ea T cls dct { s with heap := h' } → Q () { s with heap := h' }) : wpAny M A (setFlight (.ref ea) none) Q E s :=
  st_land c.ex fun h' mv _ ex => q h' ⟨c.inv.turned (t' := s.toks) (it := T) (fun b o hb e => mv.keep b o e (by simp) (by simpa using hb)) c.fp.1 c.fp.2.1 c.fp.2.2.2.1 c.fp.2.2.2.2.1 c.fp.2.2.2.2.2, ex, c.fp, c.un⟩
abbrev TH := Ends → Value → Option Addr → St → Hp → Prop
def PH (X : Cx) (hs : List ExceptHandler) (t : TH) : Prop :=
  ∀ (pins : List (Addr × Obj)) (s : Shared) (σ : St) (H : Hp) (D : Ends) (ea T : Addr) (cls : Value) (dct : Option Addr), Caught X pins σ H ea T cls dct s → t D cls dct σ H → wpAny (model X.prog X.w) X.A (handleBy (.ref ea) X.env hs) (SP X pins D) X.xe s
section
variable {X : Cx} {C : Addr} {i : Nat} {x n : Str} {np pos : Pos} {b₀ : Stmt} {suite : List Stmt} {rest : List ExceptHandler} {ts : Addr → TS} {tr : TH}
theorem ph_nil : PH X [] (fun _ _ _ _ _ => False) := fun _ _ _ _ _ _ _ _ _ _ h => h.elim
def tAs (K : PySem.W.Frag) (C : Addr) (i : Nat) (ts : Addr → TS) (tr : TH) : TH := fun D cls dct σ H => ∃ b, PySem.W.exmOne K cls (.ref C) = some b ∧
  if b = true then ∀ ea, H ea = none → ts ea { nx := fun _ _ => False, rt := D.rt } (σ.set i (some (.ref ea))) (upd H ea (xcO ea cls dct)) else tr D cls dct σ H
theorem exc_type {M : Model} {h : Heap} {ea T : Addr} {cls fl : Value} {dct : Option Addr} (x : Exc h ea cls dct T fl) : PySem.W.Looks M h (typeOf (.ref ea)) cls := by
  obtain ⟨oe, _, _, _, he, h1, _⟩ := x
  exact h1 ▸ (PySem.W.Looks.ld he).andThen .now
theorem ph_as (hg : Gl X x) (hm : X.mg x = some (.ref C)) (hN : X.N.Nodup) (hi : X.N[i]? = some n) (hl : X.env.scope.names.lookup n = some .local) (hs : ∀ ea, PSs (X.caught ea) (b₀ :: suite) (ts ea)) (hr : PH X rest tr) (hd : (x == ("__debug__" : Str)) = false := by decide) :
    PH X (.ExceptHandler (some (.Name x np)) (some n) (b₀ :: suite) pos :: rest) (tAs X.K C i ts tr) := by
  intro pins s σ H D ea T cls dct c ht
  obtain ⟨b, hx, ht⟩ := ht
  refine wpAny_handleBy_cons (codeAny_handlers_test (ld_glob (X := X.caught ea) (c.inv.caught ea) hg hm ((PySem.W.exm_one c.inv.kIn (exc_type c.ex) hx).here ?_) hd)) (by intro q; cases q)
  cases b with
  | false =>
    rw [if_neg Bool.false_ne_true] at ht
    exact hr pins s σ H D ea T cls dct c ht
  | true =>
    rw [if_pos rfl] at ht
    refine codeAny_handlers_suite_as (c.again fun h1 c1 => ?_)
    refine store_ok (X := X.caught ea) (c1.inv.caught ea) hN hi (.inl hl) (v := .ref ea) rfl (fun s2 I2 => ?_) (.inr hl)
    refine wpAny_mono (hs ea pins s2 _ _ { nx := fun _ _ => False, rt := D.rt } I2 (ht ea c.un)) (fun f s3 q => ?_) fun _ _ z => z.elim
    cases f with
    | next => obtain ⟨_, _, _, q⟩ := q; exact q.elim
    | brk => obtain ⟨_, _, _, q⟩ := q; exact q.elim
    | cont => obtain ⟨_, _, _, q⟩ := q; exact q.elim
    | ret u =>
      obtain ⟨v, σ', H', J, r, q⟩ := q
      have J' := J.uncaught c.inv.ok
      obtain ⟨m, hn, _⟩ := J'.loc
      exact wpAny_nameGoes hl hn (by rw [J'.ok.kind]; rfl) fun h' m' hn' sm => ⟨v, _, H', J'.lost hn' sm, r, q⟩
def tTry (tb : XR → List (Addr × Obj) → (Value → Shared → Prop) → TS) (th : TH) : TS := fun D σ H => ∃ R : XR, (∀ cls dct σ' H', R cls dct σ' H' → th D cls dct σ' H') ∧ ∀ pn xe, tb R pn xe D σ H
theorem ps_try {body : List Stmt} {h₀ : ExceptHandler} {hs : List ExceptHandler} {tb : XR → List (Addr × Obj) → (Value → Shared → Prop) → TS} {th : TH} (hstk : X.stack = X.env :: X.outer) (hfr : X.env.frame = some X.env.locals)
    (hb : ∀ R pn xe, Takes (X.tried pn xe) R → PassesOwn (model X.prog X.w) X.A X.env xe → PSs (X.tried pn xe) body (tb R pn xe)) (hh : PH X (h₀ :: hs) th) : PS X (.Try body (h₀ :: hs) [] [] pos) (tTry tb th) := by
  intro pins s σ H D I h
  obtain ⟨R, h1, h2⟩ := h
  refine wpAny_Try_except ?_
  have tk : Takes (X.tried (X.pn ++ pins) (fun e s₁ => wpAny (model X.prog X.w) X.A (noteFrame e X.env) (fun _ s₂ => wpAny (model X.prog X.w) X.A (setFlight e none) (fun _ s₃ => wpAny (model X.prog X.w) X.A (handleBy e X.env (h₀ :: hs)) (SP X pins D) X.xe s₃) X.xe s₂) X.xe s₁)) R := by
    intro pins' σ' H s s' ea T cls dct H' I os bare un hok ex hHe hHT ne nT hR
    have I0 := I.untried
    have I1 : Inv X pins σ' H' s' := I0.call' os un hok bare (fun b z => absurd z (by simp))
    have nn : ∀ b o, s.heap.get? b = some o → b ∉ [ea, T] := fun b o e z => by
      rcases List.mem_cons.mp z with rfl | z
      · rw [ne] at e; cases e
      · have : b = T := by simpa using z
        rw [this, nT] at e; cases e
    have nH : ∀ b u, H' b = some u → b ≠ ea := fun b u e z => by rw [z, hHe] at e; cases e
    have nT' : ∀ b u, H' b = some u → b ≠ T := fun b u e z => by rw [z, hHT] at e; cases e
    refine st_look (base := X.base) (hstk ▸ I1.ok.frames) (hstk ▸ I1.stack) hfr ex fun h5 mv ex5 => ?_
    rw [← hstk] at mv
    have fe : ea ≠ s'.heap.objs.size := by
      obtain ⟨oe, _, _, _, he, _⟩ := ex
      exact Nat.ne_of_lt (Heap.lt_size he)
    refine hh pins { s' with heap := h5 } σ' H' D ea _ cls dct ⟨?_, ex5, I1.fpOk (Nat.le_refl _) (by rw [upd_ne (Ne.symm fe)]; exact hok.fresh (Nat.le_refl _)), hHe⟩ (h1 _ _ _ _ hR)
    refine I0.call' (s' := { s' with heap := h5 }) (ch := []) os ⟨fun b o e n hb hx => ?_, fun b o e n hb hx => ?_, fun b o e n hx => ?_, fun b o e hx => ?_, fun b xs q => ?_, fun b o u q => ?_, fun b ps q => ?_⟩ (fun b u q => ?_) bare (fun b z => absurd z (by simp))
    · exact mv.keep b o (un.keep b o e n hb hx) hb (nn b o e)
    · obtain ⟨sl, k⟩ := un.slot b o e n hb hx
      obtain ⟨sl', k'⟩ := mv.any k (nn b o e)
      exact ⟨sl', k'⟩
    · rw [upd_ne (fun z => nn b o e (by simp [z]))]
      exact un.free b o e n hx
    · obtain ⟨o', k⟩ := un.there b o e hx
      obtain ⟨sl, k'⟩ := mv.any k (nn b o e)
      exact ⟨_, k'⟩
    · have z := un.tups b xs q
      rw [upd_ne (nH b _ z)]; exact z
    · have z := un.frzs b o u q
      rw [upd_ne (nH b _ z)]; exact z
    · obtain ⟨more, z⟩ := un.tbls b ps q
      exact ⟨more, by rw [upd_ne (nH b _ z)]; exact z⟩
    · by_cases hb : b = ea
      · subst hb
        rw [upd_same] at q; cases q
        exact xcO_ok ex5
      · rw [upd_ne hb] at q
        refine (hok b u q).stay (fun c v hc r => ?_) (fun c r => by rw [upd_ne (nH c _ r)]; exact r) fun c xs r => by rw [upd_ne (nH c _ r)]; exact r
        have hc' : ∃ w, H' c = some w := by
          rcases hc with rfl | hc
          · exact ⟨_, q⟩
          · exact ⟨_, hc⟩
        obtain ⟨w, hw⟩ := hc'
        refine mv.keep c v r (fun z => ?_) fun z => ?_
        · have := I1.stkFree c z
          rw [hw] at this; cases this
        · rcases List.mem_cons.mp z with z | z
          · exact nH c w hw z
          · exact nT' c w hw (by simpa using z)
  refine wpAny_mono (hb R (X.pn ++ pins) _ tk PassesOwn.looking [] s σ H D I.tried (h2 _ _)) (fun f s1 q => ?_) fun e s1 q => q
  cases f with
  | next => exact wpAny_execs_nil q.untried
  | ret v => exact q.untried
  | brk => exact q.untried
  | cont => exact q.untried
end
section
variable {X : Cx}
def PJ (X : Cx) (es : List Expr) (n : Nat) (t : St → Hp → (Hp → Prop) → Prop) : Prop :=
  ∀ (pins : List (Addr × Obj)) (s : Shared) (σ : St) (H : Hp) (out : Str) (Q : VK), Inv X pins σ H s → out.length + n ≤ sizeLine → t σ H (fun H1 => ∀ y, Q (.str y) H1) → wpAny (model X.prog X.w) X.A (joinParts out (evalEach es X.env)) (EP X pins σ Q) X.xe s
theorem pj_nil : PJ X [] 0 (fun _ H R => R H) := fun pins s σ H out Q I hz h => joinParts_nil ⟨.str out, H, I.tok _, ⟨_, rfl⟩, h _⟩ (by simpa using hz)
theorem pj_str {x : Str} {k m n : Nat} {pos : Pos} {es : List Expr} {t : St → Hp → (Hp → Prop) → Prop} (h1 : PJ X es n t) (hk : x.length ≤ m) (he : evalEach (.Constant (.str x) k pos :: es) X.env = eval (.Constant (.str x) k pos) X.env :: evalEach es X.env := by rfl) :
    PJ X (.Constant (.str x) k pos :: es) (m + n) t := by
  intro pins s σ H out Q I hz h
  rw [he]
  have hl : (out ++ x).length = out.length + x.length := strLen_append _ _
  refine joinParts_cons (Calls.Constant_str ⟨by rw [hl]; omega, ?_⟩)
  exact h1 pins _ σ H (out ++ x) Q (I.tok _) (by rw [hl]; omega) h
theorem pj_int {e : Expr} {n : Nat} {pos : Pos} {es : List Expr} {te : TE} {t : St → Hp → (Hp → Prop) → Prop} (h0 : PE X e te) (h1 : PJ X es n t)
    (he : evalEach (.FormattedValue e (-1) none pos :: es) X.env = eval (.FormattedValue e (-1) none pos) X.env :: evalEach es X.env := by rfl) :
    PJ X (.FormattedValue e (-1) none pos :: es) (1002 + n) (fun σ H R => te σ H fun v H1 => ∃ i : Int, v = .int i ∧ i.natAbs ≤ 1000 ∧ t σ H1 R) := by
  intro pins s σ H out Q I hz h
  rw [he]
  refine joinParts_cons (FormattedValue_plain (thn (h0 pins s σ H _ I h) fun v s1 ⟨x, H1, I1, r, i, e1, hi, q⟩ => ?_))
  subst e1
  obtain ⟨tk, rfl⟩ := r
  have hlog : i.natAbs.log2 < 1920 := by
    by_cases z : i.natAbs = 0
    · rw [z]; decide
    · exact Nat.lt_of_lt_of_le ((Nat.log2_lt z).mpr (Nat.lt_of_le_of_lt hi (show 1000 < 2 ^ 10 by decide))) (by decide)
  refine formatField_int_small hlog ?_
  have hl : (out ++ (Str.ofString (toString i))).length = out.length + (Str.ofString (toString i)).length := strLen_append _ _
  have hs := len_str_of_int i
  refine ⟨by rw [hl]; omega, ?_⟩
  exact h1 pins _ σ H1 _ Q (I1.tok _) (by rw [hl]; omega) q
theorem pe_fstr {a b : Expr} {es : List Expr} {n : Nat} {pos : Pos} {t : St → Hp → (Hp → Prop) → Prop} (h : PJ X (a :: b :: es) n t) (hn : n ≤ sizeLine := by decide)
    (he : evalEach (a :: b :: es) X.env = eval a X.env :: eval b X.env :: evalEach es X.env := by rfl) : PE X (.JoinedStr (a :: b :: es) pos) (fun σ H Q => t σ H fun H1 => ∀ y, Q (.str y) H1) := by
  intro pins s σ H Q I hq
  refine JoinedStr_many ?_
  rw [← he]
  exact h pins s σ H Str.empty Q I (by show 0 + n ≤ sizeLine; omega) hq
end
end L2
set_option Elab.async false
set_option linter.all false
set_option maxRecDepth 100000
namespace L2
open PySem PySem.Spec PyProof.Rows
def excOwn (K : PySem.W.Frag) (C fI : Addr) : Bool := match K.lookup C with
  | some ⟨.type "type", _, .cls cd, sl⟩ => (match cd.mro, sl.toList with
    | .ref C1 :: bm, [_, _, _, _, some (.builtin n), _] => C1 == C && (n == "ValueError.__new__" && (!cd.hasDel && (PySem.W.tailIn K vb bm && (PySem.W.nsOkIn K cd.ns && (PySem.W.nsIn K cd.ns "__init__" == some (some (.ref fI)) && cd.hasDict)))))
    | _, _ => false)
  | _ => false
theorem ns_some_of {K : PySem.W.Frag} {h : Heap} {N : Addr} {mg : Str → Option Value} {n : Str} {v : Value} (X : K.In h) (G : h.Ns N mg) (e : PySem.W.nsIn K N n = some (some v)) : mg n = some v := by
  obtain ⟨o, es, ep, ho, hd, _, hf⟩ := G
  unfold PySem.W.nsIn at e
  split at e
  · next q =>
    have z := X _ _ q
    rw [ho] at z
    cases z
    cases hd
    split at e
    · next en he =>
      cases e
      rw [← hf]
      unfold nsFind findBy
      rw [← Array.find?_toList, he]
      rfl
    · split at e <;> cases e
  · cases e
theorem excOwn_obj {K : PySem.W.Frag} {h : Heap} {C fI : Addr} (q : excOwn K C fI = true) (X : K.In h) :
    ∃ bm N nm qn bs hd sn sub ab col dd k0 k1 k2 k3 k5, h.get? C = some (excClassObj nm qn C N bs bm hd sn sub ab col dd k0 k1 k2 k3 k5 "ValueError.__new__") ∧ OwnTail h vb bm ∧ h.Ns N (h.nsMap N) ∧ h.nsMap N "__init__" = some (.ref fI) := by
  unfold excOwn at q
  split at q
  · next dd cd sl lk =>
    split at q
    · next C1 bm a0 a1 a2 a3 nn a5 em es =>
      simp only [Bool.and_eq_true, beq_iff_eq, Bool.not_eq_true'] at q
      obtain ⟨z1, z2, z3, z4, z5, z6, z7⟩ := q
      have hsl : sl = #[a0, a1, a2, a3, some (.builtin nn), a5] := by
        cases sl
        exact congrArg Array.mk es
      obtain ⟨c1, c2, c3, c4, c5, c6, c7, c8, c9, c10, c11⟩ := cd
      dsimp only at em z3 z5 z6
      rw [z1] at em
      rw [z2] at hsl
      subst em z3 hsl
      have hns : h.Ns c4 (h.nsMap c4) := .of_isNs (PySem.W.isNs_of_in X z5)
      exact ⟨bm, c4, c1, c5, c2, c6, c7, c8, c9, c10, dd, a0, a1, a2, a3, a5, X _ _ lk, PySem.W.tail_of_in X z4, hns, ns_some_of X hns z6⟩
    · cases q
  · cases q
section
variable {prog : Program} {w : World} {A : Around} {E : Value → Shared → Prop} {h : Heap} {g : Array GenState} {d : Drawn} {t : Nat} {os : OsState}
variable {nm q : Str} {C N fI e : Addr} {bs bm : List Value} {hdct : Bool} {sn : List Str} {sub : List Value} {ab : Bool} {col : Option Bool} {dd : Option Addr} {k0 k1 k2 k3 k5 : Option Value} {oe : Obj} {vs : Array Value}
theorem init_exc {rest : List Value} {Q : Value → Shared → Prop} (T : OwnTail h vb bm) (oC : h.get? C = some (excClassObj nm q C N bs bm hdct sn sub ab col dd k0 k1 k2 k3 k5 "ValueError.__new__"))
    (he : h.get? e = some oe) (hcls : oe.cls = .ref C) (hd : oe.data = .fields vs) {x0 : Value} (h0 : vs[0]? = some x0) (hrest : rest.length ≤ sizeLine)
    (hq : Q .none ⟨(h.push { cls := .type "tuple", data := .seq rest.toArray }).update e (Obj.mapFields fun z => z.setIfInBounds 0 (.ref h.objs.size)), g, d, t, os⟩) :
    wpAny (model prog w) A (call (.builtin "ValueError.__init__") (.ref e :: rest)) Q E ⟨h, g, d, t, os⟩ := by
  refine wpAny_call (codeAny_call_builtin PySem.F.excBase_ValueError.init.plain PySem.F.excBase_ValueError.initEntry (wpAny_check_init_subT PySem.F.excBase_ValueError T oC he hcls ?_))
  unfold Builtin.«BaseException.__init__»
  refine wpAny_bind (wpAny_newObj_type ?_ hrest)
  unfold Builtin.BaseException.bexcPut
  refine wpAny_bind (wpAny_bind (wpAny_field (Heap.get?_push_of_some _ he) hd h0 (wpAny_bind (wpAny_setField (Heap.get?_push_of_some _ he) hd (vs_lt h0) ?_))))
  cases x0 <;> first
    | exact wpAny_letGo (wpAny_pure hq)
    | exact wpAny_pure (wpAny_pure hq)
end
theorem refuse_tail {h : Heap} (self : Value) {l : List Value} (T : OwnTail h vb l) : PySem.refuseLoop self "__setattr__" l = pure () := by
  induction T with
  | base => kernel_rfl
  | own _ _ _ _ ih => rw [PySem.refuseLoop_ref]; exact ih
section
variable {prog : Program} {w : World} {A : Around} {E : Value → Shared → Prop} {s : Shared} {K : PySem.W.Frag} {x C : Addr} {ox : Obj} {vs : Array Value} {name : Str} {v : Value}
theorem inst_exc {h : Heap} (hx : h.get? x = some ox) (hc : ox.cls = .ref C) (hd : ox.data = .fields vs) (hn : ox.dict = none) : PySem.W.InstAt h x ox C none :=
  ⟨hx, hc, by unfold PySem.W.notCls; rw [hd], by rw [hn]; trivial⟩
theorem inst_exc1 {h : Heap} {dx : Addr} {od : Obj} (hx : h.get? x = some ox) (hc : ox.cls = .ref C) (hd : ox.data = .fields vs) (hn : ox.dict = some dx) (ho : h.get? dx = some od) : PySem.W.InstAt h x ox C (some od) :=
  ⟨hx, hc, by unfold PySem.W.notCls; rw [hd], by rw [hn]; exact ho⟩
structure ExcSet (K : PySem.W.Frag) (C : Addr) (name : Str) : Prop where
  sa : PySem.W.findIn K (.ref C) "__setattr__" = some (some (.builtin "object.__setattr__"))
  ob : PySem.W.mroIn K C (.type "object") = some true
  tk : PySem.W.takerIn K C name = some none
  hd : PySem.W.hasDictIn K C = true
theorem set_exc0 {Q : Unit → Shared → Prop} {h0 : Heap} {bm : List Value} {cd : ClassData} (X : K.In s.heap) (S : ExcSet K C name) (hcd : PySem.W.clsIn K C = some cd) (hmro : cd.mro = .ref C :: bm) (T : OwnTail h0 vb bm)
    (hx : s.heap.get? x = some ox) (hc : ox.cls = .ref C) (hd : ox.data = .fields vs) (hn : ox.dict = none)
    (h : ∀ h', h'.get? x = some { ox with dict := some s.heap.objs.size } → h'.Ns1 s.heap.objs.size (fun y => if y = name then some v else none) → (∀ b o, b ≠ x → s.heap.get? b = some o → h'.get? b = some o) → Q () { s with heap := h', toks := s.toks + 2 }) :
    wpAny (model prog w) A (setAttr (.ref x) name v) Q E s := by
  have J := inst_exc hx hc hd hn
  have SF := PySem.F.store_object
  refine PySem.W.set_plain X J S.sa ?_
  have sub : PySem.W.Looks (model prog w) s.heap (isInstance (.ref x) (.type "object")) true := J.type.andThen (PySem.W.looks_mroIn X S.ob)
  refine codeAny_call_builtin SF.slot.plain SF.entry (@PySem.W.check_slot (model prog w) _ _ { s with toks := s.toks + 1 } "object.__setattr__" "object" "__setattr__" (.ref x) [.str name s.toks, v] [] _ SF.kind SF.split sub (SF.args (.ref x) (.str name s.toks) v) ?_)
  obtain ⟨attr, ha, hr⟩ := Option.bind_eq_some_iff.mp S.tk
  have hm : PySem.W.Looks (model prog w) s.heap (mroOf (.ref C)) cd.mro := (PySem.W.looks_clsIn X hcd).andThen .now
  have L3 : PySem.W.Looks (model prog w) s.heap (Builtin.ObjectAttr.storeTaker? attr) none := by
    cases attr with
    | none => cases hr; exact .now
    | some a =>
      obtain ⟨b, hb, e⟩ := Option.map_eq_some_iff.mp hr
      refine (PySem.W.looks_takesIn X hb).andThen ?_
      cases b with
      | true => cases e
      | false => exact .now
  rw [PySem.W.osa_eq, PySem.refuse_eq]
  refine wpAny_bind (wpAny_bind (J.type.here (s := { s with toks := s.toks + 1 }) (wpAny_bind (hm.here (s := { s with toks := s.toks + 1 }) ?_))))
  rw [hmro, PySem.refuseLoop_ref, refuse_tail (.ref x) T]
  refine wpAny_pure (wpAny_bind (J.type.here (s := { s with toks := s.toks + 1 }) (wpAny_bind ((PySem.W.looks_findIn X ha).here (s := { s with toks := s.toks + 1 }) (wpAny_bind (L3.here (s := { s with toks := s.toks + 1 }) ?_))))))
  obtain ⟨cd', hc', hd'⟩ := PySem.W.any_some S.hd
  obtain ⟨oc, odi, oda, osl⟩ := ox
  dsimp only at hc hd hn
  subst hc hd hn
  refine wpAny_bind (wpAny_pure (wpAny_bind (wpAny_bind (wpAny_loadPart hx (wpAny_bind (PySem.W.Looks.here (s := { s with toks := s.toks + 1 }) (PySem.W.looks_clsIn X hc') ?_))))))
  rw [hd']
  refine wpAny_bind (wpAny_alloc (wpAny_bind (wpAny_update (Heap.get?_push_of_some _ hx) ?_)))
  have hlt := Heap.lt_size hx
  have n0 : Heap.Ns1 ((s.heap.push { cls := .type "dict", data := .dict #[] }).update x fun o => { o with dict := some s.heap.objs.size }) s.heap.objs.size fun _ => none := by
    refine Heap.Ns1.of_empty ⟨_, #[], 0, (Heap.get?_update_other _ _ (Nat.ne_of_lt hlt)).trans (Heap.get?_push_size _ rfl), rfl, ?_, fun _ => rfl⟩
    intro y hy
    simp at hy
  refine wpAny_pure (a := some s.heap.objs.size) (wpAny_bind (wpAny_pure (wpAny_bind ?_)))
  refine wpAny_nsSet1 (s := { s with heap := (s.heap.push { cls := .type "dict", data := .dict #[] }).update x fun o => { o with dict := some s.heap.objs.size }, toks := s.toks + 1 }) n0 fun h' hn2 hs2 => ?_
  obtain ⟨oD, esD, epD, hoD, hdD, hcD⟩ := hn2.count (PySem.Within.cons name v (ns := []) fun _ z => absurd rfl z)
  refine wpAny_bind (wpAny_lookBehind hoD (by rw [hdD]; exact pastItsLine_dict (Nat.le_trans hcD (by show 1 ≤ sizeLine + 1; decide))) ?_)
  refine wpAny_pure (h _ ?_ hn2 fun b o hb e => ?_)
  · rw [hs2.2 _ (Nat.ne_of_lt hlt)]
    exact Heap.get?_update_self (fun o => { o with dict := some s.heap.objs.size }) (Heap.get?_push_of_some _ hx) rfl
  · rw [hs2.2 _ (Nat.ne_of_lt (Heap.lt_size e)), Heap.get?_update_other _ _ (Ne.symm hb)]
    exact Heap.get?_push_of_some _ e
end
section
variable {prog : Program} {w : World} {A : Around} {E : Value → Shared → Prop} {h : Heap} {g : Array GenState} {d : Drawn} {t : Nat} {os : OsState}
variable {nm q : Str} {C N fI : Addr} {bs bm : List Value} {hdct : Bool} {sn : List Str} {sub : List Value} {ab : Bool} {col : Option Bool} {dd : Option Addr} {k0 k1 k2 k3 k5 : Option Value} {oI : Obj} {mN : Str → Option Value} {rest : List Value}
theorem type_call_own {Q : Fin → Shared → Prop} (T : OwnTail h vb bm) (oC : h.get? C = some (excClassObj nm q C N bs bm hdct sn sub ab col dd k0 k1 k2 k3 k5 "ValueError.__new__")) (hn : h.Ns N mN) (hi : mN "__init__" = some (.ref fI))
    (hf : h.get? fI = some oI) (hfc : oI.cls = .type "function") (hz : rest.length ≤ sizeLine)
    (hq : ∀ h' e, Heap.MadeExcOf h h' e (.ref C) rest → wpAny (model prog w) A (call (.ref fI) (.ref e :: rest)) (fun r s' => r = .none ∧ Q (.done (.ret (.ref e))) s') E ⟨h', g, d, t, os⟩) :
    wpAny (model prog w) A (Builtin.«type.__call__» ⟨.ref C :: rest, []⟩) Q E ⟨h, g, d, t, os⟩ := by
  have FF := PySem.F.excBase_ValueError
  repeat (first | with_reducible refine wpAny_loadPart_at oC ?_ | with_reducible refine wpAny_madeBy_exc oC ?_ | wp_step)
  refine codeAny_call_builtin_code (Code.quiet_builtin _ FF.quiet) (wpAny_check_new_subT FF T oC ?_)
  refine codeAny_exc_new_subT FF T oC ?_ hz
  show wpAny _ _ _ _ _ _
  have up : ∀ b o, h.get? b = some o → ((h.push { cls := .type "tuple", data := .seq rest.toArray }).push { cls := .ref C, data := .fields #[.ref h.objs.size, .none, .none, .none, .bool false, .none] }).get? b = some o := fun b o e => Heap.get?_push_of_some _ (Heap.get?_push_of_some _ e)
  have oC1 := up _ _ oC
  have T1 := T.keeps up
  have n1 := hn.keeps up
  have ge : ((h.push { cls := .type "tuple", data := .seq rest.toArray }).push { cls := .ref C, data := .fields #[.ref h.objs.size, .none, .none, .none, .bool false, .none] }).get? (h.objs.size + 1) = some { cls := .ref C, data := .fields #[.ref h.objs.size, .none, .none, .none, .bool false, .none] } := Heap.get?_push_at (by simp only [Heap.size_push]) rfl
  have cc : (Value.ref C :: bm).contains (.ref C) = true := by simp
  unfold isInstance
  repeat (first | with_reducible refine wpAny_loadPart_at ge ?_ | (with_reducible refine wpAny_isSubtype_exc oC1 ?_; rw [cc]) | wp_step)
  show wpAny _ _ (typeLookup (.ref C) _) _ _ _
  refine wpAny_typeLookup_tail oC1 n1 T1 FF.mroIs FF.init.lookup ?_
  rw [hi]
  refine wpAny_holding (wpAny_bind ?_)
  unfold bindSpecial
  refine wpAny_bind (wpAny_typeOf (T := "function") ⟨_, up _ _ hf, hfc⟩ ?_)
  rw [if_pos (by decide)]
  refine wpAny_pure (wpAny_bind (wpAny_mono (hq _ (h.objs.size + 1) ⟨up, Heap.get?_none_of_le (Nat.le_succ _), h.objs.size, ge, Heap.get?_none_of_le (Nat.le_refl _), Heap.get?_push_of_some _ (Heap.get?_push_at rfl rfl)⟩) (fun r s' hr => ?_) fun _ _ x => x))
  obtain ⟨rfl, hQ⟩ := hr
  wp_walk
  exact hQ
theorem call_own {Q : Value → Shared → Prop} (T : OwnTail h vb bm) (oC : h.get? C = some (excClassObj nm q C N bs bm hdct sn sub ab col dd k0 k1 k2 k3 k5 "ValueError.__new__")) (hn : h.Ns N mN) (hi : mN "__init__" = some (.ref fI))
    (hf : h.get? fI = some oI) (hfc : oI.cls = .type "function") (hz : rest.length ≤ sizeLine)
    (hq : ∀ h' e, Heap.MadeExcOf h h' e (.ref C) rest → wpAny (model prog w) (A.under (.builtin "type.__call__" ⟨.ref C :: rest, []⟩)) (call (.ref fI) (.ref e :: rest)) (fun r s' => r = .none ∧ Q (.ref e) s') E ⟨h', g, d, t, os⟩) :
    wpAny (model prog w) A (call (.ref C) rest) Q E ⟨h, g, d, t, os⟩ := by
  have f1 := tc_lookup
  have f2 := tc_bind (.ref C)
  have hT : (⟨h, g, d, t, os⟩ : Shared).TypeIs (.ref C) "type" := ⟨_, oC, rfl⟩
  refine wpAny_call (codeAny_of_tree ?_)
  show wpAny _ _ (callAny (.ref C) _) _ _ _
  repeat (any_goals (first | assumption | with_reducible refine wpAny_loadPart_at oC ?_ | wp_step))
  refine ⟨rfl, codeAny_call_builtin_at (Code.quiet_builtin _ (by decide +kernel)) entry_typeCall (wpAny_check_type_call_sub oC (type_call_own T oC hn hi hf hfc hz fun h' e hm => ?_))⟩
  exact hq h' e hm
end
end L2
set_option Elab.async false
set_option linter.all false
set_option maxRecDepth 100000
namespace L2
open PySem PySem.Spec PyProof.Rows
def xnO (e : Addr) (cls : Value) : HO := .ext fun h => ∃ oe vs x0, h.get? e = some oe ∧ oe.cls = cls ∧ oe.dict = none ∧ oe.data = .fields vs ∧ vs[0]? = some x0 ∧ vs[1]? = some Value.none
def xfO (e : Addr) (cls : Value) (dx : Addr) : HO := .ext fun h => ∃ oe vs, h.get? e = some oe ∧ oe.cls = cls ∧ oe.dict = some dx ∧ oe.data = .fields vs ∧ vs[1]? = some Value.none
theorem xnO_ok {P : Program} {w : World} {H : Hp} {h : Heap} {e : Addr} {oe : Obj} {vs : Array Value} {x0 : Value} (h1 : h.get? e = some oe) (h2 : oe.dict = none) (h3 : oe.data = .fields vs) (h4 : vs[0]? = some x0) (h5 : vs[1]? = some Value.none) : ObjOk P w H h e (xnO e oe.cls) :=
  ⟨⟨oe, vs, x0, h1, rfl, h2, h3, h4, h5⟩, ⟨oe, h1⟩, fun a b ⟨o, v, x, p, q⟩ k => ⟨o, v, x, k o p, q⟩⟩
theorem xfO_ok {P : Program} {w : World} {H : Hp} {h : Heap} {e dx : Addr} {oe : Obj} {vs : Array Value} (h1 : h.get? e = some oe) (h2 : oe.dict = some dx) (h3 : oe.data = .fields vs) (h5 : vs[1]? = some Value.none) : ObjOk P w H h e (xfO e oe.cls dx) :=
  ⟨⟨oe, vs, h1, rfl, h2, h3, h5⟩, ⟨oe, h1⟩, fun a b ⟨o, v, p, q⟩ k => ⟨o, v, k o p, q⟩⟩
theorem upd_self {H : Hp} {a : Addr} {o : HO} (h : H a = some o) : upd H a o = H := by
  funext b
  by_cases e : b = a
  · rw [e, upd_same, h]
  · rw [upd_ne e]
theorem excOwn_cls {K : PySem.W.Frag} {C fI : Addr} (q : excOwn K C fI = true) : ∃ cd bm, PySem.W.clsIn K C = some cd ∧ cd.mro = .ref C :: bm ∧ PySem.W.tailIn K vb bm = true := by
  unfold excOwn at q
  split at q
  · next dd cd sl lk =>
    split at q
    · next C1 bm a0 a1 a2 a3 nn a5 em es =>
      simp only [Bool.and_eq_true, beq_iff_eq, Bool.not_eq_true'] at q
      obtain ⟨z1, _, _, z4, _⟩ := q
      refine ⟨cd, bm, ?_, by rw [em, z1], z4⟩
      unfold PySem.W.clsIn
      rw [lk]
    · cases q
  · cases q
section
variable {X : Cx} {C D fI : Addr} {x f : Str} {p pos apos pos' : Pos} {e : Expr} {es : List Expr} {t : TA}
structure ExcBase (K : PySem.W.Frag) (D : Addr) : Prop where
  rd : PySem.W.readsIn K D (.type "type") = true
  fc : PySem.W.findCls K (.ref D) (.type "type") "__init__" = some (.val (.builtin "ValueError.__init__"))
  sp : PySem.W.specialIn K (.ref D) "__getattribute__" = some (some (.builtin "type.__getattribute__"))
def tBInit (K : PySem.W.Frag) (t : TA) : TE := fun σ H Q => t σ H fun vs H1 => ∃ e y C fI, vs = [.ref e, .str y] ∧ H1 e = some (xnO e (.ref C)) ∧ excOwn K C fI = true ∧ Q .non H1
theorem pe_binit {pl : Sem Bool} (B : ExcBase X.K D) (hg : Gl X x) (hm : X.mg x = some (.ref D)) (ha : PA X (e :: es) t) (hdb : (x == ("__debug__" : Str)) = false := by decide)
    (hst : starEach (e :: es) X.env = (false, eval e X.env) :: starEach es X.env := by rfl) (hpl : (backTo pos (starEach es X.env)).any (·.1) = false := by rfl)
    (ht : eval (.Call (.Attribute (.Name x p) "__init__" apos) (e :: es) [] pos) X.env = (do
      let ov ← eval (.Name x p) X.env
      standAt apos.atName
      let (f, first) ← holding [ov] (getMethod ov "__init__" pl)
      callWith pos f first (backTo pos (starEach (e :: es) X.env)) (backToKw pos (keywordEach [] X.env))) := by rfl) :
    PE X (.Call (.Attribute (.Name x p) "__init__" apos) (e :: es) [] pos) (tBInit X.K t) := by
  intro pins s σ H Q I h
  refine PySem.W.methodCall_KW (pl := pl) (ld_glob I hg hm ?_ hdb) ht
  refine PySem.W.method_cls I.kIn B.sp (PySem.W.cls_value I.kIn B.rd B.fc rfl ?_)
  refine callWith_builtin1 (thn (ha pos pins _ σ H _ (I.tok _) h) fun us s1 ⟨vs, H1, I1, r, ea, y, C, fI, ev, hx, ho, q⟩ => ?_) hst hpl
  subst ev
  obtain ⟨u1, u2, rfl, r1, r2⟩ := vals2 r
  cases r1
  obtain ⟨tk, rfl⟩ := r2
  obtain ⟨⟨oe, fs, x0, h1, h2, h3, h4, h5, h6⟩, _⟩ := (show ObjOk X.prog X.w H1 s1.heap ea (xnO ea (.ref C)) from I1.hok ea _ hx)
  obtain ⟨bm, N, nm, qn, bs, hd, sn, sub, ab, col, dd, k0, k1, k2, k3, k5, oC, T, _, _⟩ := excOwn_obj ho I1.kIn
  obtain ⟨hh, g, d, tt, os⟩ := s1
  refine init_exc T oC h1 h2 h4 h5 (by show 1 ≤ sizeLine; decide) ?_
  have hu := upd_at (h := hh.push { cls := .type "tuple", data := .seq [Value.str y tk].toArray }) (f := fun z => z.setIfInBounds 0 (Value.ref hh.objs.size)) (Heap.get?_push_of_some _ h1) h4
  have I2 := I1.write (x := ea) (e := ea) (o := xnO ea (.ref C)) (t' := tt) (h' := (hh.push { cls := .type "tuple", data := .seq [Value.str y tk].toArray }).update ea (Obj.mapFields fun z => z.setIfInBounds 0 (Value.ref hh.objs.size)))
    (by rw [hx]; trivial) (.inl rfl) (fun b u hb z => (Heap.get?_update_other _ _ (Ne.symm hb)).trans (Heap.get?_push_of_some _ z)) ⟨_, hu⟩
    (by
      have z := xnO_ok (P := X.prog) (w := X.w) (H := upd H1 ea (xnO ea (.ref C))) hu ((mapF_dict _ _).trans h3) (mapF_data h4) (x0 := Value.ref hh.objs.size) (by simp [vs_lt h5]) (by rw [Array.getElem?_setIfInBounds_ne (by decide)]; exact h6)
      rwa [mapF_cls, h2] at z)
  rw [upd_self hx] at I2
  exact ⟨.non, H1, I2, rfl, q⟩
def sXFld (K : PySem.W.Frag) (ta tv : TE) (f : Str) : TS := fun D σ H => tv σ H fun y H1 => ta σ H1 fun x H2 => ∃ e C fI, x = .ref e ∧ H2 e = some (xnO e (.ref C)) ∧ excOwn K C fI = true ∧ ExcSet K C f ∧
  ∀ dx, H2 dx = none → dx ≠ e → D.nx σ (upd (upd H2 dx (.xd [(f, y)])) e (xfO e (.ref C) dx))
theorem ps_xfld {o value : Expr} {ta tv : TE} (ha : PE X o ta) (hv : PE X value tv) (hs : swapsWith value (some (.Attribute o f pos')) pos.line X.env = pure false) : PS X (.Assign [.Attribute o f pos'] value pos) (sXFld X.K ta tv f) := by
  intro pins s σ H D I h
  refine plainObj_wpAny_Assign_Attribute (thn (hv pins s σ H _ I h) fun u s1 ⟨y, H1, I1, ry, q⟩ => thn (ha pins s1 σ H1 _ I1 q) fun ov s2 ⟨x, H2, I2, rx, ea, C, fI, ex, hx, ho, S, q2⟩ => ?_) hs
  subst ex
  obtain rfl : ov = Value.ref ea := rx
  obtain ⟨⟨oe, fs, x0, h1, h2, h3, h4, h5, h6⟩, _⟩ := (show ObjOk X.prog X.w H2 s2.heap ea (xnO ea (.ref C)) from I2.hok ea _ hx)
  obtain ⟨cd, bm, hcd, hmro, ht⟩ := excOwn_cls ho
  refine set_exc0 I2.kIn S hcd hmro (PySem.W.tail_of_in I2.kIn ht) h1 h2 h4 h3 fun h' g1 g2 g3 => ?_
  have hlt := Heap.lt_size h1
  have hdn : H2 s2.heap.objs.size = none := I2.hok.fresh (Nat.le_refl _)
  have hne : s2.heap.objs.size ≠ ea := Nat.ne_of_gt hlt
  have nx : ∀ b o, H2 b = some o → b ≠ s2.heap.objs.size := fun b o z e => by rw [e, hdn] at z; cases z
  have nb : ∀ b o, s2.heap.get? b = some o → b ≠ s2.heap.objs.size := fun b o z => Nat.ne_of_lt (Heap.lt_size z)
  have ne : ∀ b, H2 b = none → b ≠ ea := fun b z e => by rw [e, hx] at z; cases z
  refine ⟨σ, _, I2.un (h' := h') (t' := s2.toks + 2) ⟨fun b o z n _ _ => g3 b o (ne b n) z, fun b o z n _ _ => ⟨o.slots, g3 b o (ne b n) z⟩, fun b o z n _ => by rw [upd_ne (ne b n), upd_ne (nb b o z)]; exact n, fun b o z _ => ?_, fun b xs z => ?_, fun b o u z => ?_, fun b ps z => ⟨#[], ?_⟩⟩ (fun b u z => ?_), q2 _ hdn hne⟩
  · by_cases hb : b = ea
    · exact ⟨_, by rw [hb]; exact g1⟩
    · exact ⟨o, g3 b o hb z⟩
  · have hb : b ≠ ea := fun e => by rw [e, hx] at z; cases z
    rw [upd_ne hb, upd_ne (nx b _ z)]; exact z
  · have hb : b ≠ ea := fun e => by rw [e, hx] at z; cases z
    rw [upd_ne hb, upd_ne (nx b _ z)]; exact z
  · have hb : b ≠ ea := fun e => by rw [e, hx] at z; cases z
    rw [upd_ne hb, upd_ne (nx b _ z), z]; simp
  · by_cases hb : b = ea
    · subst hb
      rw [upd_same] at z; cases z
      have w1 := xfO_ok (P := X.prog) (w := X.w) (H := upd (upd H2 s2.heap.objs.size (.xd [(f, y)])) b (xfO b (.ref C) s2.heap.objs.size)) g1 rfl h4 h6
      have e : ({ oe with dict := some s2.heap.objs.size } : Obj).cls = .ref C := h2
      rwa [e] at w1
    · rw [upd_ne hb] at z
      by_cases hb2 : b = s2.heap.objs.size
      · subst hb2
        rw [upd_same] at z; cases z
        refine ⟨_, g2, fun k => ?_⟩
        by_cases hk : k = f
        · subst hk
          rw [if_pos rfl]
          show RelO (List.lookup k [(k, y)]) (some u)
          simp only [List.lookup, beq_self_eq_true]
          exact ry
        · rw [if_neg hk]
          have hbq : (k == f) = false := beq_eq_false_iff_ne.mpr hk
          show RelO (List.lookup k [(f, y)]) none
          simp only [List.lookup, hbq]
          trivial
      · rw [upd_ne hb2] at z
        refine (I2.hok b u z).stay (fun c v hc r => g3 c v ?_ r) (fun c r => ?_) fun c xs r => ?_
        · rcases hc with rfl | hc
          · exact hb
          · exact fun e => by rw [e, hx] at hc; cases hc
        · have hc : c ≠ ea := fun e => by rw [e, hx] at r; cases r
          rw [upd_ne hc, upd_ne (nx c _ r)]; exact r
        · have hc : c ≠ ea := fun e => by rw [e, hx] at r; cases r
          rw [upd_ne hc, upd_ne (nx c _ r)]; exact r
end
def del (H : Hp) (a : Addr) : Hp := fun b => if b = a then none else H b
theorem del_same {H : Hp} {a : Addr} : del H a a = none := if_pos rfl
theorem del_ne {H : Hp} {a b : Addr} (h : b ≠ a) : del H a b = H b := if_neg h
section
variable {X : Cx} {pins : List (Addr × Obj)} {σ : St} {H : Hp} {s : Shared} {h' : Heap}
theorem Inv.laidN {a : Addr} {o : HO} {t' : Nat} (I : Inv X pins σ H s) (k : ∀ b u, s.heap.get? b = some u → h'.get? b = some u) (hn : s.heap.get? a = none) (new : ObjOk X.prog X.w (upd H a o) h' a o) : Inv X pins σ (upd H a o) { s with heap := h', toks := t' } := by
  have hH : H a = none := I.hok.untracked hn
  have nb : ∀ b u, s.heap.get? b = some u → b ≠ a := fun b u e z => by rw [z, hn] at e; cases e
  have nt : ∀ b u, H b = some u → b ≠ a := fun b u e z => by rw [z, hH] at e; cases e
  exact I.un ⟨fun b u e _ _ _ => k b u e, fun b u e _ _ _ => ⟨u.slots, k b u e⟩, fun b u e n _ => by rw [upd_ne (nb b u e)]; exact n, fun b u e _ => ⟨u, k b u e⟩, fun b xs e => by rw [upd_ne (nt b _ e)]; exact e, fun b u v e => by rw [upd_ne (nt b _ e)]; exact e, fun b ps e => ⟨#[], by rw [upd_ne (nt b _ e), e]; simp⟩⟩ ((I.hok.kept k).track hH new)
theorem Inv.drop {a : Addr} {φ : Heap → Prop} (I : Inv X pins σ H s) (e : H a = some (.ext φ)) (f0 : X.s₀.heap.get? a = none) : Inv X pins σ (del H a) s := by
  have fr : ∀ b, H b = none → del H a b = none := fun b z => by
    by_cases hb : b = a
    · rw [hb]; exact del_same
    · rw [del_ne hb]; exact z
  have kp : ∀ b o, H b = some o → b ≠ a → del H a b = some o := fun b o z hb => by rw [del_ne hb]; exact z
  have na : ∀ b o, H b = some o → o ≠ .ext φ → b ≠ a := fun b o z hne hb => by rw [hb, e] at z; cases z; exact hne rfl
  refine ⟨I.ok, I.os, I.bare, ⟨I.base.keep, I.base.slot, fun b o q n hx => fr b (I.base.free b o q n hx), I.base.there, fun b xs q => ?_, fun b o u q => ?_, fun b ps q => ?_⟩, I.loc, I.cell, fr _ I.free, fun x c q => fr _ (I.freeC x c q), fun p hp => ?_, fun b u q => ?_, I.len⟩
  · have z := I.base.tups b xs q
    exact kp b _ z (na b _ z fun z => nomatch z)
  · have z := I.base.frzs b o u q
    exact kp b _ z (na b _ z fun z => nomatch z)
  · obtain ⟨m, z⟩ := I.base.tbls b ps q
    exact ⟨m, kp b _ z (na b _ z fun z => nomatch z)⟩
  · obtain ⟨p1, p2, p3, p4, p5⟩ := I.pin p hp
    exact ⟨p1, fr _ p2, p3, p4, p5⟩
  · have hb : b ≠ a := fun z => by rw [z, del_same] at q; cases q
    rw [del_ne hb] at q
    exact (I.hok b u q).stay (fun _ _ _ z => z) (fun c r => kp c _ r (na c _ r fun z => nomatch z)) fun c xs r => kp c _ r (na c _ r fun z => nomatch z)
end
section
variable {X : Cx} {R : XR} {k : Nat} {C fI : Addr} {fd : FuncData} {ps : List Str} {sp : Sp} {x : Str} {p pos : Pos} {e : Expr} {es : List Expr} {t : TA} {te : TE}
def tMakeI (C : Addr) (sp : Sp) (t : TA) : TE := fun σ H Q => t σ H fun vs H1 => vs.length ≤ sizeLine ∧ ∀ ea, H1 ea = none → sp (.ref ea :: vs) (upd H1 ea (xnO ea (.ref C))) (fun v H2 => v = .non ∧ Q (.ref ea) H2) E0
theorem pe_makeI (ho : excOwn X.K C fI = true) (hkp : PySem.W.keepIn X.K (.ref C) = true) (hfn : PySem.W.isFn X.K (.ref fI) = true) (F : FnOk X.prog X.w X.K X.mg X.base CX0 k fI fd ps sp) (hr : Room (k + 1) X.A) (hg : Gl X x) (hm : X.mg x = some (.ref C)) (hb : Binds X.K fd ps [])
    (ha : PA X (e :: es) t) (hdb : (x == ("__debug__" : Str)) = false := by decide) (he : starEach (e :: es) X.env = (false, eval e X.env) :: starEach es X.env := by rfl) (hpl : (backTo pos (starEach es X.env)).any (·.1) = false := by rfl) :
    PE X (.Call (.Name x p) (e :: es) [] pos) (tMakeI C sp t) := by
  intro pins s σ H Q I h
  refine wpAny_Call_Name_kw (ld_glob I hg hm ?_ hdb)
  refine PySem.W.callWith_K (h₀ := X.base) I.ok.mod.kin hkp (thn (ha pos pins s σ H _ I h) fun us s1 ⟨vs, H1, I1, r, hz, q⟩ => ⟨I1.kIn, ?_⟩) he hpl
  obtain ⟨bm, N, nm, qn, bs, hd, sn, sub, ab, col, dd, k0, k1, k2, k3, k5, oC, T, hn, hi⟩ := excOwn_obj ho I1.kIn
  obtain ⟨oI, hl, hc⟩ := Option.map_eq_some_iff.mp (show (X.K.lookup fI).map (·.cls) = some (.type "function") from beq_iff_eq.mp hfn)
  obtain ⟨hh, g, d, tt, os⟩ := s1
  refine call_own T oC hn hi (I1.kIn _ _ hl) hc (by show us.length ≤ sizeLine; rw [← r.length]; exact hz) fun h' ea mk => ?_
  obtain ⟨tp, m1, _, _⟩ := mk.there
  have hea : H1 ea = none := I1.hok.untracked mk.new
  have I2 : Inv X pins σ (upd H1 ea (xnO ea (.ref C))) ⟨h', g, d, tt, os⟩ := I1.laidN (t' := tt) mk.keeps mk.new (xnO_ok m1 rfl rfl rfl rfl)
  have hq := q ea hea
  have r2 : Vals (V.ref ea :: vs) (Value.ref ea :: us) := .cons rfl r
  have hlen : (Value.ref ea :: us).length = ps.length := by rw [← r2.length]; exact F.len _ _ _ _ hq
  refine wpAny_call (codeAny_mono (F.run _ X.stack _ _ ⟨Value.ref ea :: us, []⟩ (Value.ref ea :: us) _ _ E0 (hr.make C us []) (I2.env0.make C us []) (by have z := hb _ (Value.ref ea :: us) I2.kIn (by rw [List.append_nil]; exact hlen); rwa [List.append_nil] at z) r2 hq) fun res s' hq' => ?_)
  cases res with
  | error e => exact False.elim hq'
  | ok fl =>
    cases fl with
    | ret u =>
      obtain ⟨v, H', I3, rv, ev, q3⟩ := I2.after hq'
      subst ev
      exact ⟨rv, ⟨V.ref ea, H', I3, rfl, q3⟩⟩
    | next => exact False.elim hq'
    | brk => exact False.elim hq'
    | cont => exact False.elim hq'
def tRaiseV (K : PySem.W.Frag) (H₀ : Hp) (R : XR) (te : TE) : TS := fun _ σ H => te σ H fun v H1 => ∃ ea C fI dx, v = .ref ea ∧ excOwn K C fI = true ∧ H1 ea = some (xfO ea (.ref C) dx) ∧ H₀ ea = none ∧ R (.ref C) (some dx) σ (del H1 ea)
theorem ps_raiseV (hc : X.calm = true) (hex : X.ex = []) (hx : Raises X R) (he : PE X e te) : PS X (.Raise (some e) none pos) (tRaiseV X.K X.H₀ R te) := by
  intro pins s σ H D I h
  have main : wpAny (model X.prog X.w) X.A (do let v ← eval e X.env; standAt pos; pure v) (fun v s1 => ∃ ea C fI dx H1, v = Value.ref ea ∧ Inv X pins σ H1 s1 ∧ excOwn X.K C fI = true ∧ H1 ea = some (xfO ea (.ref C) dx) ∧ X.H₀ ea = none ∧ R (.ref C) (some dx) σ (del H1 ea)) X.xe s := by
    refine wpAny_bind (thn (he pins s σ H _ I h) fun v s1 ⟨y, H1, I1, r1, ea, C, fI, dx, e1, ho, hx1, h0, q⟩ => ?_)
    subst e1
    obtain rfl : v = Value.ref ea := r1
    exact wpAny_bind (wpAny_standAt (wpAny_pure ⟨ea, C, fI, dx, H1, rfl, I1, ho, hx1, h0, q⟩))
  rw [arm_exec_Raise]
  refine wpAny_bind (wpAny_standAt ?_)
  show wpAny (model X.prog X.w) X.A (raiseStmt X.env (some (do let v ← eval e X.env; standAt pos; pure v)) none) _ _ s
  unfold raiseStmt
  refine wpAny_bind (wpAny_mono main (fun v s1 h1 => ?_) fun _ _ z => z)
  obtain ⟨ea, C, fI, dx, H1, rfl, I1, ho, hx1, h0, q⟩ := h1
  obtain ⟨bm, N, nm, qn, bs, hd, sn, sub, ab, col, dd, k0, k1, k2, k3, k5, oC, T, _, _⟩ := excOwn_obj ho I1.kIn
  obtain ⟨⟨oe, fs, g1, g2, g3, g4, g5⟩, _⟩ := (show ObjOk X.prog X.w H1 s1.heap ea (xfO ea (.ref C) dx) from I1.hok ea _ hx1)
  have f0 : X.s₀.heap.get? ea = none := by
    cases z : X.s₀.heap.get? ea with
    | none => rfl
    | some o =>
      have w := I1.base.free ea o z h0 (by rw [hex]; exact fun z => nomatch z)
      rw [hx1] at w; cases w
  have hE : X.xe (.ref ea) s1 := hx pins σ (del H1 ea) s1 ea (.ref C) (some dx) (I1.drop hx1 f0) ⟨oe, fs, g1, g2, g3, g4, g5⟩ del_same f0 q
  obtain ⟨hp, g, d, tk, os⟩ := s1
  have cB : (Value.ref C :: bm).contains (.type "BaseException") = true := by rw [List.contains_cons, T.hasType (b := true) rfl, Bool.or_true]
  repeat (first | (with_reducible refine wpAny_loadPart_at g1 ?_; rw [g2]) | with_reducible refine wpAny_loadPart_at oC ?_ | (with_reducible refine wpAny_isSubtype_exc oC ?_; rw [cB]) | with_reducible refine wpAny_field g1 g4 g5 ?_ | wp_step)
  exact wpAny_raiseNew_none (I.ok.hd hc) hE
end
structure ExcGet (K : PySem.W.Frag) (C : Addr) : Prop where
  ga : PySem.W.findIn K (.ref C) "__getattribute__" = some (some (.builtin "BaseException.__getattribute__"))
  gh : PySem.W.findIn K (.ref C) "__getattr__" = some none
  be : PySem.W.mroIn K C (.type "BaseException") = some true
theorem bga_slot : Slot "ValueError" "__getattribute__" "BaseException.__getattribute__" := PySem.F.attr_ValueError.ga
theorem bga_kind : builtinKind "BaseException.__getattribute__" = some .slot := by decide +kernel
theorem bga_split : splitId "BaseException.__getattribute__" = some ("BaseException", "__getattribute__") := by decide +kernel
section
variable {prog : Program} {w : World} {A : Around} {E : Value → Shared → Prop} {s : Shared} {K : PySem.W.Frag} {x C : Addr} {ox : Obj} {od : Option Obj} {name : Str} {v : Value} {tk : Tok}
theorem by_exc {fill expr : Bool} {Q : Value → Shared → Prop} (X : K.In s.heap) (J : PySem.W.InstAt s.heap x ox C od) (G : ExcGet K C)
    (h : wpAny (model prog w) A.in1 (Builtin.«object.__getattribute__» ⟨[.ref x, .str name tk], []⟩) (fun fin s' => match fin with | .done (.ret v) => wpAny (model prog w) A (handedOut v) Q E s' | _ => False) (fun _ _ => False) s) :
    wpAny (model prog w) A (getAttrBy (.ref x) (.str name tk) fill expr) Q E s := by
  have L0 := J.type (M := model prog w)
  have L1 := PySem.W.looks_findIn (M := model prog w) X G.ga
  have L2 := PySem.W.looks_findIn (M := model prog w) X G.gh
  unfold getAttrBy
  refine wpAny_holding (wpAny_bind (L0.here (wpAny_bind (L1.here ?_))))
  dsimp only
  rw [show (onTheHeap (Value.ref C) && Value.builtin "BaseException.__getattribute__" == Value.builtin "object.__getattribute__") = false from by rw [show (Value.builtin "BaseException.__getattribute__" == Value.builtin "object.__getattribute__") = false from by decide +kernel]; rfl, if_neg (by decide)]
  unfold getAttrByItsOwn hookBefore
  rw [if_pos (show onTheHeap (Value.ref C) = true from rfl)]
  refine wpAny_bind (L2.here (wpAny_bind (wpAny_attempt (wpAny_holding ?_))))
  unfold callGetattribute
  rw [show (expr && onTheHeap (Value.builtin "BaseException.__getattribute__")) = false from Bool.and_false _, if_neg (by decide)]
  unfold boundAndCalled
  rw [bga_slot.bind]
  refine wpAny_bind (wpAny_pure ?_)
  show wpAny _ _ (call (.builtin "BaseException.__getattribute__") [.ref x, .str name tk]) _ _ _
  have sub : PySem.W.Looks (model prog w) s.heap (isInstance (.ref x) (.type "BaseException")) true := L0.andThen (PySem.W.looks_mroIn X G.be)
  refine wpAny_call (codeAny_call_builtin bga_slot.plain PySem.F.entry_bexc_ga (@PySem.W.check_slot (model prog w) _ _ s "BaseException.__getattribute__" "BaseException" "__getattribute__" (.ref x) [.str name tk] [] _ bga_kind bga_split sub (PySem.F.args_bexc_ga _ _) ?_))
  refine wpAny_mono h (fun fin s' z => ?_) fun _ _ z => z.elim
  rcases fin with (_ | _ | _ | _) | _ <;> first | exact z | exact z.elim
theorem oga_find {r : Builtin.ObjectAttr.Found} {Q : Fin → Shared → Prop} (X : K.In s.heap) (J : PySem.W.InstAt s.heap x ox C od) (e : PySem.W.findObj K C od name = some r)
    (h : wpAny (model prog w) A (match r with | .value v => ret v | .bind g a => Builtin.ObjectAttr.bindTo g a (.ref x) (.ref C) | .missing => unsupported "") Q E s) (hr : r ≠ .missing) :
    wpAny (model prog w) A (Builtin.«object.__getattribute__» ⟨[.ref x, .str name tk], []⟩) Q E s := by
  have L0 := J.type (M := model prog w)
  have L1 := PySem.W.looks_find (M := model prog w) X J e
  unfold Builtin.«object.__getattribute__»
  refine wpAny_bind (wpAny_pure (wpAny_bind (wpAny_pure (wpAny_bind (L0.here (wpAny_bind (L1.here ?_)))))))
  cases r with
  | value v => exact h
  | bind g a => exact h
  | missing => exact absurd rfl hr
end
section
variable {prog : Program} {w : World} {A : Around} {E : Value → Shared → Prop} {s : Shared} {K : PySem.W.Frag} {x C : Addr} {ox : Obj} {od : Option Obj} {name : Str} {v : Value} {tk : Tok}
structure ExcIs (K : PySem.W.Frag) (C : Addr) : Prop extends ExcGet K C where
  cl : (PySem.W.clsIn K C).isSome = true
  fc : PySem.W.findIn K (.ref C) "__class__" = some (some (.builtin "object.__class__"))
  sg : PySem.W.specialIn K (.builtin "object.__class__") "__get__" = some (some (.builtin "getset_descriptor.__get__"))
  tk : PySem.W.takesIn K (.builtin "object.__class__") = some true
  ob : PySem.W.mroIn K C (.type "object") = some true
theorem find_class (Y : ExcIs K C) : PySem.W.findObj K C od "__class__" = some (.bind (.builtin "getset_descriptor.__get__") (.builtin "object.__class__")) := by
  have h1 := Y.cl
  cases q : PySem.W.clsIn K C with
  | none => rw [q] at h1; cases h1
  | some cd =>
    simp only [PySem.W.findObj, q, Option.bind_some, Y.fc, Y.sg, Y.tk]
theorem class_exc {Q : Option Value → Shared → Prop} (X : K.In s.heap) (J : PySem.W.InstAt s.heap x ox C od) (Y : ExcIs K C) (h : Q (some (.ref C)) { s with toks := s.toks + 1 }) : wpAny (model prog w) A (getAttr? (.ref x) "__class__") Q E s := by
  unfold getAttr?
  refine wpAny_bind (wpAny_mkText ?_)
  unfold getAttrBy?
  refine wpAny_bind (wpAny_attempt (by_exc (s := { s with toks := s.toks + 1 }) X J Y.toExcGet (oga_find (s := { s with toks := s.toks + 1 }) X J (find_class Y) ?_ (fun z => nomatch z))))
  dsimp only
  show wpAny _ _ (do ret (← holding [Value.builtin "object.__class__"] (call (.builtin "getset_descriptor.__get__") [.builtin "object.__class__", .ref x, .ref C]))) _ _ _
  refine wpAny_bind (wpAny_holding (wpAny_call (PySem.W.class_get (s := { s with toks := s.toks + 1 }) X J Y.ob ?_)))
  refine wpAny_pure (PySem.W.handed_on (v := .ref C) rfl (wpAny_pure h))
theorem kit_exc (Y : ExcIs K C) : PySem.W.KitX K (.ref x) (.ref C) (fun h => ∃ ox od, PySem.W.InstAt h x ox C od) where
  ty := fun _ _ _ ⟨_, _, J⟩ => J.type
  it := fun _ _ X _ => by
    intro A' Q' E' s' k q
    have h1 := Y.cl
    unfold PySem.W.clsIn at h1
    split at h1
    · next lk =>
      unfold isType loadHead
      exact wpAny_bind (wpAny_loadPart (k _ _ (X _ _ lk)) (wpAny_pure q))
    · cases h1
  ne := fun h tp dd its n sl X htp => by
    refine Bool.eq_false_iff.mpr fun q => ?_
    have e : C = tp := Value.ref.inj (beq_iff_eq.mp q)
    subst e
    have h1 := Y.cl
    unfold PySem.W.clsIn at h1
    split at h1
    · next lk =>
      have z := (X _ _ lk).symm.trans htp
      cases z
    · cases h1
  ca := fun X ⟨_, _, J⟩ k => class_exc X J Y k
end
section
variable {X : Cx} {e : Expr} {ta : TE} {f : Str} {pos : Pos}
theorem caught_inst {pins : List (Addr × Obj)} {σ : St} {H : Hp} {s : Shared} {ea C : Addr} {dct : Option Addr} (I : Inv X pins σ H s) (hx : H ea = some (xcO ea (.ref C) dct)) (hd : ∀ dx, dct = some dx → ∃ fs, H dx = some (.xd fs)) : ∃ ox od, PySem.W.InstAt s.heap ea ox C od := by
  obtain ⟨⟨oe, vs, h1, h2, h3, h4⟩, _⟩ := (show ObjOk X.prog X.w H s.heap ea (xcO ea (.ref C) dct) from I.hok ea _ hx)
  cases dct with
  | none => exact ⟨oe, none, inst_exc h1 h2 h4 h3⟩
  | some dx =>
    obtain ⟨fs, hf⟩ := hd dx rfl
    obtain ⟨mA, ⟨od, es, ep, g1, _⟩, _⟩ := (show ObjOk X.prog X.w H s.heap dx (.xd fs) from I.hok dx _ hf)
    exact ⟨oe, some od, inst_exc1 h1 h2 h4 h3 g1⟩
theorem call_isc : CallR X (.builtin "isinstance") (fun xs H Q => ∃ ea C dct c u b, xs = [.ref ea, c] ∧ H ea = some (xcO ea (.ref C) dct) ∧ (∀ dx, dct = some dx → ∃ fs, H dx = some (.xd fs)) ∧ ExcIs X.K C ∧ RelV c u ∧ (∀ u', RelV c u' → u' = u) ∧ PySem.W.kitOne X.K (.ref C) u = some b ∧ Q (.bl b) H) := by
  intro pins s σ H xs us Q I r h
  obtain ⟨ea, C, dct, c, u, b, e, hx, hd, Y, rc, uq, k, q⟩ := h
  subst e
  cases r with
  | cons r rr =>
    cases rr with
    | cons r' rr =>
      cases rr
      cases r
      have e := uq _ r'
      subst e
      exact PySem.W.kia_one (kit_exc Y) I.kIn (caught_inst I hx hd) k (fun z => nomatch z) fun tk => ⟨.bl b, H, I.tok tk, rfl, q⟩
def tXGet (K : PySem.W.Frag) (ta : TE) (f : Str) : TE := fun σ H Q => ta σ H fun x H1 => ∃ ea C dx fs v, x = .ref ea ∧ H1 ea = some (xcO ea (.ref C) (some dx)) ∧ H1 dx = some (.xd fs) ∧ ExcGet K C ∧ PySem.W.hasDictIn K C = true ∧ PySem.W.findIn K (.ref C) f = some none ∧ fs.lookup f = some v ∧ Q v H1
theorem pe_xget (he : PE X e ta) (hb : attributeBase e f X.env (eval e X.env) = eval e X.env) : PE X (.Attribute e f pos) (tXGet X.K ta f) := by
  intro pins s σ H Q I h
  refine attr_of hb (thn (he pins s σ H _ I h) fun u s1 ⟨x, H1, I1, rx, ea, C, dx, fs, v, ex, hx, hd, G, hh, hf, l, q⟩ => ?_)
  subst ex
  obtain rfl : u = Value.ref ea := rx
  obtain ⟨⟨oe, vs, h1, h2, h3, h4⟩, _⟩ := (show ObjOk X.prog X.w H1 s1.heap ea (xcO ea (.ref C) (some dx)) from I1.hok ea _ hx)
  obtain ⟨mA, n1, r⟩ := (show ObjOk X.prog X.w H1 s1.heap dx (.xd fs) from I1.hok dx _ hd)
  obtain ⟨od, g1, lk⟩ := lookIn_ns n1
  obtain ⟨u, hu, ru⟩ := RelO.some_of (v := v) (o := mA f) (by rw [← l]; exact r f)
  have J := inst_exc1 h1 h2 h4 h3 g1
  unfold getAttr
  refine wpAny_bind (wpAny_mkText (by_exc (s := { s1 with toks := s1.toks + 1 }) I1.kIn J G (oga_find (s := { s1 with toks := s1.toks + 1 }) I1.kIn J (PySem.W.findObj_own hh hf rfl (by rw [lk, hu])) ?_ (fun z => nomatch z))))
  exact wpAny_pure (PySem.W.handed_on (handed_of ru) ⟨v, H1, I1.tok _, ru, q⟩)
end
section
variable {X : Cx} {R : XR} {k : Nat} {f C : Addr} {fd : FuncData} {ps : List Str} {sp : Sp} {x : Str} {p pos : Pos} {e : Expr} {es : List Expr} {t : TA}
def tMakeX (C : Addr) (sp : Sp) (R : XR) (t : TA) : TE := fun σ H Q => t σ H fun vs H1 => ∀ x dx, H1 x = none → H1 dx = none → dx ≠ x →
  sp (.ref x :: vs) (upd (upd H1 dx (.own x)) x (.ins C dx [])) (fun v H2 => v = .non ∧ Q (.ref x) H2) (fun c d H' => R c d σ H')
theorem pe_makeX (M : Mk X.K C f) (F : FnOk X.prog X.w X.K X.mg X.base (CXX X.prog X.w) k f fd ps sp) (hr : Room (k + 1) X.A) (hg : Gl X x) (hm : X.mg x = some (.ref C)) (hb : Binds X.K fd ps []) (hx : Takes X R)
    (ha : PA X (e :: es) t) (hdb : (x == ("__debug__" : Str)) = false := by decide) (he : starEach (e :: es) X.env = (false, eval e X.env) :: starEach es X.env := by rfl) (hpl : (backTo pos (starEach es X.env)).any (·.1) = false := by rfl) :
    PE X (.Call (.Name x p) (e :: es) [] pos) (tMakeX C sp R t) := by
  intro pins s σ H Q I h
  refine wpAny_Call_Name_kw (ld_glob I hg hm ?_ hdb)
  refine PySem.W.callWith_K (h₀ := X.base) I.ok.mod.kin M.kp (thn (ha pos pins s σ H _ I h) fun us s1 ⟨vs, H1, I1, r, q⟩ => ⟨I1.kIn, ?_⟩) he hpl
  show wpAny (model X.prog X.w) X.A (call (.ref C) us) (EP X pins σ Q) X.xe s1
  have hq := q (s1.heap.objs.size + 1) s1.heap.objs.size (I1.hok.fresh (Nat.le_succ _)) (I1.hok.fresh (Nat.le_refl _)) (Nat.ne_of_lt (Nat.lt_succ_self _))
  have I2 := Inv.made (C := C) I1
  have r2 : Vals (V.ref (s1.heap.objs.size + 1) :: vs) (Value.ref (s1.heap.objs.size + 1) :: us) := .cons rfl r
  have hl : (Value.ref (s1.heap.objs.size + 1) :: us).length = ps.length := by rw [← r2.length]; exact F.len _ _ _ _ hq
  refine wpAny_call (make_map (f := f) I1.kIn M.makes M.init (beq_iff_eq.mp M.fn) (codeAny_mono (F.run _ X.stack _ _ ⟨Value.ref (s1.heap.objs.size + 1) :: us, []⟩ (Value.ref (s1.heap.objs.size + 1) :: us) _ _ _ (hr.make C us [])
    (I2.env0.make C us []) (by have z := hb _ (Value.ref (s1.heap.objs.size + 1) :: us) I2.kIn (by rw [List.append_nil]; exact hl); rwa [List.append_nil] at z) r2 hq) fun res s' hq' => ?_))
  cases res with
  | error e =>
    obtain ⟨ea, T, cls, dct, H', rfl, os, bare, un, hok, ex, h1, h2, h3, h4, hE⟩ := hq'
    exact hx pins σ _ _ s' ea T cls dct H' I2 os bare un hok ex h1 h2 h3 h4 hE
  | ok fl =>
    cases fl with
    | ret u =>
      obtain ⟨v, H', I3, rv, ev, q3⟩ := I2.after hq'
      subst ev
      exact ⟨rv, ⟨V.ref (s1.heap.objs.size + 1), H', I3, rfl, q3⟩⟩
    | next => exact False.elim hq'
    | brk => exact False.elim hq'
    | cont => exact False.elim hq'
end
end L2
set_option Elab.async false
set_option linter.all false
set_option maxRecDepth 100000
namespace L2
open PySem PySem.Spec PyProof.Rows
theorem takes_never {X : Cx} : Takes X (fun _ _ _ _ => False) := by
  intro pins σ H s s' ea T cls dct H' _ _ _ _ _ _ _ _ _ _ h
  exact h.elim
theorem for_zip {K : PySem.W.Frag} {a b : Addr} {xs ys : List V} {g : TG} {tb : TS} {D : Ends} {σ : St} {H : Hp} (Pv : Nat → St → Hp → Prop) (h0 : Pv 0 σ H) (hl : ∀ i σ H, Pv i σ H → SqL K H a xs ∧ SqL K H b ys)
    (hs : ∀ i x y σ H p, xs[i]? = some x → ys[i]? = some y → Pv i σ H → H p = none → g (.ref p) σ (upd H p (.tup [x, y])) fun σ2 H2 => tb { D with nx := Pv (i + 1), ct := Pv (i + 1), bk := D.nx } σ2 H2) (hd : ∀ σ H, Pv (min xs.length ys.length) σ H → D.nx σ H) :
    ∃ W : Nat → Nat → St → Hp → Prop, (∃ m, W 0 m σ H) ∧ ∀ i m σ H, W i m σ H → ((Itz K a b).stop i H ∧ D.nx σ H) ∨ ((Itz K a b).go i H ∧ ∃ N : St → Hp → Prop, (∀ σ' H', N σ' H' → ∃ m', m' < m ∧ W (i + 1) m' σ' H') ∧ ∀ x H', (Itz K a b).yld i H x H' → g x σ H' fun σ2 H2 => tb { D with nx := N, ct := N, bk := D.nx } σ2 H2) := by
  refine ⟨fun i m σ H => m = min xs.length ys.length - i ∧ i ≤ min xs.length ys.length ∧ Pv i σ H, ⟨min xs.length ys.length, by simp, Nat.zero_le _, h0⟩, ?_⟩
  rintro i m σ H ⟨rfl, hi, p⟩
  obtain ⟨q1, q2⟩ := hl i σ H p
  by_cases hlt : i < min xs.length ys.length
  · have h1 : i < xs.length := by omega
    have h2 : i < ys.length := by omega
    refine .inr ⟨⟨xs, ys, xs[i], ys[i], q1, q2, List.getElem?_eq_getElem h1, List.getElem?_eq_getElem h2⟩, Pv (i + 1), fun σ' H' p' => ⟨min xs.length ys.length - (i + 1), by omega, rfl, hlt, p'⟩, ?_⟩
    rintro v H' ⟨r, x, y, rfl, hr, rfl, hx, hy⟩
    exact hs i x y σ H r (hx xs q1) (hy ys q2) p hr
  · have e : i = min xs.length ys.length := by omega
    subst e
    exact .inl ⟨⟨xs, ys, q1, q2, by omega⟩, hd σ H p⟩
end L2
namespace My
open PySem L2 PyProof.Rows
def RdT (H : Hp) (a : Addr) (r : Int × Int) : Prop := H a = some (.tup [.int r.1, .int r.2])
def RdL (H : Hp) (a : Addr) (rds : List (Int × Int)) : Prop := ∃ as : List Addr, H a = some (.lst (as.map V.ref)) ∧ Paired (RdT H) as rds
theorem RdT.mono {H H' : Hp} {a : Addr} {r : Int × Int} (s : Same H H') (h : RdT H a r) : RdT H' a r := s _ _ h
theorem rmono {H H' : Hp} {as : List Addr} {rds : List (Int × Int)} (s : Same H H') (h : Paired (RdT H) as rds) : Paired (RdT H') as rds := pimp h fun _ _ _ z => z.mono s
theorem RdL.mono {H H' : Hp} {a : Addr} {rds : List (Int × Int)} (s : Same H H') (h : RdL H a rds) : RdL H' a rds := let ⟨as, h1, h2⟩ := h; ⟨as, s _ _ h1, rmono s h2⟩
end My
set_option Elab.async false
set_option linter.all false
set_option maxRecDepth 100000
namespace L2
open PySem PySem.Spec PyProof.Rows
structure RoomH (k : Nat) (A : Around) : Prop where
  dp : A.depth + 3 * k + 5 < recursionLimit
  un : A.units + 16 * k + 200 < cLine
theorem Room.marked {k : Nat} {A : Around} (r : Room k A) (m : Option Value) : RoomH k (A.mark m) := ⟨r.dp, r.un⟩
theorem RoomH.deep {k : Nat} {A : Around} (r : RoomH (k + 1) A) (env : Env) : RoomH k (A.deeper env) := ⟨by have := r.dp; show A.depth + 1 + 3 * k + 5 < _; omega, by have := r.un; show A.units + 3 + 16 * k + 200 < _; omega⟩
structure FnOkH (P : Program) (w : World) (K : PySem.W.Frag) (mg : Str → Option Value) (base : Heap) (k : Nat) (f : Addr) (fd : FuncData) (ps : List Str) (sp : Sp) : Prop where
  len : ∀ vs H Q E, sp vs H Q E → vs.length = ps.length
  run : ∀ (A : Around) (ea : Addr) (outer : List Env) (s : Shared) (H : Hp) (args : Args) (us : List Value) (vs : List V) (Q : VK), RoomH k (A.mark (some (.ref ea))) → Env0 P w K mg base (A.mark (some (.ref ea))) outer s H → BindsTo s fd args (ps.zip us) → Vals vs us → sp vs H Q E0 → codeAny (model P w) (A.mark (some (.ref ea))) (.call (.ref f) args) (CR CX0 outer P w H s Q E0) s
section
variable {P : Program} {w : World} {K : PySem.W.Frag} {mg : Str → Option Value} {base : Heap}
theorem Fun.okH {x qual : Str} {st : Stmt} {f : Addr} {fd : FuncData} {N ps : List Str} {k : Nat} {sp : Sp} (F : Fun K x qual st f fd) (S : FnScope N ps (defScope st)) (len : ∀ vs H Q E, sp vs H Q E → vs.length = ps.length)
    (hbody : ∀ (cdv : Value) (A : Around) (ea : Addr) (outer : List Env) (s : Shared) (H : Hp) (vs : List V) (Q : VK), RoomH k ((A.mark (some (.ref ea))).deeper (envOfC qual (defScope st) s.heap.objs.size f cdv)) → sp vs H Q E0 →
      ∃ t, PSs ((cxOf CX0 P w K mg base N qual (defScope st) f cdv ({ A with handled := none } : Around) outer s H E0).caught ea) (defBody st) t ∧ t { nx := fun _ H' => Q .non H', rt := Q } (start N vs) H) : FnOkH P w K mg base (k + 1) f fd ps sp := by
  obtain ⟨oc, od, kV, doc, pm, an, cdv, ct, osl, rfl, lk, hcd⟩ := F.ex
  refine ⟨len, fun A ea outer s H args us vs Q hr e0 hb r hsp => ?_⟩
  have hl := len _ _ _ _ hsp
  have KX : K.In s.heap := e0.mod.kin.keeps fun b o e => (e0.bs b o e).1
  have lim : s.heap.NoLimit := e0.mod.nolimit.keeps fun b o e => (e0.bs b o e).1
  have hkind : ∀ y ∈ ps.zip us, (defScope st).names.lookup y.1 = some .local ∨ ((defScope st).names.lookup y.1 = some .cell ∧ ((cellsFrom (s.heap.objs.size + 1) (defScope st).names []).lookup y.1).isSome = true) := fun ⟨n, v⟩ hy => by
    rcases S.par n (List.of_mem_zip hy).1 with z | z
    · exact .inl z
    · exact .inr ⟨z, PySem.W.cellsFrom_some _ _ _ (.inl z)⟩
  refine codeAny_call_function (by have := hr.dp; omega) (KX _ _ lk) rfl S.co S.gen rfl (PySem.W.codeRec_of KX hcd) (hb _ _ _ _ ?_)
  refine wpAny_newFunctionEnv_cells S.kind hkind fun env he s1 x => ?_
  subst he
  refine ⟨lim.keeps x.toInCall.keep, codeAny_func ?_⟩
  obtain ⟨t, ht, hq⟩ := hbody cdv A ea outer s H vs Q (hr.deep _) hsp
  have e1 : Env0 P w K mg base ({ A with handled := none } : Around) outer s H := ⟨e0.frames, e0.mod, e0.bs, e0.bsz, e0.funs, e0.frf, e0.hok, e0.bare⟩
  have I : Inv (cxOf CX0 P w K mg base N qual (defScope st) f cdv ({ A with handled := none } : Around) outer s H E0) [] (start N vs) H s1 := inv_start S rfl e1 hl r x
  have I2 := I.caught ea
  refine wpAny_mono (ht [] s1 (start N vs) H _ I2 hq) (fun fl s' hs => ?_) fun e s' hs => False.elim hs
  have fin : ∀ {σ' : St} {H' : Hp} {v : V} {u : Value}, Inv ((cxOf CX0 P w K mg base N qual (defScope st) f cdv ({ A with handled := none } : Around) outer s H E0).caught ea) [] σ' H' s' → RelV v u → Q v H' → CE outer P w H s Q u s' := fun {σ' H' v u} J rv q => ⟨v, H', J.os, J.bare, J.base, J.hok, rv, q⟩
  cases fl with
  | ret u =>
    obtain ⟨v, σ', H', J, rv, q⟩ := hs
    exact fin J rv q
  | next =>
    obtain ⟨σ', H', J, q⟩ := hs
    exact fin (v := V.non) (u := Value.none) J rfl q
  | brk =>
    obtain ⟨_, _, _, q⟩ := hs
    exact False.elim q
  | cont =>
    obtain ⟨_, _, _, q⟩ := hs
    exact False.elim q
end
section
variable {X : Cx} {k : Nat} {f ea : Addr} {fd : FuncData} {ps : List Str} {sp : Sp} {dvs : List V} {ds : List Value} {x : Str} {p pos : Pos} {e : Expr} {es : List Expr} {t : TA}
def tCallH (sp : Sp) (dvs : List V) (t : TA) : TE := fun σ H Q => t σ H fun vs H1 => sp (vs ++ dvs) H1 Q E0
theorem pe_callH (F : FnOkH X.prog X.w X.K X.mg X.base k f fd ps sp) (hr : Room k X.A) (hg : Gl X x) (hm : X.mg x = some (.ref f)) (hk : PySem.W.keepIn X.K (.ref f) = true) (hb : Binds X.K fd ps ds) (hd : Vals dvs ds)
    (ha : PA (X.caught ea) (e :: es) t) (hdb : (x == ("__debug__" : Str)) = false := by decide) (he : starEach (e :: es) X.env = (false, eval e X.env) :: starEach es X.env := by rfl) (hpl : (backTo pos (starEach es X.env)).any (·.1) = false := by rfl) :
    PE (X.caught ea) (.Call (.Name x p) (e :: es) [] pos) (tCallH sp dvs t) := by
  intro pins s σ H Q I h
  refine wpAny_Call_Name_kw (ld_glob I hg hm ?_ hdb)
  refine PySem.W.callWith_K (h₀ := X.base) I.ok.mod.kin hk (thn (ha pos pins s σ H _ I h) fun us s1 ⟨vs, H1, I1, r, q⟩ => ⟨I1.kIn, ?_⟩) he hpl
  have r2 : Vals (vs ++ dvs) (us ++ ds) := r.append hd
  have hl : (us ++ ds).length = ps.length := by rw [← r2.length]; exact F.len _ _ _ _ q
  refine wpAny_call (codeAny_mono (F.run X.A ea X.stack s1 H1 ⟨us, []⟩ (us ++ ds) (vs ++ dvs) Q (hr.marked _) I1.env0 (hb s1 us I1.kIn hl) r2 q) fun res s' hq => ?_)
  cases res with
  | error e => exact False.elim hq
  | ok fl =>
    cases fl with
    | ret u => exact I1.after hq
    | next => exact False.elim hq
    | brk => exact False.elim hq
    | cont => exact False.elim hq
end
end L2
set_option Elab.async false
set_option linter.all false
set_option maxRecDepth 100000
set_option maxHeartbeats 4000000
namespace L2
open PySem PySem.Spec PyProof.Rows
structure Run (kd : SortKind) (a0 : Array Keyed) (t : SortSt) : Prop where
  pm : Array.Perm (arrOf t) a0
  kind : kindOf t = kd
  ok : failedOf t = none
  none : pendingOf t = #[]
section
variable {ky : Value → Int} {xs ys : Array Keyed} {k : Nat}
end
section
variable {prog : Program} {w : World} {A : Around} {E : Value → Shared → Prop} {s : Shared} {a0 : Array Keyed} {kd : SortKind} {ky : Value → Int} {t : SortSt}
end
section
variable {prog : Program} {w : World} {A : Around} {E : Value → Shared → Prop} {s : Shared}
def PairIn (h : Heap) (v : Value) (p q : Int) : Prop := ∃ a o n t u, v = .ref a ∧ h.get? a = some o ∧ o.cls = .type "tuple" ∧ o.data = .seq #[.int p t, .int q u] n
end
def KeepB (wr : List Addr) (S : Addr) (h0 h : Heap) : Prop := ∀ b o, b ∉ wr → b ≠ S → h0.get? b = some o → h.get? b = some o
def CmpH (prog : Program) (w : World) (A : Around) (wr : List Addr) (S : Addr) (h0 : Heap) (P : Nat → Value → Prop) (bt : Nat → Nat → Bool) : Prop :=
  ∀ i j vi vj (s' : Shared), KeepB wr S h0 s'.heap → ∀ (Q : Value → Shared → Prop) (E : Value → Shared → Prop), P i vi → P j vj → Q (.bool (bt i j)) s' → wpAny (model prog w) A (richCompare .Lt vi vj) Q E s'
section
variable {prog : Program} {w : World} {A : Around} {R : Result → Shared → Prop} {I S : Addr} {fp wr : List Addr} {n : Nat} {P : Nat → Value → Prop} {St : Nat → Heap → Prop} {bt : Nat → Nat → Bool} {h0 : Heap}
theorem KeepB.upd {h h' : Heap} (k : KeepB wr S h0 h) (h1 : ∀ b o, b ∉ wr → h.get? b = some o → h'.get? b = some o) (f : Obj → Obj) : KeepB wr S h0 (h'.update S f) := fun b o hb hs e => (Heap.get?_update_other _ _ (Ne.symm hs)).trans (h1 b o hb (k b o hb hs e))
theorem KeepB.go {h h' : Heap} (k : KeepB wr S h0 h) (h1 : ∀ b o, b ∉ wr → h.get? b = some o → h'.get? b = some o) : KeepB wr S h0 h' := fun b o hb hs e => h1 b o hb (k b o hb hs e)
theorem min_rest (W : Walks prog w A.in1 I fp wr n P St) (hc : CmpH prog w A.in1 wr S h0 P bt) (hS : S ∉ fp) : ∀ (k j : Nat) (s : Shared) (vb : Value) (c : Nat), n = j + 1 + k → St (j + 1) s.heap → P (argBest bt j) vb → KeepB wr S h0 s.heap →
    s.heap.get? S = some { cls := .type "list", data := .seq #[vb, vb] c } → (∀ v h' tk, P (argBest bt (n - 1)) v → KeepB wr S h0 h' → R (.ok (.ret v)) { s with heap := h', toks := tk }) →
    codeAny (model prog w) A (.builtin "min.loop" ⟨[.ref I, .none, .ref S], []⟩) R s := by
  have hw : S ∉ wr := fun z => hS (W.sub _ z)
  have nm' : (toString "min" ++ toString ".loop" : String) = "min.loop" := by decide
  intro k
  induction k with
  | zero =>
    intro j s vb c hk hst hb hK g q
    refine codeAny_builtin F.entry_min_loop ?_
    rw [Around.under_plainId F.plain_min_loop _]
    show wpAny _ A.in1 (seqItems? (.ref S) >>= _) _ _ s
    refine wpAny_bind (wpAny_seqItems g rfl ?_)
    show wpAny _ A.in1 (tryCatch (pyNext (.ref I)) _ >>= _) _ _ s
    refine wpAny_bind (wpAny_tryCatch (W.done s _ _ (by rw [hk]; exact hst) fun h' tk kp => ?_))
    show wpAny _ A.in1 (updateSeq S (fun _ => #[]) >>= _) _ _ _
    refine wpAny_bind (wpAny_updateSeq (kp S _ hw g) rfl (wpAny_bind (wpAny_letGo (wpAny_pure (q vb _ tk ?_ (hK.upd kp _))))))
    rw [hk]
    exact hb
  | succ k ih =>
    intro j s vb c hk hst hb hK g q
    refine codeAny_builtin F.entry_min_loop ?_
    rw [Around.under_plainId F.plain_min_loop _]
    show wpAny _ A.in1 (seqItems? (.ref S) >>= _) _ _ s
    refine wpAny_bind (wpAny_seqItems g rfl ?_)
    show wpAny _ A.in1 (tryCatch (pyNext (.ref I)) _ >>= _) _ _ s
    refine wpAny_bind (wpAny_tryCatch (W.item (j + 1) s _ _ (by omega) hst fun v h' tk hv hst2 kp => ?_))
    have g2 := kp S _ hw g
    show wpAny _ A.in1 (tryCatch (holding [v, v] (richCompare .Lt v vb >>= _)) _ >>= _) _ _ _
    refine wpAny_bind (wpAny_tryCatch (wpAny_holding (wpAny_bind (hc (j + 1) (argBest bt j) v vb _ (hK.go kp) _ _ hv hb (wpAny_bind (wpAny_holding (wpAny_truthy_bool (wpAny_bind (wpAny_letGo (wpAny_pure ?_))))))))))
    by_cases cb : bt (j + 1) (argBest bt j) = true
    · rw [cb]
      simp only [if_true]
      refine wpAny_bind (wpAny_updateSeq g2 rfl (wpAny_bind (wpAny_letGo ?_)))
      rw [nm']
      have hbest : argBest bt (j + 1) = j + 1 := by simp only [argBest, cb, if_true]
      refine wpAny_pure ⟨plainId_quiet F.plain_min_loop _, ih (j + 1) _ v _ (by omega) (W.frame _ _ _ hst2 fun b hb2 o e => ?_) (by rw [hbest]; exact hv) (hK.upd kp _) (Heap.get?_update_self _ g2 rfl) fun v' h'' tk'' a1 a2 => q v' h'' tk'' a1 a2⟩
      exact (Heap.get?_update_other _ _ (fun z : S = b => hS (by rw [z]; exact hb2))).trans e
    · have cb : bt (j + 1) (argBest bt j) = false := by simpa using cb
      rw [cb]
      simp only [Bool.false_eq_true, if_false]
      refine wpAny_bind (wpAny_letGo ?_)
      rw [nm']
      have hbest : argBest bt (j + 1) = argBest bt j := by simp only [argBest, cb, Bool.false_eq_true, if_false]
      exact wpAny_pure ⟨plainId_quiet F.plain_min_loop _, ih (j + 1) _ vb c (by omega) hst2 (by rw [hbest]; exact hb) (hK.go kp) g2 fun v' h'' tk'' a1 a2 => q v' h'' tk'' a1 a2⟩
end
section
variable {prog : Program} {w : World} {A : Around} {E : Value → Shared → Prop} {s : Shared}
theorem min_list {p : Addr} {its : Array Value} {bt : Nat → Nat → Bool} {Q : Value → Shared → Prop} (hh : A.in1.handled = none) (hl : s.heap.IsList p its) (hn : 0 < its.size)
    (hc : ∀ i j vi vj (s' : Shared), (∀ b o, s.heap.get? b = some o → s'.heap.get? b = some o) → ∀ (Q : Value → Shared → Prop) (E : Value → Shared → Prop), its[i]? = some vi → its[j]? = some vj → Q (.bool (bt i j)) s' → wpAny (model prog w) A.in1 (richCompare .Lt vi vj) Q E s')
    (q : ∀ v h' tk, its[argBest bt (its.size - 1)]? = some v → (∀ b o, s.heap.get? b = some o → h'.get? b = some o) → Q v { s with heap := h', toks := tk }) : wpAny (model prog w) A (call (.builtin "min") [.ref p]) Q E s := by
  have nm' : (toString "min" ++ toString ".loop" : String) = "min.loop" := by decide
  have lt : p < s.heap.objs.size := by obtain ⟨_, e, _⟩ := hl; exact Heap.lt_size e
  refine call_function_tree F.kind_min F.plain_min F.entry_min (F.args_min1 _) ?_
  show wpAny _ A.in1 (Builtin.Builtins.bindParams "min" ["key", "default"] 0 ⟨[], []⟩ >>= _) _ _ s
  refine wpAny_bind (wpAny_of_eq (show Builtin.Builtins.bindParams "min" ["key", "default"] 0 ⟨[], []⟩ = pure [none, none] from rfl) (wpAny_bind (wpAny_pure (wpAny_bind (wpAny_pyIter_list hl ?_)))))
  refine wpAny_bind (wpAny_newObj_type ?_)
  rw [nm']
  obtain ⟨h2, e2⟩ : ∃ h2 : Heap, h2 = (s.heap.push { cls := .type "list_iterator", data := .fields #[.ref p, .int 0 0] }).push { cls := .type "list", data := .seq #[] } := ⟨_, rfl⟩
  have zS : (s.heap.push { cls := .type "list_iterator", data := .fields #[.ref p, .int 0 0] }).objs.size = s.heap.objs.size + 1 := size_push' _ _
  have old : ∀ b o, s.heap.get? b = some o → h2.get? b = some o := fun b o e => by rw [e2]; exact Heap.get?_push_of_some _ (Heap.get?_push_of_some _ e)
  have gI : h2.get? s.heap.objs.size = some { cls := .type "list_iterator", data := .fields #[.ref p, .int 0 0] } := by rw [e2]; exact Heap.get?_push_of_some _ (Heap.get?_push_size _ rfl)
  have gS : h2.get? (s.heap.objs.size + 1) = some { cls := .type "list", data := .seq #[] } := by rw [e2, ← zS]; exact Heap.get?_push_size _ rfl
  rw [zS]
  show wpAny _ _ (pure _) _ _ { s with heap := (s.heap.push { cls := .type "list_iterator", data := .fields #[.ref p, .int 0 0] }).push { cls := .type "list", data := .seq #[] } }
  rw [← e2]
  have W := Walks.list (prog := prog) (w := w) (A := A.in1) hh s.heap.objs.size p (Nat.ne_of_lt lt) its
  have hS : s.heap.objs.size + 1 ∉ [s.heap.objs.size, p] := fun z => by
    rcases List.mem_cons.mp z with z | z
    · exact absurd z (Nat.succ_ne_self _)
    · have y := List.mem_singleton.mp z
      rw [← y] at lt
      exact absurd lt (Nat.not_lt.mpr (Nat.le_succ _))
  have hw : s.heap.objs.size + 1 ∉ [s.heap.objs.size] := fun z => absurd (List.mem_singleton.mp z) (Nat.succ_ne_self _)
  have ofK : ∀ h : Heap, KeepB [s.heap.objs.size] (s.heap.objs.size + 1) h2 h → ∀ b o, s.heap.get? b = some o → h.get? b = some o := fun h k b o e => by
    have l := Heap.lt_size e
    exact k b o (fun z => by rw [List.mem_singleton.mp z] at l; exact Nat.lt_irrefl _ l) (fun z => by rw [z] at l; exact absurd l (Nat.not_lt.mpr (Nat.le_succ _))) (old b o e)
  have hcH : CmpH prog w A.in1 [s.heap.objs.size] (s.heap.objs.size + 1) h2 (fun i v => its[i]? = some v) bt := fun i j vi vj s' k Q' E' hi hj q' => hc i j vi vj s' (ofK _ k) Q' E' hi hj q'
  refine wpAny_pure ⟨plainId_quiet F.plain_min_loop _, codeAny_builtin F.entry_min_loop ?_⟩
  rw [Around.under_plainId F.plain_min_loop _]
  show wpAny _ A.in1 (seqItems? (.ref (s.heap.objs.size + 1)) >>= _) _ _ _
  refine wpAny_bind (wpAny_seqItems gS rfl ?_)
  show wpAny _ A.in1 (tryCatch (pyNext (.ref s.heap.objs.size)) _ >>= _) _ _ _
  refine wpAny_bind (wpAny_tryCatch (W.item 0 _ _ _ hn ⟨⟨_, gI, rfl, rfl⟩, hl.at fun o e => old p o e⟩ fun v h' tk hv hst kp => ?_))
  have g2 := kp _ _ hw gS
  show wpAny _ A.in1 (updateSeq (s.heap.objs.size + 1) (fun _ => #[v, v]) >>= _) _ _ _
  refine wpAny_bind (wpAny_updateSeq g2 rfl ?_)
  rw [nm']
  have k0 : KeepB [s.heap.objs.size] (s.heap.objs.size + 1) h2 h2 := fun b o _ _ e => e
  refine wpAny_pure ⟨plainId_quiet F.plain_min_loop _, min_rest (S := s.heap.objs.size + 1) W hcH hS (its.size - 1) 0 _ v _ (by omega) (W.frame _ _ _ hst fun b hb o e => ?_) hv (k0.upd kp _) (Heap.get?_update_self _ g2 rfl) fun v' h'' tk'' a1 a2 => q v' h'' tk'' a1 (ofK _ a2)⟩
  exact (Heap.get?_update_other _ _ (fun z : s.heap.objs.size + 1 = b => hS (by rw [z]; exact hb))).trans e
end
theorem vals_at : ∀ {xs : List V} {us : List Value} {i : Nat} {u : Value}, Vals xs us → us[i]? = some u → ∃ x, xs[i]? = some x ∧ RelV x u
  | _, _, _, _, .nil, h => by simp at h
  | _, _, 0, _, .cons r t, h => by simp at h; subst h; exact ⟨_, rfl, r⟩
  | _, _, i + 1, _, .cons r t, h => by
    obtain ⟨x, e, q⟩ := vals_at (i := i) t (by simpa using h)
    exact ⟨x, by simpa using e, q⟩
section
variable {X : Cx}
theorem rcLt_pairL {A : Around} {s : Shared} {a b l m : Addr} {p q : Int} {k1 k2 : Tok} {j1 j2 : Array Value} {ns ms : List Int} (t1 : s.heap.IsTuple a #[.int p k1, .ref l]) (t2 : s.heap.IsTuple b #[.int q k2, .ref m])
    (l1 : s.heap.IsList l j1) (l2 : s.heap.IsList m j2) (w1 : IntsAre j1.toList ns) (w2 : IntsAre j2.toList ms) (hu : A.units + 8 < cLine) (prog : Program) (w : World) (E : Value → Shared → Prop) (Q : Value → Shared → Prop)
    (h : Q (.bool (if p = q then HT.lexLt ns ms else decide (p < q))) s) : wpAny (model prog w) A (richCompare .Lt (.ref a) (.ref b)) Q E s := by
  obtain ⟨⟨c1, d1, a1, s1⟩, ho, hc, n, hd⟩ := t1
  obtain ⟨⟨c2, d2, a2, s2⟩, ho2, hc2, n2, hd2⟩ := t2
  dsimp only at hc hd hc2 hd2
  subst hc hd hc2 hd2
  have n1 : j1.size = ns.length := by rw [← w1.length]; simp
  have n2' : j2.size = ms.length := by rw [← w2.length]; simp
  have u1 : A.in1.units < cLine := by show A.units + 1 < cLine; omega
  have u2 : A.in1.in1.units < cLine := by show A.units + 1 + 1 < cLine; omega
  have eqL : l ≠ m → ns.length = ms.length → SeqAt.EqAt A.in1 s (.ref l) (.ref m) (decide (ns = ms)) := fun lm cl => by
    refine SeqAt.EqAt.of_refs lm ?_
    have z := SeqAt.RcAt.lists (A := A.in1) (e := fun j => ns.getD j 0 == ms.getD j 0) l1 l2 (by omega) u1 (fun j h1 h2 => by
      obtain ⟨t1, e1⟩ := ints_at w1 (List.getElem?_eq_getElem (show j < ns.length by omega))
      obtain ⟨t2, e2⟩ := ints_at w2 (List.getElem?_eq_getElem (show j < ms.length by omega))
      have g1 : j1[j] = .int (ns[j]'(by omega)) t1 := by
        rw [Array.getElem?_toList, getElem?_pos j1 j h1] at e1
        exact Option.some.inj e1
      have g2 : j2[j] = .int (ms[j]'(by omega)) t2 := by
        rw [Array.getElem?_toList, getElem?_pos j2 j h2] at e2
        exact Option.some.inj e2
      rw [g1, g2, List.getD_eq_getElem?_getD, List.getD_eq_getElem?_getD, List.getElem?_eq_getElem (show j < ns.length by omega), List.getElem?_eq_getElem (show j < ms.length by omega)]
      exact SeqAt.EqAt.int_int _ _ _ _)
    have f : (List.range j1.size).all (fun j => ns.getD j 0 == ms.getD j 0) = decide (ns = ms) := by
      rw [Bool.eq_iff_iff, decide_eq_true_iff, List.all_eq_true]
      constructor
      · intro h
        refine List.ext_getElem cl fun j h1 h2 => ?_
        have z := h j (List.mem_range.mpr (by omega))
        rw [List.getD_eq_getElem?_getD, List.getD_eq_getElem?_getD, List.getElem?_eq_getElem h1, List.getElem?_eq_getElem h2] at z
        exact beq_iff_eq.mp z
      · rintro rfl j _
        exact beq_self_eq_true _
    rwa [f] at z
  have res : LtRes A.in1 s [Value.int p k1, Value.ref l] [Value.int q k2, Value.ref m] (if p = q then HT.lexLt ns ms else decide (p < q)) := by
    by_cases c : p = q
    · rw [if_pos c]
      refine .eq ?_ ?_
      · have z := SeqAt.EqAt.int_int (A := A.in1) (s := s) p k1 q k2
        rwa [show (p == q) = true from beq_iff_eq.mpr c] at z
      · by_cases lm : l = m
        · subst lm
          have e : ns = ms := by
            obtain ⟨o1, g1, _, _, d1⟩ := l1
            obtain ⟨o2, g2, _, _, d2⟩ := l2
            rw [g1] at g2
            cases g2
            rw [d1] at d2
            injection d2 with d2 _
            subst d2
            rw [← w1.nums, ← w2.nums]
          subst e
          rw [lexLt_self]
          exact .eq (SeqAt.EqAt.same _) .nn
        · by_cases c2 : ns = ms
          · have z := eqL lm (by rw [c2])
            rw [decide_eq_true c2] at z
            rw [c2, lexLt_self]
            exact .eq z .nn
          · refine .lt ?_ (rcLt_list l1 l2 w1 w2 u1)
            by_cases cl : ns.length = ms.length
            · have z := eqL lm cl
              rwa [decide_eq_false c2] at z
            · exact SeqAt.EqAt.of_refs lm (SeqAt.RcAt.lists_lengths l1 l2 (by simp; omega) u1)
    · rw [if_neg c]
      refine .lt ?_ (HT.rcLt_int _ _ p k1 q k2)
      have z := SeqAt.EqAt.int_int (A := A.in1) (s := s) p k1 q k2
      rwa [show (p == q) = false from beq_eq_false_iff_ne.mpr c] at z
  exact richCompare_meets_room (op := .Lt) ⟨_, ho, rfl⟩ ⟨_, ho2, rfl⟩ PySem.F.slot_tuple_lt PySem.F.entry_tuple_lt (PySem.F.args_tuple_lt_2 _ _) (tuple_ltR a b _ _ n n2 d1 d2 s1 s2 _)
    ⟨ho, ho2, res, show Value.bool _ ≠ Value.notImplemented ∧ _ from ⟨(fun x => nomatch x), h⟩⟩ (by omega)
def PrL (H : Hp) (t : Addr) (p : Int × List Int) : Prop := ∃ l, H t = some (.tup [.int p.1, .ref l]) ∧ H l = some (.lst (p.2.map V.int))
def ltP (p q : Int × List Int) : Bool := if p.1 = q.1 then HT.lexLt p.2 q.2 else decide (p.1 < q.1)
theorem call_minP (hc : X.calm = true) (hu : X.A.units + 64 < cLine) : CallR X (.builtin "min") (fun xs H Q => ∃ (p : Addr) (ts : List Addr) (ps : List (Int × List Int)), xs = [.ref p] ∧ SqL X.K H p (ts.map V.ref) ∧ ts.length = ps.length ∧ (∀ (i : Nat) t r, ts[i]? = some t → ps[i]? = some r → PrL H t r) ∧ ts ≠ [] ∧
    ∀ (i : Nat) t, ts[i]? = some t → i = argBest (fun i j => ltP (ps.getD i (0, [])) (ps.getD j (0, []))) (ts.length - 1) → Q (.ref t) H) := by
  intro pins s σ H xs us Q I r h
  obtain ⟨p, ts, ps, rfl, hq, hl, hp, hne, q⟩ := h
  obtain ⟨u, rfl, ru⟩ := vals1 r
  cases ru
  obtain ⟨its, rv, pl, hz⟩ := I.list hq
  have lenV : ts.length = its.length := by have := rv.length; rwa [List.length_map] at this
  have hv : ∀ (i : Nat) v, its[i]? = some v → ∃ t, ts[i]? = some t ∧ v = .ref t := fun i v e => by
    obtain ⟨x, hx, rx⟩ := vals_at rv e
    obtain ⟨t, ht, rfl⟩ := map_ref_get hx
    exact ⟨t, ht, rx⟩
  have hpos : 0 < ts.length := List.length_pos_iff.mpr hne
  refine min_list (bt := fun i j => ltP (ps.getD i (0, [])) (ps.getD j (0, []))) (I.ok.hd hc) pl.isList (by rw [List.size_toArray]; omega) (fun i j vi vj s' keep Q' E' hi hj q' => ?_) fun v h' tk hv' keep => ?_
  · rw [List.getElem?_toArray] at hi hj
    obtain ⟨ti, hti, rfl⟩ := hv i vi hi
    obtain ⟨tj, htj, rfl⟩ := hv j vj hj
    have li : i < ps.length := by have := (List.getElem?_eq_some_iff.mp hti).1; omega
    have lj : j < ps.length := by have := (List.getElem?_eq_some_iff.mp htj).1; omega
    obtain ⟨l1, e1, e2⟩ := hp i ti _ hti (List.getElem?_eq_getElem li)
    obtain ⟨l2, e3, e4⟩ := hp j tj _ htj (List.getElem?_eq_getElem lj)
    have I' : Inv X pins σ H { s with heap := s'.heap, toks := s.toks } := I.kept keep
    obtain ⟨i1, r1, t1, _⟩ := I'.tuple (SqT.of e1)
    obtain ⟨i2, r2, t2, _⟩ := I'.tuple (SqT.of e3)
    obtain ⟨j1, w1, m1, _⟩ := I'.list (SqL.of e2)
    obtain ⟨j2, w2, m2, _⟩ := I'.list (SqL.of e4)
    obtain ⟨u1, u2, rfl, ⟨k1, rfl⟩, z2⟩ := vals2 r1
    obtain ⟨u3, u4, rfl, ⟨k2, rfl⟩, z4⟩ := vals2 r2
    cases z2
    cases z4
    refine rcLt_pairL (s := s') (A := X.A.in1) t1 t2 m1.isList m2.isList (ints_of w1) (ints_of w2) (by show X.A.units + 1 + 8 < cLine; omega) _ _ _ _ ?_
    have eq1 : ps.getD i (0, []) = ps[i] := by rw [List.getD_eq_getElem?_getD, List.getElem?_eq_getElem li]; rfl
    have eq2 : ps.getD j (0, []) = ps[j] := by rw [List.getD_eq_getElem?_getD, List.getElem?_eq_getElem lj]; rfl
    rw [eq1, eq2] at q'
    exact q'
  · rw [List.getElem?_toArray, List.size_toArray, ← lenV] at hv'
    obtain ⟨t, ht, rfl⟩ := hv _ v hv'
    exact ⟨.ref t, H, I.kept keep, rfl, q _ t ht rfl⟩
end
theorem for_enum {K : PySem.W.Frag} {a : Addr} {xs : List V} {g : TG} {tb : TS} {D : Ends} {σ : St} {H : Hp} (Pv : Nat → St → Hp → Prop) (h0 : Pv 0 σ H) (hl : ∀ i σ H, Pv i σ H → SqL K H a xs)
    (hs : ∀ i x σ H p, xs[i]? = some x → Pv i σ H → H p = none → g (.ref p) σ (upd H p (.tup [.int (i : Int), x])) fun σ2 H2 => tb { D with nx := Pv (i + 1), ct := Pv (i + 1), bk := D.nx } σ2 H2) (hd : ∀ σ H, Pv xs.length σ H → D.nx σ H) :
    ∃ W : Nat → Nat → St → Hp → Prop, (∃ m, W 0 m σ H) ∧ ∀ i m σ H, W i m σ H → ((Ite K a).stop i H ∧ D.nx σ H) ∨ ((Ite K a).go i H ∧ ∃ N : St → Hp → Prop, (∀ σ' H', N σ' H' → ∃ m', m' < m ∧ W (i + 1) m' σ' H') ∧ ∀ x H', (Ite K a).yld i H x H' → g x σ H' fun σ2 H2 => tb { D with nx := N, ct := N, bk := D.nx } σ2 H2) := by
  refine ⟨fun i m σ H => m = xs.length - i ∧ i ≤ xs.length ∧ Pv i σ H, ⟨xs.length, by simp, Nat.zero_le _, h0⟩, ?_⟩
  rintro i m σ H ⟨rfl, hi, p⟩
  have q1 := hl i σ H p
  by_cases hlt : i < xs.length
  · refine .inr ⟨⟨xs, xs[i], q1, List.getElem?_eq_getElem hlt⟩, Pv (i + 1), fun σ' H' p' => ⟨xs.length - (i + 1), by omega, rfl, hlt, p'⟩, ?_⟩
    rintro v H' ⟨r, x, rfl, hr, rfl, hx⟩
    exact hs i x σ H r (hx xs q1) p hr
  · have e : i = xs.length := by omega
    subst e
    exact .inl ⟨⟨xs, q1, Nat.le_refl _⟩, hd σ H p⟩
end L2
namespace My
open PySem L2 PyProof.Rows
end My
set_option Elab.async false
set_option linter.all false
set_option maxRecDepth 100000
set_option maxHeartbeats 4000000
namespace L2
open PySem PySem.Spec PyProof.Rows
section
variable {X : Cx} (K : PySem.W.Frag)
theorem call_sortedK (hK : X.K = K) : CallR X (.builtin "sorted") (fun xs H Q => ∃ (p : Addr) (ns : List Int), xs = [.ref p] ∧ SqL K H p (ns.map V.int) ∧ ns.length < 64 ∧ ∀ (l : Addr) (ms : List Int), H l = none → ms.Perm ns → ms.Pairwise (· ≤ ·) → Q (.ref l) (upd H l (.lst (ms.map V.int)))) := by
  subst hK
  exact call_sorted
theorem pe_fldK {e : Expr} {f : Str} {pos : Pos} {ta : TE} (hK : X.K = K) (he : PE X e ta) (hb : attributeBase e f X.env (eval e X.env) = eval e X.env) : PE X (.Attribute e f pos) (tFld K ta f) := by
  subst hK
  exact pe_fld he hb
end
section
variable {X : Cx}
theorem pj_s {e : Expr} {n : Nat} {pos : Pos} {es : List Expr} {te : TE} {t : St → Hp → (Hp → Prop) → Prop} (h0 : PE X e te) (h1 : PJ X es n t)
    (he : evalEach (.FormattedValue e (-1) none pos :: es) X.env = eval (.FormattedValue e (-1) none pos) X.env :: evalEach es X.env := by rfl) :
    PJ X (.FormattedValue e (-1) none pos :: es) (1002 + n) (fun σ H R => te σ H fun v H1 => ∃ x : Str, v = .str x ∧ x.length ≤ 1000 ∧ t σ H1 R) := by
  intro pins s σ H out Q I hz h
  rw [he]
  refine joinParts_cons (FormattedValue_plain (thn (h0 pins s σ H _ I h) fun v s1 ⟨x, H1, I1, r, y, e1, hi, q⟩ => ?_))
  subst e1
  obtain ⟨tk, rfl⟩ := r
  refine formatField_str (fun t' tk' => ?_) (Nat.le_trans hi (by decide))
  have hl : (out ++ y).length = out.length + y.length := strLen_append _ _
  refine ⟨by rw [hl]; omega, ?_⟩
  exact h1 pins _ σ H1 _ Q (I1.kept (t' := tk') fun b o e => e) (by rw [hl]; omega) q
end
end L2
namespace My
open PySem L2 PyProof.Rows
theorem lex_iff : ∀ a b : List Int, HT.lexLt a b = true ↔ lexLt a b
  | [], [] => ⟨(fun h => nomatch h), fun h => h.elim⟩
  | [], _ :: _ => ⟨fun _ => trivial, fun _ => rfl⟩
  | _ :: _, [] => ⟨(fun h => nomatch h), fun h => h.elim⟩
  | a :: as, b :: bs => by
    rw [HT.lexLt_cons]
    show _ ↔ (a < b ∨ (a = b ∧ lexLt as bs))
    by_cases e : a = b
    · rw [if_pos e, lex_iff as bs]
      exact ⟨fun h => .inr ⟨e, h⟩, fun h => h.elim (fun z => absurd e (by omega)) fun z => z.2⟩
    · rw [if_neg e, decide_eq_true_iff]
      exact ⟨fun h => .inl h, fun h => h.elim id fun z => absurd z.1 e⟩
theorem ltP_iff (p q : Int × List Int) : ltP p q = true ↔ p.1 < q.1 ∨ (p.1 = q.1 ∧ lexLt p.2 q.2) := by
  unfold ltP
  by_cases e : p.1 = q.1
  · rw [if_pos e, lex_iff]
    exact ⟨fun h => .inr ⟨e, h⟩, fun h => h.elim (fun z => absurd e (by omega)) fun z => z.2⟩
  · rw [if_neg e, decide_eq_true_iff]
    exact ⟨.inl, fun h => h.elim id fun z => absurd z.1 e⟩
theorem ltP_irr (p : Int × List Int) : ltP p p = false := by
  cases q : ltP p p with
  | false => rfl
  | true =>
    rcases (ltP_iff p p).mp q with z | z
    · omega
    · exact (lex_irr _ z.2).elim
theorem ltP_trans {p q r : Int × List Int} (h1 : ltP p q = true) (h2 : ltP q r = true) : ltP p r = true := by
  rw [ltP_iff] at *
  rcases h1 with a | ⟨a, b⟩ <;> rcases h2 with c | ⟨c, d⟩
  · exact .inl (by omega)
  · exact .inl (by omega)
  · exact .inl (by omega)
  · exact .inr ⟨by omega, lex_trans b d⟩
theorem argBest_least {bt : Nat → Nat → Bool} (irr : ∀ i, bt i i = false) (tr : ∀ i j k, bt i j = true → bt j k = true → bt i k = true) : ∀ k j, j ≤ k → bt j (argBest bt k) = false
  | 0, j, h => by
    rw [show j = 0 by omega]
    exact irr 0
  | k + 1, j, h => by
    have ih := argBest_least irr tr k
    unfold argBest
    cases c : bt (k + 1) (argBest bt k) with
    | true =>
      rw [if_pos rfl]
      by_cases e : j = k + 1
      · rw [e]; exact irr _
      · cases q : bt j (k + 1) with
        | false => rfl
        | true =>
          have z := tr _ _ _ q c
          rw [ih j (by omega)] at z
          cases z
    | false =>
      rw [if_neg (by decide)]
      by_cases e : j = k + 1
      · rw [e]; exact c
      · exact ih j (by omega)
end My
set_option Elab.async false
set_option linter.all false
set_option maxRecDepth 100000
set_option maxHeartbeats 4000000
namespace L2
open PySem PySem.Spec PyProof.Rows
section
variable {M : Model} {A : Around} {E : Value → Shared → Prop} {s : Shared} {env : Env} {outer : List Env} {base : Heap} {L e T : Addr} {cls : Value} {dct : Option Addr} {fl : Value} {Q : Unit → Shared → Prop}
theorem st_mark {fr : Option Addr} (x : Exc s.heap e cls dct T fl) (q : ∀ h' fl', Moved s.heap h' [] [T] → h'.objs.size = s.heap.objs.size → Exc h' e cls dct T fl' → Q () { s with heap := h' }) : wpAny M A (setFlight (.ref e) fr) Q E s := by
  obtain ⟨oe, vs, oT, ts, he, rfl, rfl, hd, h1, hne, hT, hdT, h3⟩ := x
  unfold setFlight
  refine wpAny_bind (wpAny_field he hd h1 ?_)
  rw [if_pos (by simp)]
  refine wpAny_setField hT hdT (vs_lt h3) (q _ (fr.elim .none fun f => rawInt f) ⟨fun b o hb _ hc => ?_, fun b o _ hn _ => nomatch hn⟩ (by simp [Heap.update]) ?_)
  · rw [Heap.get?_update_other _ _ (fun z => hc (by simp [z]))]
    exact hb
  · refine ⟨oe, vs, _, _, (Heap.get?_update_other _ _ hne).trans he, rfl, rfl, hd, h1, hne, upd_at hT hdT, mapF_data hdT, ?_⟩
    simp [vs_lt h3]
theorem st_leaveG (hfr : A.frames = some (env :: outer)) (hl : s.heap.FunFrames base (env :: outer)) (hf : env.frame = some L) (x : Exc s.heap e cls dct T fl)
    (q : ∀ h' T', Moved s.heap h' (frs (env :: outer)) [e, T] → (T' = T ∨ T' = s.heap.objs.size) → Exc h' e cls dct T' .none → Q () { s with heap := h' }) : wpAny M A (leaving env (.ref e)) Q E s := by
  by_cases c : (fl == rawInt L) = true
  · unfold leaving
    refine wpAny_bind ?_
    obtain ⟨oe, vs, oT, ts, he, hcl, hdc, hd, h1, hne, hT, hdT, h3⟩ := id x
    unfold noteFrame
    simp only [hf]
    refine wpAny_bind (wpAny_field he hd h1 ?_)
    rw [if_pos (by simp)]
    refine wpAny_bind (wpAny_field hT hdT h3 ?_)
    rw [if_pos c]
    refine wpAny_pure (st_land x fun h' mv _ x2 => q h' T ⟨fun b o hb hn hc => mv.keep b o hb (by simp) fun z => hc (by simp [List.mem_singleton.mp z]), fun b o hb hn hc => ?_⟩ (.inl rfl) x2)
    exact ⟨o.slots, mv.keep b o hb (by simp) fun z => hc (by simp [List.mem_singleton.mp z])⟩
  · have c : (fl == rawInt L) = false := by simpa using c
    unfold leaving
    refine wpAny_bind ?_
    obtain ⟨oe, vs, oT, ts, he, rfl, rfl, hd, h1, hne, hT, hdT, h3⟩ := x
    unfold noteFrame
    simp only [hf]
    refine wpAny_bind (wpAny_field he hd h1 ?_)
    rw [if_pos (by simp)]
    refine wpAny_bind (wpAny_field hT hdT h3 ?_)
    rw [if_neg (by rw [c]; decide)]
    refine wpAny_bind (wpAny_setField hT hdT (vs_lt h3) ?_)
    have oth : ∀ b, b ≠ T → (s.heap.update T (Obj.mapFields fun z => z.setIfInBounds 3 Value.none)).get? b = s.heap.get? b := fun b hb => Heap.get?_update_other _ _ (Ne.symm hb)
    have hsz : (s.heap.update T (Obj.mapFields fun z => z.setIfInBounds 3 Value.none)).objs.size = s.heap.objs.size := by simp [Heap.update]
    refine st_entry hfr (hl.of_keeps fun b o hb hn => ⟨o, (oth b fun z => by rw [z, hT] at hb; cases hb; exact hn ts hdT).trans hb, rfl⟩) hf ((oth e (Ne.symm hne)).trans he) hd (vs_lt h1) fun h1' mv ex => ?_
    rw [hsz] at ex
    refine st_land (s := { s with heap := h1' }) ex fun h2 m2 _ x2 => q h2 _ ?_ (.inr rfl) x2
    have m1 : Moved s.heap h1' (frs (env :: outer)) [e, T] := ⟨fun b o hb hn hc => mv.keep b o ((oth b fun z => hc (by simp [z])).trans hb) hn fun z => hc (List.mem_cons.mpr (.inl (by simpa using z))), fun b o hb hn hc => mv.slot b o ((oth b fun z => hc (by simp [z])).trans hb) hn fun z => hc (List.mem_cons.mpr (.inl (by simpa using z)))⟩
    exact m1.trans m2 (fun _ z => nomatch z) (fun _ z => z) fun b o hb z => by
      have : b = s.heap.objs.size := by simpa using z
      exact absurd (Heap.lt_size hb) (by rw [this]; exact Nat.lt_irrefl _)
end
section
variable {P : Program} {w : World} {K : PySem.W.Frag} {mg : Str → Option Value} {base : Heap} {N : List Str} {qual : Str} {scope : Scope} {f : Addr} {cd : Value} {A : Around} {outer : List Env} {s0 : Shared} {H0 : Hp} {E : XK}
theorem left_cxG {pins : List (Addr × Obj)} {σ : St} {H : Hp} {s : Shared} {h' : Heap} {ea T : Addr} {cls : Value} {dct : Option Addr} {ch : List Addr} (I : Inv (cxOf (CXX P w) P w K mg base N qual scope f cd A outer s0 H0 E) pins σ H s)
    (mv : Moved s.heap h' (frs (envOfC qual scope s0.heap.objs.size f cd :: outer)) ch) (hch : ∀ b ∈ ch, H b = none ∧ s0.heap.get? b = none) (ex : Exc h' ea cls dct T .none) (hHe : H ea = none) (f0 : s0.heap.get? ea = none) (hHT : H T = none) (fT : s0.heap.get? T = none) (hE : E cls dct H) :
    CXX P w outer H0 s0 E (.ref ea) { s with heap := h' } := by
  have nch : ∀ b o, s0.heap.get? b = some o → b ∉ ch := fun b o e z => by rw [(hch b z).2] at e; cases e
  have nst : ∀ b o, s0.heap.get? b = some o → b ∉ frs outer → b ∉ frs (envOfC qual scope s0.heap.objs.size f cd :: outer) := fun b o e hb z => by
    rcases List.mem_cons.mp (I.stkSub b z) with q | q
    · exact absurd (Heap.lt_size e) (by rw [q]; exact Nat.not_lt.mpr I.ok.above)
    · exact hb q
  refine ⟨ea, T, cls, dct, H, rfl, I.os, I.bare, ⟨fun b o e n hb hx => ?_, fun b o e n hb hx => ?_, fun b o e n hx => I.base.free b o e n hx, fun b o e hx => ?_, I.base.tups, I.base.frzs, I.base.tbls⟩, fun b u q => ?_, ex, hHe, hHT, f0, fT, hE⟩
  · exact mv.keep b o (I.base.keep b o e n hb hx) (nst b o e hb) (nch b o e)
  · obtain ⟨sl, k⟩ := I.base.slot b o e n hb hx
    obtain ⟨sl', k'⟩ := mv.any k (nch b o e)
    exact ⟨sl', k'⟩
  · obtain ⟨o', k⟩ := I.base.there b o e hx
    obtain ⟨sl, k'⟩ := mv.any k (nch b o e)
    exact ⟨_, k'⟩
  · refine (I.hok b u q).stay (fun c v hc r => mv.keep c v r (fun z => ?_) fun z => ?_) (fun _ q => q) fun _ _ q => q
    · have := I.stkFree c z
      rcases hc with rfl | hc
      · rw [q] at this; cases this
      · rw [hc] at this; cases this
    · have := (hch c z).1
      rcases hc with rfl | hc
      · rw [q] at this; cases this
      · rw [hc] at this; cases this
end
def TakesF (X : Cx) (E : XK) : Prop := X.ex = [] ∧ (∃ L, X.env.frame = some L) ∧ (∃ o, X.stack = X.env :: o) ∧
  ∀ (pins : List (Addr × Obj)) (σ : St) (H : Hp) (s : Shared) (ea T : Addr) (cls : Value) (dct : Option Addr) (fl : Value), Inv X pins σ H s → Exc s.heap ea cls dct T fl → H ea = none → H T = none → X.s₀.heap.get? ea = none → X.s₀.heap.get? T = none → E cls dct H → X.xe (.ref ea) s
section
variable {P : Program} {w : World} {K : PySem.W.Frag} {mg : Str → Option Value} {base : Heap} {N : List Str} {qual : Str} {scope : Scope} {f : Addr} {cd : Value} {A : Around} {outer : List Env} {s0 : Shared} {H0 : Hp} {E : XK}
theorem takesF_cx : TakesF (cxOf (CXX P w) P w K mg base N qual scope f cd A outer s0 H0 E) E := by
  refine ⟨rfl, ⟨_, rfl⟩, ⟨_, rfl⟩, ?_⟩
  intro pins σ H s ea T cls dct fl I ex hHe hHT f0 fT hE
  show wpAny (model P w) (A.deeper (envOfC qual scope s0.heap.objs.size f cd)) (leaving (envOfC qual scope s0.heap.objs.size f cd) (.ref ea)) _ _ s
  refine st_leaveG (base := base) I.ok.frames I.stack rfl ex fun h' T' mv hT' ex' => ?_
  have hn : H s.heap.objs.size = none := I.hok.fresh (Nat.le_refl _)
  have fn : s0.heap.get? s.heap.objs.size = none := Heap.get?_none_of_le I.sz
  refine left_cxG I mv (fun b z => ?_) ex' hHe f0 ?_ ?_ hE
  · rcases List.mem_cons.mp z with rfl | z
    · exact ⟨hHe, f0⟩
    · rw [List.mem_singleton.mp z]
      exact ⟨hHT, fT⟩
  · rcases hT' with e | e
    · rw [e]; exact hHT
    · rw [e]; exact hn
  · rcases hT' with e | e
    · rw [e]; exact fT
    · rw [e]; exact fn
end
def Fly (Y : Cx) (E : XK) : Value → Shared → Prop := fun e s' => ∃ (pins : List (Addr × Obj)) (σ' : St) (H' : Hp) (ea T : Addr) (cls : Value) (dct : Option Addr), e = .ref ea ∧ Inv Y pins σ' H' s' ∧ Exc s'.heap ea cls dct T .none ∧ H' ea = none ∧ H' T = none ∧
  (ea ∉ Y.ex → Y.s₀.heap.get? ea = none) ∧ (T ∉ Y.ex → Y.s₀.heap.get? T = none) ∧ ea ≠ Y.env.locals ∧ T ≠ Y.env.locals ∧ E cls dct H'
theorem takes_fly {Y : Cx} {E : XK} : Takes (Y.wish (Fly Y E)) (fun c d _ H => E c d H) := by
  intro pins σ H s s' ea T cls dct H' I os bare un hok ex hHe hHT ne nT hE
  have I0 : Inv Y pins σ H s := I.unwish
  have I' : Inv Y pins σ H' s' := I0.call' os un hok bare (fun b z => absurd z (by simp))
  have fr : ∀ b, s.heap.get? b = none → b ∉ Y.ex → Y.s₀.heap.get? b = none := fun b e hx => by
    cases q : Y.s₀.heap.get? b with
    | none => rfl
    | some o =>
      obtain ⟨o', z⟩ := I0.base.there b o q hx
      rw [e] at z; cases z
  have loc : ∃ o, s.heap.get? Y.env.locals = some o := by
    obtain ⟨m, ⟨o, es, ep, ho, _⟩, _⟩ := I0.loc
    exact ⟨o, ho⟩
  obtain ⟨oL, hL⟩ := loc
  exact ⟨pins, σ, H', ea, T, cls, dct, rfl, I', ex, hHe, hHT, fr _ ne, fr _ nT, (fun z => by rw [z, hL] at ne; cases ne), (fun z => by rw [z, hL] at nT; cases nT), hE⟩
theorem compLoop_anyX {prog : Program} {w : World} {A : Around} {R : Result → Shared → Prop} {s : Shared} {elt target iter : Expr} {scope : Scope} {pos : Pos} {it acc : Value} {env : Env} (I : Nat → Shared → Prop) {Fl : Value → Shared → Prop}
    (hx : ∀ e s', Fl e s' → notedBy (model prog w) A env (fun x s'' => R (.error x) s'') e s')
    (turn : ∀ n s, I n s → wpAny (model prog w) A (pyNext it) (fun r s₁ => match r with
      | none => R (.ok .next) s₁
      | some v => wpAny (model prog w) A (letOwnedTupleGo target it v) (fun _ s₀ => wpAny (model prog w) A (assign target env v) (fun _ s₂ =>
            wpAny (model prog w) A (eval elt env) (fun x s₄ => wpAny (model prog w) A (call (.builtin "list.append") [acc, x]) (fun _ s₅ => ∃ m, m < n ∧ I m s₅) (fun _ _ => False) s₄) Fl s₂) (fun _ _ => False) s₀) (fun _ _ => False) s₁) (fun _ _ => False) s)
    (n : Nat) (h : I n s) : codeAny (model prog w) A (.compLoop (.ListComp elt [⟨target, iter, [], 0⟩] scope pos) 0 it acc env) R s := by
  refine codeAny_loop rfl I (fun n s hI => ?_) n h
  show wpAny _ A ((compTurn (.ListComp elt [⟨target, iter, [], 0⟩] scope pos) 0 it acc env).onRaise (fun x => do noteFrame x env; theTreesLotGoes x)) _ _ s
  refine wpAny_noted ?_
  rw [compTurn_list]
  refine wpAny_bind (wpAny_standAt (wpAny_bind (wpAny_mono (turn n s hI) (fun r s₁ h₁ => ?_) fun _ _ h' => False.elim h')))
  cases r with
  | none => exact wpAny_pure h₁
  | some v =>
    refine wpAny_bind (wpAny_mono h₁ (fun _ s₀ h₀ => ?_) fun _ _ h' => False.elim h')
    refine wpAny_bind (wpAny_mono h₀ (fun _ s₂ h₂ => wpAny_bind (wpAny_tests_nil ?_)) fun _ _ h' => False.elim h')
    exact wpAny_bind (wpAny_bind (wpAny_mono h₂ (fun x s₄ h₄ => wpAny_bind (wpAny_mono h₄ (fun _ s₅ h₅ => wpAny_pure (wpAny_pure ⟨rfl, h₅⟩)) fun _ _ h' => False.elim h')) hx))
section
variable {X : Cx} {pins : List (Addr × Obj)} {σ : St} {H H' : Hp} {s : Shared} {h' : Heap}
theorem comp_runX {E : XK} {tg iter elt : Expr} {sc : Scope} {pos : Pos} {N : List Str} {cap : List (Option Nat)} {g : TG} {te : TE} {Q : VK} {it : Addr} {fp : List Addr} {tn : Nat → Heap → Prop} {J : It}
    (I2 : Inv X pins σ H s) (T : Turn X.prog X.w X.K tg J fp it tn) (st2 : tn 0 s.heap) (f2 : ∀ b ∈ fp, FpOk X pins H b) (hc : X.calm = true) (C : CompOk X sc N cap) (hF : TakesF X E)
    (hg : ∀ cl s₀ H₀ ex, PG (cxC X sc N cl s₀ H₀ ex) tg g) (he : ∀ cl s₀ H₀ ex, PE ((cxC X sc N cl s₀ H₀ ex).wish (Fly (cxC X sc N cl s₀ H₀ ex) E)) elt te)
    (W : Nat → List V → Hp → Prop) (n : Nat) (w0 : W 0 [] H) (turn : ∀ i ys H, W i ys H →
      (J.stop i H ∧ ∀ p, H p = none → Q (.ref p) (upd H p (.lst ys))) ∨
      (J.go i H ∧ i < n ∧ ys.length < sizeLine ∧ ∀ x H', J.yld i H x H' → g x (capt cap σ) H' fun σ2 H2 => kst (capt cap σ) σ2 ∧ te σ2 H2 fun y H4 => W (i + 1) (ys ++ [y]) H4))
    {E1 : Value → Shared → Prop} :
    wpAny (model X.prog X.w) X.A (newList []) (fun acc s₃ => wpAny (model X.prog X.w) X.A (newFunctionEnv sc X.env.globals (closOf X.env sc.names) [] X.env.qual none .none (some X.env)) (fun cenv s₄ =>
      codeAny (model X.prog X.w) X.A (.compStart (.ListComp elt [⟨tg, iter, [], 0⟩] sc pos) 0 (.ref it) acc { cenv with scope := relabel sc X.env }) (compPost (model X.prog X.w) X.A X.xe none (EP X pins σ Q) acc cenv.locals) s₄) E1 s₃) E1 s := by
  refine wpAny_newObj_type (wpAny_newFunctionEnv C.ncell (by intro y hy; simp at hy) (fun h₁ hns₁ hsb₁ => ?_) C.kind)
  dsimp only at hns₁ hsb₁ ⊢
  have hD0 : (s.heap.push { cls := .type "list", dict := none, data := .seq ([] : List Value).toArray }).get? s.heap.objs.size = some { cls := .type "list", data := .seq ([] : List Value).toArray 0 } := Heap.get?_push_size _ rfl
  have up : ∀ b o, s.heap.get? b = some o → (s.heap.push { cls := .type "list", dict := none, data := .seq ([] : List Value).toArray }).get? b = some o := fun b o e => Heap.get?_push_of_some _ e
  have I3 : Inv X pins σ H { s with heap := s.heap.push { cls := .type "list", dict := none, data := .seq ([] : List Value).toArray } } := I2.kept (t' := s.toks) up
  have hsz : (s.heap.push { cls := .type "list", dict := none, data := .seq ([] : List Value).toArray }).objs.size = s.heap.objs.size + 1 := Heap.size_push ..
  generalize hH2 : s.heap.push { cls := .type "list", dict := none, data := .seq ([] : List Value).toArray } = G2 at hns₁ hsb₁ hD0 up I3 hsz ⊢
  generalize hDe : s.heap.objs.size = D at hD0 hsz
  have hDfresh : s.heap.objs.size ≤ D := Nat.le_of_eq hDe
  have fpD : FpOk X pins H D := I2.fpOk hDfresh (I2.hok.fresh hDfresh)
  have fplt : ∀ b ∈ fp, b < D := fun b hb => by
    obtain ⟨o, e, _⟩ := T.obj _ _ st2 b hb
    rw [← hDe]; exact Heap.lt_size e
  have hDfp : D ∉ fp := fun z => Nat.lt_irrefl _ (fplt D z)
  have hexF : ∀ b ∈ D :: fp, FpOk X pins H b := fun b hb => (List.mem_cons.mp hb).elim (fun e => e ▸ fpD) (f2 b)
  have hlt : ∀ b ∈ D :: fp, b < G2.objs.size := fun b hb => by
    rw [hsz]
    rcases List.mem_cons.mp hb with e | hb
    · rw [e]; exact Nat.lt_succ_self _
    · exact Nat.lt_succ_of_lt (fplt b hb)
  have I0 := I3.comp0 (tk := s.toks + ([] : List (Str × Value)).length) C (ex := D :: fp) (fun b hb => ⟨hlt b hb, (hexF b hb).2.2.2.2.1, (hexF b hb).nobase I2, (hexF b hb).2.1, (hexF b hb).2.2.1⟩) hns₁ hsb₁
  have keep1 : ∀ b o, G2.get? b = some o → h₁.get? b = some o := fun b o e => hsb₁.extBut b o (Nat.ne_of_lt (Heap.lt_size e)) (Heap.get?_push_of_some _ e)
  -- the records stay the block's own
  have fpY : ∀ {H' : Hp}, (∀ b ∈ D :: fp, H' b = none) → ∀ b ∈ D :: fp, FpOk (cxC X sc N (closOf X.env sc.names) { s with heap := G2 } H (D :: fp)) [] H' b := fun hn b hb =>
    ⟨hn b hb, Nat.ne_of_lt (hlt b hb), fun z => (List.mem_cons.mp (I2.stkSub b z)).elim (hexF b hb).2.1 (hexF b hb).2.2.1, .inl hb, fun x c e => (hexF b hb).2.2.2.2.1 x c (clos_sub I2 C e), fun p hp => absurd (show p ∈ ([] : List (Addr × Obj)) from hp) (by simp)⟩
  have fly : ∀ e s', Fly (cxC X sc N (closOf X.env sc.names) { s with heap := G2 } H (D :: fp)) E e s' → notedBy (model X.prog X.w) X.A (compEnvC sc (closOf X.env sc.names) G2.objs.size X.env) (fun x s'' => compPost (model X.prog X.w) X.A X.xe none (EP X pins σ Q) (.ref D) G2.objs.size (.error x) s'') e s' := by
    rintro e s1 ⟨pins', σ', H', ea, T, cls, dct, rfl, I1, ex, hHe, hHT, fe, fT, neC, nTC, hE⟩
    obtain ⟨hex, ⟨L, hL⟩, ⟨os, hst⟩, taken⟩ := hF
    have hfr : X.A.frames = some (X.env :: os) := by rw [← hst]; exact I1.ok.frames
    have hfun : s1.heap.FunFrames X.base (X.env :: os) := by rw [← hst]; exact I1.stack
    have neC' : ea ≠ G2.objs.size := neC
    have nTC' : T ≠ G2.objs.size := nTC
    show wpAny (model X.prog X.w) X.A (noteFrame (.ref ea) X.env) _ _ s1
    refine st_next hfr hfun hL ex fun h1 m1 x1 => ?_
    obtain ⟨m, ⟨oC, es, ep, hoC, hdC⟩, _⟩ := id I1.loc
    have hoC' : s1.heap.get? G2.objs.size = some oC := hoC
    obtain ⟨sl, hoC1⟩ := m1.any hoC' (fun z => by
      rcases List.mem_cons.mp z with q | q
      · exact neC' q.symm
      · exact nTC' (List.mem_singleton.mp q).symm)
    have T1ne : s1.heap.objs.size ≠ G2.objs.size := fun z => absurd (Heap.lt_size hoC') (by rw [← z]; exact Nat.lt_irrefl _)
    refine ⟨m, ⟨_, es, ep, hoC1, hdC⟩, fun h2 sb cenv _ => ?_⟩
    have hb := sb.extBut
    have x2 : Exc h2 ea cls dct s1.heap.objs.size (rawInt L) := by
      obtain ⟨oe, vs, oT, ts, a1, a2, a3, a4, a5, a6, a7, a8, a9⟩ := x1
      exact ⟨oe, vs, oT, ts, hb _ _ neC' a1, a2, a3, a4, a5, a6, hb _ _ T1ne a7, a8, a9⟩
    unfold PySem.passOn
    obtain ⟨oe, vs, oT, ts, a1, a2, a3, a4, a5, a6, a7, a8, a9⟩ := id x2
    refine wpAny_bind (wpAny_field (s := { s1 with heap := h2 }) a1 a4 a5 ?_)
    rw [if_neg (by simp)]
    refine wpAny_bind (m := pure _) (wpAny_pure ?_)
    refine wpAny_bind (st_mark (s := { s1 with heap := h2 }) x2 fun h3 fl' m3 _ x3 => wpAny_throw ?_)
    -- all the rest stayed
    have tot : ∀ b o, s1.heap.get? b = some o → b ≠ ea → b ≠ T → b ≠ G2.objs.size → (b ∉ frs X.stack → h3.get? b = some o) ∧ ∃ sl, h3.get? b = some { o with slots := sl } := fun b o e n1 n2 n3 => by
      have nb : b ∉ [ea, T] := fun z => by
        rcases List.mem_cons.mp z with q | q
        · exact n1 q
        · exact n2 (List.mem_singleton.mp q)
      have n4 : b ∉ [s1.heap.objs.size] := fun z => absurd (Heap.lt_size e) (by rw [List.mem_singleton.mp z]; exact Nat.lt_irrefl _)
      constructor
      · intro hn
        rw [hst] at hn
        exact m3.keep b o (hb _ _ n3 (m1.keep b o e hn nb)) (by simp) n4
      · obtain ⟨sl, q⟩ := m1.any e nb
        exact ⟨sl, m3.keep b _ (hb _ _ n3 q) (by simp) n4⟩
    have b0 := I1.base
    have ltD : ∀ b o, s.heap.get? b = some o → b < D := fun b o e => by rw [← hDe]; exact Heap.lt_size e
    have nD : ∀ b o, s.heap.get? b = some o → b ∉ fp → b ∉ D :: fp := fun b o e hx z => (List.mem_cons.mp z).elim (fun q => absurd (ltD b o e) (by rw [q]; exact Nat.lt_irrefl _)) hx
    have n3 : ∀ b o, s.heap.get? b = some o → b ∉ fp → b ≠ ea ∧ b ≠ T ∧ b ≠ G2.objs.size := fun b o e hx => by
      refine ⟨fun z => ?_, fun z => ?_, fun z => ?_⟩
      · have q := fe (by rw [← z]; exact nD b o e hx)
        have q' : G2.get? ea = none := q
        rw [← z, up b o e] at q'
        cases q'
      · have q := fT (by rw [← z]; exact nD b o e hx)
        have q' : G2.get? T = none := q
        rw [← z, up b o e] at q'
        cases q'
      · exact absurd (ltD b o e) (by rw [z, hsz]; exact Nat.not_lt.mpr (Nat.le_succ _))
    have un : Un (frs X.stack) fp H H' s.heap h3 := by
      refine ⟨fun b o e hn hb' hx => ?_, fun b o e hn hb' hx => ?_, fun b o e hn hx => b0.free b o (up b o e) hn (nD b o e hx), fun b o e hx => ?_, b0.tups, b0.frzs, b0.tbls⟩
      · obtain ⟨q1, q2, q3⟩ := n3 b o e hx
        exact (tot b o (b0.keep b o (up b o e) hn hb' (nD b o e hx)) q1 q2 q3).1 hb'
      · obtain ⟨q1, q2, q3⟩ := n3 b o e hx
        obtain ⟨sl, k⟩ := b0.slot b o (up b o e) hn hb' (nD b o e hx)
        obtain ⟨sl', k'⟩ := (tot b _ k q1 q2 q3).2
        exact ⟨sl', k'⟩
      · obtain ⟨q1, q2, q3⟩ := n3 b o e hx
        obtain ⟨o', k⟩ := b0.there b o (up b o e) (nD b o e hx)
        obtain ⟨sl', k'⟩ := (tot b _ k q1 q2 q3).2
        exact ⟨_, k'⟩
    have hok3 : HOk X.prog X.w H' h3 := fun b u q => by
      refine (I1.hok b u q).stay (fun c v hc r => ?_) (fun _ q => q) fun _ _ q => q
      have tr : ∃ o, H' c = some o := by
        rcases hc with rfl | hc
        · exact ⟨_, q⟩
        · exact ⟨_, hc⟩
      obtain ⟨ou, hou⟩ := tr
      refine (tot c v r (fun z => by rw [z, hHe] at hou; cases hou) (fun z => by rw [z, hHT] at hou; cases hou) (fun z => ?_)).1 (fun z => ?_)
      · have q' : H' G2.objs.size = none := I1.free
        rw [z, q'] at hou
        cases hou
      · have q' := I1.stkFree c z
        rw [q'] at hou
        cases hou
    have IX : Inv X pins σ H' { s1 with heap := h3 } := I2.call' (s' := { s1 with heap := h3 }) (ch := fp) I1.os un hok3 I1.bare fun b hb => ⟨(f2 b hb).2.2.2.1, (f2 b hb).2.1, (f2 b hb).2.2.2.2.1, (f2 b hb).2.2.2.2.2⟩
    have s0f : ∀ b, (b ∉ D :: fp → G2.get? b = none) → X.s₀.heap.get? b = none := fun b hb' => by
      by_cases c : b ∈ fp
      · rcases (f2 b c).2.2.2.1 with z | z
        · rw [hex] at z; cases z
        · exact Heap.get?_none_of_le z
      · by_cases c2 : b = D
        · exact Heap.get?_none_of_le (by rw [c2, ← hDe]; exact I2.sz)
        · have z := hb' fun y => (List.mem_cons.mp y).elim c2 c
          cases q : X.s₀.heap.get? b with
          | none => rfl
          | some o =>
            obtain ⟨o', k⟩ := I2.base.there b o q (by rw [hex]; simp)
            rw [up b o' k] at z
            cases z
    exact taken pins σ H' _ ea _ cls dct fl' IX x3 hHe (I1.hok.fresh (Nat.le_refl _)) (s0f ea fe) (Heap.get?_none_of_le (Nat.le_trans I2.sz (Nat.le_trans (by rw [hDe]; exact Nat.le_trans (Nat.le_succ _) (Nat.le_of_eq hsz.symm)) I1.sz))) hE
  have loop : codeAny (model X.prog X.w) X.A (.compLoop (.ListComp elt [⟨tg, iter, [], 0⟩] sc pos) 0 (.ref it) (.ref D) (compEnvC sc (closOf X.env sc.names) G2.objs.size X.env)) (compPost (model X.prog X.w) X.A X.xe none (EP X pins σ Q) (.ref D) G2.objs.size) { s with heap := h₁, toks := s.toks + ([] : List (Str × Value)).length } := by
    refine compLoop_anyX (Fl := Fly (cxC X sc N (closOf X.env sc.names) { s with heap := G2 } H (D :: fp)) E) (hx := fly) (fun k s' => ∃ i ys its c H', k = n - i ∧ Inv (cxC X sc N (closOf X.env sc.names) { s with heap := G2 } H (D :: fp)) [] (capt cap σ) H' s' ∧ tn i s'.heap ∧ (∀ b ∈ D :: fp, H' b = none) ∧
      s'.heap.get? D = some { cls := .type "list", data := .seq (List.toArray its) c } ∧ Vals ys its ∧ ys.length ≤ sizeLine ∧ W i ys H') ?_ (n - 0)
      ⟨0, [], [], 0, H, rfl, I0, T.keep _ _ _ st2 (fun b _ o e => keep1 b o (up b o e)), fun b hb => (hexF b hb).1, keep1 _ _ hD0, .nil, Nat.zero_le _, w0⟩
    rintro k s' ⟨i, ys, its, c, H', rfl, I', st', fr', hD', rv, hyl, w'⟩
    have Ip : Inv (cxC X sc N (closOf X.env sc.names) { s with heap := G2 } H (D :: fp)) [(D, { cls := .type "list", data := .seq (List.toArray its) c })] (capt cap σ) H' s' := I'.pins_of fun p hp => by
      have e : p = (D, { cls := .type "list", data := .seq (List.toArray its) c }) := by simpa using hp
      subst e
      have z := fpY fr' D List.mem_cons_self
      exact ⟨hD', z.1, z.2.1, z.2.2.1, fun v q => by cases q⟩
    have fpP : ∀ {H'' : Hp}, (∀ b ∈ fp, H'' b = none) → ∀ b ∈ fp, FpOk (cxC X sc N (closOf X.env sc.names) { s with heap := G2 } H (D :: fp)) [(D, { cls := .type "list", data := .seq (List.toArray its) c })] H'' b := fun {H''} hn b hb => by
      have z := fpY fr' b (List.mem_cons_of_mem _ hb)
      refine ⟨hn b hb, z.2.1, z.2.2.1, z.2.2.2.1, z.2.2.2.2.1, fun p hp q => ?_⟩
      have e : p = (D, { cls := .type "list", data := .seq (List.toArray its) c }) := by
        have hp' : p ∈ ([] : List (Addr × Obj)) ++ [(D, { cls := .type "list", data := .seq (List.toArray its) c })] := hp
        simpa using hp'
      subst e
      have q' : D = b := q
      exact hDfp (by rw [q']; exact hb)
    have frF : ∀ b ∈ fp, H' b = none := fun b hb => fr' b (List.mem_cons_of_mem _ hb)
    rcases turn i ys H' w' with ⟨stop, q⟩ | ⟨go, hin, hys, step⟩
    · refine thn (T.done (cxC X sc N (closOf X.env sc.names) { s with heap := G2 } H (D :: fp)) rfl rfl rfl hc i _ s' (capt cap σ) H' (fun _ _ => False) Ip (fpP frF) st' stop) fun r s1 ⟨hr, I1⟩ => ?_
      subst hr
      have hDs : s1.heap.get? D = some { cls := .type "list", data := .seq (List.toArray its) c } := (I1.pin (D, { cls := .type "list", data := .seq (List.toArray its) c }) (List.mem_append_right _ List.mem_cons_self)).1
      obtain ⟨m1, hn1, _⟩ := id I1.loc
      have un : Un (frs X.stack) fp H H' s.heap s1.heap := by
        have b0 := I1.base
        have nD : ∀ b o, s.heap.get? b = some o → b ∉ fp → b ∉ D :: fp := fun b o e hx z => (List.mem_cons.mp z).elim (fun q => absurd (Heap.lt_size e) (by rw [q, hDe]; exact Nat.lt_irrefl _)) hx
        exact ⟨fun b o e hn hb hx => b0.keep b o (up b o e) hn hb (nD b o e hx), fun b o e hn hb hx => b0.slot b o (up b o e) hn hb (nD b o e hx), fun b o e hn hx => b0.free b o (up b o e) hn (nD b o e hx), fun b o e hx => b0.there b o (up b o e) (nD b o e hx), b0.tups, b0.frzs, b0.tbls⟩
      have IX : Inv X pins σ H' s1 := I2.call' (ch := fp) I1.os un I1.hok I1.bare fun b hb => ⟨(f2 b hb).2.2.2.1, (f2 b hb).2.1, (f2 b hb).2.2.2.2.1, (f2 b hb).2.2.2.2.2⟩
      have fD : FpOk X pins H' D := I2.fpOk hDfresh (fr' D List.mem_cons_self)
      have IT : Inv X pins σ (upd H' D (.lst ys)) s1 := IX.track fD ⟨hyl, its, c, rv, hDs⟩
      have hCD : G2.objs.size ≠ D := by rw [hsz]; exact Nat.succ_ne_self D
      have fC : FpOk X pins (upd H' D (.lst ys)) G2.objs.size := I2.fpOk (by rw [hsz, hDe]; exact Nat.le_succ _) (by rw [upd_ne hCD]; exact I1.free)
      exact ⟨m1, hn1, fun h' hs' => ⟨.ref D, _, IT.turnedL (t' := s1.toks) [G2.objs.size] (fun b hb => by rw [show b = G2.objs.size by simpa using hb]; exact fC) (fun b o hb e => hs'.extBut b o (by simpa using hb) e), rfl, q D (fr' D List.mem_cons_self)⟩⟩
    · refine thn (T.item (cxC X sc N (closOf X.env sc.names) { s with heap := G2 } H (D :: fp)) rfl rfl rfl hc i _ s' (capt cap σ) H' (fun _ _ => False) Ip (fpP frF) st' go) fun r s1 ⟨u, hr, h4⟩ => ?_
      subst hr
      refine thn h4 fun _ s2 ⟨x, H5, I5, r5, y5, st5, fr5⟩ => ?_
      have I5' := I5.pinned (fpP fr5) (T.obj _ _ st5)
      have back : ∀ {s8 : Shared} {σ6 : St} {H8 : Hp}, Inv (cxC X sc N (closOf X.env sc.names) { s with heap := G2 } H (D :: fp)) ([(D, { cls := .type "list", data := .seq (List.toArray its) c })] ++ pinsAt fp s2.heap) σ6 H8 s8 → kst (capt cap σ) σ6 →
          Inv (cxC X sc N (closOf X.env sc.names) { s with heap := G2 } H (D :: fp)) [] (capt cap σ) H8 s8 ∧ tn (i + 1) s8.heap ∧ (∀ b ∈ D :: fp, H8 b = none) ∧ s8.heap.get? D = some { cls := .type "list", data := .seq (List.toArray its) c } := fun {s8 σ6 H8} I8 ks => by
        have pD := I8.pin (D, { cls := .type "list", data := .seq (List.toArray its) c }) (List.mem_append_right _ (List.mem_append_left _ List.mem_cons_self))
        have pF : ∀ b ∈ fp, ∀ o, s2.heap.get? b = some o → s8.heap.get? b = some o ∧ H8 b = none := fun b hb o e => by
          have z := I8.pin (b, o) (List.mem_append_right _ (List.mem_append_right _ (mem_pinsAt hb e)))
          exact ⟨z.1, z.2.1⟩
        refine ⟨(I8.pins_of fun p hp => absurd hp (by simp)).weak (kst_len ks) fun j v e => kst_get j v ks e, T.keep _ _ _ st5 fun b hb o e => (pF b hb o e).1, fun b hb => ?_, pD.1⟩
        rcases List.mem_cons.mp hb with e | hb
        · rw [e]; exact pD.2.1
        · obtain ⟨o, e, _⟩ := T.obj _ _ st5 b hb
          exact (pF b hb o e).2
      refine thn (hg _ _ _ _ _ s2 (capt cap σ) H5 x u _ I5' r5 (step x H5 y5)) fun _ s6 ⟨σ6, H6, I6, ks, q6⟩ => ?_
      refine wpAny_mono (he _ _ _ _ _ s6 σ6 H6 _ (I6.wish _) q6) (fun v s8 hq8 => ?_) fun _ _ z => z
      obtain ⟨y, H8, I8, r8, q8⟩ := hq8
      have I8 := I8.unwish
      obtain ⟨J8, st8, fr8, hD8⟩ := back I8 ks
      have lenV := rv.length
      refine append_at hD8 (fun h9 hs9 hD9 => ?_) (by rw [List.size_toArray]; omega)
      have fY := fpY fr8
      have J9 := J8.turnedL (t' := s8.toks) (h' := h9) [D] (fun b hb => by
        have e : b = D := by simpa using hb
        rw [e]
        exact fY D List.mem_cons_self) fun b o hb e => hs9.extBut b o (by simpa using hb) e
      refine ⟨n - (i + 1), by omega, i + 1, ys ++ [y], its ++ [v], c + 1, H8, rfl, J9, T.keep _ _ _ st8 fun b hb o e => hs9.extBut b o (fun q => hDfp (q ▸ hb)) e, fr8, by rw [hD9, List.push_toArray], rv.append (.cons r8 .nil), ?_, q8⟩
      rw [List.length_append, List.length_singleton]
      omega
  exact codeAny_compStart_list loop (T.self X.A 0 _ _ _ (T.keep _ _ _ st2 (fun b _ o e => keep1 b o (up b o e))) loop)
theorem pe_compX {E : XK} {tg iter elt : Expr} {sc : Scope} {pos : Pos} {N : List Str} {cap : List (Option Nat)} {wi : TI} {g : TG} {te : TE} (hc : X.calm = true) (C : CompOk X sc N cap) (hF : TakesF X E) (hi : PI X tg iter wi)
    (hg : ∀ cl s₀ H₀ ex, PG (cxC X sc N cl s₀ H₀ ex) tg g) (he : ∀ cl s₀ H₀ ex, PE ((cxC X sc N cl s₀ H₀ ex).wish (Fly (cxC X sc N cl s₀ H₀ ex) E)) elt te)
    (hs : ∀ x, foldedSetIterable iter X.env x = pure x := by intro _; rfl) : PE X (.ListComp elt [⟨tg, iter, [], 0⟩] sc pos) (tComp cap wi g tYes te) := by
  intro pins s σ H Q I h
  rw [eval_ListComp]
  refine wpAny_comprehension_free (use := none) rfl hs (closureFor_own (clos_of I C)) C.kind C.names (thn (hi pins s σ H _ I h) fun xv s1 h1 => thn h1 fun itv s2 h2 => ?_)
  obtain ⟨it, fp, tn, J, H2, e, I2, T, st2, f2, W, n, w0, turn⟩ := h2
  subst e
  exact comp_runX (Q := Q) I2 T st2 f2 hc C hF hg he W n w0 fun i ys H3 w' => (turn i ys H3 w').imp id fun ⟨a, b, c, d⟩ => ⟨a, b, c, d⟩
end
end L2
set_option Elab.async false
set_option linter.all false
set_option maxRecDepth 100000
set_option maxHeartbeats 4000000
namespace My
open PySem L2 PyProof.Rows
seal L2.PSs L2.PS L2.PE L2.PT L2.PW L2.PA L2.PG L2.PGs L2.PI L2.PTs L2.PO L2.OpR L2.UnR L2.CallR L2.IxR L2.SlR
seal L2.PJ L2.PH L2.Takes L2.Raises
def top (i : Nat) : Stmt := PySem.Challenge.pw_truthtoll_k17_refusals_apart.main.body.getD i (.Pass ⟨0, 0, 0, 0⟩)
def classBody (s : Stmt) : List Stmt := match s with
  | .ClassDef _ _ _ b _ _ _ _ _ _ _ => b
  | _ => []
abbrev sWithin : Stmt := top 2
abbrev sFirst : Stmt := top 56
abbrev sRow : Stmt := top 54
abbrev sCheck : Stmt := top 52
abbrev sBest : Stmt := top 51
abbrev tRow : Stmt := top 39
abbrev tCheck : Stmt := top 37
abbrev tPieces : Stmt := top 41
abbrev tFirst : Stmt := top 42
abbrev tBest : Stmt := top 35
abbrev tLoss : Stmt := top 47
abbrev tPays : Stmt := top 36
abbrev uRoad : Stmt := top 20
abbrev uCheck : Stmt := top 19
abbrev uInit : Stmt := (classBody (top 15)).getD 0 (.Pass ⟨0, 0, 0, 0⟩)
abbrev sAInit : Stmt := (classBody (top 10)).getD 0 (.Pass ⟨0, 0, 0, 0⟩)
abbrev uJoins : Stmt := top 26
abbrev uWith : Stmt := top 27
abbrev uTrees : Stmt := top 25
abbrev uOn : Stmt := top 24
abbrev uWays : Stmt := top 23
abbrev uCosts : Stmt := top 21
abbrev uChoices : Stmt := top 22
abbrev uCost : Stmt := top 29
abbrev uCheap : Stmt := top 28
abbrev uBest : Stmt := top 16
abbrev uOwner : Stmt := top 30
abbrev uGets : Stmt := top 17
abbrev uGain : Stmt := top 18
abbrev sCell : Stmt := top 64
abbrev sWhich : Stmt := top 65
abbrev sMet : Stmt := top 66
abbrev sLaw : Stmt := top 67
abbrev nRow : Str := "check_row_shelf"
abbrev nCheck : Str := "check_worths_shelf"
abbrev nFirst : Str := "first_best_shelf"
abbrev nMostP : Str := "MOST_PEOPLE_shelf"
abbrev pRow : Str := "check_row_pile"
abbrev pCheck : Str := "check_worths_pile"
abbrev pFirst : Str := "first_best_pile"
abbrev pLoss : Str := "loss_of_others"
abbrev pMostP : Str := "MOST_PEOPLE_pile"
def spWithin : Sp := fun vs H Q _ => ∃ n : Int, vs = [.int n] ∧ Q (.bl (decide (0 ≤ n ∧ n ≤ 1000))) H
section
variable {P : Program} {w : World} {K : PySem.W.Frag} {mg : Str → Option Value} {base : Heap}
theorem scWithin : FnScope ["told"] ["told"] (defScope sWithin) := ⟨rfl, rfl, rfl, by decide +kernel, rfl, by decide +kernel, by decide +kernel⟩
theorem ok_within {f : Addr} {fd : FuncData} {tT : Tok} (F : Fun K "within_bounds" "within_bounds" sWithin f fd) (mT : mg "MOST_TOLD" = some (.int 1000 tT)) : FnOk P w K mg base CX0 1 f fd ["told"] spWithin := by
  refine F.ok scWithin (fun vs H Q E h => ?_) (fun cdv A outer s H vs Q E hr h => ?_)
  · obtain ⟨_, rfl, _⟩ := h
    rfl
  obtain ⟨n, rfl, q⟩ := h
  refine ⟨_, pss_one (ps_ret (pe_chain op_le op_le pe_int (pv 0) (pe_glob (v := .int 1000) rfl mT ⟨_, rfl⟩))), ?_⟩
  refine ⟨_, rfl, _, _, rfl, rfl, _, rfl, ?_⟩
  refine dec2 (fun c => ?_) (fun c => ?_)
  · refine ⟨_, _, rfl, rfl, ?_⟩
    rw [show decide (0 ≤ n ∧ n ≤ 1000) = decide (n ≤ 1000) by simp [c]] at q
    exact q
  · rw [show decide (0 ≤ n ∧ n ≤ 1000) = false from decide_eq_false fun z => c z.1] at q
    exact q
end
def spNo : Sp := fun _ _ _ _ => False
def spBestNo (C : Addr) : Sp := fun vs H Q E => ∃ w : Addr, vs = [.ref w] ∧ H w = some (.lst []) ∧ E (.ref C) none H
section
variable {P : Program} {w : World} {K : PySem.W.Frag} {mg : Str → Option Value} {base : Heap}
theorem fn_no {CX : CXT} {k : Nat} {f : Addr} {fd : FuncData} {ps : List Str} : FnOk P w K mg base CX k f fd ps spNo := ⟨fun _ _ _ _ h => h.elim, fun _ _ _ _ _ _ _ _ _ _ _ _ _ h => h.elim⟩
theorem scCheck : FnScope ["worths", "goods", "row"] ["worths"] (defScope sCheck) := ⟨rfl, rfl, rfl, by decide +kernel, rfl, by decide +kernel, by decide +kernel⟩
theorem scBest : FnScope ["worths"] ["worths"] (defScope sBest) := ⟨rfl, rfl, rfl, by decide +kernel, rfl, by decide +kernel, by decide +kernel⟩
theorem ok_checkNo {f f1 C : Addr} {fd fd1 : FuncData} {tP tG : Tok} (F : Fun K "check_worths" "check_worths" sCheck f fd) (b1 : Binds K fd1 ["row", "goods"] []) (k1 : PySem.W.keepIn K (.ref f1) = true) (m1 : mg nRow = some (.ref f1)) (ml : mg "len" = none)
    (mP : mg nMostP = some (.int 4 tP)) (mG : mg "MOST_GOODS" = some (.int 4 tG)) (hC : ExcK K C) (mC : mg "BadWorths" = some (.ref C)) : FnOk P w K mg base (CXX P w) 3 f fd ["worths"] (spBestNo C) := by
  refine F.okX scCheck (fun vs H Q E h => ?_) (fun _ cdv A outer s H vs Q E _ hr h => ?_)
  · obtain ⟨_, rfl, _⟩ := h
    rfl
  obtain ⟨wa, rfl, hw, qE⟩ := h
  have G : FnOk P w K mg base (CXX P w) 2 f1 fd1 ["row", "goods"] spNo := fn_no
  refine ⟨_, pss_cons (ps_if (pt_not (pt_chain op_le op_le pe_int (pe_callB call_len_seq rfl ml PySem.boot_len (pa_cons (pv 0) pa_nil)) (pe_glob (v := .int 4) rfl mP ⟨_, rfl⟩)))
      (pss_one (ps_raise hC rfl mC rfl rfl raises_cx (pa_cons (pe_fstr (pj_str (m := 100) (pj_int (pe_glob (v := .int 4) rfl mP ⟨_, rfl⟩) (pj_str (m := 100) pj_nil (by decide +kernel))) (by decide +kernel)) (by decide)) pa_nil))) pss_nil)
    (pss_cons (ps_set (i := 1) scCheck.nd rfl (Or.inl rfl) (pe_callB call_len_seq rfl ml PySem.boot_len (pa_cons (pe_ix ix_list (pv 0) pe_int (fun _ _ => rfl)) pa_nil)))
    (pss_cons (ps_if (pt_not (pt_chain op_le op_le pe_int (pv 1) (pe_glob (v := .int 4) rfl mG ⟨_, rfl⟩)))
      (pss_one (ps_raise hC rfl mC rfl rfl raises_cx (pa_cons (pe_fstr (pj_str (m := 100) (pj_int (pe_glob (v := .int 4) rfl mG ⟨_, rfl⟩) (pj_str (m := 100) pj_nil (by decide +kernel))) (by decide +kernel)) (by decide)) pa_nil))) pss_nil)
    (pss_one (ps_for passes_cx rfl (pi_list (pv 0)) (pg_name (i := 2) scCheck.nd rfl (Or.inl rfl))
      (pss_one (ps_expr (pe_callX G hr rfl m1 k1 b1 .nil takes_cx (pa_cons (pv 2) (pa_cons (pv 1) pa_nil))))))))), ?_⟩
  refine ⟨_, rfl, wa, _, rfl, .inl (SqL.of hw), _, _, rfl, rfl, _, rfl, ?_⟩
  refine decF (by decide) ?_
  exact ⟨_, rfl, 4, rfl, by decide, fun y => ⟨(by show 1 ≤ sizeLine; decide), qE⟩⟩
theorem ok_bestNo {f f1 f2 C : Addr} {fd fd1 fd2 : FuncData} (F : Fun K "shelf_best" "shelf_best" sBest f fd) (G1 : FnOk P w K mg base (CXX P w) 3 f1 fd1 ["worths"] (spBestNo C)) (b1 : Binds K fd1 ["worths"] []) (k1 : PySem.W.keepIn K (.ref f1) = true) (m1 : mg nCheck = some (.ref f1))
    (b2 : Binds K fd2 ["worths", "goods"] []) (k2 : PySem.W.keepIn K (.ref f2) = true) (m2 : mg nFirst = some (.ref f2)) (ml : mg "len" = none) : FnOk P w K mg base (CXX P w) 4 f fd ["worths"] (spBestNo C) := by
  refine F.okX scBest (fun vs H Q E h => ?_) (fun _ cdv A outer s H vs Q E _ hr h => ?_)
  · obtain ⟨_, rfl, _⟩ := h
    rfl
  obtain ⟨wa, rfl, hW, qE⟩ := h
  have G2 : FnOk P w K mg base CX0 3 f2 fd2 ["worths", "goods"] spNo := fn_no
  refine ⟨_, pss_cons (ps_expr (pe_callX G1 (hr.mono (by decide)) rfl m1 k1 b1 .nil takes_cx (pa_cons (pv 0) pa_nil)))
    (pss_one (ps_ret (pe_call G2 hr rfl m2 k2 b2 .nil pass0 (pa_cons (pv 0) (pa_cons (pe_callB call_len_seq rfl ml PySem.boot_len (pa_cons (pe_ix ix_list (pv 0) pe_int (fun _ _ => rfl)) pa_nil)) pa_nil))))), ?_⟩
  exact ⟨_, rfl, wa, rfl, hW, qE⟩
end
def cellZ (ns : List Int) (k : Int) : Int := ns.getD k.toNat 0
def spCell (K : PySem.W.Frag) : Sp := fun vs H Q _ => ∃ (a : Addr) (ns : List Int) (k : Int), vs = [.ref a, .int k] ∧ SqL K H a (ns.map V.int) ∧ 0 ≤ k ∧ Q (.int (cellZ ns k)) H
structure Kit (K : PySem.W.Frag) : Prop where
  ii : PySem.W.kitOne K (.type "int") (.type "int") = some true
  ib : PySem.W.kitOne K (.type "int") (.type "bool") = some false
  ll : PySem.W.kitOne K (.type "list") (.type "list") = some true
  tt : PySem.W.kitOne K (.type "tuple") (.type "tuple") = some true
section
variable {P : Program} {w : World} {K : PySem.W.Frag} {mg : Str → Option Value} {base : Heap}
theorem scCell : FnScope ["script", "k"] ["script", "k"] (defScope sCell) := ⟨rfl, rfl, rfl, by decide +kernel, rfl, by decide +kernel, by decide +kernel⟩
theorem ok_cell {f : Addr} {fd : FuncData} (F : Fun K "_law_cell_at" "_law_cell_at" sCell f fd) (ml : mg "len" = none) : FnOk P w K mg base CX0 1 f fd ["script", "k"] (spCell K) := by
  refine F.ok scCell (fun vs H Q E h => ?_) (fun cdv A outer s H vs Q E hr h => ?_)
  · obtain ⟨_, _, _, rfl, _⟩ := h
    rfl
  obtain ⟨a, ns, k, rfl, hS, k0, q⟩ := h
  refine ⟨_, pss_cons (ps_if (pt_cmpR op_lt (pv 1) (pe_callB call_len_seq rfl ml PySem.boot_len (pa_cons (pv 0) pa_nil)) (nomark _)) (pss_one (ps_ret (pe_ix ix_list (pv 0) (pv 1) (fun _ _ => rfl)))) pss_nil)
    (pss_one (ps_ret pe_int)), ?_⟩
  refine ⟨_, rfl, _, rfl, a, _, rfl, .inl hS, _, _, rfl, rfl, _, rfl, ?_⟩
  refine dec2 (fun c => ?_) (fun c => ?_)
  · obtain ⟨v, hv, hv2⟩ := atI_of (xs := ns.map V.int) k0 c
    obtain ⟨n, hn, rfl⟩ := map_int_get hv2
    have e : cellZ ns k = n := by
      unfold cellZ
      rw [List.getD_eq_getElem?_getD, hn]
      rfl
    rw [e] at q
    exact ⟨_, rfl, _, rfl, a, _, k, _, rfl, rfl, hS, hv, q⟩
  · have e : cellZ ns k = 0 := by
      unfold cellZ
      rw [List.length_map] at c
      rw [List.getD_eq_getElem?_getD, List.getElem?_eq_none (by omega)]
      rfl
    rw [e] at q
    exact q
end
def kindS (b : Bool) : Str := if b then "tree" else "way"
def okR (tr : List Int) : Prop := tr.length ≤ 5 ∧ (∀ v ∈ tr, 0 ≤ v ∧ v ≤ 1000) ∧ tr.Pairwise (fun a b => b ≤ a)
theorem cut_fromX {xs : List V} {k : Int} (h0 : 0 ≤ k) : cutV xs (some k) none = xs.drop k.toNat := by
  by_cases h : k ≤ (xs.length : Int)
  · exact cut_from h0 h
  obtain ⟨n, rfl⟩ : ∃ n : Nat, k = (n : Int) := ⟨k.toNat, by omega⟩
  unfold cutV
  rw [HT.sIx_nat, HT.sIx_none, Nat.min_eq_right (by omega), Int.toNat_natCast, List.drop_of_length_le (Nat.le_refl _), List.drop_of_length_le (by omega), List.take_nil]
theorem fall_adj : ∀ {row : List Int}, (∀ (i : Nat) a b, row[i]? = some a → row[i + 1]? = some b → b ≤ a) → row.Pairwise (fun a b => b ≤ a)
  | [], _ => .nil
  | [a], _ => List.pairwise_singleton _ _
  | a :: b :: r, h => by
    have ih := fall_adj (row := b :: r) fun i x y hx hy => h (i + 1) x y (by simpa using hx) (by simpa using hy)
    have hab := h 0 a b rfl rfl
    refine List.pairwise_cons.mpr ⟨fun x hx => ?_, ih⟩
    rcases List.mem_cons.mp hx with z | z
    · rw [z]; exact hab
    · have := (List.pairwise_cons.mp ih).1 x z
      omega
theorem adj_fall {row : List Int} (h : row.Pairwise (fun a b => b ≤ a)) {i : Nat} {a b : Int} (ha : row[i]? = some a) (hb : row[i + 1]? = some b) : b ≤ a := by
  obtain ⟨h1, e1⟩ := List.getElem?_eq_some_iff.mp ha
  obtain ⟨h2, e2⟩ := List.getElem?_eq_some_iff.mp hb
  have z := List.pairwise_iff_getElem.mp h i (i + 1) h1 h2 (by omega)
  rw [e1, e2] at z
  exact z
def spTRow (C : Addr) : Sp := fun vs H Q E => ∃ (r : Addr) (row : List Int), vs = [.ref r] ∧ IL H r row ∧ row.length ≤ 100 ∧ (okR row → ∀ H', Same H H' → Q .non H') ∧ (¬ okR row → ∀ H', Same H H' → E (.ref C) none H')
def spTCheck (C : Addr) : Sp := fun vs H Q E => ∃ (wa : Addr) (ws : List (List Int)), vs = [.ref wa] ∧ ILL H wa ws ∧ ws.length ≤ 100 ∧ (∀ r ∈ ws, r.length ≤ 100) ∧ ((1 ≤ ws.length ∧ ws.length ≤ 5 ∧ okH ws) → ∀ H', Same H H' → Q .non H') ∧ (¬ (1 ≤ ws.length ∧ ws.length ≤ 5 ∧ okH ws) → ∀ H', Same H H' → E (.ref C) none H')
def spTPieces (C : Addr) : Sp := fun vs H Q E => ∃ p : Int, vs = [.int p] ∧ ((0 ≤ p ∧ p ≤ 12) → Q .non H) ∧ (¬ (0 ≤ p ∧ p ≤ 12) → E (.ref C) none H)
section
variable {P : Program} {w : World} {K : PySem.W.Frag} {mg : Str → Option Value} {base : Heap}
theorem scTRow : FnScope ["row", "worth", "ahead"] ["row"] (defScope tRow) := ⟨rfl, rfl, rfl, by decide +kernel, rfl, by decide +kernel, by decide +kernel⟩
theorem ok_tRow {f f0 C : Addr} {fd fd0 : FuncData} {tW tT : Tok} (F : Fun K "check_row" "check_row" tRow f fd) (G0 : FnOk P w K mg base CX0 1 f0 fd0 ["told"] spWithin) (b0 : Binds K fd0 ["told"] []) (k0 : PySem.W.keepIn K (.ref f0) = true) (m0 : mg "within_bounds" = some (.ref f0))
    (ml : mg "len" = none) (mz : mg "zip" = none) (mW : mg "MOST_WORTHS" = some (.int 5 tW)) (mT : mg "MOST_TOLD" = some (.int 1000 tT)) (hC : ExcK K C) (mC : mg "BadWorths" = some (.ref C)) : FnOk P w K mg base (CXX P w) 2 f fd ["row"] (spTRow C) := by
  refine F.okX scTRow (fun vs H Q E h => ?_) (fun _ cdv A outer s H vs Q E _ hr h => ?_)
  · obtain ⟨_, _, rfl, _⟩ := h
    rfl
  obtain ⟨r, row, rfl, hR, hl, q, qE⟩ := h
  refine ⟨_, pss_cons (ps_if (pt_cmpR op_gt (pe_callB call_len_seq rfl ml PySem.boot_len (pa_cons (pv 0) pa_nil)) (pe_glob (v := .int 5) rfl mW ⟨_, rfl⟩) (nomark _))
      (pss_one (ps_raise hC rfl mC rfl rfl raises_cx (pa_cons (pe_fstr (pj_str (m := 100) (pj_int (pe_glob (v := .int 5) rfl mW ⟨_, rfl⟩) (pj_str (m := 100) pj_nil (by decide +kernel))) (by decide +kernel)) (by decide)) pa_nil))) pss_nil)
    (pss_cons (ps_for passes_cx rfl (pi_list (pv 0)) (pg_name (i := 1) scTRow.nd rfl (Or.inl rfl))
      (pss_one (ps_if (pt_not (pt_val (pe_call G0 hr rfl m0 k0 b0 .nil pass0 (pa_cons (pv 1) pa_nil))))
        (pss_one (ps_raise hC rfl mC rfl rfl raises_cx (pa_cons (pe_fstr (pj_str (m := 100) (pj_int (pe_glob (v := .int 1000) rfl mT ⟨_, rfl⟩) pj_nil) (by decide +kernel)) (by decide)) pa_nil))) pss_nil)))
    (pss_one (ps_for passes_cx rfl (pi_zip rfl mz (pa_cons (pv 0) (pa_cons (pe_slice sl_list (pv 0) (po_some pe_int) po_none) pa_nil)))
      (pg_tup rfl (pgs_cons (pg_name (i := 2) scTRow.nd rfl (Or.inl rfl)) (pgs_cons (pg_name (i := 1) scTRow.nd rfl (Or.inl rfl)) pgs_nil)))
      (pss_one (ps_if (pt_cmpR op_gt (pv 1) (pv 2) (nomark _)) (pss_one (ps_raise hC rfl mC rfl rfl raises_cx (pa_cons pe_str pa_nil))) pss_nil))))), ?_⟩
  refine ⟨_, rfl, r, _, rfl, .inl (SqL.of hR), _, _, rfl, rfl, _, rfl, ?_⟩
  rw [List.length_map]
  refine dec2 (fun c => ?_) (fun c => ?_)
  · refine ⟨5, rfl, by decide, fun y => ⟨(by show 1 ≤ sizeLine; decide), qE (fun z => ?_) _ (Same.refl _)⟩⟩
    have := z.1
    omega
  have h5 : row.length ≤ 5 := by omega
  refine ⟨_, rfl, r, rfl, ⟨_, SqL.of hR⟩, ?_⟩
  refine for_list (K := K) (a := r) (xs := row.map V.int) (fun i σ H2 => (∃ v : Option V, σ = [some (.ref r), v, none]) ∧ H2 = H ∧ ∀ v ∈ row.take i, 0 ≤ v ∧ v ≤ 1000) ⟨⟨none, rfl⟩, rfl, (fun v hv => by simp at hv)⟩ (fun j σ H2 _ ⟨_, e, _⟩ => by rw [e]; exact SqL.of hR) ?_ ?_
  · rintro i x σ H2 hx ⟨⟨v, rfl⟩, rfl, hv⟩
    obtain ⟨n, hn, rfl⟩ := map_int_get hx
    have hm := List.mem_of_getElem? hn
    refine ⟨_, rfl, n, rfl, _, rfl, ?_⟩
    by_cases c2 : 0 ≤ n ∧ n ≤ 1000
    · refine ndecF c2 ⟨⟨_, rfl⟩, rfl, fun v hv' => ?_⟩
      rw [take_snoc hn] at hv'
      rcases List.mem_append.mp hv' with z | z
      · exact hv v z
      · rw [List.mem_singleton.mp z]
        exact c2
    · refine ndecT c2 ?_
      exact ⟨1000, rfl, by decide, fun y => ⟨(by show 1 ≤ sizeLine; decide), qE (fun z => c2 (z.2.1 n hm)) _ (Same.refl _)⟩⟩
  rintro σ H2 ⟨⟨v, rfl⟩, rfl, hv⟩
  rw [List.length_map, List.take_length] at hv
  refine ⟨_, rfl, _, rfl, 1, rfl, r, _, rfl, SqL.of hR, fun p hp => ?_⟩
  rw [cut_fromX (by decide)]
  have s1 := same_new hp (.lst ((row.map V.int).drop (1 : Int).toNat))
  have hP : upd H2 p (.lst ((row.map V.int).drop (1 : Int).toNat)) p = some (.lst ((row.map V.int).drop (1 : Int).toNat)) := upd_same
  refine ⟨r, p, rfl, ⟨_, SqL.of (s1 _ _ hR)⟩, ⟨_, SqL.of hP⟩, ?_⟩
  have eD : (row.map V.int).drop (1 : Int).toNat = (row.drop 1).map V.int := by rw [List.map_drop]; rfl
  rw [eD] at hP s1 ⊢
  refine for_zip (K := K) (a := r) (b := p) (xs := row.map V.int) (ys := (row.drop 1).map V.int) (fun i σ H3 => (∃ v2 v3 : Option V, σ = [some (.ref r), v2, v3]) ∧ Same (upd H2 p (.lst ((row.drop 1).map V.int))) H3 ∧ ∀ (j : Nat) a b, j < i → row[j]? = some a → row[j + 1]? = some b → b ≤ a) ⟨⟨_, _, rfl⟩, Same.refl _, fun j _ _ h => absurd h (Nat.not_lt_zero _)⟩
    (fun i σ H3 ⟨_, t1, _⟩ => ⟨SqL.of (t1 _ _ (s1 _ _ hR)), SqL.of (t1 _ _ hP)⟩) ?_ ?_
  · rintro i x y σ H3 t hx hy ⟨⟨v2, v3, rfl⟩, t1, hadj⟩ ht
    obtain ⟨a, ha, rfl⟩ := map_int_get hx
    obtain ⟨b, hb, rfl⟩ := map_int_get hy
    have hb' : row[i + 1]? = some b := by rw [List.getElem?_drop] at hb; rwa [Nat.add_comm] at hb
    have t2 := same_new ht (.tup [.int a, .int b])
    refine ⟨t, _, rfl, SqT.of upd_same, rfl, _, _, rfl, _, _, rfl, rfl, _, rfl, _, rfl, _, _, rfl, rfl, _, rfl, ?_⟩
    by_cases c2 : a < b
    · refine decT c2 ?_
      refine ⟨(by show 1 ≤ sizeLine; decide), qE (fun z => ?_) _ (s1.trans (t1.trans t2))⟩
      have := adj_fall z.2.2 ha hb'
      omega
    · refine decF c2 ⟨⟨_, _, rfl⟩, t1.trans t2, fun j a' b' hj ha' hb2 => ?_⟩
      by_cases e : j = i
      · subst e
        rw [ha] at ha'
        rw [hb'] at hb2
        cases ha'
        cases hb2
        omega
      · exact hadj j a' b' (by omega) ha' hb2
  · rintro σ H3 ⟨⟨v2, v3, rfl⟩, t1, hadj⟩
    refine q ⟨h5, hv, fall_adj fun i a b ha hb => hadj i a b ?_ ha hb⟩ _ (s1.trans t1)
    have := (List.getElem?_eq_some_iff.mp hb).1
    rw [List.length_map, List.length_map, List.length_drop]
    omega
theorem scTCheck : FnScope ["worths", "row"] ["worths"] (defScope tCheck) := ⟨rfl, rfl, rfl, by decide +kernel, rfl, by decide +kernel, by decide +kernel⟩
theorem ok_tCheck {f f1 C : Addr} {fd fd1 : FuncData} {tP : Tok} (F : Fun K "check_worths" "check_worths" tCheck f fd) (G : FnOk P w K mg base (CXX P w) 2 f1 fd1 ["row"] (spTRow C)) (b1 : Binds K fd1 ["row"] []) (k1 : PySem.W.keepIn K (.ref f1) = true) (m1 : mg pRow = some (.ref f1)) (ml : mg "len" = none)
    (mP : mg pMostP = some (.int 5 tP)) (hC : ExcK K C) (mC : mg "BadWorths" = some (.ref C)) : FnOk P w K mg base (CXX P w) 3 f fd ["worths"] (spTCheck C) := by
  refine F.okX scTCheck (fun vs H Q E h => ?_) (fun _ cdv A outer s H vs Q E _ hr h => ?_)
  · obtain ⟨_, _, rfl, _⟩ := h
    rfl
  obtain ⟨wa, ws, rfl, hW, hl, hrl, q, qE⟩ := h
  refine ⟨_, pss_cons (ps_if (pt_not (pt_chain op_le op_le pe_int (pe_callB call_len_seq rfl ml PySem.boot_len (pa_cons (pv 0) pa_nil)) (pe_glob (v := .int 5) rfl mP ⟨_, rfl⟩)))
      (pss_one (ps_raise hC rfl mC rfl rfl raises_cx (pa_cons (pe_fstr (pj_str (m := 100) (pj_int (pe_glob (v := .int 5) rfl mP ⟨_, rfl⟩) (pj_str (m := 100) pj_nil (by decide +kernel))) (by decide +kernel)) (by decide)) pa_nil))) pss_nil)
    (pss_one (ps_for passes_cx rfl (pi_list (pv 0)) (pg_name (i := 1) scTCheck.nd rfl (Or.inl rfl))
      (pss_one (ps_expr (pe_callX G hr rfl m1 k1 b1 .nil takes_cx (pa_cons (pv 1) pa_nil)))))), ?_⟩
  obtain ⟨as, hw, hp⟩ := hW
  have hpl := hp.length
  refine ⟨_, rfl, wa, _, rfl, .inl (SqL.of hw), _, _, rfl, rfl, _, rfl, ?_⟩
  rw [List.length_map, hpl]
  refine dec2 (fun c1 => ?_) (fun c1 => ?_)
  · refine ⟨_, _, rfl, rfl, _, rfl, ?_⟩
    by_cases c5 : (ws.length : Int) ≤ 5
    · refine ndecF c5 ?_
      refine ⟨_, rfl, wa, rfl, ⟨_, SqL.of hw⟩, ?_⟩
      refine for_list (K := K) (a := wa) (xs := as.map V.ref) (fun i σ H2 => (∃ v : Option V, σ = [some (.ref wa), v]) ∧ Same H H2 ∧ ∀ row ∈ ws.take i, okR row) ⟨⟨none, rfl⟩, Same.refl _, (fun v hv => by simp at hv)⟩ (fun j σ H2 _ ⟨_, t, _⟩ => SqL.of (t _ _ hw)) ?_ ?_
      · rintro i x σ H2 hx ⟨⟨v, rfl⟩, t1, hv⟩
        obtain ⟨c, hc, rfl⟩ := map_ref_get hx
        obtain ⟨row, hrow, hR⟩ := pget hp hc
        have hm := List.mem_of_getElem? hrow
        refine ⟨_, rfl, c, row, rfl, hR.mono t1, hrl row hm, fun ok H3 t2 => ⟨⟨_, rfl⟩, t1.trans t2, fun r hr' => ?_⟩, fun no H3 t2 => qE (fun z => no (z.2.2 row hm)) _ (t1.trans t2)⟩
        rw [take_snoc hrow] at hr'
        rcases List.mem_append.mp hr' with z | z
        · exact hv r z
        · rw [List.mem_singleton.mp z]
          exact ok
      · rintro σ H2 ⟨⟨v, rfl⟩, t1, hv⟩
        rw [List.length_map, hpl, List.take_length] at hv
        exact q ⟨by omega, by omega, hv⟩ _ t1
    · refine ndecT c5 ?_
      exact ⟨5, rfl, by decide, fun y => ⟨(by show 1 ≤ sizeLine; decide), qE (fun z => c5 (by have := z.2.1; omega)) _ (Same.refl _)⟩⟩
  · exact ⟨_, rfl, 5, rfl, by decide, fun y => ⟨(by show 1 ≤ sizeLine; decide), qE (fun z => c1 (by have := z.1; omega)) _ (Same.refl _)⟩⟩
theorem scTPieces : FnScope ["pieces"] ["pieces"] (defScope tPieces) := ⟨rfl, rfl, rfl, by decide +kernel, rfl, by decide +kernel, by decide +kernel⟩
theorem ok_tPieces {f C : Addr} {fd : FuncData} {tP : Tok} (F : Fun K "check_pieces" "check_pieces" tPieces f fd) (mP : mg "MOST_PIECES" = some (.int 12 tP)) (hC : ExcK K C) (mC : mg "BadWorths" = some (.ref C)) : FnOk P w K mg base (CXX P w) 1 f fd ["pieces"] (spTPieces C) := by
  refine F.okX scTPieces (fun vs H Q E h => ?_) (fun _ cdv A outer s H vs Q E _ hr h => ?_)
  · obtain ⟨_, rfl, _⟩ := h
    rfl
  obtain ⟨p, rfl, q, qE⟩ := h
  refine ⟨_, pss_one (ps_if (pt_not (pt_chain op_le op_le pe_int (pv 0) (pe_glob (v := .int 12) rfl mP ⟨_, rfl⟩)))
      (pss_one (ps_raise hC rfl mC rfl rfl raises_cx (pa_cons (pe_fstr (pj_str (m := 100) (pj_int (pe_glob (v := .int 12) rfl mP ⟨_, rfl⟩) (pj_str (m := 100) pj_nil (by decide +kernel))) (by decide +kernel)) (by decide)) pa_nil))) pss_nil), ?_⟩
  refine ⟨_, rfl, _, _, rfl, rfl, _, rfl, ?_⟩
  refine dec2 (fun c1 => ?_) (fun c1 => ?_)
  · refine ⟨_, _, rfl, rfl, _, rfl, ?_⟩
    by_cases c5 : p ≤ 12
    · exact ndecF c5 (q ⟨c1, c5⟩)
    · refine ndecT c5 ?_
      exact ⟨12, rfl, by decide, fun y => ⟨(by show 1 ≤ sizeLine; decide), qE fun z => c5 z.2⟩⟩
  · exact ⟨_, rfl, 12, rfl, by decide, fun y => ⟨(by show 1 ≤ sizeLine; decide), qE fun z => c1 z.1⟩⟩
end
def plOk (p : Int) (ws : List (List Int)) : Prop := (1 ≤ ws.length ∧ ws.length ≤ 5 ∧ okH ws) ∧ 0 ≤ p ∧ p ≤ 12
def spPNo (C : Addr) : Sp := fun vs H Q E => ∃ (wa : Addr) (ws : List (List Int)) (p : Int), vs = [.int p, .ref wa] ∧ ILL H wa ws ∧ ws.length ≤ 100 ∧ (∀ r ∈ ws, r.length ≤ 100) ∧ ¬ plOk p ws ∧ ∀ H', Same H H' → E (.ref C) none H'
section
variable {P : Program} {w : World} {K : PySem.W.Frag} {mg : Str → Option Value} {base : Heap}
theorem scTBest : FnScope ["pieces", "worths"] ["pieces", "worths"] (defScope tBest) := ⟨rfl, rfl, rfl, by decide +kernel, rfl, by decide +kernel, by decide +kernel⟩
theorem scTPays : FnScope ["pieces", "worths", "dealing"] ["pieces", "worths"] (defScope tPays) := ⟨rfl, rfl, rfl, by decide +kernel, rfl, by decide +kernel, by decide +kernel⟩
theorem ok_tBestNo {f f1 f2 f3 C : Addr} {fd fd1 fd2 fd3 : FuncData} (F : Fun K "pile_best" "pile_best" tBest f fd) (G1 : FnOk P w K mg base (CXX P w) 3 f1 fd1 ["worths"] (spTCheck C)) (b1 : Binds K fd1 ["worths"] []) (k1 : PySem.W.keepIn K (.ref f1) = true) (m1 : mg pCheck = some (.ref f1))
    (G2 : FnOk P w K mg base (CXX P w) 1 f2 fd2 ["pieces"] (spTPieces C)) (b2 : Binds K fd2 ["pieces"] []) (k2 : PySem.W.keepIn K (.ref f2) = true) (m2 : mg "check_pieces" = some (.ref f2))
    (b3 : Binds K fd3 ["pieces", "worths"] []) (k3 : PySem.W.keepIn K (.ref f3) = true) (m3 : mg pFirst = some (.ref f3)) : FnOk P w K mg base (CXX P w) 4 f fd ["pieces", "worths"] (spPNo C) := by
  refine F.okX scTBest (fun vs H Q E h => ?_) (fun _ cdv A outer s H vs Q E _ hr h => ?_)
  · obtain ⟨_, _, _, rfl, _⟩ := h
    rfl
  obtain ⟨wa, ws, p, rfl, hW, l100, hrl, no, qE⟩ := h
  have hr1 := hr.mono (j := 1) (by decide)
  have G3 : FnOk P w K mg base CX0 1 f3 fd3 ["pieces", "worths"] spNo := fn_no
  refine ⟨_, pss_cons (ps_expr (pe_callX G1 hr rfl m1 k1 b1 .nil takes_cx (pa_cons (pv 1) pa_nil)))
    (pss_cons (ps_expr (pe_callX G2 hr1 rfl m2 k2 b2 .nil takes_cx (pa_cons (pv 0) pa_nil)))
    (pss_one (ps_ret (pe_call G3 hr1 rfl m3 k3 b3 .nil pass0 (pa_cons (pv 0) (pa_cons (pv 1) pa_nil)))))), ?_⟩
  refine ⟨_, rfl, wa, ws, rfl, hW, l100, hrl, fun ok1 H1 s1 => ?_, fun _ H1 s1 => qE _ s1⟩
  exact ⟨_, rfl, p, rfl, fun ok2 => absurd ⟨ok1, ok2⟩ no, fun _ => qE _ s1⟩
theorem ok_tPaysNo {f f1 f2 C : Addr} {fd fd1 fd2 : FuncData} (F : Fun K "pile_pays" "pile_pays" tPays f fd) (G1 : FnOk P w K mg base (CXX P w) 4 f1 fd1 ["pieces", "worths"] (spPNo C)) (b1 : Binds K fd1 ["pieces", "worths"] []) (k1 : PySem.W.keepIn K (.ref f1) = true) (m1 : mg "pile_best" = some (.ref f1))
    (b2 : Binds K fd2 ["pieces", "worths", "dealing", "person"] []) (k2 : PySem.W.keepIn K (.ref f2) = true) (m2 : mg pLoss = some (.ref f2)) (ml : mg "len" = none) (mr : mg "range" = none) : FnOk P w K mg base (CXX P w) 5 f fd ["pieces", "worths"] (spPNo C) := by
  refine F.okX scTPays (fun vs H Q E h => ?_) (fun _ cdv A outer s H vs Q E _ hr h => ?_)
  · obtain ⟨_, _, _, rfl, _⟩ := h
    rfl
  obtain ⟨wa, ws, p, rfl, hW, l100, hrl, no, qE⟩ := h
  have hr3 := hr.mono (j := 3) (by decide)
  have G2 : FnOk P w K mg base CX0 3 f2 fd2 ["pieces", "worths", "dealing", "person"] spNo := fn_no
  refine ⟨_, pss_cons (ps_set (i := 2) scTPays.nd rfl (Or.inr rfl) (pe_ix ix_tup (pe_callX G1 hr rfl m1 k1 b1 .nil takes_cx (pa_cons (pv 0) (pa_cons (pv 1) pa_nil))) pe_int (fun _ _ => rfl)))
    (pss_one (ps_ret (pe_comp (N := ["person", "pieces", "worths", "dealing"]) (cap := [none, some 0, some 1, some 2]) rfl (compOk_of (by rfl)) (pi_range1 rfl mr (pa_cons (pe_callB call_len_seq rfl ml PySem.boot_len (pa_cons (pv 1) pa_nil)) pa_nil)) (fun _ _ _ _ => pg_name (i := 0) (nd4 (by decide +kernel) (by decide +kernel) (by decide +kernel) (by decide +kernel) (by decide +kernel) (by decide +kernel)) rfl (Or.inl rfl)) (fun _ _ _ _ => pts_nil)
      (fun _ _ _ _ => pe_call G2 hr3 rfl m2 k2 b2 .nil pass0 (pa_cons (pv 1) (pa_cons (pv 2) (pa_cons (pv 3) (pa_cons (pv 0) pa_nil)))))))), ?_⟩
  exact ⟨_, rfl, _, rfl, wa, ws, p, rfl, hW, l100, hrl, no, fun H1 s1 => qE _ s1⟩
end
def WebAt (CW : Addr) (H : Hp) (wb : Addr) (places : Int) (rds : List (Int × Int)) : Prop := ∃ dx fs ra, H wb = some (.ins CW dx fs) ∧ fs.lookup ("places" : Str) = some (.int places) ∧ fs.lookup ("roads" : Str) = some (.ref ra) ∧ RdL H ra rds
def WebAtN (CW : Addr) (H0 H : Hp) (wb : Addr) (places : Int) (rds : List (Int × Int)) : Prop := ∃ dx fs ra, H wb = some (.ins CW dx fs) ∧ fs.lookup ("places" : Str) = some (.int places) ∧ fs.lookup ("roads" : Str) = some (.ref ra) ∧ RdL H ra rds ∧ H0 ra = none
def webOk (places : Int) (rds : List (Int × Int)) : Prop := (2 ≤ places ∧ places ≤ 6) ∧ (1 ≤ rds.length ∧ rds.length ≤ 10) ∧ okRds places rds
def Kept (x : Addr) (H H' : Hp) : Prop := ∀ b o, b ≠ x → H b = some o → H' b = some o
theorem WebAt.mono {CW : Addr} {H H' : Hp} {wb : Addr} {places : Int} {rds : List (Int × Int)} (s : Same H H') (h : WebAt CW H wb places rds) : WebAt CW H' wb places rds := let ⟨dx, fs, ra, a, b, c, d⟩ := h; ⟨dx, fs, ra, s _ _ a, b, c, d.mono s⟩
theorem WebAtN.at {CW : Addr} {H H' : Hp} {wb : Addr} {places : Int} {rds : List (Int × Int)} (h : WebAtN CW H H' wb places rds) : WebAt CW H' wb places rds := let ⟨dx, fs, ra, a, b, c, d, _⟩ := h; ⟨dx, fs, ra, a, b, c, d⟩
def spWInit (CW CB : Addr) : Sp := fun vs H Q E => ∃ x dx rl places rds, vs = [.ref x, .int places, .ref rl] ∧ H x = some (.ins CW dx []) ∧ H dx = some (.own x) ∧ RdL H rl rds ∧ rds.length ≤ 100 ∧
  (webOk places rds → ∀ H', Kept x H H' → WebAtN CW H H' x places rds → Q .non H') ∧ (¬ webOk places rds → ∀ H', Kept x H H' → E (.ref CB) none H')
theorem web_read {CW CB rl x dx : Addr} {H1 : Hp} {Q0 : VK} {E0 : XK} {places : Int} {rds : List (Int × Int)} (hx : H1 x = none) (hdx : H1 dx = none) (hne : dx ≠ x) (hR : RdL H1 rl rds) (hl : rds.length ≤ 100)
    (ok : webOk places rds → ∀ H', Same H1 H' → WebAtN CW H1 H' x places rds → Q0 .non H') (no : ¬ webOk places rds → ∀ H', Same H1 H' → E0 (.ref CB) none H') :
    spWInit CW CB (.ref x :: [.int places, .ref rl]) (upd (upd H1 dx (.own x)) x (.ins CW dx [])) Q0 E0 := by
  have s1 : Same H1 (upd (upd H1 dx (.own x)) x (.ins CW dx [])) := (same_new hdx _).trans (same_new (by rw [upd_ne (Ne.symm hne)]; exact hx) _)
  have kp : ∀ H', Kept x (upd (upd H1 dx (.own x)) x (.ins CW dx [])) H' → Same H1 H' := fun H' k b o e => k b o (fun z => by rw [z, hx] at e; cases e) (s1 _ _ e)
  refine ⟨x, dx, rl, places, rds, rfl, upd_same, by rw [upd_ne hne, upd_same], hR.mono s1, hl, fun w H' k hW => ok w H' (kp H' k) ?_, fun w H' k => no w H' (kp H' k)⟩
  obtain ⟨dx', fs, ra, a, b, c, d, e⟩ := hW
  exact ⟨dx', fs, ra, a, b, c, d, s1.free e⟩
section
variable {P : Program} {w : World} {K : PySem.W.Frag} {mg : Str → Option Value} {base : Heap}
structure WebK (K : PySem.W.Frag) (CW fI : Addr) : Prop where
  made : Mk K CW fI
  cls : Cls K CW
  np : NoAttr K CW "places"
  nr : NoAttr K CW "roads"
end
def costOk (n : Nat) (cs : List Int) : Prop := cs.length = n ∧ ∀ c ∈ cs, 0 ≤ c ∧ c ≤ 1000
abbrev Cand := Int → List (Int × Int) → Bool → List Int → Prop
def CandOk (cand : Cand) : Prop := ∀ places rds b, webOk places rds → Rows rds.length (cand places rds b)
def spRGets (CW CC CN CA : Addr) (cand : Cand) : Sp := fun vs H Q E => ∃ wb ca places rds b cs, vs = [.ref wb, .str (kindS b), .ref ca] ∧ WebAt CW H wb places rds ∧ webOk places rds ∧ IL H ca cs ∧ cs.length ≤ 100 ∧
  (costOk rds.length cs → ∀ m d gs, LeastR (cand places rds b) cs (some (m, d)) → GetsR (cand places rds b) cs rds.length m d (.inl gs) → ∀ r H', Same H H' → H r = none → IL H' r gs → Q (.ref r) H') ∧
  (costOk rds.length cs → ∀ m d r, LeastR (cand places rds b) cs (some (m, d)) → GetsR (cand places rds b) cs rds.length m d (.inr r) → ∀ dx fs H', Same H H' → H dx = none → H' dx = some (.xd fs) → fs.lookup ("road" : Str) = some (.int r) → E (.ref CA) (some dx) H') ∧
  (costOk rds.length cs → LeastR (cand places rds b) cs none → ∀ H', Same H H' → E (.ref CN) none H') ∧
  (¬ costOk rds.length cs → ∀ H', Same H H' → E (.ref CC) none H')
def rdOk (places : Int) (r : Int × Int) : Prop := (0 ≤ r.1 ∧ r.1 < places) ∧ (0 ≤ r.2 ∧ r.2 < places) ∧ r.1 ≠ r.2
def spURoad (CB : Addr) : Sp := fun vs H Q E => ∃ (ra : Addr) (rd : Int × Int) (places : Int), vs = [.int places, .ref ra] ∧ RdT H ra rd ∧ (rdOk places rd → Q .non H) ∧ (¬ rdOk places rd → E (.ref CB) none H)
def spUCheck (CB : Addr) : Sp := fun vs H Q E => ∃ (rl : Addr) (rds : List (Int × Int)) (places : Int), vs = [.int places, .ref rl] ∧ RdL H rl rds ∧ (webOk places rds → Q .non H) ∧ (¬ webOk places rds → E (.ref CB) none H)
section
variable {P : Program} {w : World} {K : PySem.W.Frag} {mg : Str → Option Value} {base : Heap}
theorem scURoad : FnScope ["places", "road", "place"] ["places", "road"] (defScope uRoad) := ⟨rfl, rfl, rfl, by decide +kernel, rfl, by decide +kernel, by decide +kernel⟩
theorem ok_uRoad {f C : Addr} {fd : FuncData} (F : Fun K "check_road" "check_road" uRoad f fd) (ml : mg "len" = none) (hC : ExcK K C) (mC : mg "BadWeb" = some (.ref C)) : FnOk P w K mg base (CXX P w) 1 f fd ["places", "road"] (spURoad C) := by
  refine F.okX scURoad (fun vs H Q E h => ?_) (fun _ cdv A outer s H vs Q E _ hr h => ?_)
  · obtain ⟨_, _, _, rfl, _⟩ := h
    rfl
  obtain ⟨ra, rd, places, rfl, hR, q, qE⟩ := h
  refine ⟨_, pss_cons (ps_if (PW.pt (pw_or (pt_cmpR op_ne (pe_callB call_len_seq rfl ml PySem.boot_len (pa_cons (pv 1) pa_nil)) pe_int (nomark _)) (pw_or1 (pt_cmpR op_eq (pe_ix ix_tup (pv 1) pe_int (fun _ _ => rfl)) (pe_ix ix_tup (pv 1) pe_int (fun _ _ => rfl)) (nomark _)))))
      (pss_one (ps_raise hC rfl mC rfl rfl raises_cx (pa_cons pe_str pa_nil))) pss_nil)
    (pss_one (ps_for passes_cx rfl (pi_tup (pv 1)) (pg_name (i := 2) scURoad.nd rfl (Or.inl rfl))
      (pss_one (ps_if (pt_not (pt_chain op_le op_lt pe_int (pv 2) (pv 0))) (pss_one (ps_raise hC rfl mC rfl rfl raises_cx (pa_cons pe_str pa_nil))) pss_nil)))), ?_⟩
  have hR' : H ra = some (.tup [.int rd.1, .int rd.2]) := hR
  refine ⟨_, rfl, ra, _, rfl, .inr (SqT.of hR'), rfl, _, rfl, ?_⟩
  refine ndecF rfl ?_
  refine ⟨_, rfl, ra, _, 0, .int rd.1, rfl, rfl, SqT.of hR', rfl, _, rfl, ra, _, 1, .int rd.2, rfl, rfl, SqT.of hR', rfl, rfl, _, rfl, ?_⟩
  by_cases ce : rd.1 = rd.2
  · refine decT (by rw [ce]) ?_
    exact ⟨(by show 1 ≤ sizeLine; decide), qE fun z => z.2.2 ce⟩
  refine decF (fun z => ce (by injection z)) ?_
  refine ⟨_, rfl, ra, rfl, ⟨_, SqT.of hR'⟩, ?_⟩
  refine for_tup (K := K) (a := ra) (xs := [.int rd.1, .int rd.2]) (fun i σ H2 => (∃ v : Option V, σ = [some (.int places), some (.ref ra), v]) ∧ H2 = H ∧ (1 ≤ i → 0 ≤ rd.1 ∧ rd.1 < places) ∧ (2 ≤ i → 0 ≤ rd.2 ∧ rd.2 < places)) ⟨⟨none, rfl⟩, rfl, (fun h => absurd h (by omega)), fun h => absurd h (by omega)⟩ (fun j σ H2 _ ⟨_, e, _⟩ => by rw [e]; exact SqT.of hR') ?_ ?_
  · rintro i x σ H2 hx ⟨⟨v, rfl⟩, rfl, h1, h2⟩
    obtain ⟨n, en, bad, good⟩ : ∃ n : Int, x = .int n ∧ (¬ (0 ≤ n ∧ n < places) → ¬ rdOk places rd) ∧ ((0 ≤ n ∧ n < places) → (1 ≤ i + 1 → 0 ≤ rd.1 ∧ rd.1 < places) ∧ (2 ≤ i + 1 → 0 ≤ rd.2 ∧ rd.2 < places)) := by
      match i, hx with
      | 0, hx => exact ⟨rd.1, (Option.some.inj hx).symm, fun no z => no z.1, fun ok => ⟨fun _ => ok, fun h => absurd h (by omega)⟩⟩
      | 1, hx => exact ⟨rd.2, (Option.some.inj hx).symm, fun no z => no z.2.1, fun ok => ⟨fun _ => h1 (by omega), fun _ => ok⟩⟩
    subst en
    refine ⟨_, rfl, _, _, rfl, rfl, _, rfl, ?_⟩
    refine dec2 (fun c => ?_) (fun c => ?_)
    · refine ⟨_, rfl, _, _, rfl, rfl, _, rfl, ?_⟩
      by_cases c2 : n < places
      · exact ndecF c2 ⟨⟨_, rfl⟩, rfl, good ⟨c, c2⟩⟩
      · refine ndecT c2 ?_
        exact ⟨(by show 1 ≤ sizeLine; decide), qE (bad fun z => c2 z.2)⟩
    · exact ⟨_, rfl, (by show 1 ≤ sizeLine; decide), qE (bad fun z => c z.1)⟩
  · rintro σ H2 ⟨⟨v, rfl⟩, rfl, h1, h2⟩
    exact q ⟨h1 (by show 1 ≤ 2; decide), h2 (by show 2 ≤ 2; decide), ce⟩
theorem scUCheck : FnScope ["places", "roads", "road"] ["places", "roads"] (defScope uCheck) := ⟨rfl, rfl, rfl, by decide +kernel, rfl, by decide +kernel, by decide +kernel⟩
theorem ok_uCheck {f f1 C : Addr} {fd fd1 : FuncData} {t1 t2 t3 : Tok} (F : Fun K "check_web" "check_web" uCheck f fd) (G : FnOk P w K mg base (CXX P w) 1 f1 fd1 ["places", "road"] (spURoad C)) (b1 : Binds K fd1 ["places", "road"] []) (k1 : PySem.W.keepIn K (.ref f1) = true) (m1 : mg "check_road" = some (.ref f1)) (ml : mg "len" = none)
    (c2 : mg "LEAST_PLACES" = some (.int 2 t1)) (c6 : mg "MOST_PLACES" = some (.int 6 t2)) (c10 : mg "MOST_ROADS" = some (.int 10 t3)) (hC : ExcK K C) (mC : mg "BadWeb" = some (.ref C)) : FnOk P w K mg base (CXX P w) 2 f fd ["places", "roads"] (spUCheck C) := by
  refine F.okX scUCheck (fun vs H Q E h => ?_) (fun _ cdv A outer s H vs Q E _ hr h => ?_)
  · obtain ⟨_, _, _, rfl, _⟩ := h
    rfl
  obtain ⟨rl, rds, places, rfl, hR, q, qE⟩ := h
  refine ⟨_, pss_cons (ps_if (pt_not (pt_chain op_le op_le (pe_glob (v := .int 2) rfl c2 ⟨_, rfl⟩) (pv 0) (pe_glob (v := .int 6) rfl c6 ⟨_, rfl⟩)))
      (pss_one (ps_raise hC rfl mC rfl rfl raises_cx (pa_cons (pe_fstr (pj_str (m := 100) (pj_int (pe_glob (v := .int 2) rfl c2 ⟨_, rfl⟩) (pj_str (m := 100) (pj_int (pe_glob (v := .int 6) rfl c6 ⟨_, rfl⟩) (pj_str (m := 100) pj_nil (by decide +kernel))) (by decide +kernel))) (by decide +kernel)) (by decide)) pa_nil))) pss_nil)
    (pss_cons (ps_if (pt_not (pt_chain op_le op_le pe_int (pe_callB call_len_seq rfl ml PySem.boot_len (pa_cons (pv 1) pa_nil)) (pe_glob (v := .int 10) rfl c10 ⟨_, rfl⟩)))
      (pss_one (ps_raise hC rfl mC rfl rfl raises_cx (pa_cons (pe_fstr (pj_str (m := 100) (pj_int (pe_glob (v := .int 10) rfl c10 ⟨_, rfl⟩) (pj_str (m := 100) pj_nil (by decide +kernel))) (by decide +kernel)) (by decide)) pa_nil))) pss_nil)
    (pss_one (ps_for passes_cx rfl (pi_list (pv 1)) (pg_name (i := 2) scUCheck.nd rfl (Or.inl rfl))
      (pss_one (ps_expr (pe_callX G hr rfl m1 k1 b1 .nil takes_cx (pa_cons (pv 0) (pa_cons (pv 2) pa_nil)))))))), ?_⟩
  obtain ⟨as, hw, hp⟩ := hR
  have hpl := hp.length
  refine ⟨_, rfl, _, _, rfl, rfl, _, rfl, ?_⟩
  refine dec2 (fun d1 => ?_) (fun d1 => ?_)
  · refine ⟨_, _, rfl, rfl, _, rfl, ?_⟩
    by_cases d2 : places ≤ 6
    · refine ndecF d2 ?_
      refine ⟨_, rfl, rl, _, rfl, .inl (SqL.of hw), _, _, rfl, rfl, _, rfl, ?_⟩
      rw [List.length_map, hpl]
      refine dec2 (fun d3 => ?_) (fun d3 => ?_)
      · refine ⟨_, _, rfl, rfl, _, rfl, ?_⟩
        by_cases d4 : (rds.length : Int) ≤ 10
        · refine ndecF d4 ?_
          refine ⟨_, rfl, rl, rfl, ⟨_, SqL.of hw⟩, ?_⟩
          refine for_list (K := K) (a := rl) (xs := as.map V.ref) (fun i σ H2 => (∃ v : Option V, σ = [some (.int places), some (.ref rl), v]) ∧ H2 = H ∧ ∀ r ∈ rds.take i, rdOk places r) ⟨⟨none, rfl⟩, rfl, (fun v hv => by simp at hv)⟩ (fun j σ H2 _ ⟨_, e, _⟩ => by rw [e]; exact SqL.of hw) ?_ ?_
          · rintro i x σ H2 hx ⟨⟨v, rfl⟩, rfl, hv⟩
            obtain ⟨c, hc, rfl⟩ := map_ref_get hx
            obtain ⟨rd, hrd, hT⟩ := pget hp hc
            refine ⟨_, rfl, _, rfl, c, rd, places, rfl, hT, fun ok => ⟨⟨_, rfl⟩, rfl, fun r hr' => ?_⟩, fun no => qE fun z => no (z.2.2 rd (List.mem_of_getElem? hrd))⟩
            rw [take_snoc hrd] at hr'
            rcases List.mem_append.mp hr' with z | z
            · exact hv r z
            · rw [List.mem_singleton.mp z]
              exact ok
          · rintro σ H2 ⟨⟨v, rfl⟩, rfl, hv⟩
            rw [List.length_map, hpl, List.take_length] at hv
            exact q ⟨⟨d1, d2⟩, ⟨by omega, by omega⟩, hv⟩
        · refine ndecT d4 ?_
          exact ⟨10, rfl, by decide, fun y => ⟨(by show 1 ≤ sizeLine; decide), qE fun z => d4 (by have := z.2.1.2; omega)⟩⟩
      · exact ⟨_, rfl, 10, rfl, by decide, fun y => ⟨(by show 1 ≤ sizeLine; decide), qE fun z => d3 (by have := z.2.1.1; omega)⟩⟩
    · refine ndecT d2 ?_
      exact ⟨2, rfl, by decide, 6, rfl, by decide, fun y => ⟨(by show 1 ≤ sizeLine; decide), qE fun z => d2 z.1.2⟩⟩
  · exact ⟨_, rfl, 2, rfl, by decide, 6, rfl, by decide, fun y => ⟨(by show 1 ≤ sizeLine; decide), qE fun z => d1 z.1.1⟩⟩
theorem scUInit : FnScope ["self", "places", "roads"] ["self", "places", "roads"] (defScope uInit) := ⟨rfl, rfl, rfl, by decide +kernel, rfl, by decide +kernel, by decide +kernel⟩
theorem ok_uInit {f f1 C CW fI : Addr} {fd fd1 : FuncData} (F : Fun K "__init__" "Web.__init__" uInit f fd) (G : FnOk P w K mg base (CXX P w) 2 f1 fd1 ["places", "roads"] (spUCheck C)) (b1 : Binds K fd1 ["places", "roads"] []) (k1 : PySem.W.keepIn K (.ref f1) = true) (m1 : mg "check_web" = some (.ref f1)) (mL : mg "list" = none)
    (WK : WebK K CW fI) : FnOk P w K mg base (CXX P w) 3 f fd ["self", "places", "roads"] (spWInit CW C) := by
  refine F.okX scUInit (fun vs H Q E h => ?_) (fun _ cdv A outer s H vs Q E _ hr h => ?_)
  · obtain ⟨_, _, _, _, _, rfl, _⟩ := h
    rfl
  obtain ⟨x, dx, rl, places, rds, rfl, hx, hdx, hR, hl, q, qE⟩ := h
  refine ⟨_, pss_cons (ps_expr (pe_callX G hr rfl m1 k1 b1 .nil takes_cx (pa_cons (pv 1) (pa_cons (pv 2) pa_nil))))
    (pss_cons (ps_fld (pv 0) (pv 1) rfl)
    (pss_one (ps_fld (pv 0) (pe_callTy call_list_of rfl mL PyProof.Rows.boot_list (pa_cons (pv 2) pa_nil)) rfl))), ?_⟩
  have kself : Kept x H H := fun b o _ e => e
  refine ⟨_, rfl, _, rfl, rl, rds, places, rfl, hR, fun ok => ?_, fun no => qE no _ kself⟩
  obtain ⟨as, hw, hp⟩ := hR
  have xne : rl ≠ x := fun e => by rw [e, hx] at hw; cases hw
  refine ⟨_, rfl, _, rfl, x, CW, dx, [], rfl, hx, WK.cls, WK.np, by decide, ?_⟩
  have u1 : upd H x (.ins CW dx (putF "places" (.int places) [])) rl = some (.lst (as.map V.ref)) := by rw [upd_ne xne]; exact hw
  refine ⟨_, rfl, rl, _, rfl, .inl (SqL.of u1), fun l hl' => ?_⟩
  have lx : x ≠ l := fun e => by rw [← e, upd_same] at hl'; cases hl'
  refine ⟨_, rfl, x, CW, dx, _, rfl, by rw [upd_ne lx, upd_same], WK.cls, WK.nr, (by show 1 < 1000; decide), ?_⟩
  have hlH : H l = none := by rw [upd_ne (Ne.symm lx)] at hl'; exact hl'
  have keep : Kept x H (upd (upd (upd H x (.ins CW dx (putF "places" (.int places) []))) l (.lst (as.map V.ref))) x (.ins CW dx (putF "roads" (.ref l) (putF "places" (.int places) [])))) := fun b o hb e => by
    rw [upd_ne hb, upd_ne (fun z => by rw [z, hlH] at e; cases e), upd_ne hb]
    exact e
  refine q ok _ keep ⟨dx, _, l, upd_same, rfl, rfl, ⟨as, by rw [upd_ne (Ne.symm lx), upd_same], pimp hp fun b hb r z => ?_⟩, hlH⟩
  have hbx : b ≠ x := fun e => by have z' : H b = some _ := z; rw [e, hx] at z'; cases z'
  exact keep b _ hbx z
end
def FoT (H0 H : Hp) (t : Addr) (f : List Int × List Int) : Prop := ∃ ra pa, H t = some (.tup [.ref ra, .ref pa]) ∧ IL H ra f.1 ∧ IL H pa f.2 ∧ H0 ra = none
theorem FoT.mono {H0 H H' : Hp} {t : Addr} {f : List Int × List Int} (s : Same H H') (h : FoT H0 H t f) : FoT H0 H' t f := let ⟨ra, pa, a, b, c, d⟩ := h; ⟨ra, pa, s _ _ a, s _ _ b, s _ _ c, d⟩
theorem fmono {H0 H H' : Hp} {as : List Addr} {fs : List (List Int × List Int)} (s : Same H H') (h : Paired (FoT H0 H) as fs) : Paired (FoT H0 H') as fs := pimp h fun _ _ _ z => z.mono s
def spUJoins (H0 : Hp) : Sp := fun vs H Q _ => ∃ (fo ea : Addr) (f : List Int × List Int) (rd : Int × Int), vs = [.ref fo, .ref ea] ∧ FoT H0 H fo f ∧ RdT H ea rd ∧ (0 ≤ rd.1 ∧ rd.1 < (f.2.length : Int)) ∧ (0 ≤ rd.2 ∧ rd.2 < (f.2.length : Int)) ∧ Q (.bl (decide (nm f.2 rd.1 ≠ nm f.2 rd.2))) H
def spUJ : Sp := fun vs H Q E => ∃ H0, spUJoins H0 vs H Q E
def spUWith : Sp := fun vs H Q _ => ∃ (fo ea : Addr) (f : List Int × List Int) (rd : Int × Int) (n : Nat) (H0 : Hp), vs = [.ref fo, .int (n : Int), .ref ea] ∧ FoT H0 H fo f ∧ RdT H ea rd ∧ (0 ≤ rd.1 ∧ rd.1 < (f.2.length : Int)) ∧ (0 ≤ rd.2 ∧ rd.2 < (f.2.length : Int)) ∧ f.1.length ≤ 100 ∧ f.2.length ≤ 100 ∧
  ∀ r H', Same H H' → FoT H H' r (addF n rd f) → Q (.ref r) H'
def spUTrees (CW : Addr) : Sp := fun vs H Q _ => ∃ (wb : Addr) (places : Int) (rds : List (Int × Int)), vs = [.ref wb] ∧ WebAt CW H wb places rds ∧ webOk places rds ∧ ∀ r H', Same H H' → ILLn H H' r (treesL places rds) → Q (.ref r) H'
theorem nm_at {l : List Int} {p : Int} (h0 : 0 ≤ p) (h1 : p < (l.length : Int)) : atI (l.map V.int) p = some (.int (nm l p)) := by
  obtain ⟨v, hv, hv2⟩ := atI_of (xs := l.map V.int) h0 (by rw [List.length_map]; exact h1)
  obtain ⟨n, hn, rfl⟩ := map_int_get hv2
  rw [hv]
  unfold nm
  rw [List.getD_eq_getElem?_getD, hn]
  rfl
theorem forests_len (places : Int) (rds : List (Int × Int)) : ∀ n, (forestsL places rds n).length ≤ 2 ^ n
  | 0 => Nat.le_refl 1
  | n + 1 => by
    show (forestsL places rds n ++ _).length ≤ _
    rw [List.length_append, List.length_map, Nat.pow_succ]
    have h1 := forests_len places rds n
    have h2 := List.length_filter_le (fun f : List Int × List Int => decide (nm f.2 (endsR rds (n : Int)).1 ≠ nm f.2 (endsR rds (n : Int)).2)) (forestsL places rds n)
    omega
theorem row_len {n : Nat} {row : List Int} (h1 : ∀ v ∈ row, 0 ≤ v ∧ v < (n : Int)) (h2 : row.Pairwise (· < ·)) : row.length ≤ n := by
  have z := nodup_sub (l := row) (m := rangeI 0 n) (h2.imp fun {a b} h e => by have : a < b := h; omega) fun x hx => mem_rangeI.mpr (by have := h1 x hx; omega)
  rwa [rangeI_len] at z
section
variable {P : Program} {w : World} {K : PySem.W.Frag} {mg : Str → Option Value} {base : Heap}
theorem scUJoins : FnScope ["forest", "ends", "parts"] ["forest", "ends"] (defScope uJoins) := ⟨rfl, rfl, rfl, by decide +kernel, rfl, by decide +kernel, by decide +kernel⟩
theorem ok_uJoins {f : Addr} {fd : FuncData} (F : Fun K "joins_parts" "joins_parts" uJoins f fd) : FnOk P w K mg base CX0 1 f fd ["forest", "ends"] spUJ := by
  refine F.ok scUJoins (fun vs H Q E h => ?_) (fun cdv A outer s H vs Q E hr h => ?_)
  · obtain ⟨_, _, _, _, _, rfl, _⟩ := h
    rfl
  obtain ⟨H0, fo, ea, fo', rd, rfl, ⟨ra, pa, hF, hA, hB, _⟩, hR, r1, r2, q⟩ := h
  have hR' : H ea = some (.tup [.int rd.1, .int rd.2]) := hR
  refine ⟨_, pss_cons (ps_set (i := 2) scUJoins.nd rfl (Or.inl rfl) (pe_ix ix_tup (pv 0) pe_int (fun _ _ => rfl)))
    (pss_one (ps_ret (pe_cmpR op_ne (pe_ix ix_list (pv 2) (pe_ix ix_tup (pv 1) pe_int (fun _ _ => rfl)) (fun _ _ => rfl)) (pe_ix ix_list (pv 2) (pe_ix ix_tup (pv 1) pe_int (fun _ _ => rfl)) (fun _ _ => rfl)) (nomark _)))), ?_⟩
  refine ⟨_, rfl, fo, _, 1, .ref pa, rfl, rfl, SqT.of hF, rfl, ?_⟩
  refine ⟨_, rfl, _, rfl, ea, _, 0, .int rd.1, rfl, rfl, SqT.of hR', rfl, pa, _, _, _, rfl, rfl, SqL.of hB, nm_at r1.1 r1.2, ?_⟩
  refine ⟨_, rfl, _, rfl, ea, _, 1, .int rd.2, rfl, rfl, SqT.of hR', rfl, pa, _, _, _, rfl, rfl, SqL.of hB, nm_at r2.1 r2.2, rfl, ?_⟩
  have e : (!decide (V.int (nm fo'.2 rd.1) = V.int (nm fo'.2 rd.2))) = decide (nm fo'.2 rd.1 ≠ nm fo'.2 rd.2) := by
    by_cases c : nm fo'.2 rd.1 = nm fo'.2 rd.2
    · rw [c]; simp
    · rw [decide_eq_false (fun z => c (by injection z)), decide_eq_true c]; rfl
  rw [← e] at q
  exact q
theorem scUWith : FnScope ["forest", "road", "ends", "parts", "kept", "joined"] ["forest", "road", "ends"] (defScope uWith) := ⟨rfl, rfl, rfl, by decide +kernel, rfl, by decide +kernel, by decide +kernel⟩
theorem ok_uWith {f : Addr} {fd : FuncData} (F : Fun K "with_road" "with_road" uWith f fd) : FnOk P w K mg base CX0 1 f fd ["forest", "road", "ends"] spUWith := by
  refine F.ok scUWith (fun vs H Q E h => ?_) (fun cdv A outer s H vs Q E hr h => ?_)
  · obtain ⟨_, _, _, _, _, _, rfl, _⟩ := h
    rfl
  obtain ⟨fo, ea, fo', rd, n, H0, rfl, ⟨ra, pa, hF, hA, hB, _⟩, hR, r1, r2, l1, l2, q⟩ := h
  have hR' : H ea = some (.tup [.int rd.1, .int rd.2]) := hR
  refine ⟨_, pss_cons (ps_set (i := 3) scUWith.nd rfl (Or.inl rfl) (pe_ix ix_tup (pv 0) pe_int (fun _ _ => rfl)))
    (pss_cons (ps_set (i := 4) scUWith.nd rfl (Or.inr rfl) (pe_ix ix_list (pv 3) (pe_ix ix_tup (pv 2) pe_int (fun _ _ => rfl)) (fun _ _ => rfl)))
    (pss_cons (ps_set (i := 5) scUWith.nd rfl (Or.inr rfl) (pe_ix ix_list (pv 3) (pe_ix ix_tup (pv 2) pe_int (fun _ _ => rfl)) (fun _ _ => rfl)))
    (pss_one (ps_ret (pe_tup (pa_cons (pe_op op_cat (pe_ix ix_tup (pv 0) pe_int (fun _ _ => rfl)) (pe_lst (pa_cons (pv 1) pa_nil)))
      (pa_cons (pe_comp (N := ["part", "kept", "joined"]) (cap := [none, some 4, some 5]) rfl (compOk_of (by rfl)) (pi_list (pv 3)) (fun _ _ _ _ => pg_name (i := 0) (nd3 (by decide +kernel) (by decide +kernel) (by decide +kernel)) rfl (Or.inl rfl)) (fun _ _ _ _ => pts_nil) (fun _ _ _ _ => pe_ifExp (pt_cmpR op_eq (pv 0) (pv 2) (nomark _)) (pv 1) (pv 0))) pa_nil))))))), ?_⟩
  refine ⟨_, rfl, fo, _, 1, .ref pa, rfl, rfl, SqT.of hF, rfl, ?_⟩
  refine ⟨_, rfl, _, rfl, ea, _, 0, .int rd.1, rfl, rfl, SqT.of hR', rfl, pa, _, _, _, rfl, rfl, SqL.of hB, nm_at r1.1 r1.2, ?_⟩
  refine ⟨_, rfl, _, rfl, ea, _, 1, .int rd.2, rfl, rfl, SqT.of hR', rfl, pa, _, _, _, rfl, rfl, SqL.of hB, nm_at r2.1 r2.2, ?_⟩
  refine ⟨_, rfl, fo, _, 0, .ref ra, rfl, rfl, SqT.of hF, rfl, _, rfl, (by show 1 ≤ sizeLine; decide), fun l hl => ?_⟩
  have s1 := same_new hl (.lst [.int (n : Int)])
  refine ⟨ra, l, _, _, rfl, rfl, s1 _ _ hA, upd_same, (by rw [List.length_map]; show _ + 1 ≤ sizeLine; exact small (by omega)), fun m hm => ?_⟩
  have s2 := same_new hm (.lst (fo'.1.map V.int ++ [.int (n : Int)]))
  obtain ⟨H2, e2⟩ : ∃ H2, H2 = upd (upd H l (.lst [.int (n : Int)])) m (.lst (fo'.1.map V.int ++ [.int (n : Int)])) := ⟨_, rfl⟩
  have hM : IL H2 m (fo'.1 ++ [(n : Int)]) := by show H2 m = _; rw [e2, upd_same, List.map_append]; rfl
  rw [← e2] at s2 ⊢
  have s12 := s1.trans s2
  have hB2 : H2 pa = some (.lst (fo'.2.map V.int)) := s12 _ _ hB
  refine ⟨_, rfl, pa, rfl, ⟨_, SqL.of hB2⟩, ?_⟩
  refine comp_list (K := K) (a := pa) (xs := fo'.2.map V.int) (fun i zs H' => H' = H2 ∧ zs = ((fo'.2.take i).map fun x => if x = nm fo'.2 rd.2 then nm fo'.2 rd.1 else x).map V.int) ⟨rfl, rfl⟩ (by rw [List.length_map]; exact small (by omega)) (fun i zs H' _ h => ⟨by rw [h.1]; exact SqL.of hB2, by rw [h.2, List.length_map, List.length_map, List.length_take]; exact Nat.min_le_left _ _⟩) ?_ ?_
  · rintro i x zs H' hx ⟨rfl, e⟩
    obtain ⟨y, hy, rfl⟩ := map_int_get hx
    refine ⟨⟨.inl rfl, .inr rfl, .inr rfl, trivial⟩, ?_⟩
    refine ⟨_, rfl, _, rfl, rfl, _, rfl, ?_⟩
    by_cases c : y = nm fo'.2 rd.2
    · refine decT (by rw [c]) ?_
      refine ⟨_, rfl, rfl, ?_⟩
      rw [e, take_snoc hy, List.map_append, List.map_append]
      show _ ++ [V.int (nm fo'.2 rd.1)] = _ ++ [V.int (if y = nm fo'.2 rd.2 then nm fo'.2 rd.1 else y)]
      rw [if_pos c]
    · refine decF (fun z => c (by injection z)) ?_
      refine ⟨_, rfl, rfl, ?_⟩
      rw [e, take_snoc hy, List.map_append, List.map_append]
      show _ ++ [V.int y] = _ ++ [V.int (if y = nm fo'.2 rd.2 then nm fo'.2 rd.1 else y)]
      rw [if_neg c]
  · rintro zs H' ⟨rfl, e⟩ p hp
    rw [List.length_map, List.take_length] at e
    have s3 := same_new hp (.lst zs)
    refine ⟨(by show 2 ≤ sizeLine; decide), fun r hr' => ?_⟩
    have s4 := same_new hr' (.tup [.ref m, .ref p])
    exact q r _ (s12.trans (s3.trans s4)) ⟨m, p, upd_same, (hM.mono s3).mono s4, s4 _ _ (by rw [upd_same, e]; rfl), s1.free hm⟩
theorem scUTrees : FnScope ["web", "forests", "road", "ends"] ["web"] (defScope uTrees) := ⟨rfl, rfl, rfl, by decide +kernel, rfl, by decide +kernel, by decide +kernel⟩
theorem ok_uTrees {f f1 f2 CW fI : Addr} {fd fd1 fd2 : FuncData} (F : Fun K "all_trees" "all_trees" uTrees f fd) (G1 : FnOk P w K mg base CX0 1 f1 fd1 ["forest", "ends"] spUJ) (b1 : Binds K fd1 ["forest", "ends"] []) (k1 : PySem.W.keepIn K (.ref f1) = true) (m1 : mg "joins_parts" = some (.ref f1))
    (G2 : FnOk P w K mg base CX0 1 f2 fd2 ["forest", "road", "ends"] spUWith) (b2 : Binds K fd2 ["forest", "road", "ends"] []) (k2 : PySem.W.keepIn K (.ref f2) = true) (m2 : mg "with_road" = some (.ref f2)) (WK : WebK K CW fI)
    (mL : mg "list" = none) (mr : mg "range" = none) (me : mg "enumerate" = none) (ml : mg "len" = none) : FnOk P w K mg base CX0 2 f fd ["web"] (spUTrees CW) := by
  refine F.ok scUTrees (fun vs H Q E h => ?_) (fun cdv A outer s H vs Q E hr h => ?_)
  · obtain ⟨_, _, _, rfl, _⟩ := h
    rfl
  obtain ⟨wb, places, rds, rfl, hW, wok, q⟩ := h
  obtain ⟨⟨p2, p6⟩, ⟨l1, l10⟩, ok⟩ := id wok
  refine ⟨_, pss_cons (ps_set (i := 1) scUTrees.nd rfl (Or.inl rfl) (pe_lst (pa_cons (pe_tup (pa_cons (pe_lst pa_nil) (pa_cons (pe_callTy (call_listRng rfl) rfl mL PyProof.Rows.boot_list (pa_cons (pe_rangeV rfl mr (pa_cons (pe_fld (pv 0) rfl) pa_nil)) pa_nil)) pa_nil))) pa_nil)))
    (pss_cons (ps_for PassesOwn.never rfl (pi_enum rfl me (pa_cons (pe_fld (pv 0) rfl) pa_nil)) (pg_tup rfl (pgs_cons (pg_name (i := 2) scUTrees.nd rfl (Or.inr rfl)) (pgs_cons (pg_name (i := 3) scUTrees.nd rfl (Or.inr rfl)) pgs_nil)))
      (pss_one (ps_set (i := 1) scUTrees.nd rfl (Or.inl rfl) (pe_op op_cat (pv 1) (pe_comp (N := ["forest", "ends", "road"]) (cap := [none, some 3, some 2]) rfl (compOk_of (by rfl)) (pi_list (pv 1)) (fun _ _ _ _ => pg_name (i := 0) (nd3 (by decide +kernel) (by decide +kernel) (by decide +kernel)) rfl (Or.inl rfl))
        (fun _ _ _ _ => pts_one (pt_val (pe_call G1 hr rfl m1 k1 b1 .nil pass0 (pa_cons (pv 0) (pa_cons (pv 1) pa_nil))))) (fun _ _ _ _ => pe_call G2 hr rfl m2 k2 b2 .nil pass0 (pa_cons (pv 0) (pa_cons (pv 2) (pa_cons (pv 1) pa_nil)))))))))
    (pss_one (ps_ret (pe_comp (N := ["roads", "parts", "web"]) (cap := [none, none, some 0]) rfl (compOk_of (by rfl)) (pi_list (pv 1)) (fun _ _ _ _ => pg_tupK K (n := 2) rfl rfl (pgs_cons (pg_name (i := 0) (nd3 (by decide +kernel) (by decide +kernel) (by decide +kernel)) rfl (Or.inl rfl)) (pgs_cons (pg_name (i := 1) (nd3 (by decide +kernel) (by decide +kernel) (by decide +kernel)) rfl (Or.inl rfl)) pgs_nil)))
      (fun _ _ _ _ => pts_one (pt_cmpR op_eq (pe_callB (call_lenK K rfl) rfl ml PySem.boot_len (pa_cons (pv 0) pa_nil)) (pe_op op_sub (pe_fldK K rfl (pv 2) rfl) pe_int) (nomark _))) (fun _ _ _ _ => pv 0))))), ?_⟩
  obtain ⟨dx, fs, ra, hw, hfp, hfr, as, hra, hp⟩ := hW
  have hpl := hp.length
  refine ⟨(by show 0 ≤ sizeLine; decide), fun e0 he0 => ?_⟩
  have s0 := same_new he0 (.lst [])
  refine ⟨_, rfl, wb, CW, dx, fs, .int places, rfl, s0 _ _ hw, WK.cls, WK.np, hfp, places, rfl, fun rg hrg => ?_⟩
  have s1 := same_new hrg (.rng 0 places)
  refine ⟨rg, places, rfl, upd_same, by omega, by omega, fun pl hpl' => ?_⟩
  have s2 := same_new hpl' (.lst ((List.range places.toNat).map fun (i : Nat) => V.int (i : Int)))
  refine ⟨(by show 2 ≤ sizeLine; decide), fun t0 ht0 => ?_⟩
  have s3 := same_new ht0 (.tup [.ref e0, .ref pl])
  refine ⟨(by show 1 ≤ sizeLine; decide), fun fa0 hfa0 => ?_⟩
  have s4 := same_new hfa0 (.lst [.ref t0])
  have hP : IL (upd (upd (upd (upd H e0 (.lst [])) rg (.rng 0 places)) pl (.lst ((List.range places.toNat).map fun (i : Nat) => V.int (i : Int)))) t0 (.tup [.ref e0, .ref pl])) pl (rangeI 0 places.toNat) := by
    show upd _ t0 _ pl = _
    refine (s3 _ _ upd_same).trans ?_
    unfold rangeI
    rw [List.map_map]
    congr 2
    refine List.map_congr_left fun i _ => ?_
    show V.int (i : Int) = V.int (0 + (i : Int))
    rw [Int.zero_add]
  have hE := (s1.trans (s2.trans s3)) _ _ (show upd H e0 (.lst []) e0 = some (.lst []) from upd_same)
  have s14 := s0.trans (s1.trans (s2.trans (s3.trans s4)))
  refine ⟨_, rfl, wb, CW, dx, fs, .ref ra, rfl, s14 _ _ hw, WK.cls, WK.nr, hfr, ra, rfl, ⟨_, s14 _ _ hra⟩, ?_⟩
  refine for_enum (K := K) (a := ra) (xs := as.map V.ref) (fun i σ H' => ∃ (fa : Addr) (v2 v3 : Option V) (cs : List Addr), σ = [some (.ref wb), some (.ref fa), v2, v3] ∧ Same H H' ∧ H' fa = some (.lst (cs.map V.ref)) ∧ Paired (FoT H H') cs (forestsL places rds i))
    ⟨fa0, none, none, [t0], rfl, s14, upd_same, .cons ⟨e0, pl, s4 _ _ upd_same, s4 _ _ hE, s4 _ _ hP, he0⟩ .nil⟩ (fun i σ H' ⟨_, _, _, _, _, t, _⟩ => SqL.of (t _ _ hra)) ?_ ?_
  · rintro i x σ H1 t hx ⟨fa, v2, v3, cs, rfl, u1, hfa, hfo⟩ ht
    obtain ⟨ea, hea, rfl⟩ := map_ref_get hx
    obtain ⟨rd, hrd, hE'⟩ := pget hp hea
    have hi : i < rds.length := (List.getElem?_eq_some_iff.mp hrd).1
    have eR : endsR rds (i : Int) = rd := by unfold endsR; rw [Int.toNat_natCast, List.getD_eq_getElem?_getD, hrd]; rfl
    have hrok := ok rd (List.mem_of_getElem? hrd)
    have t1 := same_new ht (.tup [.int (i : Int), .ref ea])
    refine ⟨t, _, rfl, SqT.of upd_same, rfl, _, _, rfl, _, _, rfl, rfl, ?_⟩
    obtain ⟨H2, e2⟩ : ∃ H2, H2 = upd H1 t (.tup [.int (i : Int), .ref ea]) := ⟨_, rfl⟩
    rw [← e2] at t1 ⊢
    have hfa2 := t1 _ _ hfa
    have hfo2 := fmono t1 hfo
    have u2 := u1.trans t1
    have hfl := hfo.length
    have hpow : (forestsL places rds i).length ≤ 1024 := by
      have z := forests_len places rds i
      have z2 : 2 ^ i ≤ 2 ^ 10 := Nat.pow_le_pow_right (by decide) (by omega)
      omega
    refine ⟨_, rfl, _, rfl, fa, rfl, ⟨_, SqL.of hfa2⟩, ?_⟩
    refine comp_list (K := K) (a := fa) (xs := cs.map V.ref) (fun j zs H' => ∃ ds : List Addr, zs = ds.map V.ref ∧ Same H2 H' ∧ Paired (FoT H H') ds ((((forestsL places rds i).take j).filter fun f => decide (nm f.2 (endsR rds (i : Int)).1 ≠ nm f.2 (endsR rds (i : Int)).2)).map (addF i (endsR rds (i : Int)))))
      ⟨[], rfl, Same.refl _, .nil⟩ (by rw [List.length_map]; exact Nat.le_trans (by omega) (show 1024 ≤ sizeLine by decide)) (fun j zs H' _ ⟨ds, e, w1, w2⟩ => ⟨SqL.of (w1 _ _ hfa2), ?_⟩) ?_ ?_
    · have z := w2.length
      rw [List.length_map] at z
      have z2 := List.length_filter_le (fun f : List Int × List Int => decide (nm f.2 (endsR rds (i : Int)).1 ≠ nm f.2 (endsR rds (i : Int)).2)) ((forestsL places rds i).take j)
      rw [List.length_take] at z2
      rw [e, List.length_map, z]
      omega
    · rintro j y zs H3 hy ⟨ds, e, w1, w2⟩
      obtain ⟨fo, hfo', rfl⟩ := map_ref_get hy
      obtain ⟨fr, hfr', hF⟩ := pget hfo2 hfo'
      have hmem := List.mem_of_getElem? hfr'
      obtain ⟨q1, q2, _, q4⟩ := forest_mem (by omega) ok (by omega) hmem
      have q3 := row_len q1 q2
      have hl2 : (fr.2.length : Int) = places := by have := q4.1; omega
      have hF3 := hF.mono w1
      have hR3 : RdT H3 ea rd := hE'.mono (u2.trans w1)
      refine ⟨⟨.inl rfl, .inr rfl, .inr rfl, trivial⟩, ?_⟩
      refine ⟨_, rfl, _, rfl, H, fo, ea, fr, rd, rfl, hF3, hR3, ⟨hrok.1.1, by omega⟩, ⟨hrok.2.1.1, by omega⟩, _, rfl, ?_⟩
      by_cases c : nm fr.2 rd.1 ≠ nm fr.2 rd.2
      · refine decT c ?_
        refine ⟨_, rfl, _, rfl, _, rfl, fo, ea, fr, rd, i, H, rfl, hF3, hR3, ⟨hrok.1.1, by omega⟩, ⟨hrok.2.1.1, by omega⟩, by omega, by omega, fun r H4 w3 hN => ?_⟩
        refine ⟨ds ++ [r], by rw [e, List.map_append]; rfl, w1.trans w3, ?_⟩
        rw [take_snoc hfr', List.filter_append, List.filter_cons, if_pos (decide_eq_true (by rw [eR]; exact c)), List.map_append]
        refine papp (fmono w3 w2) (.cons ?_ .nil)
        obtain ⟨ra', pa', n1, n2, n3, n4⟩ := hN
        rw [eR]
        exact ⟨ra', pa', n1, n2, n3, (u2.trans w1).free n4⟩
      · refine decF c ?_
        refine ⟨ds, e, w1, ?_⟩
        rw [take_snoc hfr', List.filter_append, List.filter_cons, if_neg (by rw [decide_eq_true_iff, eR]; exact c)]
        simpa using w2
    · rintro zs H3 ⟨ds, e, w1, w2⟩ pz hpz
      rw [List.length_map, hfl, List.take_length] at w2
      have w3 := same_new hpz (.lst zs)
      have hdl := w2.length
      rw [List.length_map] at hdl
      have z2 := List.length_filter_le (fun f : List Int × List Int => decide (nm f.2 (endsR rds (i : Int)).1 ≠ nm f.2 (endsR rds (i : Int)).2)) (forestsL places rds i)
      refine ⟨fa, pz, _, _, rfl, rfl, (w1.trans w3) _ _ hfa2, upd_same, (by rw [e, List.length_map, List.length_map]; exact Nat.le_trans (by omega) (show 2048 ≤ sizeLine by decide)), fun nf hnf => ?_⟩
      have w4 := same_new hnf (.lst (cs.map V.ref ++ zs))
      have w14 := w1.trans (w3.trans w4)
      refine ⟨nf, _, _, cs ++ ds, rfl, u2.trans w14, by rw [upd_same, e, List.map_append], ?_⟩
      exact papp (fmono w14 hfo2) (fmono (w3.trans w4) w2)
  rintro σ H1 ⟨fa, v2, v3, cs, rfl, u1, hfa, hfo⟩
  rw [List.length_map, hpl] at hfo
  have hfl := hfo.length
  have hpow : (forestsL places rds rds.length).length ≤ 1024 := by
    have z := forests_len places rds rds.length
    have z2 : 2 ^ rds.length ≤ 2 ^ 10 := Nat.pow_le_pow_right (by decide) (by omega)
    omega
  refine ⟨_, rfl, fa, rfl, ⟨_, SqL.of hfa⟩, ?_⟩
  refine comp_list (K := K) (a := fa) (xs := cs.map V.ref) (fun j zs H' => H' = H1 ∧ ∃ ds : List Addr, zs = ds.map V.ref ∧ Paired (IL H1) ds ((((forestsL places rds rds.length).take j).filter fun f => decide ((f.1.length : Int) = places - 1)).map (·.1)) ∧ ∀ b ∈ ds, H b = none)
    ⟨rfl, [], rfl, .nil, (fun b hb => nomatch hb)⟩ (by rw [List.length_map]; exact Nat.le_trans (by omega) (show 1024 ≤ sizeLine by decide)) (fun j zs H' _ ⟨e1, ds, e, w2, _⟩ => ⟨by rw [e1]; exact SqL.of hfa, ?_⟩) ?_ ?_
  · have z := w2.length
    rw [List.length_map] at z
    have z2 := List.length_filter_le (fun f : List Int × List Int => decide ((f.1.length : Int) = places - 1)) ((forestsL places rds rds.length).take j)
    rw [List.length_take] at z2
    rw [e, List.length_map, z]
    omega
  · rintro j y zs H3 hy ⟨rfl, ds, e, w2, w3⟩
    obtain ⟨fo, hfo', rfl⟩ := map_ref_get hy
    obtain ⟨fr, hfr', ra', pa', n1, n2, n3, n4⟩ := pget hfo hfo'
    refine ⟨fo, _, rfl, SqT.of n1, rfl, _, _, rfl, _, _, rfl, rfl, ⟨.inl rfl, .inl rfl, .inr rfl, trivial⟩, ?_⟩
    refine ⟨_, rfl, ra', _, rfl, .inl (SqL.of n2), _, rfl, wb, CW, dx, fs, .int places, rfl, u1 _ _ hw, WK.cls, WK.np, hfp, _, _, rfl, rfl, rfl, _, rfl, ?_⟩
    rw [List.length_map]
    by_cases c : (fr.1.length : Int) = places - 1
    · refine decT (by rw [c]) ?_
      refine ⟨_, rfl, rfl, ds ++ [ra'], by rw [e, List.map_append]; rfl, ?_, fun b hb => ?_⟩
      · rw [take_snoc hfr', List.filter_append, List.filter_cons, if_pos (decide_eq_true c), List.map_append]
        exact papp w2 (.cons n2 .nil)
      · rcases List.mem_append.mp hb with z | z
        · exact w3 b z
        · rw [List.mem_singleton.mp z]; exact n4
    · refine decF (fun z => c (by injection z)) ?_
      refine ⟨rfl, ds, e, ?_, w3⟩
      rw [take_snoc hfr', List.filter_append, List.filter_cons, if_neg (by rw [decide_eq_true_iff]; exact c)]
      simpa using w2
  · rintro zs H3 ⟨rfl, ds, e, w2, w3⟩ pz hpz
    rw [List.length_map, hfl, List.take_length] at w2
    have w4 := same_new hpz (.lst zs)
    exact q pz _ (u1.trans w4) ⟨u1.free hpz, ds, by rw [upd_same, e], pmono w4 w2, w3⟩
end
def stepW (places : Int) (rds : List (Int × Int)) (k : Nat) (place : Int) (seen : List Int) (r : Nat) : List (List Int) :=
  if place = (endsR rds (r : Int)).1 ∨ place = (endsR rds (r : Int)).2 then
    (if (endsR rds (r : Int)).1 + (endsR rds (r : Int)).2 - place ∈ seen then [] else (waysOn places rds k ((endsR rds (r : Int)).1 + (endsR rds (r : Int)).2 - place) (seen ++ [(endsR rds (r : Int)).1 + (endsR rds (r : Int)).2 - place])).map fun rest => (r : Int) :: rest)
  else []
theorem waysOn_succ (places : Int) (rds : List (Int × Int)) (k : Nat) (place : Int) (seen : List Int) : waysOn places rds (k + 1) place seen = if place = places - 1 then [[]] else (List.range rds.length).flatMap (stepW places rds k place seen) := rfl
theorem ways_len {places : Int} {rds : List (Int × Int)} (h1 : 1 ≤ rds.length) : ∀ (k : Nat) (place : Int) (seen : List Int), (waysOn places rds k place seen).length ≤ rds.length ^ k
  | 0, _, _ => Nat.zero_le _
  | k + 1, place, seen => by
    rw [waysOn_succ]
    by_cases c : place = places - 1
    · rw [if_pos c]
      exact Nat.one_le_pow _ _ h1
    · rw [if_neg c]
      have z := len_flatMap (stepW places rds k place seen) (rds.length ^ k) (fun r => ?_) (List.range rds.length)
      · rw [List.length_range] at z
        rw [Nat.pow_succ, Nat.mul_comm]
        exact z
      · unfold stepW
        split
        · split
          · exact Nat.zero_le _
          · rw [List.length_map]
            exact ways_len h1 k _ _
        · exact Nat.zero_le _
theorem pow_small {n k : Nat} (hn : n ≤ 10) (hk : k ≤ 7) : n ^ k ≤ 10000000 := Nat.le_trans (Nat.pow_le_pow_left hn k) (Nat.le_trans (Nat.pow_le_pow_right (by decide) hk) (by decide))
theorem ways_elen {places : Int} {rds : List (Int × Int)} (ok : okRds places rds) (hp : 0 ≤ places) {k : Nat} {place : Int} {seen rs : List Int} (hpl : place ∈ seen) (hn : seen.Nodup) (hr : ∀ v ∈ seen, 0 ≤ v ∧ v < places) (h : rs ∈ waysOn places rds k place seen) : seen.length + rs.length ≤ places.toNat :=
  pth_len ok hp (pth_of_ways h) hpl hn hr
def spUOn (CW : Addr) (j : Nat) : Sp := fun vs H Q _ => ∃ (wb sa : Addr) (places : Int) (rds : List (Int × Int)) (place : Int) (seen : List Int), vs = [.ref wb, .int place, .ref sa] ∧ WebAt CW H wb places rds ∧ webOk places rds ∧ IL H sa seen ∧ seen.Nodup ∧ (∀ v ∈ seen, 0 ≤ v ∧ v < places) ∧ place ∈ seen ∧ places.toNat < seen.length + j ∧ j ≤ 7 ∧
  ∀ r H', Same H H' → ILLn H H' r (waysOn places rds j place seen) → Q (.ref r) H'
def spUWays (CW : Addr) : Sp := fun vs H Q _ => ∃ (wb : Addr) (places : Int) (rds : List (Int × Int)), vs = [.ref wb] ∧ WebAt CW H wb places rds ∧ webOk places rds ∧
  ∀ r H' cs, Same H H' → ILLn H H' r cs → (∀ e, e ∈ cs ↔ wayP places rds e) → cs.length ≤ 10000000 → Q (.ref r) H'
section
variable {P : Program} {w : World} {K : PySem.W.Frag} {mg : Str → Option Value} {base : Heap}
theorem scUOn : FnScope ["web", "place", "seen", "ways", "road", "ends", "there"] ["web", "place", "seen"] (defScope uOn) := ⟨rfl, rfl, rfl, by decide +kernel, rfl, by decide +kernel, by decide +kernel⟩
theorem ok_uOn {f CW fI : Addr} {fd : FuncData} (F : Fun K "ways_onward" "ways_onward" uOn f fd) (k1 : PySem.W.keepIn K (.ref f) = true) (m1 : mg "ways_onward" = some (.ref f)) (b1 : Binds K fd ["web", "place", "seen"] []) (WK : WebK K CW fI) (me : mg "enumerate" = none) : ∀ j : Nat, FnOk P w K mg base CX0 j f fd ["web", "place", "seen"] (spUOn CW j)
  | 0 => by
    have no : ∀ vs H Q E, ¬ spUOn CW 0 vs H Q E := by
      rintro vs H Q E ⟨wb, sa, places, rds, place, seen, _, _, _, _, hn, hr, _, hl, _⟩
      have z := nodup_sub (m := rangeI 0 places.toNat) hn fun x hx => mem_rangeI.mpr (by have := hr x hx; omega)
      rw [rangeI_len] at z
      omega
    exact ⟨fun vs H Q E h => absurd h (no _ _ _ _), fun A outer s H args us vs Q E _ _ _ _ h => absurd h (no _ _ _ _)⟩
  | j + 1 => by
    have G := ok_uOn (CW := CW) F k1 m1 b1 WK me j
    refine F.ok scUOn (fun vs H Q E h => ?_) (fun cdv A outer s H vs Q E hr h => ?_)
    · obtain ⟨_, _, _, _, _, _, rfl, _⟩ := h
      rfl
    obtain ⟨wb, sa, places, rds, place, seen, rfl, hW, wok, hS, hn, hrg, hpl, hl, hj, q⟩ := h
    obtain ⟨⟨p2, p6⟩, ⟨l1, l10⟩, ok⟩ := id wok
    refine ⟨_, pss_cons (ps_if (pt_cmpR op_eq (pv 1) (pe_op op_sub (pe_fld (pv 0) rfl) pe_int) (nomark _)) (pss_one (ps_ret (pe_lst (pa_cons (pe_lst pa_nil) pa_nil)))) pss_nil)
      (pss_cons (ps_set (i := 3) scUOn.nd rfl (Or.inl rfl) (pe_lst pa_nil))
      (pss_cons (ps_for PassesOwn.never rfl (pi_enum rfl me (pa_cons (pe_fld (pv 0) rfl) pa_nil)) (pg_tup rfl (pgs_cons (pg_name (i := 4) scUOn.nd rfl (Or.inr rfl)) (pgs_cons (pg_name (i := 5) scUOn.nd rfl (Or.inl rfl)) pgs_nil)))
        (pss_one (ps_if (pt_cmpR op_in_seq (pv 1) (pv 5) (by rfl))
          (pss_cons (ps_set (i := 6) scUOn.nd rfl (Or.inl rfl) (pe_op op_sub (pe_op op_add (pe_ix ix_tup (pv 5) pe_int (fun _ _ => rfl)) (pe_ix ix_tup (pv 5) pe_int (fun _ _ => rfl))) (pv 1)))
          (pss_one (ps_if (pt_cmpR op_notIn_seq (pv 6) (pv 2) (by rfl))
            (pss_one (ps_expr (pe_bm PySem.F.plainAttrs_list PySem.F.slot_list_extend PySem.F.type_list_extend mt_extend (pv 3) (pa_cons
              (pe_comp (N := ["rest", "road"]) (cap := [none, some 4]) rfl (compOk_of (by rfl)) (pi_list (pe_call G hr rfl m1 k1 b1 .nil pass0 (pa_cons (pv 0) (pa_cons (pv 6) (pa_cons (pe_op op_cat (pv 2) (pe_lst (pa_cons (pv 6) pa_nil))) pa_nil)))))
                (fun _ _ _ _ => pg_name (i := 0) (nd2 (by decide +kernel)) rfl (Or.inl rfl)) (fun _ _ _ _ => pts_nil) (fun _ _ _ _ => pe_op op_cat (pe_lst (pa_cons (pv 1) pa_nil)) (pv 0))) pa_nil)))) pss_nil))) pss_nil)))
      (pss_one (ps_ret (pv 3))))), ?_⟩
    obtain ⟨dx, fs, ra, hw, hfp, hfr, as, hra, hp⟩ := id hW
    have hpl' := hp.length
    rw [waysOn_succ] at q
    refine ⟨_, rfl, _, rfl, wb, CW, dx, fs, .int places, rfl, hw, WK.cls, WK.np, hfp, _, _, rfl, rfl, rfl, _, rfl, ?_⟩
    by_cases ce : place = places - 1
    · refine decT (by rw [ce]) ?_
      rw [if_pos ce] at q
      refine ⟨(by show 0 ≤ sizeLine; decide), fun e0 he0 => ⟨(by show 1 ≤ sizeLine; decide), fun a0 ha0 => ?_⟩⟩
      have s1 := same_new he0 (.lst [])
      have s2 := same_new ha0 (.lst [.ref e0])
      exact q a0 _ (s1.trans s2) ⟨s1.free ha0, [e0], upd_same, .cons (s2 _ _ upd_same) .nil, fun b hb => by rw [List.mem_singleton.mp hb]; exact he0⟩
    refine decF (fun z => ce (by injection z)) ?_
    rw [if_neg ce] at q
    refine ⟨(by show 0 ≤ sizeLine; decide), fun wl hwl => ?_⟩
    have s0 := same_new hwl (.lst [])
    refine ⟨_, rfl, wb, CW, dx, fs, .ref ra, rfl, s0 _ _ hw, WK.cls, WK.nr, hfr, ra, rfl, ⟨_, s0 _ _ hra⟩, ?_⟩
    refine for_enum (K := K) (a := ra) (xs := as.map V.ref) (fun i σ H' => ∃ (v4 v5 v6 : Option V) (bs : List Addr), σ = [some (.ref wb), some (.int place), some (.ref sa), some (.ref wl), v4, v5, v6] ∧ Same H H' ∧ H' wl = some (.lst (bs.map V.ref)) ∧ Paired (IL H') bs ((List.range i).flatMap (stepW places rds j place seen)) ∧ ∀ b ∈ bs, b ≠ wl ∧ H b = none)
      ⟨none, none, none, [], rfl, s0, upd_same, .nil, (fun b hb => nomatch hb)⟩ (fun i σ H' ⟨_, _, _, _, _, t, _⟩ => SqL.of (t _ _ hra)) ?_ ?_
    · rintro i x σ H1 t hx ⟨v4, v5, v6, bs, rfl, u1, hwl1, hb, hbn⟩ ht
      obtain ⟨ea, hea, rfl⟩ := map_ref_get hx
      obtain ⟨rd, hrd, hE⟩ := pget hp hea
      have hi : i < rds.length := (List.getElem?_eq_some_iff.mp hrd).1
      have eR : endsR rds (i : Int) = rd := by unfold endsR; rw [Int.toNat_natCast, List.getD_eq_getElem?_getD, hrd]; rfl
      have hrok := ok rd (List.mem_of_getElem? hrd)
      have t1 := same_new ht (.tup [.int (i : Int), .ref ea])
      refine ⟨t, _, rfl, SqT.of upd_same, rfl, _, _, rfl, _, _, rfl, rfl, ?_⟩
      obtain ⟨H2, e2⟩ : ∃ H2, H2 = upd H1 t (.tup [.int (i : Int), .ref ea]) := ⟨_, rfl⟩
      rw [← e2] at t1 ⊢
      have u2 := u1.trans t1
      have hwl2 := t1 _ _ hwl1
      have hb2 := pmono t1 hb
      have hE2 : H2 ea = some (.tup [.int rd.1, .int rd.2]) := hE.mono u2
      have eS : stepW places rds j place seen i = if place = rd.1 ∨ place = rd.2 then (if rd.1 + rd.2 - place ∈ seen then [] else (waysOn places rds j (rd.1 + rd.2 - place) (seen ++ [rd.1 + rd.2 - place])).map fun rest => (i : Int) :: rest) else [] := by unfold stepW; rw [eR]
      have eR1 : ∀ L, stepW places rds j place seen i = L → (List.range (i + 1)).flatMap (stepW places rds j place seen) = (List.range i).flatMap (stepW places rds j place seen) ++ L := fun L e => by
        rw [List.range_succ, List.flatMap_append, List.flatMap_cons, List.flatMap_nil, List.append_nil, e]
      refine ⟨_, rfl, _, rfl, ea, [.int rd.1, .int rd.2], rfl, .inr (SqT.of hE2), rfl, rfl, _, rfl, ?_⟩
      have ein : (if false = true then !inV (V.int place) [.int rd.1, .int rd.2] else inV (V.int place) [.int rd.1, .int rd.2]) = decide (place = rd.1 ∨ place = rd.2) := by
        rw [if_neg (by decide), show ([.int rd.1, .int rd.2] : List V) = [rd.1, rd.2].map V.int from rfl, inV_int]
        simp
      rw [ein]
      by_cases c1 : place = rd.1 ∨ place = rd.2
      · refine decT c1 ?_
        refine ⟨_, rfl, ea, _, 0, .int rd.1, rfl, rfl, SqT.of hE2, rfl, _, rfl, ea, _, 1, .int rd.2, rfl, rfl, SqT.of hE2, rfl, _, _, rfl, rfl, _, rfl, _, _, rfl, rfl, ?_⟩
        dsimp only
        refine ⟨_, rfl, _, rfl, sa, _, rfl, .inl (SqL.of (u2 _ _ hS)), rfl, flat_ints seen, _, rfl, ?_⟩
        rw [if_pos rfl, inV_int]
        obtain ⟨th, eth⟩ : ∃ th, th = rd.1 + rd.2 - place := ⟨_, rfl⟩
        rw [← eth] at eS ⊢
        by_cases c2 : th ∈ seen
        · refine ndecF c2 ?_
          rw [if_pos c1, if_pos c2] at eS
          refine ⟨_, _, _, bs, rfl, u2, hwl2, ?_, hbn⟩
          rw [eR1 [] eS, List.append_nil]
          exact hb2
        · refine ndecT c2 ?_
          rw [if_pos c1, if_neg c2] at eS
          have hth : 0 ≤ th ∧ th < places := by rcases c1 with z | z <;> omega
          refine ⟨_, rfl, .inl ⟨rfl, _, SqL.of hwl2⟩, ?_⟩
          refine ⟨_, rfl, _, rfl, _, rfl, _, rfl, (by show 1 ≤ sizeLine; decide), fun l1' hl1' => ?_⟩
          have y1 := same_new hl1' (.lst [.int th])
          have sl : seen.length ≤ 6 := by
            have z := nodup_sub (m := rangeI 0 places.toNat) hn fun x hx => mem_rangeI.mpr (by have := hrg x hx; omega)
            rw [rangeI_len] at z
            omega
          refine ⟨sa, l1', _, _, rfl, rfl, (u2.trans y1) _ _ hS, upd_same, (by rw [List.length_map]; show _ + 1 ≤ sizeLine; exact small (by omega)), fun ns hns => ?_⟩
          have y2 := same_new hns (.lst (seen.map V.int ++ [.int th]))
          have hNS : IL (upd (upd H2 l1' (.lst [.int th])) ns (.lst (seen.map V.int ++ [.int th]))) ns (seen ++ [th]) := by show upd _ ns _ ns = _; rw [upd_same, List.map_append]; rfl
          obtain ⟨H3, e3⟩ : ∃ H3, H3 = upd (upd H2 l1' (.lst [.int th])) ns (.lst (seen.map V.int ++ [.int th])) := ⟨_, rfl⟩
          rw [← e3] at y2 hNS ⊢
          have u3 := u2.trans (y1.trans y2)
          have hn2 : (seen ++ [th]).Nodup := List.nodup_append.mpr ⟨hn, List.nodup_cons.mpr ⟨(fun z => nomatch z), .nil⟩, fun a ha b hb' e => c2 (by rw [List.mem_singleton.mp hb'] at e; exact e ▸ ha)⟩
          have hrg2 : ∀ v ∈ seen ++ [th], 0 ≤ v ∧ v < places := fun v hv => by
            rcases List.mem_append.mp hv with z | z
            · exact hrg v z
            · rw [List.mem_singleton.mp z]; exact hth
          have hpl2 : th ∈ seen ++ [th] := List.mem_append_right _ List.mem_cons_self
          refine ⟨wb, ns, places, rds, th, seen ++ [th], rfl, hW.mono u3, wok, hNS, hn2, hrg2, hpl2, by rw [List.length_append, List.length_singleton]; omega, by omega, fun rl H4 y3 hN => ?_⟩
          obtain ⟨hrl0, as2, hrl, hp2, hf2⟩ := hN
          have hpl2' := hp2.length
          have lenW := ways_len (places := places) l1 j th (seen ++ [th])
          have lenW2 := pow_small (n := rds.length) (k := j) l10 (by omega)
          have u4 := u3.trans y3
          refine ⟨rl, rfl, ⟨_, SqL.of hrl⟩, ?_⟩
          refine comp_list (K := K) (a := rl) (xs := as2.map V.ref) (fun m zs H' => ∃ cs : List Addr, zs = cs.map V.ref ∧ Same H4 H' ∧ Paired (IL H') cs (((waysOn places rds j th (seen ++ [th])).take m).map fun rest => (i : Int) :: rest) ∧ ∀ c ∈ cs, H4 c = none)
            ⟨[], rfl, Same.refl _, .nil, (fun b hb => nomatch hb)⟩ (by rw [List.length_map]; exact Nat.le_trans (by omega) (show 10000000 ≤ sizeLine by decide)) (fun m zs H' _ ⟨cs, e, w1, w2, _⟩ => ⟨SqL.of (w1 _ _ hrl), ?_⟩) ?_ ?_
          · have z := w2.length
            rw [List.length_map, List.length_take] at z
            rw [e, List.length_map, z]
            exact Nat.min_le_left _ _
          · rintro m y zs H5 hy ⟨cs, e, w1, w2, w3⟩
            obtain ⟨re, hre, rfl⟩ := map_ref_get hy
            obtain ⟨rest, hrest, hRe⟩ := pget hp2 hre
            have lre := ways_elen ok (by omega) hpl2 hn2 hrg2 (List.mem_of_getElem? hrest)
            refine ⟨⟨.inl rfl, .inr rfl, trivial⟩, ?_⟩
            refine ⟨_, rfl, (by show 1 ≤ sizeLine; decide), fun l2' hl2' => ?_⟩
            have z1 := same_new hl2' (.lst [.int (i : Int)])
            refine ⟨_, rfl, l2', re, _, _, rfl, rfl, upd_same, (w1.trans z1) _ _ hRe, (by rw [List.length_map]; show 1 + _ ≤ sizeLine; exact small (by omega)), fun nl hnl => ?_⟩
            have z2 := same_new hnl (.lst ([.int (i : Int)] ++ rest.map V.int))
            refine ⟨cs ++ [nl], by rw [e, List.map_append]; rfl, w1.trans (z1.trans z2), ?_, fun c hc => ?_⟩
            · rw [take_snoc hrest, List.map_append]
              exact papp (pmono (z1.trans z2) w2) (.cons upd_same .nil)
            · rcases List.mem_append.mp hc with z | z
              · exact w3 c z
              · rw [List.mem_singleton.mp z]
                exact (w1.trans z1).free hnl
          · rintro zs H5 ⟨cs, e, w1, w2, w3⟩ l3 hl3
            rw [List.length_map, hpl2', List.take_length] at w2
            have w4 := same_new hl3 (.lst zs)
            have hcl := w2.length
            rw [List.length_map] at hcl
            have hbl := hb.length
            have lenT : ((List.range i).flatMap (stepW places rds j place seen)).length ≤ 10000000 := by
              have z := len_flatMap (stepW places rds j place seen) (rds.length ^ j) (fun r => by
                unfold stepW
                split
                · split
                  · exact Nat.zero_le _
                  · rw [List.length_map]; exact ways_len l1 j _ _
                · exact Nat.zero_le _) (List.range i)
              rw [List.length_range] at z
              have z2 : i * rds.length ^ j ≤ rds.length * rds.length ^ j := Nat.mul_le_mul_right _ (by omega)
              have z3 := pow_small (n := rds.length) (k := j + 1) l10 hj
              rw [Nat.pow_succ, Nat.mul_comm] at z3
              omega
            have hwl5 := (y1.trans (y2.trans (y3.trans (w1.trans w4)))) _ _ hwl2
            refine ⟨wl, l3, _, _, rfl, rfl, hwl5, upd_same, ?_, ?_⟩
            · rw [e, List.length_map, List.length_map]
              have lenJ : (waysOn places rds j th (seen ++ [th])).length ≤ 1000000 := by
                have z4 : j ≤ 6 := by omega
                have z5 : rds.length ^ j ≤ 10 ^ 6 := Nat.le_trans (Nat.pow_le_pow_left l10 j) (Nat.pow_le_pow_right (by decide) z4)
                omega
              exact Nat.le_trans (show _ ≤ 11000000 by omega) (show 11000000 ≤ sizeLine by decide)
            · have cne : ∀ c ∈ cs, c ≠ wl := fun c hc z => by
                have y := w3 c hc
                rw [z, (y1.trans (y2.trans y3)) _ _ hwl2] at y
                cases y
              have big := y1.trans (y2.trans (y3.trans (w1.trans w4)))
              refine ⟨_, _, _, bs ++ cs, rfl, same_upd (u2.trans big) hwl _, by rw [upd_same, e, List.map_append], ?_, fun b hb' => ?_⟩
              · rw [eR1 _ eS]
                refine papp (pimp hb2 fun b hb' r z => ?_) (pimp w2 fun b hb' r z => ?_)
                · show upd _ wl _ b = _
                  rw [upd_ne (hbn b hb').1]
                  exact big _ _ z
                · show upd _ wl _ b = _
                  rw [upd_ne (cne b hb')]
                  exact w4 _ _ z
              · rcases List.mem_append.mp hb' with z | z
                · exact hbn b z
                · exact ⟨cne b z, u4.free (w3 b z)⟩
      · refine decF c1 ?_
        rw [if_neg c1] at eS
        refine ⟨_, _, _, bs, rfl, u2, hwl2, ?_, hbn⟩
        rw [eR1 [] eS, List.append_nil]
        exact hb2
    · rintro σ H1 ⟨v4, v5, v6, bs, rfl, u1, hwl1, hb, hbn⟩
      rw [List.length_map, hpl'] at hb
      exact ⟨_, rfl, q wl _ u1 ⟨hwl, bs, hwl1, hb, fun b hb' => (hbn b hb').2⟩⟩
theorem scUWays : FnScope ["web"] ["web"] (defScope uWays) := ⟨rfl, rfl, rfl, by decide +kernel, rfl, by decide +kernel, by decide +kernel⟩
theorem ok_uWays {f f1 CW : Addr} {fd fd1 : FuncData} (F : Fun K "all_ways" "all_ways" uWays f fd) (G : FnOk P w K mg base CX0 7 f1 fd1 ["web", "place", "seen"] (spUOn CW 7)) (b1 : Binds K fd1 ["web", "place", "seen"] []) (k1 : PySem.W.keepIn K (.ref f1) = true) (m1 : mg "ways_onward" = some (.ref f1)) (mS : mg "sorted" = none) : FnOk P w K mg base CX0 8 f fd ["web"] (spUWays CW) := by
  refine F.ok scUWays (fun vs H Q E h => ?_) (fun cdv A outer s H vs Q E hr h => ?_)
  · obtain ⟨_, _, _, rfl, _⟩ := h
    rfl
  obtain ⟨wb, places, rds, rfl, hW, wok, q⟩ := h
  obtain ⟨⟨p2, p6⟩, ⟨l1, l10⟩, ok⟩ := id wok
  refine ⟨_, pss_one (ps_ret (pe_comp (N := ["way"]) (cap := [none]) rfl (compOk_of (by rfl)) (pi_list (pe_call G hr rfl m1 k1 b1 .nil pass0 (pa_cons (pv 0) (pa_cons pe_int (pa_cons (pe_lst (pa_cons pe_int pa_nil)) pa_nil)))))
    (fun _ _ _ _ => pg_name (i := 0) nd1 rfl (Or.inl rfl)) (fun _ _ _ _ => pts_nil) (fun _ _ _ _ => pe_callB (call_sortedK K rfl) rfl mS boot_sorted (pa_cons (pv 0) pa_nil)))), ?_⟩
  refine ⟨_, rfl, (by show 1 ≤ sizeLine; decide), fun sl hsl => ?_⟩
  have s1 := same_new hsl (.lst [.int 0])
  have n0 : ([0] : List Int).Nodup := List.nodup_cons.mpr ⟨(fun z => nomatch z), .nil⟩
  have r0 : ∀ v ∈ ([0] : List Int), 0 ≤ v ∧ v < places := fun v hv => by rw [List.mem_singleton.mp hv]; omega
  refine ⟨wb, sl, places, rds, 0, [0], rfl, hW.mono s1, wok, upd_same, n0, r0, List.mem_cons_self, by rw [List.length_singleton]; omega, by decide, fun rl H1 s2 hN => ?_⟩
  obtain ⟨hrl0, as, hrl, hp, hf⟩ := hN
  have hpl := hp.length
  have lenW := ways_len (places := places) l1 7 0 [0]
  have lenW2 := pow_small (n := rds.length) (k := 7) l10 (by decide)
  refine ⟨rl, rfl, ⟨_, SqL.of hrl⟩, ?_⟩
  refine comp_list (K := K) (a := rl) (xs := as.map V.ref) (fun m zs H' => ∃ (ds : List Addr) (cs : List (List Int)), zs = ds.map V.ref ∧ Same H1 H' ∧ Paired (IL H') ds cs ∧ (∀ c ∈ ds, H1 c = none) ∧ Paired (fun c w => c.Perm w ∧ c.Pairwise (· ≤ ·)) cs ((waysOn places rds 7 0 [0]).take m))
    ⟨[], [], rfl, Same.refl _, .nil, (fun b hb => nomatch hb), .nil⟩ (by rw [List.length_map]; exact Nat.le_trans (by omega) (show 10000000 ≤ sizeLine by decide)) (fun m zs H' _ ⟨ds, cs, e, w1, w2, _, w4⟩ => ⟨SqL.of (w1 _ _ hrl), ?_⟩) ?_ ?_
  · have z := w2.length
    have z2 := w4.length
    rw [List.length_take] at z2
    rw [e, List.length_map, z, z2]
    exact Nat.min_le_left _ _
  · rintro m y zs H2 hy ⟨ds, cs, e, w1, w2, w3, w4⟩
    obtain ⟨wa, hwa, rfl⟩ := map_ref_get hy
    obtain ⟨way, hway, hWa⟩ := pget hp hwa
    have lw := ways_elen ok (by omega) List.mem_cons_self n0 r0 (List.mem_of_getElem? hway)
    refine ⟨⟨.inl rfl, trivial⟩, ?_⟩
    refine ⟨_, rfl, wa, way, rfl, SqL.of (w1 _ _ hWa), by omega, fun l ms hl hperm hord => ?_⟩
    have w5 := same_new hl (.lst (ms.map V.int))
    refine ⟨ds ++ [l], cs ++ [ms], by rw [e, List.map_append]; rfl, w1.trans w5, papp (pmono w5 w2) (.cons upd_same .nil), fun c hc => ?_, ?_⟩
    · rcases List.mem_append.mp hc with z | z
      · exact w3 c z
      · rw [List.mem_singleton.mp z]; exact w1.free hl
    · rw [take_snoc hway]
      exact papp w4 (.cons ⟨hperm, hord⟩ .nil)
  · rintro zs H2 ⟨ds, cs, e, w1, w2, w3, w4⟩ r hr'
    rw [List.length_map, hpl, List.take_length] at w4
    have w5 := same_new hr' (.lst zs)
    have s12 := s1.trans s2
    have lcs := w4.length
    refine q r _ cs (s12.trans (w1.trans w5)) ⟨(s12.trans w1).free hr', ds, by rw [upd_same, e], pmono w5 w2, fun b hb => s12.free (w3 b hb)⟩ (fun e' => ?_) (by omega)
    unfold wayP
    constructor
    · intro he'
      obtain ⟨i, hi, ei⟩ := List.mem_iff_getElem.mp he'
      obtain ⟨y, hy, hy2⟩ := pget w4 (show cs[i]? = some e' by rw [List.getElem?_eq_getElem hi, ei])
      exact ⟨y, List.mem_of_getElem? hy, hy2⟩
    · rintro ⟨y, hy, hperm, hord⟩
      obtain ⟨i, hi, ei⟩ := List.mem_iff_getElem.mp hy
      obtain ⟨c, hc⟩ : ∃ c, cs[i]? = some c := ⟨_, List.getElem?_eq_getElem (show i < cs.length by omega)⟩
      obtain ⟨y2, hy2, h1, h2⟩ := pget w4 hc
      rw [List.getElem?_eq_getElem hi, ei] at hy2
      cases hy2
      have ee : e' = c := by
        have z := perm_desc (l := e'.reverse) (m := c.reverse) (((List.reverse_perm _).trans (hperm.trans h1.symm)).trans (List.reverse_perm _).symm) (List.pairwise_reverse.mpr hord) (List.pairwise_reverse.mpr h2)
        exact List.reverse_inj.mp z
      rw [ee]
      exact List.mem_of_getElem? hc
end
def candP : Cand := fun places rds b row => if b = true then row ∈ treesL places rds else wayP places rds row
theorem forest_row {places : Int} {rds : List (Int × Int)} : ∀ (n : Nat) {f : List Int × List Int}, f ∈ forestsL places rds n → (∀ v ∈ f.1, 0 ≤ v ∧ v < (n : Int)) ∧ f.1.Pairwise (· < ·)
  | 0, f, h => by
    rw [List.mem_singleton.mp (show f ∈ [([], rangeI 0 places.toNat)] from h)]
    exact ⟨(fun v hv => nomatch hv), .nil⟩
  | n + 1, f, h => by
    rcases List.mem_append.mp (show f ∈ forestsL places rds n ++ _ from h) with z | z
    · obtain ⟨a, b⟩ := forest_row n z
      exact ⟨fun v hv => by have := a v hv; omega, b⟩
    · obtain ⟨g, hg, rfl⟩ := List.mem_map.mp z
      obtain ⟨a, b⟩ := forest_row n (List.mem_filter.mp hg).1
      refine ⟨fun v hv => ?_, List.pairwise_append.mpr ⟨b, List.pairwise_singleton _ _, fun x hx y hy => ?_⟩⟩
      · rcases List.mem_append.mp (show v ∈ g.1 ++ [(n : Int)] from hv) with y | y
        · have := a v y
          omega
        · rw [List.mem_singleton.mp y]
          omega
      · rw [List.mem_singleton.mp hy]
        exact (a x hx).2
theorem candP_row {places : Int} {rds : List (Int × Int)} {b : Bool} {e : List Int} (wok : webOk places rds) (he : candP places rds b e) : (∀ v ∈ e, 0 ≤ v ∧ v < (rds.length : Int)) ∧ e.Pairwise (· < ·) := by
  obtain ⟨_, _, ok⟩ := wok
  unfold candP at he
  cases b with
  | true =>
    rw [if_pos rfl] at he
    obtain ⟨f, hf, rfl⟩ := List.mem_map.mp (show e ∈ List.map _ _ from he)
    exact forest_row _ (List.mem_filter.mp hf).1
  | false =>
    rw [if_neg (by decide)] at he
    obtain ⟨w, hw, hp, hs⟩ := he
    obtain ⟨nd, hr⟩ := pth_roads ok (pth_of_ways hw) List.mem_cons_self
    exact ⟨fun v hv => (hr v (hp.mem_iff.mp hv)).1, rise_lt (hp.nodup_iff.mpr nd) hs⟩
theorem candP_ok : CandOk candP := fun places rds b wok e he => ⟨(candP_row wok he).1, (candP_row wok he).2.imp fun {a b} h => by have : a < b := h; omega⟩
def spUCosts (CW CC : Addr) : Sp := fun vs H Q E => ∃ (wb ca : Addr) (places : Int) (rds : List (Int × Int)) (cs : List Int), vs = [.ref wb, .ref ca] ∧ WebAt CW H wb places rds ∧ IL H ca cs ∧ (costOk rds.length cs → Q .non H) ∧ (¬ costOk rds.length cs → E (.ref CC) none H)
def spUChoices (CW CC CN : Addr) : Sp := fun vs H Q E => ∃ (wb ca : Addr) (places : Int) (rds : List (Int × Int)) (b : Bool) (cs : List Int), vs = [.ref wb, .str (kindS b), .ref ca] ∧ WebAt CW H wb places rds ∧ webOk places rds ∧ IL H ca cs ∧
  (costOk rds.length cs → ∀ r H' L, Same H H' → ILLn H H' r L → (∀ e, e ∈ L ↔ candP places rds b e) → L ≠ [] → L.length ≤ 10000000 → Q (.ref r) H') ∧
  (costOk rds.length cs → (∀ e, ¬ candP places rds b e) → ∀ H', Same H H' → E (.ref CN) none H') ∧ (¬ costOk rds.length cs → ∀ H', Same H H' → E (.ref CC) none H')
def spUCost : Sp := fun vs H Q _ => ∃ (ch ca : Addr) (row cs : List Int), vs = [.ref ch, .ref ca] ∧ IL H ch row ∧ IL H ca cs ∧ row.length ≤ 1000 ∧ (∀ r ∈ row, 0 ≤ r ∧ r < (cs.length : Int)) ∧ ∀ H', Same H H' → Q (.int (costR cs row)) H'
def spUCheap : Sp := fun vs H Q _ => ∃ (la ca : Addr) (as : List Addr) (L : List (List Int)) (cs : List Int), vs = [.ref la, .ref ca] ∧ H la = some (.lst (as.map V.ref)) ∧ Paired (IL H) as L ∧ IL H ca cs ∧ L ≠ [] ∧ L.length ≤ 10000000 ∧ (∀ e ∈ L, e.length ≤ 1000 ∧ ∀ r ∈ e, 0 ≤ r ∧ r < (cs.length : Int)) ∧
  ∀ m d, LeastR (· ∈ L) cs (some (m, d)) → ∀ r da H', Same H H' → H r = none → da ∈ as → H' r = some (.tup [.int m, .ref da]) → IL H' da d → Q (.ref r) H'
section
variable {P : Program} {w : World} {K : PySem.W.Frag} {mg : Str → Option Value} {base : Heap}
theorem scUCosts : FnScope ["web", "costs", "cost"] ["web", "costs"] (defScope uCosts) := ⟨rfl, rfl, rfl, by decide +kernel, rfl, by decide +kernel, by decide +kernel⟩
theorem ok_uCosts {f f0 C CW fI : Addr} {fd fd0 : FuncData} {tT : Tok} (F : Fun K "check_costs" "check_costs" uCosts f fd) (G0 : FnOk P w K mg base CX0 1 f0 fd0 ["told"] spWithin) (b0 : Binds K fd0 ["told"] []) (k0 : PySem.W.keepIn K (.ref f0) = true) (m0 : mg "within_bounds" = some (.ref f0)) (WK : WebK K CW fI)
    (ml : mg "len" = none) (mT : mg "MOST_TOLD" = some (.int 1000 tT)) (hC : ExcK K C) (mC : mg "BadCosts" = some (.ref C)) : FnOk P w K mg base (CXX P w) 2 f fd ["web", "costs"] (spUCosts CW C) := by
  refine F.okX scUCosts (fun vs H Q E h => ?_) (fun _ cdv A outer s H vs Q E _ hr h => ?_)
  · obtain ⟨_, _, _, _, _, rfl, _⟩ := h
    rfl
  obtain ⟨wb, ca, places, rds, cs, rfl, hW, hC', q, qE⟩ := h
  refine ⟨_, pss_cons (ps_if (pt_cmpR op_ne (pe_callB call_len_seq rfl ml PySem.boot_len (pa_cons (pv 1) pa_nil)) (pe_callB call_len_seq rfl ml PySem.boot_len (pa_cons (pe_fld (pv 0) rfl) pa_nil)) (nomark _))
      (pss_one (ps_raise hC rfl mC rfl rfl raises_cx (pa_cons pe_str pa_nil))) pss_nil)
    (pss_one (ps_for passes_cx rfl (pi_list (pv 1)) (pg_name (i := 2) scUCosts.nd rfl (Or.inl rfl))
      (pss_one (ps_if (pt_not (pt_val (pe_call G0 hr rfl m0 k0 b0 .nil pass0 (pa_cons (pv 2) pa_nil))))
        (pss_one (ps_raise hC rfl mC rfl rfl raises_cx (pa_cons (pe_fstr (pj_str (m := 100) (pj_int (pe_glob (v := .int 1000) rfl mT ⟨_, rfl⟩) pj_nil) (by decide +kernel)) (by decide)) pa_nil))) pss_nil)))), ?_⟩
  obtain ⟨dx, fs, ra, hw, hfp, hfr, as, hra, hp⟩ := hW
  have hpl := hp.length
  refine ⟨_, rfl, ca, _, rfl, .inl (SqL.of hC'), _, rfl, wb, CW, dx, fs, .ref ra, rfl, hw, WK.cls, WK.nr, hfr, ra, _, rfl, .inl (SqL.of hra), rfl, _, rfl, ?_⟩
  rw [List.length_map, List.length_map, hpl]
  by_cases hl : cs.length = rds.length
  · refine ndecF (by rw [hl]) ?_
    refine ⟨_, rfl, ca, rfl, ⟨_, SqL.of hC'⟩, ?_⟩
    refine for_list (K := K) (a := ca) (xs := cs.map V.int) (fun i σ H2 => (∃ v : Option V, σ = [some (.ref wb), some (.ref ca), v]) ∧ H2 = H ∧ ∀ v ∈ cs.take i, 0 ≤ v ∧ v ≤ 1000) ⟨⟨none, rfl⟩, rfl, (fun v hv => by simp at hv)⟩ (fun j σ H2 _ ⟨_, e, _⟩ => by rw [e]; exact SqL.of hC') ?_ ?_
    · rintro i x σ H2 hx ⟨⟨v, rfl⟩, rfl, hv⟩
      obtain ⟨n, hn, rfl⟩ := map_int_get hx
      have hm := List.mem_of_getElem? hn
      refine ⟨_, rfl, n, rfl, _, rfl, ?_⟩
      by_cases c : 0 ≤ n ∧ n ≤ 1000
      · refine ndecF c ⟨⟨_, rfl⟩, rfl, fun v hv' => ?_⟩
        rw [take_snoc hn] at hv'
        rcases List.mem_append.mp hv' with z | z
        · exact hv v z
        · rw [List.mem_singleton.mp z]
          exact c
      · refine ndecT c ?_
        exact ⟨1000, rfl, by decide, fun y => ⟨(by show 1 ≤ sizeLine; decide), qE fun z => c (z.2 n hm)⟩⟩
    · rintro σ H2 ⟨⟨v, rfl⟩, rfl, hv⟩
      rw [List.length_map, List.take_length] at hv
      exact q ⟨hl, hv⟩
  · refine ndecT (fun z => hl (by injection z with z; omega)) ?_
    exact ⟨(by show 1 ≤ sizeLine; decide), qE fun z => hl z.1⟩
theorem trees_len {places : Int} {rds : List (Int × Int)} (h : rds.length ≤ 10) : (treesL places rds).length ≤ 10000000 := by
  unfold treesL
  rw [List.length_map]
  have z := forests_len places rds rds.length
  have z2 : 2 ^ rds.length ≤ 2 ^ 10 := Nat.pow_le_pow_right (by decide) h
  have z3 := List.length_filter_le (fun f : List Int × List Int => decide ((f.1.length : Int) = places - 1)) (forestsL places rds rds.length)
  omega
theorem scUChoices : FnScope ["web", "kind", "costs", "choices"] ["web", "kind", "costs"] (defScope uChoices) := ⟨rfl, rfl, rfl, by decide +kernel, rfl, by decide +kernel, by decide +kernel⟩
theorem ok_uChoices {f f1 f2 f3 CW CC CN : Addr} {fd fd1 fd2 fd3 : FuncData} (F : Fun K "choices_to_make" "choices_to_make" uChoices f fd) (G1 : FnOk P w K mg base (CXX P w) 2 f1 fd1 ["web", "costs"] (spUCosts CW CC)) (b1 : Binds K fd1 ["web", "costs"] []) (k1 : PySem.W.keepIn K (.ref f1) = true) (m1 : mg "check_costs" = some (.ref f1))
    (G2 : FnOk P w K mg base CX0 8 f2 fd2 ["web"] (spUWays CW)) (b2 : Binds K fd2 ["web"] []) (k2 : PySem.W.keepIn K (.ref f2) = true) (m2 : mg "all_ways" = some (.ref f2))
    (G3 : FnOk P w K mg base CX0 2 f3 fd3 ["web"] (spUTrees CW)) (b3 : Binds K fd3 ["web"] []) (k3 : PySem.W.keepIn K (.ref f3) = true) (m3 : mg "all_trees" = some (.ref f3)) (ml : mg "len" = none) (hN : ExcK K CN) (mN : mg "NoWay" = some (.ref CN)) : FnOk P w K mg base (CXX P w) 9 f fd ["web", "kind", "costs"] (spUChoices CW CC CN) := by
  refine F.okX scUChoices (fun vs H Q E h => ?_) (fun _ cdv A outer s H vs Q E _ hr h => ?_)
  · obtain ⟨_, _, _, _, _, _, rfl, _⟩ := h
    rfl
  obtain ⟨wb, ca, places, rds, b, cs, rfl, hW, wok, hC, q, qN, qC⟩ := h
  have hr2 := hr.mono (j := 2) (by decide)
  have l10 := wok.2.1.2
  refine ⟨_, pss_cons (ps_expr (pe_callX G1 hr2 rfl m1 k1 b1 .nil takes_cx (pa_cons (pv 0) (pa_cons (pv 2) pa_nil))))
    (pss_cons (ps_set (i := 3) scUChoices.nd rfl (Or.inl rfl) (pe_ifExp (pt_cmpR op_eq (pv 1) pe_str (nomark _)) (pe_call G2 hr rfl m2 k2 b2 .nil pass0 (pa_cons (pv 0) pa_nil)) (pe_call G3 hr2 rfl m3 k3 b3 .nil pass0 (pa_cons (pv 0) pa_nil))))
    (pss_cons (ps_if (pt_cmpR op_eq (pe_callB call_len_seq rfl ml PySem.boot_len (pa_cons (pv 3) pa_nil)) pe_int (nomark _))
      (pss_one (ps_raise hN rfl mN rfl rfl raises_cx (pa_cons (pe_fstr (pj_str (m := 100) (pj_s (pv 1) pj_nil) (by decide +kernel)) (by decide)) pa_nil))) pss_nil)
    (pss_one (ps_ret (pv 3))))), ?_⟩
  refine ⟨_, rfl, _, rfl, wb, ca, places, rds, cs, rfl, hW, hC, fun cok => ?_, fun no => qC no _ (Same.refl _)⟩
  have q := q cok
  have qN := qN cok
  have kl : (kindS b).length ≤ 1000 := by cases b <;> decide +kernel
  -- what comes behind the choice
  have fin : ∀ (L : List (List Int)) (r : Addr) (H1 : Hp), Same H H1 → ILLn H H1 r L → (∀ e, e ∈ L ↔ candP places rds b e) → L.length ≤ 10000000 → ∃ ys, SqL K H1 r ys ∧ ys.length = L.length := fun L r H1 s1 hL _ _ => by
    obtain ⟨_, as, h1, h2, _⟩ := hL
    exact ⟨_, SqL.of h1, by rw [List.length_map, h2.length]⟩
  cases b with
  | false =>
    refine ⟨_, rfl, rfl, _, rfl, ?_⟩
    refine decT rfl ?_
    refine ⟨_, rfl, wb, places, rds, rfl, hW, wok, fun r H1 L s1 hL hiff hlen => ?_⟩
    have hiff' : ∀ e, e ∈ L ↔ candP places rds false e := fun e => by unfold candP; rw [if_neg (by decide)]; exact hiff e
    obtain ⟨ys, hy, hyl⟩ := fin L r H1 s1 hL hiff' hlen
    refine ⟨_, rfl, r, ys, rfl, .inl hy, rfl, _, rfl, ?_⟩
    rw [hyl]
    by_cases c : L = []
    · refine decT (by rw [c]; rfl) ?_
      exact ⟨_, rfl, _, rfl, kl, fun y => ⟨(by show 1 ≤ sizeLine; decide), qN (fun e he => by have z := (hiff' e).mpr he; rw [c] at z; cases z) _ s1⟩⟩
    · refine decF (fun z => c (List.length_eq_zero_iff.mp (by injection z with z; omega))) ?_
      exact ⟨_, rfl, q r _ L s1 hL hiff' c hlen⟩
  | true =>
    refine ⟨_, rfl, rfl, _, rfl, ?_⟩
    refine decF (fun z => by injection z with z; exact absurd z (by decide +kernel)) ?_
    refine ⟨_, rfl, wb, places, rds, rfl, hW, wok, fun r H1 s1 hL => ?_⟩
    have hiff' : ∀ e, e ∈ treesL places rds ↔ candP places rds true e := fun e => by unfold candP; rw [if_pos rfl]
    have hlen := trees_len (places := places) l10
    obtain ⟨ys, hy, hyl⟩ := fin _ r H1 s1 hL hiff' hlen
    refine ⟨_, rfl, r, ys, rfl, .inl hy, rfl, _, rfl, ?_⟩
    rw [hyl]
    by_cases c : treesL places rds = []
    · refine decT (by rw [c]; rfl) ?_
      exact ⟨_, rfl, _, rfl, kl, fun y => ⟨(by show 1 ≤ sizeLine; decide), qN (fun e he => by have z := (hiff' e).mpr he; rw [c] at z; cases z) _ s1⟩⟩
    · refine decF (fun z => c (List.length_eq_zero_iff.mp (by injection z with z; omega))) ?_
      exact ⟨_, rfl, q r _ _ s1 hL hiff' c hlen⟩
theorem scUCost : FnScope ["choice", "costs"] ["choice", "costs"] (defScope uCost) := ⟨rfl, rfl, rfl, by decide +kernel, rfl, by decide +kernel, by decide +kernel⟩
theorem ok_uCost {f : Addr} {fd : FuncData} (F : Fun K "choice_cost" "choice_cost" uCost f fd) (ms : mg "sum" = none) : FnOk P w K mg base CX0 1 f fd ["choice", "costs"] spUCost := by
  refine F.ok scUCost (fun vs H Q E h => ?_) (fun cdv A outer s H vs Q E hr h => ?_)
  · obtain ⟨_, _, _, _, rfl, _⟩ := h
    rfl
  obtain ⟨ch, ca, row, cs, rfl, hR, hC, hl, hok, q⟩ := h
  refine ⟨_, pss_one (ps_ret (pe_callB (call_sum rfl) rfl ms boot_sum (pa_cons (pe_comp (N := ["road", "costs"]) (cap := [none, some 1]) rfl (compOk_of (by rfl)) (pi_list (pv 0)) (fun _ _ _ _ => pg_name (i := 0) (nd2 (by decide +kernel)) rfl (Or.inl rfl)) (fun _ _ _ _ => pts_nil) (fun _ _ _ _ => pe_ix (ix_listK K rfl) (pv 1) (pv 0) (fun _ _ => rfl))) pa_nil))), ?_⟩
  refine ⟨_, rfl, ch, rfl, ⟨_, SqL.of hR⟩, ?_⟩
  refine comp_list (K := K) (a := ch) (xs := row.map V.int) (fun i zs H' => H' = H ∧ zs = ((row.take i).map fun r => cs.getD r.toNat 0).map V.int) ⟨rfl, rfl⟩ (by rw [List.length_map]; exact small hl) (fun i zs H' _ h => ⟨by rw [h.1]; exact SqL.of hR, by rw [h.2, List.length_map, List.length_map, List.length_take]; exact Nat.min_le_left _ _⟩) ?_ ?_
  · rintro i x zs H' hx ⟨rfl, e⟩
    obtain ⟨r, hr', rfl⟩ := map_int_get hx
    have z := hok r (List.mem_of_getElem? hr')
    refine ⟨⟨.inl rfl, .inr rfl, trivial⟩, ?_⟩
    refine ⟨_, rfl, _, rfl, ca, _, r, _, rfl, rfl, SqL.of hC, nm_at z.1 z.2, rfl, ?_⟩
    rw [e, take_snoc hr', List.map_append, List.map_append]
    rfl
  · rintro zs H' ⟨rfl, e⟩ l hl'
    rw [List.length_map, List.take_length] at e
    have q2 := q _ (same_new hl' (.lst zs))
    unfold costR at q2
    exact ⟨l, row.map fun (r : Int) => cs.getD r.toNat 0, rfl, SqL.of (by rw [upd_same, e]), q2⟩
theorem scUCheap : FnScope ["choices", "costs"] ["choices", "costs"] (defScope uCheap) := ⟨rfl, rfl, rfl, by decide +kernel, rfl, by decide +kernel, by decide +kernel⟩
theorem ok_uCheap {f f1 : Addr} {fd fd1 : FuncData} (F : Fun K "cheapest" "cheapest" uCheap f fd) (G : FnOk P w K mg base CX0 1 f1 fd1 ["choice", "costs"] spUCost) (b1 : Binds K fd1 ["choice", "costs"] []) (k1 : PySem.W.keepIn K (.ref f1) = true) (m1 : mg "choice_cost" = some (.ref f1)) (mn : mg "min" = none) : FnOk P w K mg base CX0 2 f fd ["choices", "costs"] spUCheap := by
  refine F.ok scUCheap (fun vs H Q E h => ?_) (fun cdv A outer s H vs Q E hr h => ?_)
  · obtain ⟨_, _, _, _, _, rfl, _⟩ := h
    rfl
  obtain ⟨la, ca, as, L, cs, rfl, hla, hp, hC, hne, hlen, hok, q⟩ := h
  have hu := hr.units
  refine ⟨_, pss_one (ps_ret (pe_callB (call_minP rfl hu) rfl mn boot_min (pa_cons (pe_comp (N := ["choice", "costs"]) (cap := [none, some 1]) rfl (compOk_of (by rfl)) (pi_list (pv 0)) (fun _ _ _ _ => pg_name (i := 0) (nd2 (by decide +kernel)) rfl (Or.inl rfl)) (fun _ _ _ _ => pts_nil)
    (fun _ _ _ _ => pe_tup (pa_cons (pe_call G hr rfl m1 k1 b1 .nil pass0 (pa_cons (pv 0) (pa_cons (pv 1) pa_nil))) (pa_cons (pv 0) pa_nil)))) pa_nil))), ?_⟩
  have hpl := hp.length
  refine ⟨_, rfl, la, rfl, ⟨_, SqL.of hla⟩, ?_⟩
  refine comp_list (K := K) (a := la) (xs := as.map V.ref) (fun i zs H' => ∃ ts : List Addr, zs = ts.map V.ref ∧ Same H H' ∧ ts.length = i ∧ (∀ t ∈ ts, H t = none) ∧ ∀ (j : Nat) t a e, ts[j]? = some t → as[j]? = some a → L[j]? = some e → H' t = some (.tup [.int (costR cs e), .ref a]))
    ⟨[], rfl, Same.refl _, rfl, (fun b hb => nomatch hb), fun j t a e h => by simp at h⟩ (by rw [List.length_map]; exact Nat.le_trans (by omega) (show 10000000 ≤ sizeLine by decide)) (fun i zs H' _ ⟨ts, e, w1, w2, _⟩ => ⟨SqL.of (w1 _ _ hla), by rw [e, List.length_map, w2]; exact Nat.le_refl _⟩) ?_ ?_
  · rintro i x zs H' hx ⟨ts, e, w1, w2, w3, w4⟩
    obtain ⟨a, ha, rfl⟩ := map_ref_get hx
    obtain ⟨row, hrow, hA⟩ := pget hp ha
    have hrok := hok row (List.mem_of_getElem? hrow)
    refine ⟨⟨.inl rfl, .inr rfl, trivial⟩, ?_⟩
    refine ⟨_, rfl, _, rfl, a, ca, row, cs, rfl, hA.mono w1, hC.mono w1, hrok.1, hrok.2, fun H2 w5 => ?_⟩
    refine ⟨_, rfl, (by show 2 ≤ sizeLine; decide), fun t ht => ?_⟩
    have w6 := same_new ht (.tup [.int (costR cs row), .ref a])
    refine ⟨ts ++ [t], by rw [e, List.map_append]; rfl, w1.trans (w5.trans w6), by rw [List.length_append, w2]; rfl, fun t' ht' => ?_, fun j t' a' e' h1 h2 h3 => ?_⟩
    · rcases List.mem_append.mp ht' with z | z
      · exact w3 t' z
      · rw [List.mem_singleton.mp z]; exact (w1.trans w5).free ht
    · by_cases c : j < ts.length
      · rw [List.getElem?_append_left c] at h1
        exact (w5.trans w6) _ _ (w4 j t' a' e' h1 h2 h3)
      · have hj : j = i := by
          have := (List.getElem?_eq_some_iff.mp h1).1
          rw [List.length_append, List.length_singleton] at this
          omega
        subst hj
        rw [← w2, List.getElem?_append_right (Nat.le_refl _), Nat.sub_self] at h1
        rw [ha] at h2
        rw [hrow] at h3
        cases h1
        cases h2
        cases h3
        exact upd_same
  · rintro zs H' ⟨ts, e, w1, w2, w3, w4⟩ p hp'
    rw [List.length_map] at w2
    have w5 := same_new hp' (.lst zs)
    have hpos : 0 < L.length := List.length_pos_iff.mpr hne
    refine ⟨p, ts, L.map fun e => (costR cs e, e), rfl, SqL.of (by rw [upd_same, e]), by rw [List.length_map]; omega, fun i t r h1 h2 => ?_, fun z => by rw [z] at w2; simp at w2; omega, fun i t hi ei => ?_⟩
    · rw [List.getElem?_map] at h2
      cases q2 : L[i]? with
      | none => rw [q2] at h2; cases h2
      | some row =>
        rw [q2] at h2
        cases h2
        have hi : i < as.length := by have := (List.getElem?_eq_some_iff.mp q2).1; omega
        obtain ⟨row', hrow', hA⟩ := pget hp (List.getElem?_eq_getElem hi)
        rw [q2] at hrow'
        cases hrow'
        exact ⟨as[i], w5 _ _ (w4 i t _ row h1 (List.getElem?_eq_getElem hi) q2), w5 _ _ (w1 _ _ hA)⟩
    · have hi2 : i < L.length := by have := (List.getElem?_eq_some_iff.mp hi).1; omega
      have hi3 : i < as.length := by omega
      obtain ⟨row, hrow, hA⟩ := pget hp (List.getElem?_eq_getElem hi3)
      have gd : ∀ j, j < L.length → (L.map fun e => (costR cs e, e)).getD j (0, []) = (costR cs (L.getD j []), L.getD j []) := fun j hj => by
        rw [List.getD_eq_getElem?_getD, List.getElem?_map, List.getD_eq_getElem?_getD, List.getElem?_eq_getElem hj]
        rfl
      have least : ∀ j, j < L.length → ltP (costR cs (L.getD j []), L.getD j []) (costR cs row, row) = false := fun j hj => by
        have z := argBest_least (bt := fun i j => ltP ((L.map fun e => (costR cs e, e)).getD i (0, [])) ((L.map fun e => (costR cs e, e)).getD j (0, []))) (fun i => ltP_irr _) (fun i j k => ltP_trans) (ts.length - 1) j (by omega)
        rw [← ei] at z
        rw [gd j hj, gd i hi2] at z
        have e1 : L.getD i [] = row := by rw [List.getD_eq_getElem?_getD, hrow]; rfl
        rw [e1] at z
        exact z
      refine q (costR cs row) row ⟨List.mem_of_getElem? hrow, rfl, fun e' he' => ?_⟩ t as[i] _ (w1.trans w5) (w3 t (List.mem_of_getElem? hi)) (List.getElem_mem hi3) (w5 _ _ (w4 i t _ row hi (List.getElem?_eq_getElem hi3) hrow)) ((hA.mono w1).mono w5)
      obtain ⟨j, hj, ej⟩ := List.mem_iff_getElem.mp he'
      have z := least j hj
      have e2 : L.getD j [] = e' := by rw [List.getD_eq_getElem?_getD, List.getElem?_eq_getElem hj, ej]; rfl
      rw [e2] at z
      have z2 : ¬ (costR cs e' < costR cs row ∨ (costR cs e' = costR cs row ∧ lexLt e' row)) := fun y => by
        rw [(ltP_iff (costR cs e', e') (costR cs row, row)).mpr y] at z
        cases z
      by_cases c : costR cs row < costR cs e'
      · exact .inl c
      · have c2 : costR cs row = costR cs e' := by
          by_cases c3 : costR cs e' < costR cs row
          · exact absurd (.inl c3) z2
          · omega
        refine .inr ⟨c2, ?_⟩
        rcases lex_total e' row with y | y | y
        · exact .inl y
        · exact absurd (.inr ⟨c2.symm, y⟩) z2
        · exact .inr y
theorem cand_rows {places : Int} {rds : List (Int × Int)} {b : Bool} {L : List (List Int)} {cs : List Int} (wok : webOk places rds) (hL : ∀ e, e ∈ L ↔ candP places rds b e) (hc : cs.length = rds.length) : ∀ e ∈ L, e.length ≤ 1000 ∧ ∀ r ∈ e, 0 ≤ r ∧ r < (cs.length : Int) := fun e he => by
  obtain ⟨h1, h2⟩ := candP_ok places rds b wok e ((hL e).mp he)
  refine ⟨?_, fun r hr => by have := h1 r hr; omega⟩
  have z := nodup_sub (l := e) (m := rangeI 0 rds.length) h2 fun x hx => mem_rangeI.mpr (by have := h1 x hx; omega)
  rw [rangeI_len] at z
  have := wok.2.1.2
  omega
end
def spAInit (C : Addr) (K : PySem.W.Frag) : Sp := fun vs H Q _ => ∃ (e fI : Addr) (r : Int), vs = [.ref e, .int r] ∧ H e = some (xnO e (.ref C)) ∧ excOwn K C fI = true ∧ ExcSet K C "road" ∧ r.natAbs ≤ 1000 ∧
  ∀ dx, H dx = none → dx ≠ e → Q .non (upd (upd H dx (.xd [("road", .int r)])) e (xfO e (.ref C) dx))
section
variable {P : Program} {w : World} {K : PySem.W.Frag} {mg : Str → Option Value} {base : Heap}
theorem scAInit : FnScope ["self", "road"] ["self", "road"] (defScope sAInit) := ⟨rfl, rfl, rfl, by decide +kernel, rfl, by decide +kernel, by decide +kernel⟩
theorem ok_ainit {f C D : Addr} {fd : FuncData} (F : Fun K "__init__" "Alone.__init__" sAInit f fd) (B : ExcBase K D) (mD : mg "TollError" = some (.ref D)) : FnOk P w K mg base CX0 1 f fd ["self", "road"] (spAInit C K) := by
  refine F.ok scAInit (fun vs H Q E h => ?_) (fun cdv A outer s H vs Q E hr h => ?_)
  · obtain ⟨_, _, _, rfl, _⟩ := h
    rfl
  obtain ⟨e, fI, r, rfl, he, ho, S, hr2, q⟩ := h
  refine ⟨_, pss_cons (ps_expr (pe_binit B rfl mD (pa_cons (pv 0) (pa_cons (pe_fstr (pj_str (m := 100) (pj_int (pv 1) pj_nil) (by decide +kernel)) (by decide)) pa_nil))))
    (pss_one (ps_xfld (pv 0) (pv 1) rfl)), ?_⟩
  refine ⟨_, rfl, _, rfl, r, rfl, hr2, fun y => ⟨e, y, C, fI, rfl, he, ho, ?_⟩⟩
  exact ⟨_, rfl, _, rfl, e, C, fI, rfl, he, ho, S, q⟩
end
theorem candP_rise {places : Int} {rds : List (Int × Int)} {b : Bool} {e : List Int} (wok : webOk places rds) (he : candP places rds b e) : e.Pairwise (· < ·) := (candP_row wok he).2
def spUOwner (CA : Addr) : Sp := fun vs H Q E => ∃ (la ca ba da : Addr) (as : List Addr) (L : List (List Int)) (cs d : List Int) (m r : Int), vs = [.ref la, .ref ca, .ref ba, .int r] ∧ H la = some (.lst (as.map V.ref)) ∧ Paired (IL H) as L ∧ IL H ca cs ∧ H ba = some (.tup [.int m, .ref da]) ∧ IL H da d ∧ L.length ≤ 10000000 ∧
  (∀ e ∈ L, e.length ≤ 1000 ∧ ∀ v ∈ e, 0 ≤ v ∧ v < (cs.length : Int)) ∧ 0 ≤ r ∧ r < (cs.length : Int) ∧ r ≤ 1000 ∧
  (r ∉ d → ∀ H', Same H H' → Q (.int 0) H') ∧ (r ∈ d → ∀ o e, LeastR (without (· ∈ L) r) cs (some (o, e)) → ∀ H', Same H H' → Q (.int (o - m + cs.getD r.toNat 0)) H') ∧
  (r ∈ d → LeastR (without (· ∈ L) r) cs none → ∀ dx fs H', Same H H' → H dx = none → H' dx = some (.xd fs) → fs.lookup ("road" : Str) = some (.int r) → E (.ref CA) (some dx) H')
section
variable {P : Program} {w : World} {K : PySem.W.Frag} {mg : Str → Option Value} {base : Heap}
theorem scUOwner : FnScope ["choices", "costs", "best", "road", "others"] ["choices", "costs", "best", "road"] (defScope uOwner) := ⟨rfl, rfl, rfl, by decide +kernel, rfl, by decide +kernel, by decide +kernel⟩
theorem ok_uOwner {f f1 fI CA : Addr} {fd fd1 fdI : FuncData} (F : Fun K "owner_gets" "owner_gets" uOwner f fd) (G1 : FnOk P w K mg base CX0 2 f1 fd1 ["choices", "costs"] spUCheap) (b1 : Binds K fd1 ["choices", "costs"] []) (k1 : PySem.W.keepIn K (.ref f1) = true) (m1 : mg "cheapest" = some (.ref f1))
    (GI : FnOk P w K mg base CX0 1 fI fdI ["self", "road"] (spAInit CA K)) (bI : Binds K fdI ["self", "road"] []) (ho : excOwn K CA fI = true) (hkp : PySem.W.keepIn K (.ref CA) = true) (hfn : PySem.W.isFn K (.ref fI) = true) (S : ExcSet K CA "road") (mA : mg "Alone" = some (.ref CA)) (ml : mg "len" = none) : FnOk P w K mg base (CXX P w) 3 f fd ["choices", "costs", "best", "road"] (spUOwner CA) := by
  refine F.okX scUOwner (fun vs H Q E h => ?_) (fun _ cdv A outer s H vs Q E _ hr h => ?_)
  · obtain ⟨_, _, _, _, _, _, _, _, _, _, rfl, _⟩ := h
    rfl
  obtain ⟨la, ca, ba, da, as, L, cs, d, m, r, rfl, hla, hp, hC, hB, hD, hlen, hok, r0, r1, r2, q0, qs, qn⟩ := h
  refine ⟨_, pss_cons (ps_if (pt_cmpR op_notIn_seq (pv 3) (pe_ix ix_tup (pv 2) pe_int (fun _ _ => rfl)) (by rfl)) (pss_one (ps_ret pe_int)) pss_nil)
    (pss_cons (ps_setC (i := 4) (N := ["choice", "road"]) (cap := [none, some 3]) scUOwner.nd rfl (Or.inl rfl) rfl (compOk_of (by rfl)) (pi_list (pv 0)) (fun _ _ _ _ => pg_name (i := 0) (nd2 (by decide +kernel)) rfl (Or.inl rfl)) (fun _ _ _ _ => pts_one (pt_cmpR (op_notInK K rfl) (pv 1) (pv 0) (by rfl))) (fun _ _ _ _ => pv 0))
    (pss_cons (ps_if (pt_cmpR op_eq (pe_callB call_len_seq rfl ml PySem.boot_len (pa_cons (pv 4) pa_nil)) pe_int (nomark _)) (pss_one (ps_raiseV rfl rfl raises_cx (pe_makeI ho hkp hfn GI hr rfl mA bI (pa_cons (pv 3) pa_nil)))) pss_nil)
    (pss_one (ps_ret (pe_op op_add (pe_op op_sub (pe_ix ix_tup (pe_call G1 hr rfl m1 k1 b1 .nil pass0 (pa_cons (pv 4) (pa_cons (pv 1) pa_nil))) pe_int (fun _ _ => rfl)) (pe_ix ix_tup (pv 2) pe_int (fun _ _ => rfl))) (pe_ix ix_list (pv 1) (pv 3) (fun _ _ => rfl))))))), ?_⟩
  have hpl := hp.length
  refine ⟨_, rfl, _, rfl, ba, _, 1, .ref da, rfl, rfl, SqT.of hB, rfl, da, _, rfl, .inl (SqL.of hD), rfl, flat_ints d, _, rfl, ?_⟩
  rw [if_pos rfl, inV_int]
  by_cases c : r ∈ d
  · refine ndecF c ?_
    have qs := qs c
    have qn := qn c
    refine ⟨_, rfl, la, rfl, ⟨_, SqL.of hla⟩, ?_⟩
    refine comp_list (K := K) (a := la) (xs := as.map V.ref) (fun i zs H' => H' = H ∧ ∃ bs : List Addr, zs = bs.map V.ref ∧ Paired (IL H) bs ((L.take i).filter fun e => decide (r ∉ e)) ∧ ∀ b ∈ bs, b ∈ as)
      ⟨rfl, [], rfl, .nil, (fun b hb => nomatch hb)⟩ (by rw [List.length_map]; exact Nat.le_trans (by omega) (show 10000000 ≤ sizeLine by decide)) (fun i zs H' _ ⟨e1, bs, e, w2, _⟩ => ⟨by rw [e1]; exact SqL.of hla, ?_⟩) ?_ ?_
    · have z := w2.length
      have z2 := List.length_filter_le (fun e => decide (r ∉ e)) (L.take i)
      rw [List.length_take] at z2
      rw [e, List.length_map, z]
      omega
    · rintro i x zs H' hx ⟨rfl, bs, e, w2, w3⟩
      obtain ⟨a, ha, rfl⟩ := map_ref_get hx
      obtain ⟨row, hrow, hA⟩ := pget hp ha
      refine ⟨⟨.inl rfl, .inr rfl, trivial⟩, ?_⟩
      refine ⟨_, rfl, _, rfl, a, _, rfl, .inl (SqL.of hA), rfl, flat_ints row, _, rfl, ?_⟩
      rw [if_pos rfl, inV_int]
      by_cases c2 : r ∈ row
      · refine ndecF c2 ⟨rfl, bs, e, ?_, w3⟩
        rw [take_snoc hrow, List.filter_append, List.filter_cons, if_neg (by simpa using c2)]
        simpa using w2
      · refine ndecT c2 ⟨_, rfl, rfl, bs ++ [a], by rw [e, List.map_append]; rfl, ?_, fun b hb => ?_⟩
        · rw [take_snoc hrow, List.filter_append, List.filter_cons, if_pos (by simpa using c2)]
          exact papp w2 (.cons hA .nil)
        · rcases List.mem_append.mp hb with z | z
          · exact w3 b z
          · rw [List.mem_singleton.mp z]; exact List.mem_of_getElem? ha
    · rintro zs H' ⟨rfl, bs, e, w2, w3⟩ ol hol
      rw [List.length_map, hpl, List.take_length] at w2
      have s1 := same_new hol (.lst zs)
      obtain ⟨H1, e1⟩ : ∃ H1, H1 = upd H' ol (.lst zs) := ⟨_, rfl⟩
      have hO : H1 ol = some (.lst (bs.map V.ref)) := by rw [e1, upd_same, e]
      rw [← e1] at s1 ⊢
      have hbl := w2.length
      obtain ⟨L', eL'⟩ : ∃ L', L' = L.filter fun e => decide (r ∉ e) := ⟨_, rfl⟩
      rw [← eL'] at w2 hbl
      have hiff : ∀ e, e ∈ L' ↔ without (· ∈ L) r e := fun e => by
        rw [eL', List.mem_filter, decide_eq_true_iff]
        exact Iff.rfl
      refine ⟨_, rfl, ol, _, rfl, .inl (SqL.of hO), rfl, _, rfl, ?_⟩
      rw [List.length_map, hbl]
      by_cases c3 : L' = []
      · refine decT (by rw [c3]; rfl) ?_
        refine ⟨_, rfl, (by show 1 ≤ sizeLine; decide), fun ea hea => ?_⟩
        refine ⟨ea, fI, r, rfl, upd_same, ho, S, by omega, fun dx hdx hne => ⟨rfl, ea, CA, fI, dx, rfl, ho, upd_same, s1.free hea, ?_⟩⟩
        have hdx1 : H1 dx = none := by rw [upd_ne hne] at hdx; exact hdx
        refine qn (fun e he => by have z := (hiff e).mpr he; rw [c3] at z; cases z) dx [("road", .int r)] _ (fun b o hb => ?_) (s1.free hdx1) ?_ rfl
        · have hb1 := s1 _ _ hb
          have n1 : b ≠ ea := fun z => by rw [z, hea] at hb1; cases hb1
          have n2 : b ≠ dx := fun z => by rw [z, hdx1] at hb1; cases hb1
          rw [del_ne n1, upd_ne n1, upd_ne n2, upd_ne n1]
          exact hb1
        · rw [del_ne hne, upd_ne hne, upd_same]
      · refine decF (fun z => c3 (List.length_eq_zero_iff.mp (by injection z with z; omega))) ?_
        have hlen' : L'.length ≤ 10000000 := by
          rw [eL']
          exact Nat.le_trans (List.length_filter_le _ _) hlen
        refine ⟨_, rfl, _, rfl, ol, ca, bs, L', cs, rfl, hO, pmono s1 w2, hC.mono s1, c3, hlen', fun e he => hok e ((hiff e).mp he).1, fun o e ho' rt de H2 s2 hrt hde h1 h2 => ?_⟩
        refine ⟨rt, _, 0, .int o, rfl, rfl, SqT.of h1, rfl, _, rfl, ba, _, 0, .int m, rfl, rfl, SqT.of ((s1.trans s2) _ _ hB), rfl, _, _, rfl, rfl, _, rfl, _, rfl, ca, _, r, _, rfl, rfl, SqL.of ((s1.trans s2) _ _ hC), nm_at r0 r1, _, _, rfl, rfl, ?_⟩
        exact qs o e (ho'.congr hiff) _ (s1.trans s2)
  · exact ndecT c (q0 c _ (Same.refl _))
theorem scUGets : FnScope ["web", "kind", "costs", "choices", "best"] ["web", "kind", "costs"] (defScope uGets) := ⟨rfl, rfl, rfl, by decide +kernel, rfl, by decide +kernel, by decide +kernel⟩
theorem ok_uGets {f f1 f2 f3 CW CC CN CA : Addr} {fd fd1 fd2 fd3 : FuncData} (F : Fun K "road_gets" "road_gets" uGets f fd) (G1 : FnOk P w K mg base (CXX P w) 9 f1 fd1 ["web", "kind", "costs"] (spUChoices CW CC CN)) (b1 : Binds K fd1 ["web", "kind", "costs"] []) (k1 : PySem.W.keepIn K (.ref f1) = true) (m1 : mg "choices_to_make" = some (.ref f1))
    (G2 : FnOk P w K mg base CX0 2 f2 fd2 ["choices", "costs"] spUCheap) (b2 : Binds K fd2 ["choices", "costs"] []) (k2 : PySem.W.keepIn K (.ref f2) = true) (m2 : mg "cheapest" = some (.ref f2))
    (G3 : FnOk P w K mg base (CXX P w) 3 f3 fd3 ["choices", "costs", "best", "road"] (spUOwner CA)) (b3 : Binds K fd3 ["choices", "costs", "best", "road"] []) (k3 : PySem.W.keepIn K (.ref f3) = true) (m3 : mg "owner_gets" = some (.ref f3)) (ml : mg "len" = none) (mr : mg "range" = none) : FnOk P w K mg base (CXX P w) 10 f fd ["web", "kind", "costs"] (spRGets CW CC CN CA candP) := by
  refine F.okX scUGets (fun vs H Q E h => ?_) (fun _ cdv A outer s H vs Q E _ hr h => ?_)
  · obtain ⟨_, _, _, _, _, _, rfl, _⟩ := h
    rfl
  obtain ⟨wb, ca, places, rds, b, cs, rfl, hW, wok, hC, hl, q, qA, qN, qC⟩ := h
  have hr2 := hr.mono (j := 2) (by decide)
  have hr3 := hr.mono (j := 3) (by decide)
  refine ⟨_, pss_cons (ps_set (i := 3) scUGets.nd rfl (Or.inr rfl) (pe_callX G1 hr rfl m1 k1 b1 .nil takes_cx (pa_cons (pv 0) (pa_cons (pv 1) (pa_cons (pv 2) pa_nil)))))
    (pss_cons (ps_set (i := 4) scUGets.nd rfl (Or.inr rfl) (pe_call G2 hr2 rfl m2 k2 b2 .nil pass0 (pa_cons (pv 3) (pa_cons (pv 2) pa_nil))))
    (pss_one (ps_ret (pe_compX (N := ["road", "choices", "costs", "best"]) (cap := [none, some 3, some 2, some 4]) rfl (compOk_of (by rfl)) takesF_cx (pi_range1 rfl mr (pa_cons (pe_callB call_len_seq rfl ml PySem.boot_len (pa_cons (pv 2) pa_nil)) pa_nil)) (fun _ _ _ _ => pg_name (i := 0) (nd4 (by decide +kernel) (by decide +kernel) (by decide +kernel) (by decide +kernel) (by decide +kernel) (by decide +kernel)) rfl (Or.inl rfl))
      (fun _ _ _ _ => pe_callX G3 hr3 rfl m3 k3 b3 .nil takes_fly (pa_cons (pv 1) (pa_cons (pv 2) (pa_cons (pv 3) (pa_cons (pv 0) pa_nil))))))))), ?_⟩
  refine ⟨_, rfl, _, rfl, _, rfl, wb, ca, places, rds, b, cs, rfl, hW, wok, hC, fun cok la H1 L s1 hL hiff hne hlen => ?_, fun cok no H1 s1 => qN cok no _ s1, fun no H1 s1 => qC no _ s1⟩
  obtain ⟨hla0, as, hla, hp, hf⟩ := hL
  have hrows := cand_rows wok hiff cok.1
  have hC1 := hC.mono s1
  refine ⟨_, rfl, _, rfl, la, ca, as, L, cs, rfl, hla, hp, hC1, hne, hlen, hrows, fun m d hm ba da H2 s2 hba hda h1 h2 => ?_⟩
  have hmC : LeastR (candP places rds b) cs (some (m, d)) := hm.congr hiff
  have hdr := candP_rise wok hmC.1
  have hdo := candP_ok places rds b wok d hmC.1
  have q := q cok m d
  have qA := qA cok m d
  have hwo : ∀ r e, without (· ∈ L) r e ↔ without (candP places rds b) r e := fun r e => ⟨fun z => ⟨(hiff e).mp z.1, z.2⟩, fun z => ⟨(hiff e).mpr z.1, z.2⟩⟩
  have hC2 := hC1.mono s2
  have hcl : cs.length = rds.length := cok.1
  have l10 := wok.2.1.2
  refine ⟨_, rfl, ca, _, rfl, .inl (SqL.of hC2), ((cs.map V.int).length : Int), rfl, by omega, by rw [List.length_map]; omega, ?_⟩
  have eN : ((cs.map V.int).length : Int).toNat = rds.length := by rw [List.length_map, hcl, Int.toNat_natCast]
  rw [eN]
  refine comp_range (fun i zs H' => Same H2 H' ∧ ∃ gs : List Int, zs = gs.map V.int ∧ gs.length = i ∧ (∀ r : Nat, r < i → (r : Int) ∈ d → ∃ o e c, LeastR (without (candP places rds b) (r : Int)) cs (some (o, e)) ∧ cs[r]? = some c ∧ gs[r]? = some (o - m + c)) ∧ (∀ r : Nat, r < i → (r : Int) ∉ d → gs[r]? = some 0))
    ⟨Same.refl _, [], rfl, rfl, (fun r h => absurd h (Nat.not_lt_zero _)), fun r h => absurd h (Nat.not_lt_zero _)⟩ (small (by omega)) (fun i zs H' _ ⟨_, gs, e, el, _⟩ => by rw [e, List.length_map, el]; exact Nat.le_refl _) ?_ ?_
  · rintro i zs H3 hi ⟨t1, gs, e, el, gin, gout⟩
    refine ⟨⟨.inl rfl, .inr rfl, .inr rfl, .inr rfl, trivial⟩, ?_⟩
    obtain ⟨cv, hcv⟩ : ∃ c, cs[i]? = some c := ⟨_, List.getElem?_eq_getElem (by omega)⟩
    have s23 := s2.trans t1
    have ei : (0 : Int) + (i : Int) = (i : Int) := Int.zero_add _
    have next : ∀ v : Int, ((i : Int) ∈ d → ∃ o e c, LeastR (without (candP places rds b) (i : Int)) cs (some (o, e)) ∧ cs[i]? = some c ∧ v = o - m + c) → ((i : Int) ∉ d → v = 0) → ∀ H4, Same H3 H4 →
        (Same H2 H4 ∧ ∃ gs' : List Int, zs ++ [V.int v] = gs'.map V.int ∧ gs'.length = i + 1 ∧ (∀ r : Nat, r < i + 1 → (r : Int) ∈ d → ∃ o e c, LeastR (without (candP places rds b) (r : Int)) cs (some (o, e)) ∧ cs[r]? = some c ∧ gs'[r]? = some (o - m + c)) ∧ (∀ r : Nat, r < i + 1 → (r : Int) ∉ d → gs'[r]? = some 0)) := fun v h1 h2 H4 t2 => by
      have old : ∀ r, r < i → (gs ++ [v])[r]? = gs[r]? := fun r hr' => List.getElem?_append_left (by omega)
      have new : (gs ++ [v])[i]? = some v := by rw [List.getElem?_append_right (by omega), el, Nat.sub_self]; rfl
      refine ⟨t1.trans t2, gs ++ [v], by rw [e, List.map_append]; rfl, by rw [List.length_append, el]; rfl, fun r hr' hd => ?_, fun r hr' hd => ?_⟩
      · by_cases c : r = i
        · subst c
          obtain ⟨o, e', c', z1, z2, z3⟩ := h1 hd
          exact ⟨o, e', c', z1, z2, by rw [new, z3]⟩
        · obtain ⟨o, e', c', z1, z2, z3⟩ := gin r (by omega) hd
          exact ⟨o, e', c', z1, z2, by rw [old r (by omega), z3]⟩
      · by_cases c : r = i
        · subst c
          rw [new, h2 hd]
        · rw [old r (by omega)]
          exact gout r (by omega) hd
    refine ⟨_, rfl, _, rfl, _, rfl, _, rfl, la, ca, ba, da, as, L, cs, d, m, (i : Int), by rw [ei]; rfl, s23 _ _ hla, pmono s23 hp, hC1.mono s23, t1 _ _ h1, h2.mono t1, hlen, hrows, by omega, by omega, by omega, fun hd H4 t2 => ?_, fun hd o e' hle H4 t2 => ?_, fun hd hle dx fs H4 t2 hdx hxd hlk => ?_⟩
    · exact next 0 (fun z => absurd z hd) (fun _ => rfl) H4 t2
    · refine next _ (fun _ => ⟨o, e', cv, hle.congr (hwo _), hcv, ?_⟩) (fun z => absurd hd z) H4 t2
      rw [Int.toNat_natCast, List.getD_eq_getElem?_getD, hcv]
      rfl
    · obtain ⟨a, b', hdd⟩ := List.append_of_mem hd
      refine qA (i : Int) hmC (.one a b' (i : Int) hdd (fun v hv => ?_) (hle.congr (hwo _))) dx fs _ ((s1.trans s23).trans t2) ((s1.trans s23).free hdx) hxd hlk
      have hvd : v ∈ d := by rw [hdd]; exact List.mem_append_left _ hv
      have hv0 := hdo.1 v hvd
      have hvi : v < (i : Int) := by
        rw [hdd] at hdr
        exact (List.pairwise_append.mp hdr).2.2 v hv (i : Int) List.mem_cons_self
      obtain ⟨o, e', _, z, _⟩ := gin v.toNat (by omega) (by rw [show ((v.toNat : Nat) : Int) = v by omega]; exact hvd)
      rw [show ((v.toNat : Nat) : Int) = v by omega] at z
      exact ⟨_, z⟩
  · rintro zs H3 ⟨t1, gs, e, el, gin, gout⟩ p hp'
    have t2 := same_new hp' (.lst zs)
    have s13 := (s1.trans s2).trans t1
    refine q gs hmC (.all gs el (fun r hr' => ?_) gout) p _ (s13.trans t2) (s13.free hp') (by show upd _ p _ p = _; rw [upd_same, e])
    have hv0 := hdo.1 r hr'
    obtain ⟨o, e', c, z1, z2, z3⟩ := gin r.toNat (by omega) (by rw [show ((r.toNat : Nat) : Int) = r by omega]; exact hr')
    rw [show ((r.toNat : Nat) : Int) = r by omega] at z1
    exact ⟨o, e', c, z1, z2, z3⟩
end
def spRBestNo (CW CC CN : Addr) : Sp := fun vs H Q E => ∃ wb ca places rds b cs, vs = [.ref wb, .str (kindS b), .ref ca] ∧ WebAt CW H wb places rds ∧ webOk places rds ∧ IL H ca cs ∧
  (costOk rds.length cs → (∀ e, ¬ candP places rds b e) ∧ ∀ H', Same H H' → E (.ref CN) none H') ∧ (¬ costOk rds.length cs → ∀ H', Same H H' → E (.ref CC) none H')
def spRGainNo (CW CA : Addr) : Sp := fun vs H Q E => ∃ wb ca places rds b cs k t, vs = [.ref wb, .str (kindS b), .ref ca, .int k, .int t] ∧ WebAt CW H wb places rds ∧ webOk places rds ∧ IL H ca cs ∧ cs.length ≤ 100 ∧ costOk rds.length cs ∧
  (∀ m d gs, LeastR (candP places rds b) cs (some (m, d)) → GetsR (candP places rds b) cs rds.length m d (.inl gs) → False) ∧ (LeastR (candP places rds b) cs none → False) ∧
  (∀ m d r, LeastR (candP places rds b) cs (some (m, d)) → GetsR (candP places rds b) cs rds.length m d (.inr r) → ∀ dx fs H', Same H H' → H dx = none → H' dx = some (.xd fs) → fs.lookup ("road" : Str) = some (.int r) → E (.ref CA) (some dx) H')
section
variable {P : Program} {w : World} {K : PySem.W.Frag} {mg : Str → Option Value} {base : Heap}
theorem scUBest : FnScope ["web", "kind", "costs"] ["web", "kind", "costs"] (defScope uBest) := ⟨rfl, rfl, rfl, by decide +kernel, rfl, by decide +kernel, by decide +kernel⟩
theorem scUGain : FnScope ["web", "kind", "costs", "road", "truth", "gets"] ["web", "kind", "costs", "road", "truth"] (defScope uGain) := ⟨rfl, rfl, rfl, by decide +kernel, rfl, by decide +kernel, by decide +kernel⟩
theorem ok_uBestNo {f f1 f2 CW CC CN : Addr} {fd fd1 fd2 : FuncData} (F : Fun K "road_best" "road_best" uBest f fd) (b1 : Binds K fd1 ["choices", "costs"] []) (k1 : PySem.W.keepIn K (.ref f1) = true) (m1 : mg "cheapest" = some (.ref f1))
    (G2 : FnOk P w K mg base (CXX P w) 9 f2 fd2 ["web", "kind", "costs"] (spUChoices CW CC CN)) (b2 : Binds K fd2 ["web", "kind", "costs"] []) (k2 : PySem.W.keepIn K (.ref f2) = true) (m2 : mg "choices_to_make" = some (.ref f2)) : FnOk P w K mg base (CXX P w) 10 f fd ["web", "kind", "costs"] (spRBestNo CW CC CN) := by
  refine F.okX scUBest (fun vs H Q E h => ?_) (fun _ cdv A outer s H vs Q E _ hr h => ?_)
  · obtain ⟨_, _, _, _, _, _, rfl, _⟩ := h
    rfl
  obtain ⟨wb, ca, places, rds, b, cs, rfl, hW, wok, hC, qN, qC⟩ := h
  have hr2 := hr.mono (j := 2) (by decide)
  have G1 : FnOk P w K mg base CX0 2 f1 fd1 ["choices", "costs"] spNo := fn_no
  refine ⟨_, pss_one (ps_ret (pe_call G1 hr2 rfl m1 k1 b1 .nil pass0 (pa_cons (pe_callX G2 hr rfl m2 k2 b2 .nil takes_cx (pa_cons (pv 0) (pa_cons (pv 1) (pa_cons (pv 2) pa_nil)))) (pa_cons (pv 2) pa_nil)))), ?_⟩
  exact ⟨_, rfl, _, rfl, _, rfl, wb, ca, places, rds, b, cs, rfl, hW, wok, hC, fun cok r H1 L s1 hL hiff hne _ => (hne (List.eq_nil_iff_forall_not_mem.mpr fun e he => (qN cok).1 e ((hiff e).mp he))).elim, fun cok no H1 s1 => (qN cok).2 _ s1, fun no H1 s1 => qC no _ s1⟩
theorem ok_uGainNo {f f1 f2 CW CC CN CA : Addr} {fd fd1 fd2 : FuncData} (F : Fun K "road_gain" "road_gain" uGain f fd) (G1 : FnOk P w K mg base (CXX P w) 10 f1 fd1 ["web", "kind", "costs"] (spRGets CW CC CN CA candP)) (b1 : Binds K fd1 ["web", "kind", "costs"] []) (k1 : PySem.W.keepIn K (.ref f1) = true) (m1 : mg "road_gets" = some (.ref f1))
    (b2 : Binds K fd2 ["web", "kind", "costs"] []) (k2 : PySem.W.keepIn K (.ref f2) = true) (m2 : mg "road_best" = some (.ref f2)) : FnOk P w K mg base (CXX P w) 11 f fd ["web", "kind", "costs", "road", "truth"] (spRGainNo CW CA) := by
  refine F.okX scUGain (fun vs H Q E h => ?_) (fun _ cdv A outer s H vs Q E _ hr h => ?_)
  · obtain ⟨_, _, _, _, _, _, _, _, rfl, _⟩ := h
    rfl
  obtain ⟨wb, ca, places, rds, b, cs, k, t, rfl, hW, wok, hC, hl, cok, no1, no2, qA⟩ := h
  have G2 : FnOk P w K mg base (CXX P w) 10 f2 fd2 ["web", "kind", "costs"] spNo := fn_no
  refine ⟨_, pss_cons (ps_set (i := 5) scUGain.nd rfl (Or.inl rfl) (pe_callX G1 hr rfl m1 k1 b1 .nil takes_cx (pa_cons (pv 0) (pa_cons (pv 1) (pa_cons (pv 2) pa_nil)))))
    (pss_cons (ps_if (pt_cmpR op_in_seq (pv 3) (pe_ix ix_tup (pe_callX G2 hr rfl m2 k2 b2 .nil takes_cx (pa_cons (pv 0) (pa_cons (pv 1) (pa_cons (pv 2) pa_nil)))) pe_int (fun _ _ => rfl)) (by rfl))
      (pss_one (ps_ret (pe_op op_sub (pe_ix ix_list (pv 5) (pv 3) (fun _ _ => rfl)) (pv 4)))) pss_nil)
    (pss_one (ps_ret (pe_ix ix_list (pv 5) (pv 3) (fun _ _ => rfl))))), ?_⟩
  exact ⟨_, rfl, _, rfl, _, rfl, wb, ca, places, rds, b, cs, rfl, hW, wok, hC, hl, fun _ m d gs hm hg => (no1 m d gs hm hg).elim, fun _ => qA, fun _ hn => (no2 hn).elim, fun no => absurd cok no⟩
end
def webA : List (Int × Int) := [(0, 1), (0, 1), (1, 2)]
def webB : List (Int × Int) := [(0, 1)]
def webC : List (Int × Int) := [(0, 1), (2, 3), (1, 0)]
theorem rise_uniq {l m : List Int} (h : l.Perm m) (h1 : l.Pairwise (· ≤ ·)) (h2 : m.Pairwise (· ≤ ·)) : l = m := by
  have z := perm_desc (l := l.reverse) (m := m.reverse) ((List.reverse_perm l).trans (h.trans (List.reverse_perm m).symm)) (List.pairwise_reverse.mpr h1) (List.pairwise_reverse.mpr h2)
  rw [← List.reverse_reverse l, z, List.reverse_reverse]
theorem waysA : waysOn 3 webA 7 0 [0] = [[0, 2], [1, 2]] := by decide +kernel
theorem treesA : treesL 3 webA = [[0, 2], [1, 2]] := by decide +kernel
theorem waysB : waysOn 3 webB 7 0 [0] = [] := by decide +kernel
theorem treesB : treesL 3 webB = [] := by decide +kernel
theorem waysC : waysOn 4 webC 7 0 [0] = [] := by decide +kernel
theorem treesC : treesL 4 webC = [] := by decide +kernel
theorem candA (b : Bool) (e : List Int) : candP 3 webA b e ↔ e = [0, 2] ∨ e = [1, 2] := by
  unfold candP
  cases b with
  | true =>
    rw [if_pos rfl, treesA]
    simp
  | false =>
    rw [if_neg (by decide)]
    unfold wayP
    rw [waysA]
    constructor
    · rintro ⟨w, hw, h1, h2⟩
      have hw : w = [0, 2] ∨ w = [1, 2] := by simpa using hw
      rcases hw with rfl | rfl
      · exact .inl (rise_uniq h1 h2 (by decide))
      · exact .inr (rise_uniq h1 h2 (by decide))
    · rintro (rfl | rfl)
      · exact ⟨[0, 2], by simp, List.Perm.refl _, by decide⟩
      · exact ⟨[1, 2], by simp, List.Perm.refl _, by decide⟩
theorem candB (b : Bool) (e : List Int) : ¬ candP 3 webB b e := by
  unfold candP
  cases b with
  | true => rw [if_pos rfl, treesB]; simp
  | false => rw [if_neg (by decide)]; unfold wayP; rw [waysB]; simp
theorem candC (b : Bool) (e : List Int) : ¬ candP 4 webC b e := by
  unfold candP
  cases b with
  | true => rw [if_pos rfl, treesC]; simp
  | false => rw [if_neg (by decide)]; unfold wayP; rw [waysC]; simp
theorem leastA7 (b : Bool) : LeastR (candP 3 webA b) [4, 3, 9] (some (12, [1, 2])) := by
  refine ⟨(candA b _).mpr (.inr rfl), by decide, fun e he => ?_⟩
  rcases (candA b e).mp he with rfl | rfl
  · exact .inl (by decide)
  · exact .inr ⟨by decide, .inl rfl⟩
theorem getsA7 (b : Bool) : GetsR (candP 3 webA b) [4, 3, 9] 3 12 [1, 2] (.inr 2) := by
  refine .one [1] [] 2 rfl (fun v hv => ?_) (fun e he => ?_)
  · rw [List.mem_singleton.mp hv]
    refine ⟨(13, [0, 2]), ⟨(candA b _).mpr (.inl rfl), by decide⟩, by decide, fun e he => ?_⟩
    rcases (candA b e).mp he.1 with rfl | rfl
    · exact .inr ⟨by decide, .inl rfl⟩
    · exact absurd he.2 (by decide)
  · rcases (candA b e).mp he.1 with rfl | rfl
    · exact he.2 (by decide)
    · exact he.2 (by decide)
theorem leastA8 (b : Bool) : LeastR (candP 3 webA b) [1, 1, 1] (some (2, [0, 2])) := by
  refine ⟨(candA b _).mpr (.inl rfl), by decide, fun e he => ?_⟩
  rcases (candA b e).mp he with rfl | rfl
  · exact .inr ⟨by decide, .inl rfl⟩
  · exact .inr ⟨by decide, .inr (by simp [lexLt])⟩
theorem getsA8 (b : Bool) : GetsR (candP 3 webA b) [1, 1, 1] 3 2 [0, 2] (.inr 2) := by
  refine .one [0] [] 2 rfl (fun v hv => ?_) (fun e he => ?_)
  · rw [List.mem_singleton.mp hv]
    refine ⟨(2, [1, 2]), ⟨(candA b _).mpr (.inr rfl), by decide⟩, by decide, fun e he => ?_⟩
    rcases (candA b e).mp he.1 with rfl | rfl
    · exact absurd he.2 (by decide)
    · exact .inr ⟨by decide, .inl rfl⟩
  · rcases (candA b e).mp he.1 with rfl | rfl
    · exact he.2 (by decide)
    · exact he.2 (by decide)
theorem okA : webOk 3 webA := ⟨⟨by decide, by decide⟩, ⟨by decide, by decide⟩, fun r hr => by
  have z : r = (0, 1) ∨ r = (1, 2) := by simpa [webA] using hr
  rcases z with rfl | rfl <;> decide⟩
theorem okB : webOk 3 webB := ⟨⟨by decide, by decide⟩, ⟨by decide, by decide⟩, fun r hr => by
  have z : r = (0, 1) := by simpa [webB] using hr
  rcases z with rfl; decide⟩
theorem okC : webOk 4 webC := ⟨⟨by decide, by decide⟩, ⟨by decide, by decide⟩, fun r hr => by
  have z : r = (0, 1) ∨ r = (2, 3) ∨ r = (1, 0) := by simpa [webC] using hr
  rcases z with rfl | rfl | rfl <;> decide⟩
theorem noWeb2 : ¬ webOk 2 [] := fun z => absurd z.2.1.1 (by decide)
theorem noPile1 : ¬ plOk 1 [[1, 2]] := fun z => by
  have y := (z.1.2.2 [1, 2] (by simp)).2.2
  exact absurd ((List.pairwise_cons.mp y).1 2 (by simp)) (by decide)
theorem noPile13 : ¬ plOk 13 [[2, 1]] := fun z => absurd z.2.2 (by decide)
theorem cost2 : ¬ costOk 3 [1, 2] := fun z => absurd z.1 (by decide)
theorem cost5 : costOk 1 [5] := ⟨rfl, fun c hc => by rw [List.mem_singleton.mp hc]; decide⟩
theorem cost6 : costOk 3 [0, 0, 0] := ⟨rfl, fun c hc => by
  have z : c = 0 := by simpa using hc
  rw [z]; decide⟩
theorem cost7 : costOk 3 [4, 3, 9] := ⟨rfl, fun c hc => by
  have z : c = 4 ∨ c = 3 ∨ c = 9 := by simpa using hc
  rcases z with rfl | rfl | rfl <;> decide⟩
theorem cost8 : costOk 3 [1, 1, 1] := ⟨rfl, fun c hc => by
  have z : c = 1 := by simpa using hc
  rw [z]; decide⟩
def owedL : List Int := [0, 0, 0, 1, 2, 3, 3, 4, 4]
def owed (way : Int) : Int := owedL.getD way.toNat 0
structure Which (K : PySem.W.Frag) (D C0 C1 C2 C3 CA C : Addr) (j : Nat) : Prop where
  xA : PySem.W.exmOne K (.ref C) (.ref CA) = some (Nat.beq j 4)
  xD : PySem.W.exmOne K (.ref C) (.ref D) = some true
  is : ExcIs K C
  k0 : PySem.W.kitOne K (.ref C) (.ref C0) = some (Nat.beq j 0)
  k1 : PySem.W.kitOne K (.ref C) (.ref C1) = some (Nat.beq j 1)
  k2 : PySem.W.kitOne K (.ref C) (.ref C2) = some (Nat.beq j 2)
  k3 : PySem.W.kitOne K (.ref C) (.ref C3) = some (Nat.beq j 3)
  k4 : PySem.W.kitOne K (.ref C) (.ref CA) = some (Nat.beq j 4)
  kD : PySem.W.kitOne K (.ref C) (.ref D) = some true
  kV : PySem.W.kitOne K (.ref C) (.type "ValueError") = some true
def bitsL (j : Nat) : List V := [.bl (Nat.beq j 0), .bl (Nat.beq j 1), .bl (Nat.beq j 2), .bl (Nat.beq j 3), .bl (Nat.beq j 4)]
theorem bits_count {j : Nat} (h : j < 5) : (bitsL j).countP (fun z => eqV z (.bl true)) = 1 := by
  rcases (show j = 0 ∨ j = 1 ∨ j = 2 ∨ j = 3 ∨ j = 4 by omega) with rfl | rfl | rfl | rfl | rfl <;> rfl
theorem bits_at {j : Nat} (h : j < 5) : ∃ z, (bitsL j)[j]? = some z ∧ eqV z (.bl true) = true := by
  rcases (show j = 0 ∨ j = 1 ∨ j = 2 ∨ j = 3 ∨ j = 4 by omega) with rfl | rfl | rfl | rfl | rfl <;> exact ⟨_, rfl, rfl⟩
theorem bits_ahead {j : Nat} (h : j < 5) (m : Nat) (z : V) (hm : m < j) (hz : (bitsL j)[m]? = some z) : eqV z (.bl true) = false := by
  rcases (show m = 0 ∨ m = 1 ∨ m = 2 ∨ m = 3 by omega) with rfl | rfl | rfl | rfl
  all_goals (cases hz; rcases (show j = 1 ∨ j = 2 ∨ j = 3 ∨ j = 4 by omega) with rfl | rfl | rfl | rfl <;> first | rfl | exact absurd hm (by decide))
def spWhich (K : PySem.W.Frag) (D C0 C1 C2 C3 CA : Addr) : Sp := fun vs H Q _ => ∃ (ea C : Addr) (dct : Option Addr) (j : Nat), vs = [.ref ea] ∧ H ea = some (xcO ea (.ref C) dct) ∧ (∀ dx, dct = some dx → ∃ fs, H dx = some (.xd fs)) ∧ j < 5 ∧ Which K D C0 C1 C2 C3 CA C j ∧ ∀ H', Same H H' → Q (.int (j : Int)) H'
theorem boot_VE : bootBuiltins "ValueError" = some (.type "ValueError") := by decide +kernel
section
variable {P : Program} {w : World} {K : PySem.W.Frag} {mg : Str → Option Value} {base : Heap}
theorem scWhich : FnScope ["e", "told"] ["e"] (defScope sWhich) := ⟨rfl, rfl, rfl, by decide +kernel, rfl, by decide +kernel, by decide +kernel⟩
theorem ok_which {f D C0 C1 C2 C3 CA : Addr} {fd : FuncData} (F : Fun K "_law_which" "_law_which" sWhich f fd) (mi : mg "isinstance" = none) (m0 : mg "BadWorths" = some (.ref C0)) (m1 : mg "BadWeb" = some (.ref C1)) (m2 : mg "BadCosts" = some (.ref C2)) (m3 : mg "NoWay" = some (.ref C3)) (m4 : mg "Alone" = some (.ref CA)) (mD : mg "TollError" = some (.ref D)) (mV : mg "ValueError" = none) :
    FnOkH P w K mg base 1 f fd ["e"] (spWhich K D C0 C1 C2 C3 CA) := by
  refine F.okH scWhich (fun vs H Q E h => ?_) (fun cdv A ea0 outer s H vs Q hr h => ?_)
  · obtain ⟨_, _, _, _, rfl, _⟩ := h
    rfl
  obtain ⟨ea, C, dct, j, rfl, hx, hd, hj, W, q⟩ := h
  refine ⟨_, pss_cons (ps_set (i := 1) scWhich.nd rfl (Or.inl rfl) (pe_lst (pa_cons (pe_callB call_isc rfl mi boot_isinstance (pa_cons (pv 0) (pa_cons (pe_glob (v := .ref C0) rfl m0 rfl) pa_nil))) (pa_cons (pe_callB call_isc rfl mi boot_isinstance (pa_cons (pv 0) (pa_cons (pe_glob (v := .ref C1) rfl m1 rfl) pa_nil))) (pa_cons (pe_callB call_isc rfl mi boot_isinstance (pa_cons (pv 0) (pa_cons (pe_glob (v := .ref C2) rfl m2 rfl) pa_nil))) pa_nil)))))
    (pss_cons (ps_set (i := 1) scWhich.nd rfl (Or.inl rfl) (pe_op op_cat (pv 1) (pe_lst (pa_cons (pe_callB call_isc rfl mi boot_isinstance (pa_cons (pv 0) (pa_cons (pe_glob (v := .ref C3) rfl m3 rfl) pa_nil))) (pa_cons (pe_callB call_isc rfl mi boot_isinstance (pa_cons (pv 0) (pa_cons (pe_glob (v := .ref CA) rfl m4 rfl) pa_nil))) pa_nil)))))
    (pss_cons (ps_if (PW.pt (pw_or (pt_not (pt_val (pe_callB call_isc rfl mi boot_isinstance (pa_cons (pv 0) (pa_cons (pe_glob (v := .ref D) rfl mD rfl) pa_nil))))) (pw_or (pt_not (pt_val (pe_callB call_isc rfl mi boot_isinstance (pa_cons (pv 0) (pa_cons (pe_bltn (v := .ty "ValueError") rfl mV boot_VE rfl) pa_nil)))))
        (pw_or1 (pt_cmpR op_ne (pe_bm PySem.F.plainAttrs_list PySem.F.slot_list_count PySem.F.type_list_count mt_countV (pv 1) (pa_cons pe_bl pa_nil)) pe_int (nomark _)))))) (pss_one (ps_ret (pe_un un_neg pe_int))) pss_nil)
    (pss_one (ps_ret (pe_bm PySem.F.plainAttrs_list PySem.F.slot_list_index PySem.F.type_list_index mt_indexV (pv 1) (pa_cons pe_bl pa_nil)))))), ?_⟩
  refine ⟨_, rfl, ea, C, dct, _, _, _, rfl, hx, hd, W.is, rfl, (fun u' z => z), W.k0, ?_⟩
  refine ⟨_, rfl, ea, C, dct, _, _, _, rfl, hx, hd, W.is, rfl, (fun u' z => z), W.k1, ?_⟩
  refine ⟨_, rfl, ea, C, dct, _, _, _, rfl, hx, hd, W.is, rfl, (fun u' z => z), W.k2, ?_⟩
  refine ⟨(by show 3 ≤ sizeLine; decide), fun l1 hl1 => ?_⟩
  have s1 := same_new hl1 (.lst [.bl (Nat.beq j 0), .bl (Nat.beq j 1), .bl (Nat.beq j 2)])
  have hx1 := s1 _ _ hx
  have hd1 : ∀ dx, dct = some dx → ∃ fs, upd H l1 (.lst [.bl (Nat.beq j 0), .bl (Nat.beq j 1), .bl (Nat.beq j 2)]) dx = some (.xd fs) := fun dx e => let ⟨fs, z⟩ := hd dx e; ⟨fs, s1 _ _ z⟩
  refine ⟨_, rfl, _, rfl, ea, C, dct, _, _, _, rfl, hx1, hd1, W.is, rfl, (fun u' z => z), W.k3, ?_⟩
  refine ⟨_, rfl, ea, C, dct, _, _, _, rfl, hx1, hd1, W.is, rfl, (fun u' z => z), W.k4, ?_⟩
  refine ⟨(by show 2 ≤ sizeLine; decide), fun l2 hl2 => ?_⟩
  have s2 := same_new hl2 (.lst [.bl (Nat.beq j 3), .bl (Nat.beq j 4)])
  refine ⟨l1, l2, [.bl (Nat.beq j 0), .bl (Nat.beq j 1), .bl (Nat.beq j 2)], [.bl (Nat.beq j 3), .bl (Nat.beq j 4)], rfl, rfl, s2 _ _ upd_same, upd_same, (by show 3 + 2 ≤ sizeLine; decide), fun l3 hl3 => ?_⟩
  have s3 := same_new hl3 (.lst ([.bl (Nat.beq j 0), .bl (Nat.beq j 1), .bl (Nat.beq j 2)] ++ [.bl (Nat.beq j 3), .bl (Nat.beq j 4)]))
  have s13 := s1.trans (s2.trans s3)
  have hx3 := s13 _ _ hx
  have hl : upd (upd (upd H l1 (.lst [.bl (Nat.beq j 0), .bl (Nat.beq j 1), .bl (Nat.beq j 2)])) l2 (.lst [.bl (Nat.beq j 3), .bl (Nat.beq j 4)])) l3 (.lst ([.bl (Nat.beq j 0), .bl (Nat.beq j 1), .bl (Nat.beq j 2)] ++ [.bl (Nat.beq j 3), .bl (Nat.beq j 4)])) l3 = some (.lst [.bl (Nat.beq j 0), .bl (Nat.beq j 1), .bl (Nat.beq j 2), .bl (Nat.beq j 3), .bl (Nat.beq j 4)]) := upd_same
  have hd3 : ∀ dx, dct = some dx → ∃ fs, upd (upd (upd H l1 (.lst [.bl (Nat.beq j 0), .bl (Nat.beq j 1), .bl (Nat.beq j 2)])) l2 (.lst [.bl (Nat.beq j 3), .bl (Nat.beq j 4)])) l3 (.lst ([.bl (Nat.beq j 0), .bl (Nat.beq j 1), .bl (Nat.beq j 2)] ++ [.bl (Nat.beq j 3), .bl (Nat.beq j 4)])) dx = some (.xd fs) := fun dx e => let ⟨fs, z⟩ := hd dx e; ⟨fs, s13 _ _ z⟩
  generalize upd (upd (upd H l1 (.lst [.bl (Nat.beq j 0), .bl (Nat.beq j 1), .bl (Nat.beq j 2)])) l2 (.lst [.bl (Nat.beq j 3), .bl (Nat.beq j 4)])) l3 (.lst ([.bl (Nat.beq j 0), .bl (Nat.beq j 1), .bl (Nat.beq j 2)] ++ [.bl (Nat.beq j 3), .bl (Nat.beq j 4)])) = H3 at s13 hx3 hl hd3 ⊢
  have qq := q H3 s13
  refine ⟨_, rfl, ea, C, dct, _, _, _, rfl, hx3, hd3, W.is, rfl, (fun u' z => z), W.kD, _, rfl, ?_⟩
  refine iteF ⟨_, rfl, ea, C, dct, _, _, _, rfl, hx3, hd3, W.is, rfl, (fun u' z => z), W.kV, _, rfl, ?_⟩
  refine iteF ⟨_, rfl, .inl ⟨rfl, _, SqL.of hl⟩, l3, _, _, rfl, rfl, SqL.of hl, rfl, rfl, rfl, _, rfl, ?_⟩
  refine ndecF (by show V.int (((bitsL j).countP (fun z => eqV z (.bl true)) : Nat) : Int) = V.int 1; rw [bits_count hj]; rfl) ?_
  exact ⟨_, rfl, .inl ⟨rfl, _, SqL.of hl⟩, l3, _, _, j, rfl, rfl, SqL.of hl, rfl, rfl, bits_at hj, bits_ahead hj, qq⟩
end
structure AloneK (K : PySem.W.Frag) (CA : Addr) : Prop where
  get : ExcGet K CA
  hd : PySem.W.hasDictIn K CA = true
  nf : PySem.W.findIn K (.ref CA) "road" = some none
def spMet : Sp := fun vs H Q _ => ∃ (way : Int) (b : Bool), vs = [.int way, .str (kindS b)] ∧ 0 ≤ way ∧ way < 9 ∧ ∀ H', Same H H' → Q (.int (owed way)) H'
theorem only7 (b : Bool) {m : Int} {d : List Int} {x : List Int ⊕ Int} (h : LeastR (candP 3 webA b) [4, 3, 9] (some (m, d))) (g : GetsR (candP 3 webA b) [4, 3, 9] 3 m d x) : x = .inr 2 := by
  have e := LeastR.uniq h (leastA7 b)
  cases e
  exact GetsR.uniq (fun v hv => by have z : v = 1 ∨ v = 2 := by simpa using hv
                                   omega) g (getsA7 b)
theorem only8 (b : Bool) {m : Int} {d : List Int} {x : List Int ⊕ Int} (h : LeastR (candP 3 webA b) [1, 1, 1] (some (m, d))) (g : GetsR (candP 3 webA b) [1, 1, 1] 3 m d x) : x = .inr 2 := by
  have e := LeastR.uniq h (leastA8 b)
  cases e
  exact GetsR.uniq (fun v hv => by have z : v = 0 ∨ v = 2 := by simpa using hv
                                   omega) g (getsA8 b)
theorem lit3 {H : Hp} {a1 a2 a3 l : Addr} (p q r : Int × Int) (h1 : H a1 = none) (h2 : upd H a1 (.tup [.int p.1, .int p.2]) a2 = none) (h3 : upd (upd H a1 (.tup [.int p.1, .int p.2])) a2 (.tup [.int q.1, .int q.2]) a3 = none) (h4 : upd (upd (upd H a1 (.tup [.int p.1, .int p.2])) a2 (.tup [.int q.1, .int q.2])) a3 (.tup [.int r.1, .int r.2]) l = none) :
    Same H (upd (upd (upd (upd H a1 (.tup [.int p.1, .int p.2])) a2 (.tup [.int q.1, .int q.2])) a3 (.tup [.int r.1, .int r.2])) l (.lst [.ref a1, .ref a2, .ref a3])) ∧ RdL (upd (upd (upd (upd H a1 (.tup [.int p.1, .int p.2])) a2 (.tup [.int q.1, .int q.2])) a3 (.tup [.int r.1, .int r.2])) l (.lst [.ref a1, .ref a2, .ref a3])) l [p, q, r] := by
  have s1 := same_new h1 (.tup [.int p.1, .int p.2])
  have s2 := same_new h2 (.tup [.int q.1, .int q.2])
  have s3 := same_new h3 (.tup [.int r.1, .int r.2])
  have s4 := same_new h4 (.lst [.ref a1, .ref a2, .ref a3])
  refine ⟨s1.trans (s2.trans (s3.trans s4)), [a1, a2, a3], upd_same, .cons ?_ (.cons ?_ (.cons ?_ .nil))⟩
  · exact (s2.trans (s3.trans s4)) _ _ upd_same
  · exact (s3.trans s4) _ _ upd_same
  · exact s4 _ _ upd_same
theorem lit1 {H : Hp} {a1 l : Addr} (p : Int × Int) (h1 : H a1 = none) (h4 : upd H a1 (.tup [.int p.1, .int p.2]) l = none) :
    Same H (upd (upd H a1 (.tup [.int p.1, .int p.2])) l (.lst [.ref a1])) ∧ RdL (upd (upd H a1 (.tup [.int p.1, .int p.2])) l (.lst [.ref a1])) l [p] := by
  have s1 := same_new h1 (.tup [.int p.1, .int p.2])
  have s4 := same_new h4 (.lst [.ref a1])
  exact ⟨s1.trans s4, [a1], upd_same, .cons (s4 _ _ upd_same) .nil⟩
section
variable {P : Program} {w : World} {K : PySem.W.Frag} {mg : Str → Option Value} {base : Heap}
theorem scMet : FnScope ["way", "kind", "web", "e"] ["way", "kind"] (defScope sMet) := ⟨rfl, rfl, rfl, by decide +kernel, rfl, by decide +kernel, by decide +kernel⟩
theorem ok_met {n1 n2 n3 n4 n5 n6 nw : Nat} {f f1 f2 f3 f4 f5 f6 f7 C0 C1 C2 C3 CA CW fI D : Addr} {fd fd1 fd2 fd3 fd4 fd5 fd6 fd7 fdI : FuncData} (F : Fun K "_law_met" "_law_met" sMet f fd)
    (G1 : FnOk P w K mg base (CXX P w) n1 f1 fd1 ["worths"] (spBestNo C0)) (b1 : Binds K fd1 ["worths"] []) (k1 : PySem.W.keepIn K (.ref f1) = true) (m1 : mg "shelf_best" = some (.ref f1))
    (G2 : FnOk P w K mg base (CXX P w) n2 f2 fd2 ["pieces", "worths"] (spPNo C0)) (b2 : Binds K fd2 ["pieces", "worths"] []) (k2 : PySem.W.keepIn K (.ref f2) = true) (m2 : mg "pile_best" = some (.ref f2))
    (G3 : FnOk P w K mg base (CXX P w) n3 f3 fd3 ["pieces", "worths"] (spPNo C0)) (b3 : Binds K fd3 ["pieces", "worths"] []) (k3 : PySem.W.keepIn K (.ref f3) = true) (m3 : mg "pile_pays" = some (.ref f3))
    (G4 : FnOk P w K mg base (CXX P w) n4 f4 fd4 ["web", "kind", "costs"] (spRBestNo CW C2 C3)) (b4 : Binds K fd4 ["web", "kind", "costs"] []) (k4 : PySem.W.keepIn K (.ref f4) = true) (m4 : mg "road_best" = some (.ref f4))
    (G5 : FnOk P w K mg base (CXX P w) n5 f5 fd5 ["web", "kind", "costs"] (spRGets CW C2 C3 CA candP)) (b5 : Binds K fd5 ["web", "kind", "costs"] []) (k5 : PySem.W.keepIn K (.ref f5) = true) (m5 : mg "road_gets" = some (.ref f5))
    (G6 : FnOk P w K mg base (CXX P w) n6 f6 fd6 ["web", "kind", "costs", "road", "truth"] (spRGainNo CW CA)) (b6 : Binds K fd6 ["web", "kind", "costs", "road", "truth"] []) (k6 : PySem.W.keepIn K (.ref f6) = true) (m6 : mg "road_gain" = some (.ref f6))
    (G7 : FnOkH P w K mg base 1 f7 fd7 ["e"] (spWhich K D C0 C1 C2 C3 CA)) (b7 : Binds K fd7 ["e"] []) (k7 : PySem.W.keepIn K (.ref f7) = true) (m7 : mg "_law_which" = some (.ref f7))
    (WK : WebK K CW fI) (GI : FnOk P w K mg base (CXX P w) nw fI fdI ["self", "places", "roads"] (spWInit CW C1)) (bI : Binds K fdI ["self", "places", "roads"] []) (mW : mg "Web" = some (.ref CW)) (mA : mg "Alone" = some (.ref CA)) (mD : mg "TollError" = some (.ref D))
    (t0 : Which K D C0 C1 C2 C3 CA C0 0) (t1 : Which K D C0 C1 C2 C3 CA C1 1) (t2 : Which K D C0 C1 C2 C3 CA C2 2) (t3 : Which K D C0 C1 C2 C3 CA C3 3) (t4 : Which K D C0 C1 C2 C3 CA CA 4) (AK : AloneK K CA)
    (h1 : n1 ≤ 11) (h2 : n2 ≤ 11) (h3 : n3 ≤ 11) (h4 : n4 ≤ 11) (h5 : n5 ≤ 11) (h6 : n6 ≤ 11) (hw : nw ≤ 10) : FnOk P w K mg base CX0 12 f fd ["way", "kind"] spMet := by
  refine F.ok scMet (fun vs H Q E h => ?_) (fun cdv A outer s H vs Q E hr h => ?_)
  · obtain ⟨_, _, rfl, _⟩ := h
    rfl
  obtain ⟨way, b, rfl, w0, w9, q⟩ := h
  have hr1 := hr.mono (j := n1) h1
  have hr2 := hr.mono (j := n2) h2
  have hr3 := hr.mono (j := n3) h3
  have hr4 := hr.mono (j := n4) h4
  have hr5 := hr.mono (j := n5) h5
  have hr6 := hr.mono (j := n6) h6
  have hr7 := hr.mono (j := 1) (by decide)
  have hrw := hr.mono (j := nw + 1) (by omega)
  refine ⟨_, pss_cons (ps_set (i := 2) scMet.nd rfl (Or.inl rfl) (pe_makeX WK.made GI hrw rfl mW bI takes_never (pa_cons pe_int (pa_cons (pe_lst (pa_cons (pe_tup (pa_cons pe_int (pa_cons pe_int pa_nil))) (pa_cons (pe_tup (pa_cons pe_int (pa_cons pe_int pa_nil))) (pa_cons (pe_tup (pa_cons pe_int (pa_cons pe_int pa_nil))) pa_nil)))) pa_nil))))
    (pss_cons (ps_try rfl rfl (fun R pn xe tk po => (pss_one (ps_if (pt_cmpR op_eq (pv 0) pe_int (nomark _))
      (pss_one (ps_expr (pe_callX G1 hr1 rfl m1 k1 b1 .nil tk (pa_cons (pe_lst pa_nil) pa_nil))))
      (pss_one (ps_if (pt_cmpR op_eq (pv 0) pe_int (nomark _))
      (pss_one (ps_expr (pe_callX G2 hr2 rfl m2 k2 b2 .nil tk (pa_cons pe_int (pa_cons (pe_lst (pa_cons (pe_lst (pa_cons pe_int (pa_cons pe_int pa_nil))) pa_nil)) pa_nil)))))
      (pss_one (ps_if (pt_cmpR op_eq (pv 0) pe_int (nomark _))
      (pss_one (ps_expr (pe_callX G3 hr3 rfl m3 k3 b3 .nil tk (pa_cons pe_int (pa_cons (pe_lst (pa_cons (pe_lst (pa_cons pe_int (pa_cons pe_int pa_nil))) pa_nil)) pa_nil)))))
      (pss_one (ps_if (pt_cmpR op_eq (pv 0) pe_int (nomark _))
      (pss_one (ps_expr (pe_makeX WK.made GI hrw rfl mW bI tk (pa_cons pe_int (pa_cons (pe_lst pa_nil) pa_nil)))))
      (pss_one (ps_if (pt_cmpR op_eq (pv 0) pe_int (nomark _))
      (pss_one (ps_expr (pe_callX G4 hr4 rfl m4 k4 b4 .nil tk (pa_cons (pv 2) (pa_cons (pv 1) (pa_cons (pe_lst (pa_cons pe_int (pa_cons pe_int pa_nil))) pa_nil))))))
      (pss_one (ps_if (pt_cmpR op_eq (pv 0) pe_int (nomark _))
      (pss_one (ps_expr (pe_callX G4 hr4 rfl m4 k4 b4 .nil tk (pa_cons (pe_makeX WK.made GI hrw rfl mW bI tk (pa_cons pe_int (pa_cons (pe_lst (pa_cons (pe_tup (pa_cons pe_int (pa_cons pe_int pa_nil))) pa_nil)) pa_nil))) (pa_cons (pv 1) (pa_cons (pe_lst (pa_cons pe_int pa_nil)) pa_nil))))))
      (pss_one (ps_if (pt_cmpR op_eq (pv 0) pe_int (nomark _))
      (pss_one (ps_expr (pe_callX G5 hr5 rfl m5 k5 b5 .nil tk (pa_cons (pe_makeX WK.made GI hrw rfl mW bI tk (pa_cons pe_int (pa_cons (pe_lst (pa_cons (pe_tup (pa_cons pe_int (pa_cons pe_int pa_nil))) (pa_cons (pe_tup (pa_cons pe_int (pa_cons pe_int pa_nil))) (pa_cons (pe_tup (pa_cons pe_int (pa_cons pe_int pa_nil))) pa_nil)))) pa_nil))) (pa_cons (pv 1) (pa_cons (pe_lst (pa_cons pe_int (pa_cons pe_int (pa_cons pe_int pa_nil)))) pa_nil))))))
      (pss_one (ps_if (pt_cmpR op_eq (pv 0) pe_int (nomark _))
      (pss_one (ps_expr (pe_callX G5 hr5 rfl m5 k5 b5 .nil tk (pa_cons (pv 2) (pa_cons (pv 1) (pa_cons (pe_lst (pa_cons pe_int (pa_cons pe_int (pa_cons pe_int pa_nil)))) pa_nil))))))
      (pss_one (ps_expr (pe_callX G6 hr6 rfl m6 k6 b6 .nil tk (pa_cons (pv 2) (pa_cons (pv 1) (pa_cons (pe_lst (pa_cons pe_int (pa_cons pe_int (pa_cons pe_int pa_nil)))) (pa_cons pe_int (pa_cons pe_int pa_nil)))))))))))))))))))))))))
      (ph_as (i := 3) rfl mA scMet.nd rfl rfl (fun ea => pss_one (ps_ret (pe_ifExp (pt_cmpR op_eq (pe_xget (pv 3) rfl) pe_int (nomark _)) (pe_callH (X := (cxOf CX0 P w K mg base ["way", "kind", "web", "e"] "_law_met" (defScope sMet) f cdv A outer s H E).nox) G7 hr7 rfl m7 k7 b7 .nil (pa_cons (pv 3) pa_nil)) (pe_un un_neg pe_int))))
      (ph_as (i := 3) rfl mD scMet.nd rfl rfl (fun ea => pss_one (ps_ret (pe_callH (X := (cxOf CX0 P w K mg base ["way", "kind", "web", "e"] "_law_met" (defScope sMet) f cdv A outer s H E).nox) G7 hr7 rfl m7 k7 b7 .nil (pa_cons (pv 3) pa_nil)))) ph_nil)))
    (pss_one (ps_ret pe_int))), ?_⟩
  refine ⟨(by show 2 ≤ sizeLine; decide), fun a1 g1 => ⟨(by show 2 ≤ sizeLine; decide), fun a2 g2 => ⟨(by show 2 ≤ sizeLine; decide), fun a3 g3 => ⟨(by show 3 ≤ sizeLine; decide), fun l gl => ?_⟩⟩⟩⟩
  obtain ⟨s1, hR⟩ := lit3 (0, 1) (0, 1) (1, 2) g1 g2 g3 gl
  intro wb wdx hwb hwdx hwne
  refine web_read (CW := CW) (CB := C1) hwb hwdx hwne hR (by decide) (fun _ H1 s2 hWN => ⟨rfl, ?_⟩) (fun no => absurd okA no)
  have hW : WebAt CW H1 wb 3 webA := hWN.at
  have sH := s1.trans s2
  clear hWN hR
  generalize upd _ l _ = H0 at s1 s2 sH hwb hwdx
  refine ⟨fun cls dct σ' H' => σ' = [some (.int way), some (.str (kindS b)), some (.ref wb), none] ∧ Same H1 H' ∧ ∃ C j, cls = .ref C ∧ Which K D C0 C1 C2 C3 CA C j ∧ j < 5 ∧ owed way = (j : Int) ∧ (∀ dx, dct = some dx → ∃ fs, H' dx = some (.xd fs)) ∧ (Nat.beq j 4 = true → ∃ dx fs, C = CA ∧ dct = some dx ∧ H' dx = some (.xd fs) ∧ fs.lookup ("road" : Str) = some (.int 2)), ?_, fun pn xe => ?_⟩
  · rintro cls dct σ' H' ⟨rfl, s3, C, j, rfl, W, hj, ho, hd, hA⟩
    rw [ho] at q
    refine ⟨_, W.xA, ?_⟩
    cases hb : Nat.beq j 4 with
    | true =>
      refine iteT fun ea hea => ?_
      obtain ⟨dx, fs, rfl, rfl, hx, hf⟩ := hA hb
      have s4 := same_new hea (xcO ea (.ref C) (some dx))
      refine ⟨_, rfl, ea, C, dx, fs, _, rfl, upd_same, s4 _ _ hx, AK.get, AK.hd, AK.nf, hf, rfl, _, rfl, ?_⟩
      refine decT rfl ?_
      refine ⟨_, rfl, ea, C, some dx, j, rfl, upd_same, fun dx' e => ?_, hj, W, fun H9 s9 => q _ (sH.trans (s3.trans (s4.trans s9)))⟩
      obtain ⟨fs', z⟩ := hd dx' e
      exact ⟨fs', s4 _ _ z⟩
    | false =>
      refine iteF ⟨true, W.xD, iteT fun ea hea => ?_⟩
      have s4 := same_new hea (xcO ea (.ref C) dct)
      refine ⟨_, rfl, ea, C, dct, j, rfl, upd_same, fun dx' e => ?_, hj, W, fun H9 s9 => q _ (sH.trans (s3.trans (s4.trans s9)))⟩
      obtain ⟨fs', z⟩ := hd dx' e
      exact ⟨fs', s4 _ _ z⟩
  · have go : ∀ (C : Addr) (j : Nat) (H' : Hp), Which K D C0 C1 C2 C3 CA C j → j < 4 → owed way = (j : Int) → Same H1 H' → ([some (.int way), some (.str (kindS b)), some (.ref wb), none] : L2.St) = [some (.int way), some (.str (kindS b)), some (.ref wb), none] ∧ Same H1 H' ∧ ∃ C' j, Value.ref C = .ref C' ∧ Which K D C0 C1 C2 C3 CA C' j ∧ j < 5 ∧ owed way = (j : Int) ∧ (∀ dx, (none : Option Addr) = some dx → ∃ fs, H' dx = some (.xd fs)) ∧ (Nat.beq j 4 = true → ∃ dx fs, C' = CA ∧ (none : Option Addr) = some dx ∧ H' dx = some (.xd fs) ∧ fs.lookup ("road" : Str) = some (.int 2)) :=
      fun C j H' W hj ho sm => ⟨rfl, sm, C, j, rfl, W, by omega, ho, (fun _ z => nomatch z), fun z => absurd (Nat.eq_of_beq_eq_true z) (by omega)⟩
    have goA : ∀ (dx : Addr) (fs) (H' : Hp), owed way = 4 → Same H1 H' → H' dx = some (.xd fs) → fs.lookup ("road" : Str) = some (.int 2) → ([some (.int way), some (.str (kindS b)), some (.ref wb), none] : L2.St) = [some (.int way), some (.str (kindS b)), some (.ref wb), none] ∧ Same H1 H' ∧ ∃ C' j, Value.ref CA = .ref C' ∧ Which K D C0 C1 C2 C3 CA C' j ∧ j < 5 ∧ owed way = ((j : Nat) : Int) ∧ (∀ dx', some dx = some dx' → ∃ fs, H' dx' = some (.xd fs)) ∧ (Nat.beq j 4 = true → ∃ dx' fs, C' = CA ∧ some dx = some dx' ∧ H' dx' = some (.xd fs) ∧ fs.lookup ("road" : Str) = some (.int 2)) :=
      fun dx fs H' ho sm hx hf => ⟨rfl, sm, CA, 4, rfl, t4, by decide, ho, (fun _ z => by cases z; exact ⟨fs, hx⟩), fun _ => ⟨dx, fs, rfl, rfl, hx, hf⟩⟩
    refine ⟨_, rfl, rfl, _, rfl, dec2 (fun c => ?_) (fun c => ?_)⟩
    · obtain rfl : way = 0 := by injection c
      refine ⟨(by show 0 ≤ sizeLine; decide), fun l1 hl1 => ?_⟩
      exact ⟨l1, rfl, upd_same, go C0 0 _ t0 (by decide) rfl (same_new hl1 _)⟩
    have c0 : way ≠ 0 := fun e => c (by rw [e])
    clear c
    refine ⟨_, rfl, rfl, _, rfl, dec2 (fun c => ?_) (fun c => ?_)⟩
    · obtain rfl : way = 1 := by injection c
      refine ⟨(by show 2 ≤ sizeLine; decide), fun l1 hl1 => ⟨(by show 1 ≤ sizeLine; decide), fun l2 hl2 => ?_⟩⟩
      have s3 := same_new hl1 (.lst [.int 1, .int 2])
      have s4 := same_new hl2 (.lst [.ref l1])
      exact ⟨l2, [[1, 2]], 1, rfl, ⟨[l1], upd_same, .cons (s4 _ _ upd_same) .nil⟩, by decide, by decide, noPile1, fun H' s5 => go C0 0 _ t0 (by decide) rfl (s3.trans (s4.trans s5))⟩
    have c1 : way ≠ 1 := fun e => c (by rw [e])
    clear c
    refine ⟨_, rfl, rfl, _, rfl, dec2 (fun c => ?_) (fun c => ?_)⟩
    · obtain rfl : way = 2 := by injection c
      refine ⟨(by show 2 ≤ sizeLine; decide), fun l1 hl1 => ⟨(by show 1 ≤ sizeLine; decide), fun l2 hl2 => ?_⟩⟩
      have s3 := same_new hl1 (.lst [.int 2, .int 1])
      have s4 := same_new hl2 (.lst [.ref l1])
      exact ⟨l2, [[2, 1]], 13, rfl, ⟨[l1], upd_same, .cons (s4 _ _ upd_same) .nil⟩, by decide, by decide, noPile13, fun H' s5 => go C0 0 _ t0 (by decide) rfl (s3.trans (s4.trans s5))⟩
    have c2 : way ≠ 2 := fun e => c (by rw [e])
    clear c
    refine ⟨_, rfl, rfl, _, rfl, dec2 (fun c => ?_) (fun c => ?_)⟩
    · obtain rfl : way = 3 := by injection c
      refine ⟨(by show 0 ≤ sizeLine; decide), fun l1 hl1 => ?_⟩
      have s3 := same_new hl1 (.lst [])
      intro x dx hx hdx hne
      exact web_read (CW := CW) (CB := C1) (rds := []) hx hdx hne ⟨[], upd_same, .nil⟩ (by decide) (fun z => absurd z noWeb2) fun _ H' s4 => go C1 1 _ t1 (by decide) rfl (s3.trans s4)
    have c3 : way ≠ 3 := fun e => c (by rw [e])
    clear c
    refine ⟨_, rfl, rfl, _, rfl, dec2 (fun c => ?_) (fun c => ?_)⟩
    · obtain rfl : way = 4 := by injection c
      refine ⟨_, rfl, _, rfl, (by show 2 ≤ sizeLine; decide), fun l1 hl1 => ?_⟩
      have s3 := same_new hl1 (.lst [.int 1, .int 2])
      exact ⟨wb, l1, 3, webA, b, [1, 2], rfl, hW.mono s3, okA, upd_same, fun yes => absurd yes cost2, fun _ H' s4 => go C2 2 _ t2 (by decide) rfl (s3.trans s4)⟩
    have c4 : way ≠ 4 := fun e => c (by rw [e])
    clear c
    refine ⟨_, rfl, rfl, _, rfl, dec2 (fun c => ?_) (fun c => ?_)⟩
    · obtain rfl : way = 5 := by injection c
      refine ⟨(by show 2 ≤ sizeLine; decide), fun e1 g1 => ⟨(by show 1 ≤ sizeLine; decide), fun e2 g2 => ?_⟩⟩
      obtain ⟨s3, hR⟩ := lit1 (0, 1) g1 g2
      intro x dx hx hdx hne
      refine web_read (CW := CW) (CB := C1) hx hdx hne hR (by decide) (fun _ H2 s4 hWN => ⟨rfl, ?_⟩) (fun no => absurd okB no)
      have hW2 : WebAt CW H2 x 3 webB := hWN.at
      have s34 := s3.trans s4
      refine ⟨_, rfl, (by show 1 ≤ sizeLine; decide), fun l1 hl1 => ?_⟩
      have s5 := same_new hl1 (.lst [.int 5])
      exact ⟨x, l1, 3, webB, b, [5], rfl, hW2.mono s5, okB, upd_same, fun _ => ⟨candB b, fun H' s6 => go C3 3 _ t3 (by decide) rfl (s34.trans (s5.trans s6))⟩, fun no => absurd cost5 no⟩
    have c5 : way ≠ 5 := fun e => c (by rw [e])
    clear c
    refine ⟨_, rfl, rfl, _, rfl, dec2 (fun c => ?_) (fun c => ?_)⟩
    · obtain rfl : way = 6 := by injection c
      refine ⟨(by show 2 ≤ sizeLine; decide), fun e1 g1 => ⟨(by show 2 ≤ sizeLine; decide), fun e2 g2 => ⟨(by show 2 ≤ sizeLine; decide), fun e3 g3 => ⟨(by show 3 ≤ sizeLine; decide), fun e4 g4 => ?_⟩⟩⟩⟩
      obtain ⟨s3, hR⟩ := lit3 (0, 1) (2, 3) (1, 0) g1 g2 g3 g4
      intro x dx hx hdx hne
      refine web_read (CW := CW) (CB := C1) hx hdx hne hR (by decide) (fun _ H2 s4 hWN => ⟨rfl, ?_⟩) (fun no => absurd okC no)
      have hW2 : WebAt CW H2 x 4 webC := hWN.at
      have s34 := s3.trans s4
      refine ⟨_, rfl, (by show 3 ≤ sizeLine; decide), fun l1 hl1 => ?_⟩
      have s5 := same_new hl1 (.lst [.int 0, .int 0, .int 0])
      exact ⟨x, l1, 4, webC, b, [0, 0, 0], rfl, hW2.mono s5, okC, upd_same, by decide, fun _ m d gs hm => absurd hm.1 (candC b d), fun _ m d r hm => absurd hm.1 (candC b d), fun _ _ H' s6 => go C3 3 _ t3 (by decide) rfl (s34.trans (s5.trans s6)), fun no => absurd cost6 no⟩
    have c6 : way ≠ 6 := fun e => c (by rw [e])
    clear c
    refine ⟨_, rfl, rfl, _, rfl, dec2 (fun c => ?_) (fun c => ?_)⟩
    · obtain rfl : way = 7 := by injection c
      refine ⟨_, rfl, _, rfl, (by show 3 ≤ sizeLine; decide), fun l1 hl1 => ?_⟩
      have s3 := same_new hl1 (.lst [.int 4, .int 3, .int 9])
      exact ⟨wb, l1, 3, webA, b, [4, 3, 9], rfl, hW.mono s3, okA, upd_same, by decide, fun _ m d gs hm hg => (nomatch only7 b hm hg), fun _ m d r hm hg dx fs H' s4 _ hx hf => goA dx fs H' rfl (s3.trans s4) hx (by cases only7 b hm hg; exact hf), fun _ hn => ((leastA7 b).clash hn).elim, fun no => absurd cost7 no⟩
    have c7 : way ≠ 7 := fun e => c (by rw [e])
    clear c
    obtain rfl : way = 8 := by omega
    refine ⟨_, rfl, _, rfl, (by show 3 ≤ sizeLine; decide), fun l1 hl1 => ?_⟩
    have s3 := same_new hl1 (.lst [.int 1, .int 1, .int 1])
    exact ⟨wb, l1, 3, webA, b, [1, 1, 1], 1, 7, rfl, hW.mono s3, okA, upd_same, by decide, cost8, fun m d gs hm hg => (nomatch only8 b hm hg), fun hn => (leastA8 b).clash hn, fun m d r hm hg dx fs H' s4 _ hx hf => goA dx fs H' rfl (s3.trans s4) hx (by cases only8 b hm hg; exact hf)⟩
end
section
variable {P : Program} {w : World} {K : PySem.W.Frag} {mg : Str → Option Value} {base : Heap}
theorem scLaw : FnScope ["script", "first", "k", "way", "kind"] ["script"] (defScope sLaw) := ⟨rfl, rfl, rfl, by decide +kernel, rfl, by decide +kernel, by decide +kernel⟩
def spLaw (K : PySem.W.Frag) : Sp := fun vs H Q _ => ∃ (a : Addr) (ns : List Int), vs = [.ref a] ∧ SqL K H a (ns.map V.int) ∧ ns.length ≤ 63 ∧ ∀ H', Q (.bl true) H'
theorem owed_at {way : Int} (w0 : 0 ≤ way) (w9 : way < 9) : atI (owedL.map V.int) way = some (.int (owed way)) := by
  rcases (show way = 0 ∨ way = 1 ∨ way = 2 ∨ way = 3 ∨ way = 4 ∨ way = 5 ∨ way = 6 ∨ way = 7 ∨ way = 8 by omega) with rfl | rfl | rfl | rfl | rfl | rfl | rfl | rfl | rfl <;> rfl
theorem ok_law {f f1 f2 : Addr} {fd fd1 fd2 : FuncData} (F : Fun K "law" "law" sLaw f fd) (G1 : FnOk P w K mg base CX0 1 f1 fd1 ["script", "k"] (spCell K)) (b1 : Binds K fd1 ["script", "k"] []) (k1 : PySem.W.keepIn K (.ref f1) = true) (m1 : mg "_law_cell_at" = some (.ref f1))
    (G2 : FnOk P w K mg base CX0 12 f2 fd2 ["way", "kind"] spMet) (b2 : Binds K fd2 ["way", "kind"] []) (k2 : PySem.W.keepIn K (.ref f2) = true) (m2 : mg "_law_met" = some (.ref f2)) (mr : mg "range" = none) : FnOk P w K mg base CX0 13 f fd ["script"] (spLaw K) := by
  refine F.ok scLaw (fun vs H Q E h => ?_) (fun cdv A outer s H vs Q E hr h => ?_)
  · obtain ⟨_, _, rfl, _⟩ := h
    rfl
  obtain ⟨a, ns, rfl, hS, _, q⟩ := h
  have hr1 := hr.mono (j := 1) (by decide)
  refine ⟨_, pss_cons (ps_set (i := 1) scLaw.nd rfl (Or.inl rfl) (pe_op op_mod (pe_call G1 hr1 rfl m1 k1 b1 .nil pass0 (pa_cons (pv 0) (pa_cons pe_int pa_nil))) pe_int))
    (pss_cons (ps_for PassesOwn.never rfl (pi_range1 rfl mr (pa_cons pe_int pa_nil)) (pg_name (i := 2) scLaw.nd rfl (Or.inl rfl))
      (pss_cons (ps_set (i := 3) scLaw.nd rfl (Or.inl rfl) (pe_op op_mod (pe_op op_add (pv 1) (pv 2)) pe_int))
      (pss_cons (ps_set (i := 4) scLaw.nd rfl (Or.inl rfl) (pe_ix ix_list (pe_lst (pa_cons pe_str (pa_cons pe_str pa_nil))) (pe_op op_mod (pe_op op_add (pe_call G1 hr1 rfl m1 k1 b1 .nil pass0 (pa_cons (pv 0) (pa_cons pe_int pa_nil))) (pv 2)) pe_int) (fun _ _ => rfl)))
      (pss_one (ps_if (pt_cmpR op_ne (pe_call G2 hr rfl m2 k2 b2 .nil pass0 (pa_cons (pv 3) (pa_cons (pv 4) pa_nil))) (pe_ix ix_list (pe_lst (pa_cons pe_int (pa_cons pe_int (pa_cons pe_int (pa_cons pe_int (pa_cons pe_int (pa_cons pe_int (pa_cons pe_int (pa_cons pe_int (pa_cons pe_int pa_nil)))))))))) (pv 3) (fun _ _ => rfl)) (nomark _)) (pss_one (ps_ret pe_bl)) pss_nil)))))
    (pss_one (ps_ret pe_bl))), ?_⟩
  refine ⟨_, rfl, a, ns, 0, rfl, hS, by decide, _, _, rfl, rfl, (by show (0 : Int) < 9; decide), ?_⟩
  obtain ⟨fi, hfi⟩ : ∃ x, x = cellZ ns 0 % 9 := ⟨_, rfl⟩
  dsimp only
  rw [← hfi]
  refine ⟨9, rfl, by decide, by decide, ?_⟩
  refine for_range (n := 9) (fun i σ H' => ∃ v2 v3 v4 : Option V, σ = [some (.ref a), some (.int fi), v2, v3, v4] ∧ Same H H') ⟨none, none, none, rfl, Same.refl _⟩ ?_ ?_
  · rintro i σ H1 hi ⟨v2, v3, v4, rfl, s1⟩
    refine ⟨_, rfl, _, rfl, _, _, rfl, rfl, _, _, rfl, rfl, (by show (0 : Int) < 9; decide), ?_⟩
    obtain ⟨wy, hwy⟩ : ∃ x, x = (fi + (0 + (i : Int))) % 9 := ⟨_, rfl⟩
    dsimp only
    rw [← hwy]
    have wr : 0 ≤ wy ∧ wy < 9 := by omega
    refine ⟨(by show 2 ≤ sizeLine; decide), fun l1 hl1 => ?_⟩
    have s2 := same_new hl1 (.lst [.str "way", .str "tree"])
    refine ⟨_, rfl, a, ns, 1, rfl, (s1.trans s2).seq hS, by decide, _, rfl, _, _, rfl, rfl, _, _, rfl, rfl, (by show (0 : Int) < 2; decide), ?_⟩
    obtain ⟨b, hb⟩ : ∃ b, atI [V.str "way", V.str "tree"] ((cellZ ns 1 + (0 + (i : Int))) % 2) = some (.str (kindS b)) := by
      rcases (show (cellZ ns 1 + (0 + (i : Int))) % 2 = 0 ∨ (cellZ ns 1 + (0 + (i : Int))) % 2 = 1 by omega) with e | e
      · exact ⟨false, by rw [e]; rfl⟩
      · exact ⟨true, by rw [e]; rfl⟩
    refine ⟨l1, _, _, _, rfl, rfl, SqL.of upd_same, hb, ?_⟩
    refine ⟨_, rfl, _, rfl, wy, b, rfl, wr.1, wr.2, fun H2 s3 => ?_⟩
    refine ⟨(by show 9 ≤ sizeLine; decide), fun l2 hl2 => ?_⟩
    have s4 := same_new hl2 (.lst (owedL.map V.int))
    refine ⟨_, rfl, l2, owedL.map V.int, wy, .int (owed wy), rfl, rfl, SqL.of upd_same, owed_at wr.1 wr.2, rfl, _, rfl, ?_⟩
    exact ndecF rfl ⟨_, _, _, rfl, s1.trans (s2.trans (s3.trans s4))⟩
  · rintro σ H7 ⟨_, _, _, rfl, s7⟩
    exact q H7
end
@[elab_as_elim] theorem arg1 {α : List Value → Prop} (us : List Value) (hl : us.length = 1) (h : ∀ a0, α [a0]) : α us := match us, hl with | [a0], _ => h a0
@[elab_as_elim] theorem arg2 {α : List Value → Prop} (us : List Value) (hl : us.length = 2) (h : ∀ a0 a1, α [a0, a1]) : α us := match us, hl with | [a0, a1], _ => h a0 a1
@[elab_as_elim] theorem arg3 {α : List Value → Prop} (us : List Value) (hl : us.length = 3) (h : ∀ a0 a1 a2, α [a0, a1, a2]) : α us := match us, hl with | [a0, a1, a2], _ => h a0 a1 a2
@[elab_as_elim] theorem arg4 {α : List Value → Prop} (us : List Value) (hl : us.length = 4) (h : ∀ a0 a1 a2 a3, α [a0, a1, a2, a3]) : α us := match us, hl with | [a0, a1, a2, a3], _ => h a0 a1 a2 a3
@[elab_as_elim] theorem arg5 {α : List Value → Prop} (us : List Value) (hl : us.length = 5) (h : ∀ a0 a1 a2 a3 a4, α [a0, a1, a2, a3, a4]) : α us := match us, hl with | [a0, a1, a2, a3, a4], _ => h a0 a1 a2 a3 a4
theorem all_mk {l : PySem.W.OpenLaw} {w : World} {K : PySem.W.Frag} {h : Heap} {mg : Str → Option Value} {fa f1 f2 f3 f4 f5 f6 f7 f8 f9 f10 f11 f12 f13 f14 f15 f16 f17 f18 f19 f20 f21 f22 f23 f24 f25 f26 f27 f28 f29 f30 f31 f32 f33 : Addr} (X : K.In h) (G : h.Ns mainGlobals mg) (hfa : mg "law" = some (.ref fa))
    {od1 an1 od2 an2 od3 an3 od4 an4 od5 an5 od6 an6 od7 an7 od8 an8 od9 an9 od10 an10 od11 an11 od12 an12 od13 an13 od14 an14 od15 an15 od16 an16 od17 an17 od18 an18 od19 an19 od20 an20 od21 an21 od22 an22 od23 an23 od24 an24 od25 an25 od26 an26 od27 an27 od28 an28 od29 an29 od30 an30 od31 an31 od32 an32 od33 an33 : Option Addr} {sl1 sl2 sl3 sl4 sl5 sl6 sl7 sl8 sl9 sl10 sl11 sl12 sl13 sl14 sl15 sl16 sl17 sl18 sl19 sl20 sl21 sl22 sl23 sl24 sl25 sl26 sl27 sl28 sl29 sl30 sl31 sl32 sl33 : Array (Option Value)} {oc1 kV1 dc1 pm1 cd1 ct1 oc2 kV2 dc2 pm2 cd2 ct2 oc3 kV3 dc3 pm3 cd3 ct3 oc4 kV4 dc4 pm4 cd4 ct4 oc5 kV5 dc5 pm5 cd5 ct5 oc6 kV6 dc6 pm6 cd6 ct6 oc7 kV7 dc7 pm7 cd7 ct7 oc8 kV8 dc8 pm8 cd8 ct8 oc9 kV9 dc9 pm9 cd9 ct9 oc10 kV10 dc10 pm10 cd10 ct10 oc11 kV11 dc11 pm11 cd11 ct11 oc12 kV12 dc12 pm12 cd12 ct12 oc13 kV13 dc13 pm13 cd13 ct13 oc14 kV14 dc14 pm14 cd14 ct14 oc15 kV15 dc15 pm15 cd15 ct15 oc16 kV16 dc16 pm16 cd16 ct16 oc17 kV17 dc17 pm17 cd17 ct17 oc18 kV18 dc18 pm18 cd18 ct18 oc19 kV19 dc19 pm19 cd19 ct19 oc20 kV20 dc20 pm20 cd20 ct20 oc21 kV21 dc21 pm21 cd21 ct21 oc22 kV22 dc22 pm22 cd22 ct22 oc23 kV23 dc23 pm23 cd23 ct23 oc24 kV24 dc24 pm24 cd24 ct24 oc25 kV25 dc25 pm25 cd25 ct25 oc26 kV26 dc26 pm26 cd26 ct26 oc27 kV27 dc27 pm27 cd27 ct27 oc28 kV28 dc28 pm28 cd28 ct28 oc29 kV29 dc29 pm29 cd29 ct29 oc30 kV30 dc30 pm30 cd30 ct30 oc31 kV31 dc31 pm31 cd31 ct31 oc32 kV32 dc32 pm32 cd32 ct32 oc33 kV33 dc33 pm33 cd33 ct33 : Value}
    {tk_cP tk_cG tk_cT tk_dP tk_dW tk_dN tk_eL tk_eM tk_eR : Tok}
    (a1 : PySem.W.nsIn K mainGlobals "within_bounds" = some (some (.ref f1))) (l1 : K.lookup f1 = some ⟨oc1, od1, .func (PySem.W.fnOf "within_bounds" "within_bounds" (defArgs sWithin) (defBody sWithin) (defScope sWithin) .none kV1 dc1 pm1 an1 cd1 ct1), sl1⟩) (c1 : PySem.W.codeIn K cd1 "within_bounds" = true) (k1 : PySem.W.keepIn K (.ref f1) = true)
    (a2 : PySem.W.nsIn K mainGlobals "first_best_shelf" = some (some (.ref f2))) (l2 : K.lookup f2 = some ⟨oc2, od2, .func (PySem.W.fnOf "first_best" "first_best" (defArgs sFirst) (defBody sFirst) (defScope sFirst) .none kV2 dc2 pm2 an2 cd2 ct2), sl2⟩) (c2 : PySem.W.codeIn K cd2 "first_best" = true) (k2 : PySem.W.keepIn K (.ref f2) = true)
    (a3 : PySem.W.nsIn K mainGlobals "check_row_shelf" = some (some (.ref f3))) (l3 : K.lookup f3 = some ⟨oc3, od3, .func (PySem.W.fnOf "check_row" "check_row" (defArgs sRow) (defBody sRow) (defScope sRow) .none kV3 dc3 pm3 an3 cd3 ct3), sl3⟩) (c3 : PySem.W.codeIn K cd3 "check_row" = true) (k3 : PySem.W.keepIn K (.ref f3) = true)
    (a4 : PySem.W.nsIn K mainGlobals "check_worths_shelf" = some (some (.ref f4))) (l4 : K.lookup f4 = some ⟨oc4, od4, .func (PySem.W.fnOf "check_worths" "check_worths" (defArgs sCheck) (defBody sCheck) (defScope sCheck) .none kV4 dc4 pm4 an4 cd4 ct4), sl4⟩) (c4 : PySem.W.codeIn K cd4 "check_worths" = true) (k4 : PySem.W.keepIn K (.ref f4) = true)
    (a5 : PySem.W.nsIn K mainGlobals "shelf_best" = some (some (.ref f5))) (l5 : K.lookup f5 = some ⟨oc5, od5, .func (PySem.W.fnOf "shelf_best" "shelf_best" (defArgs sBest) (defBody sBest) (defScope sBest) .none kV5 dc5 pm5 an5 cd5 ct5), sl5⟩) (c5 : PySem.W.codeIn K cd5 "shelf_best" = true) (k5 : PySem.W.keepIn K (.ref f5) = true)
    (a6 : PySem.W.nsIn K mainGlobals "check_row_pile" = some (some (.ref f6))) (l6 : K.lookup f6 = some ⟨oc6, od6, .func (PySem.W.fnOf "check_row" "check_row" (defArgs tRow) (defBody tRow) (defScope tRow) .none kV6 dc6 pm6 an6 cd6 ct6), sl6⟩) (c6 : PySem.W.codeIn K cd6 "check_row" = true) (k6 : PySem.W.keepIn K (.ref f6) = true)
    (a7 : PySem.W.nsIn K mainGlobals "check_worths_pile" = some (some (.ref f7))) (l7 : K.lookup f7 = some ⟨oc7, od7, .func (PySem.W.fnOf "check_worths" "check_worths" (defArgs tCheck) (defBody tCheck) (defScope tCheck) .none kV7 dc7 pm7 an7 cd7 ct7), sl7⟩) (c7 : PySem.W.codeIn K cd7 "check_worths" = true) (k7 : PySem.W.keepIn K (.ref f7) = true)
    (a8 : PySem.W.nsIn K mainGlobals "check_pieces" = some (some (.ref f8))) (l8 : K.lookup f8 = some ⟨oc8, od8, .func (PySem.W.fnOf "check_pieces" "check_pieces" (defArgs tPieces) (defBody tPieces) (defScope tPieces) .none kV8 dc8 pm8 an8 cd8 ct8), sl8⟩) (c8 : PySem.W.codeIn K cd8 "check_pieces" = true) (k8 : PySem.W.keepIn K (.ref f8) = true)
    (a9 : PySem.W.nsIn K mainGlobals "first_best_pile" = some (some (.ref f9))) (l9 : K.lookup f9 = some ⟨oc9, od9, .func (PySem.W.fnOf "first_best" "first_best" (defArgs tFirst) (defBody tFirst) (defScope tFirst) .none kV9 dc9 pm9 an9 cd9 ct9), sl9⟩) (c9 : PySem.W.codeIn K cd9 "first_best" = true) (k9 : PySem.W.keepIn K (.ref f9) = true)
    (a10 : PySem.W.nsIn K mainGlobals "pile_best" = some (some (.ref f10))) (l10 : K.lookup f10 = some ⟨oc10, od10, .func (PySem.W.fnOf "pile_best" "pile_best" (defArgs tBest) (defBody tBest) (defScope tBest) .none kV10 dc10 pm10 an10 cd10 ct10), sl10⟩) (c10 : PySem.W.codeIn K cd10 "pile_best" = true) (k10 : PySem.W.keepIn K (.ref f10) = true)
    (a11 : PySem.W.nsIn K mainGlobals "loss_of_others" = some (some (.ref f11))) (l11 : K.lookup f11 = some ⟨oc11, od11, .func (PySem.W.fnOf "loss_of_others" "loss_of_others" (defArgs tLoss) (defBody tLoss) (defScope tLoss) .none kV11 dc11 pm11 an11 cd11 ct11), sl11⟩) (c11 : PySem.W.codeIn K cd11 "loss_of_others" = true) (k11 : PySem.W.keepIn K (.ref f11) = true)
    (a12 : PySem.W.nsIn K mainGlobals "pile_pays" = some (some (.ref f12))) (l12 : K.lookup f12 = some ⟨oc12, od12, .func (PySem.W.fnOf "pile_pays" "pile_pays" (defArgs tPays) (defBody tPays) (defScope tPays) .none kV12 dc12 pm12 an12 cd12 ct12), sl12⟩) (c12 : PySem.W.codeIn K cd12 "pile_pays" = true) (k12 : PySem.W.keepIn K (.ref f12) = true)
    (a13 : PySem.W.nsIn K mainGlobals "check_road" = some (some (.ref f13))) (l13 : K.lookup f13 = some ⟨oc13, od13, .func (PySem.W.fnOf "check_road" "check_road" (defArgs uRoad) (defBody uRoad) (defScope uRoad) .none kV13 dc13 pm13 an13 cd13 ct13), sl13⟩) (c13 : PySem.W.codeIn K cd13 "check_road" = true) (k13 : PySem.W.keepIn K (.ref f13) = true)
    (a14 : PySem.W.nsIn K mainGlobals "check_web" = some (some (.ref f14))) (l14 : K.lookup f14 = some ⟨oc14, od14, .func (PySem.W.fnOf "check_web" "check_web" (defArgs uCheck) (defBody uCheck) (defScope uCheck) .none kV14 dc14 pm14 an14 cd14 ct14), sl14⟩) (c14 : PySem.W.codeIn K cd14 "check_web" = true) (k14 : PySem.W.keepIn K (.ref f14) = true)
    (a17 : PySem.W.nsIn K mainGlobals "joins_parts" = some (some (.ref f17))) (l17 : K.lookup f17 = some ⟨oc17, od17, .func (PySem.W.fnOf "joins_parts" "joins_parts" (defArgs uJoins) (defBody uJoins) (defScope uJoins) .none kV17 dc17 pm17 an17 cd17 ct17), sl17⟩) (c17 : PySem.W.codeIn K cd17 "joins_parts" = true) (k17 : PySem.W.keepIn K (.ref f17) = true)
    (a18 : PySem.W.nsIn K mainGlobals "with_road" = some (some (.ref f18))) (l18 : K.lookup f18 = some ⟨oc18, od18, .func (PySem.W.fnOf "with_road" "with_road" (defArgs uWith) (defBody uWith) (defScope uWith) .none kV18 dc18 pm18 an18 cd18 ct18), sl18⟩) (c18 : PySem.W.codeIn K cd18 "with_road" = true) (k18 : PySem.W.keepIn K (.ref f18) = true)
    (a19 : PySem.W.nsIn K mainGlobals "all_trees" = some (some (.ref f19))) (l19 : K.lookup f19 = some ⟨oc19, od19, .func (PySem.W.fnOf "all_trees" "all_trees" (defArgs uTrees) (defBody uTrees) (defScope uTrees) .none kV19 dc19 pm19 an19 cd19 ct19), sl19⟩) (c19 : PySem.W.codeIn K cd19 "all_trees" = true) (k19 : PySem.W.keepIn K (.ref f19) = true)
    (a20 : PySem.W.nsIn K mainGlobals "ways_onward" = some (some (.ref f20))) (l20 : K.lookup f20 = some ⟨oc20, od20, .func (PySem.W.fnOf "ways_onward" "ways_onward" (defArgs uOn) (defBody uOn) (defScope uOn) .none kV20 dc20 pm20 an20 cd20 ct20), sl20⟩) (c20 : PySem.W.codeIn K cd20 "ways_onward" = true) (k20 : PySem.W.keepIn K (.ref f20) = true)
    (a21 : PySem.W.nsIn K mainGlobals "all_ways" = some (some (.ref f21))) (l21 : K.lookup f21 = some ⟨oc21, od21, .func (PySem.W.fnOf "all_ways" "all_ways" (defArgs uWays) (defBody uWays) (defScope uWays) .none kV21 dc21 pm21 an21 cd21 ct21), sl21⟩) (c21 : PySem.W.codeIn K cd21 "all_ways" = true) (k21 : PySem.W.keepIn K (.ref f21) = true)
    (a22 : PySem.W.nsIn K mainGlobals "check_costs" = some (some (.ref f22))) (l22 : K.lookup f22 = some ⟨oc22, od22, .func (PySem.W.fnOf "check_costs" "check_costs" (defArgs uCosts) (defBody uCosts) (defScope uCosts) .none kV22 dc22 pm22 an22 cd22 ct22), sl22⟩) (c22 : PySem.W.codeIn K cd22 "check_costs" = true) (k22 : PySem.W.keepIn K (.ref f22) = true)
    (a23 : PySem.W.nsIn K mainGlobals "choices_to_make" = some (some (.ref f23))) (l23 : K.lookup f23 = some ⟨oc23, od23, .func (PySem.W.fnOf "choices_to_make" "choices_to_make" (defArgs uChoices) (defBody uChoices) (defScope uChoices) .none kV23 dc23 pm23 an23 cd23 ct23), sl23⟩) (c23 : PySem.W.codeIn K cd23 "choices_to_make" = true) (k23 : PySem.W.keepIn K (.ref f23) = true)
    (a24 : PySem.W.nsIn K mainGlobals "choice_cost" = some (some (.ref f24))) (l24 : K.lookup f24 = some ⟨oc24, od24, .func (PySem.W.fnOf "choice_cost" "choice_cost" (defArgs uCost) (defBody uCost) (defScope uCost) .none kV24 dc24 pm24 an24 cd24 ct24), sl24⟩) (c24 : PySem.W.codeIn K cd24 "choice_cost" = true) (k24 : PySem.W.keepIn K (.ref f24) = true)
    (a25 : PySem.W.nsIn K mainGlobals "cheapest" = some (some (.ref f25))) (l25 : K.lookup f25 = some ⟨oc25, od25, .func (PySem.W.fnOf "cheapest" "cheapest" (defArgs uCheap) (defBody uCheap) (defScope uCheap) .none kV25 dc25 pm25 an25 cd25 ct25), sl25⟩) (c25 : PySem.W.codeIn K cd25 "cheapest" = true) (k25 : PySem.W.keepIn K (.ref f25) = true)
    (a26 : PySem.W.nsIn K mainGlobals "road_best" = some (some (.ref f26))) (l26 : K.lookup f26 = some ⟨oc26, od26, .func (PySem.W.fnOf "road_best" "road_best" (defArgs uBest) (defBody uBest) (defScope uBest) .none kV26 dc26 pm26 an26 cd26 ct26), sl26⟩) (c26 : PySem.W.codeIn K cd26 "road_best" = true) (k26 : PySem.W.keepIn K (.ref f26) = true)
    (a27 : PySem.W.nsIn K mainGlobals "owner_gets" = some (some (.ref f27))) (l27 : K.lookup f27 = some ⟨oc27, od27, .func (PySem.W.fnOf "owner_gets" "owner_gets" (defArgs uOwner) (defBody uOwner) (defScope uOwner) .none kV27 dc27 pm27 an27 cd27 ct27), sl27⟩) (c27 : PySem.W.codeIn K cd27 "owner_gets" = true) (k27 : PySem.W.keepIn K (.ref f27) = true)
    (a28 : PySem.W.nsIn K mainGlobals "road_gets" = some (some (.ref f28))) (l28 : K.lookup f28 = some ⟨oc28, od28, .func (PySem.W.fnOf "road_gets" "road_gets" (defArgs uGets) (defBody uGets) (defScope uGets) .none kV28 dc28 pm28 an28 cd28 ct28), sl28⟩) (c28 : PySem.W.codeIn K cd28 "road_gets" = true) (k28 : PySem.W.keepIn K (.ref f28) = true)
    (a29 : PySem.W.nsIn K mainGlobals "road_gain" = some (some (.ref f29))) (l29 : K.lookup f29 = some ⟨oc29, od29, .func (PySem.W.fnOf "road_gain" "road_gain" (defArgs uGain) (defBody uGain) (defScope uGain) .none kV29 dc29 pm29 an29 cd29 ct29), sl29⟩) (c29 : PySem.W.codeIn K cd29 "road_gain" = true) (k29 : PySem.W.keepIn K (.ref f29) = true)
    (a30 : PySem.W.nsIn K mainGlobals "_law_cell_at" = some (some (.ref f30))) (l30 : K.lookup f30 = some ⟨oc30, od30, .func (PySem.W.fnOf "_law_cell_at" "_law_cell_at" (defArgs sCell) (defBody sCell) (defScope sCell) .none kV30 dc30 pm30 an30 cd30 ct30), sl30⟩) (c30 : PySem.W.codeIn K cd30 "_law_cell_at" = true) (k30 : PySem.W.keepIn K (.ref f30) = true)
    (a31 : PySem.W.nsIn K mainGlobals "_law_which" = some (some (.ref f31))) (l31 : K.lookup f31 = some ⟨oc31, od31, .func (PySem.W.fnOf "_law_which" "_law_which" (defArgs sWhich) (defBody sWhich) (defScope sWhich) .none kV31 dc31 pm31 an31 cd31 ct31), sl31⟩) (c31 : PySem.W.codeIn K cd31 "_law_which" = true) (k31 : PySem.W.keepIn K (.ref f31) = true)
    (a32 : PySem.W.nsIn K mainGlobals "_law_met" = some (some (.ref f32))) (l32 : K.lookup f32 = some ⟨oc32, od32, .func (PySem.W.fnOf "_law_met" "_law_met" (defArgs sMet) (defBody sMet) (defScope sMet) .none kV32 dc32 pm32 an32 cd32 ct32), sl32⟩) (c32 : PySem.W.codeIn K cd32 "_law_met" = true) (k32 : PySem.W.keepIn K (.ref f32) = true)
    (a33 : PySem.W.nsIn K mainGlobals "law" = some (some (.ref f33))) (l33 : K.lookup f33 = some ⟨oc33, od33, .func (PySem.W.fnOf "law" "law" (defArgs sLaw) (defBody sLaw) (defScope sLaw) .none kV33 dc33 pm33 an33 cd33 ct33), sl33⟩) (c33 : PySem.W.codeIn K cd33 "law" = true) (k33 : PySem.W.keepIn K (.ref f33) = true)
    (z_ml : PySem.W.nsIn K mainGlobals "len" = some none)
    (z_mr : PySem.W.nsIn K mainGlobals "range" = some none)
    (z_ms : PySem.W.nsIn K mainGlobals "sum" = some none)
    (z_mz : PySem.W.nsIn K mainGlobals "zip" = some none)
    (z_mi : PySem.W.nsIn K mainGlobals "isinstance" = some none)
    (z_mL : PySem.W.nsIn K mainGlobals "list" = some none)
    (z_mS : PySem.W.nsIn K mainGlobals "sorted" = some none)
    (z_mn : PySem.W.nsIn K mainGlobals "min" = some none)
    (z_me : PySem.W.nsIn K mainGlobals "enumerate" = some none)
    (z_mV : PySem.W.nsIn K mainGlobals "ValueError" = some none)
    (y_cP : PySem.W.nsIn K mainGlobals "MOST_PEOPLE_shelf" = some (some (.int 4 tk_cP)))
    (y_cG : PySem.W.nsIn K mainGlobals "MOST_GOODS" = some (some (.int 4 tk_cG)))
    (y_cT : PySem.W.nsIn K mainGlobals "MOST_TOLD" = some (some (.int 1000 tk_cT)))
    (y_dP : PySem.W.nsIn K mainGlobals "MOST_PEOPLE_pile" = some (some (.int 5 tk_dP)))
    (y_dW : PySem.W.nsIn K mainGlobals "MOST_WORTHS" = some (some (.int 5 tk_dW)))
    (y_dN : PySem.W.nsIn K mainGlobals "MOST_PIECES" = some (some (.int 12 tk_dN)))
    (y_eL : PySem.W.nsIn K mainGlobals "LEAST_PLACES" = some (some (.int 2 tk_eL)))
    (y_eM : PySem.W.nsIn K mainGlobals "MOST_PLACES" = some (some (.int 6 tk_eM)))
    (y_eR : PySem.W.nsIn K mainGlobals "MOST_ROADS" = some (some (.int 10 tk_eR)))
    {C CW CB D CC CN CA : Addr}
    (xC : PySem.W.nsIn K mainGlobals "BadWorths" = some (some (.ref C)))
    (xE : PySem.W.excIn K C [.type "ValueError", .type "Exception", .type "BaseException", .type "object"] "ValueError.__new__" = true)
    (xW : PySem.W.nsIn K mainGlobals "Web" = some (some (.ref CW)))
    (xB : PySem.W.nsIn K mainGlobals "BadWeb" = some (some (.ref CB)))
    (xBe : PySem.W.excIn K CB [.type "ValueError", .type "Exception", .type "BaseException", .type "object"] "ValueError.__new__" = true)
    (wm1 : PySem.W.makesIn K CW = true)
    (wm2 : PySem.W.findIn K (.ref CW) "__init__" = some (some (.ref f15)))
    (wm3 : PySem.W.isFn K (.ref f15) = true)
    (wm4 : PySem.W.keepIn K (.ref CW) = true)
    (wc1 : PySem.W.plainGet K CW Str.empty = true)
    (wc2 : PySem.W.hasDictIn K CW = true)
    (wc3 : PySem.W.plainOver K CW = true)
    (wc4 : PySem.W.findIn K (.ref CW) "__setattr__" = some (some (.builtin "object.__setattr__")))
    (wp : PySem.W.findIn K (.ref CW) "places" = some none)
    (wr : PySem.W.findIn K (.ref CW) "roads" = some none)
    (xCC : PySem.W.nsIn K mainGlobals "BadCosts" = some (some (.ref CC)))
    (xCN : PySem.W.nsIn K mainGlobals "NoWay" = some (some (.ref CN)))
    (xCe : PySem.W.excIn K CC [.type "ValueError", .type "Exception", .type "BaseException", .type "object"] "ValueError.__new__" = true)
    (xNe : PySem.W.excIn K CN [.type "ValueError", .type "Exception", .type "BaseException", .type "object"] "ValueError.__new__" = true)
    (xCA : PySem.W.nsIn K mainGlobals "Alone" = some (some (.ref CA)))
    (xD : PySem.W.nsIn K mainGlobals "TollError" = some (some (.ref D)))
    (a0 : PySem.W.findIn K (.ref CA) "__init__" = some (some (.ref f16)))
    (ao : excOwn K CA f16 = true)
    (ak : PySem.W.keepIn K (.ref CA) = true)
    (af : PySem.W.isFn K (.ref f16) = true)
    (as1 : PySem.W.findIn K (.ref CA) "__setattr__" = some (some (.builtin "object.__setattr__")))
    (as2 : PySem.W.mroIn K CA (.type "object") = some true)
    (as3 : PySem.W.takerIn K CA "road" = some none)
    (as4 : PySem.W.hasDictIn K CA = true)
    (ab1 : PySem.W.readsIn K D (.type "type") = true)
    (ab2 : PySem.W.findCls K (.ref D) (.type "type") "__init__" = some (.val (.builtin "ValueError.__init__")))
    (ab3 : PySem.W.specialIn K (.ref D) "__getattribute__" = some (some (.builtin "type.__getattribute__")))
    (ag1 : PySem.W.findIn K (.ref CA) "__getattribute__" = some (some (.builtin "BaseException.__getattribute__")))
    (ag2 : PySem.W.findIn K (.ref CA) "__getattr__" = some none)
    (ag3 : PySem.W.mroIn K CA (.type "BaseException") = some true)
    (an : PySem.W.findIn K (.ref CA) "road" = some none)
    (xx0 : PySem.W.exmOne K (.ref C) (.ref CA) = some false)
    (yy0 : PySem.W.exmOne K (.ref C) (.ref D) = some true)
    (uu0g1 : PySem.W.findIn K (.ref C) "__getattribute__" = some (some (.builtin "BaseException.__getattribute__")))
    (uu0g2 : PySem.W.findIn K (.ref C) "__getattr__" = some none)
    (uu0g3 : PySem.W.mroIn K C (.type "BaseException") = some true)
    (uu01 : (PySem.W.clsIn K C).isSome = true)
    (uu02 : PySem.W.findIn K (.ref C) "__class__" = some (some (.builtin "object.__class__")))
    (uu03 : PySem.W.specialIn K (.builtin "object.__class__") "__get__" = some (some (.builtin "getset_descriptor.__get__")))
    (uu04 : PySem.W.takesIn K (.builtin "object.__class__") = some true)
    (uu05 : PySem.W.mroIn K C (.type "object") = some true)
    (kk00 : PySem.W.kitOne K (.ref C) (.ref C) = some true)
    (kk01 : PySem.W.kitOne K (.ref C) (.ref CB) = some false)
    (kk02 : PySem.W.kitOne K (.ref C) (.ref CC) = some false)
    (kk03 : PySem.W.kitOne K (.ref C) (.ref CN) = some false)
    (kk04 : PySem.W.kitOne K (.ref C) (.ref CA) = some false)
    (dd0 : PySem.W.kitOne K (.ref C) (.ref D) = some true)
    (vv0 : PySem.W.kitOne K (.ref C) (.type "ValueError") = some true)
    (xx1 : PySem.W.exmOne K (.ref CB) (.ref CA) = some false)
    (yy1 : PySem.W.exmOne K (.ref CB) (.ref D) = some true)
    (uu1g1 : PySem.W.findIn K (.ref CB) "__getattribute__" = some (some (.builtin "BaseException.__getattribute__")))
    (uu1g2 : PySem.W.findIn K (.ref CB) "__getattr__" = some none)
    (uu1g3 : PySem.W.mroIn K CB (.type "BaseException") = some true)
    (uu11 : (PySem.W.clsIn K CB).isSome = true)
    (uu12 : PySem.W.findIn K (.ref CB) "__class__" = some (some (.builtin "object.__class__")))
    (uu13 : PySem.W.specialIn K (.builtin "object.__class__") "__get__" = some (some (.builtin "getset_descriptor.__get__")))
    (uu14 : PySem.W.takesIn K (.builtin "object.__class__") = some true)
    (uu15 : PySem.W.mroIn K CB (.type "object") = some true)
    (kk10 : PySem.W.kitOne K (.ref CB) (.ref C) = some false)
    (kk11 : PySem.W.kitOne K (.ref CB) (.ref CB) = some true)
    (kk12 : PySem.W.kitOne K (.ref CB) (.ref CC) = some false)
    (kk13 : PySem.W.kitOne K (.ref CB) (.ref CN) = some false)
    (kk14 : PySem.W.kitOne K (.ref CB) (.ref CA) = some false)
    (dd1 : PySem.W.kitOne K (.ref CB) (.ref D) = some true)
    (vv1 : PySem.W.kitOne K (.ref CB) (.type "ValueError") = some true)
    (xx2 : PySem.W.exmOne K (.ref CC) (.ref CA) = some false)
    (yy2 : PySem.W.exmOne K (.ref CC) (.ref D) = some true)
    (uu2g1 : PySem.W.findIn K (.ref CC) "__getattribute__" = some (some (.builtin "BaseException.__getattribute__")))
    (uu2g2 : PySem.W.findIn K (.ref CC) "__getattr__" = some none)
    (uu2g3 : PySem.W.mroIn K CC (.type "BaseException") = some true)
    (uu21 : (PySem.W.clsIn K CC).isSome = true)
    (uu22 : PySem.W.findIn K (.ref CC) "__class__" = some (some (.builtin "object.__class__")))
    (uu23 : PySem.W.specialIn K (.builtin "object.__class__") "__get__" = some (some (.builtin "getset_descriptor.__get__")))
    (uu24 : PySem.W.takesIn K (.builtin "object.__class__") = some true)
    (uu25 : PySem.W.mroIn K CC (.type "object") = some true)
    (kk20 : PySem.W.kitOne K (.ref CC) (.ref C) = some false)
    (kk21 : PySem.W.kitOne K (.ref CC) (.ref CB) = some false)
    (kk22 : PySem.W.kitOne K (.ref CC) (.ref CC) = some true)
    (kk23 : PySem.W.kitOne K (.ref CC) (.ref CN) = some false)
    (kk24 : PySem.W.kitOne K (.ref CC) (.ref CA) = some false)
    (dd2 : PySem.W.kitOne K (.ref CC) (.ref D) = some true)
    (vv2 : PySem.W.kitOne K (.ref CC) (.type "ValueError") = some true)
    (xx3 : PySem.W.exmOne K (.ref CN) (.ref CA) = some false)
    (yy3 : PySem.W.exmOne K (.ref CN) (.ref D) = some true)
    (uu3g1 : PySem.W.findIn K (.ref CN) "__getattribute__" = some (some (.builtin "BaseException.__getattribute__")))
    (uu3g2 : PySem.W.findIn K (.ref CN) "__getattr__" = some none)
    (uu3g3 : PySem.W.mroIn K CN (.type "BaseException") = some true)
    (uu31 : (PySem.W.clsIn K CN).isSome = true)
    (uu32 : PySem.W.findIn K (.ref CN) "__class__" = some (some (.builtin "object.__class__")))
    (uu33 : PySem.W.specialIn K (.builtin "object.__class__") "__get__" = some (some (.builtin "getset_descriptor.__get__")))
    (uu34 : PySem.W.takesIn K (.builtin "object.__class__") = some true)
    (uu35 : PySem.W.mroIn K CN (.type "object") = some true)
    (kk30 : PySem.W.kitOne K (.ref CN) (.ref C) = some false)
    (kk31 : PySem.W.kitOne K (.ref CN) (.ref CB) = some false)
    (kk32 : PySem.W.kitOne K (.ref CN) (.ref CC) = some false)
    (kk33 : PySem.W.kitOne K (.ref CN) (.ref CN) = some true)
    (kk34 : PySem.W.kitOne K (.ref CN) (.ref CA) = some false)
    (dd3 : PySem.W.kitOne K (.ref CN) (.ref D) = some true)
    (vv3 : PySem.W.kitOne K (.ref CN) (.type "ValueError") = some true)
    (xx4 : PySem.W.exmOne K (.ref CA) (.ref CA) = some true)
    (yy4 : PySem.W.exmOne K (.ref CA) (.ref D) = some true)
    (uu4g1 : PySem.W.findIn K (.ref CA) "__getattribute__" = some (some (.builtin "BaseException.__getattribute__")))
    (uu4g2 : PySem.W.findIn K (.ref CA) "__getattr__" = some none)
    (uu4g3 : PySem.W.mroIn K CA (.type "BaseException") = some true)
    (uu41 : (PySem.W.clsIn K CA).isSome = true)
    (uu42 : PySem.W.findIn K (.ref CA) "__class__" = some (some (.builtin "object.__class__")))
    (uu43 : PySem.W.specialIn K (.builtin "object.__class__") "__get__" = some (some (.builtin "getset_descriptor.__get__")))
    (uu44 : PySem.W.takesIn K (.builtin "object.__class__") = some true)
    (uu45 : PySem.W.mroIn K CA (.type "object") = some true)
    (kk40 : PySem.W.kitOne K (.ref CA) (.ref C) = some false)
    (kk41 : PySem.W.kitOne K (.ref CA) (.ref CB) = some false)
    (kk42 : PySem.W.kitOne K (.ref CA) (.ref CC) = some false)
    (kk43 : PySem.W.kitOne K (.ref CA) (.ref CN) = some false)
    (kk44 : PySem.W.kitOne K (.ref CA) (.ref CA) = some true)
    (dd4 : PySem.W.kitOne K (.ref CA) (.ref D) = some true)
    (vv4 : PySem.W.kitOne K (.ref CA) (.type "ValueError") = some true)
    (l15 : K.lookup f15 = some ⟨oc15, od15, .func (PySem.W.fnOf "__init__" "Web.__init__" (defArgs uInit) (defBody uInit) (defScope uInit) .none kV15 dc15 pm15 an15 cd15 ct15), sl15⟩) (c15 : PySem.W.codeIn K cd15 "Web.__init__" = true) (k15 : PySem.W.keepIn K (.ref f15) = true)
    (l16 : K.lookup f16 = some ⟨oc16, od16, .func (PySem.W.fnOf "__init__" "Alone.__init__" (defArgs sAInit) (defBody sAInit) (defScope sAInit) .none kV16 dc16 pm16 an16 cd16 ct16), sl16⟩) (c16 : PySem.W.codeIn K cd16 "Alone.__init__" = true) (k16 : PySem.W.keepIn K (.ref f16) = true)
    : ∃ fd : FuncData, (∀ (s : Shared) (v : Value), BindsTo s fd ⟨[v], []⟩ [("script", v)]) ∧ ∀ base : Heap, K.In base → base.Ns mainGlobals mg → FnOk l.prog w K mg base CX0 13 fa fd ["script"] (spLaw K) := by
  have e := hfa.symm.trans (PySem.W.mg_of X G a33)
  cases e
  have F1 := fun_mk (st := sWithin) l1 c1 k1
  have b1 := F1.binds (ps := ["told"]) fun _ _ _ _ _ _ us hl => arg1 us hl fun _ => rfl
  have m1 := PySem.W.mg_of X G a1
  have F2 := fun_mk (st := sFirst) l2 c2 k2
  have b2 := F2.binds (ps := ["worths", "goods"]) fun _ _ _ _ _ _ us hl => arg2 us hl fun _ _ => rfl
  have m2 := PySem.W.mg_of X G a2
  have F3 := fun_mk (st := sRow) l3 c3 k3
  have b3 := F3.binds (ps := ["row", "goods"]) fun _ _ _ _ _ _ us hl => arg2 us hl fun _ _ => rfl
  have m3 := PySem.W.mg_of X G a3
  have F4 := fun_mk (st := sCheck) l4 c4 k4
  have b4 := F4.binds (ps := ["worths"]) fun _ _ _ _ _ _ us hl => arg1 us hl fun _ => rfl
  have m4 := PySem.W.mg_of X G a4
  have F5 := fun_mk (st := sBest) l5 c5 k5
  have b5 := F5.binds (ps := ["worths"]) fun _ _ _ _ _ _ us hl => arg1 us hl fun _ => rfl
  have m5 := PySem.W.mg_of X G a5
  have F6 := fun_mk (st := tRow) l6 c6 k6
  have b6 := F6.binds (ps := ["row"]) fun _ _ _ _ _ _ us hl => arg1 us hl fun _ => rfl
  have m6 := PySem.W.mg_of X G a6
  have F7 := fun_mk (st := tCheck) l7 c7 k7
  have b7 := F7.binds (ps := ["worths"]) fun _ _ _ _ _ _ us hl => arg1 us hl fun _ => rfl
  have m7 := PySem.W.mg_of X G a7
  have F8 := fun_mk (st := tPieces) l8 c8 k8
  have b8 := F8.binds (ps := ["pieces"]) fun _ _ _ _ _ _ us hl => arg1 us hl fun _ => rfl
  have m8 := PySem.W.mg_of X G a8
  have F9 := fun_mk (st := tFirst) l9 c9 k9
  have b9 := F9.binds (ps := ["pieces", "worths"]) fun _ _ _ _ _ _ us hl => arg2 us hl fun _ _ => rfl
  have m9 := PySem.W.mg_of X G a9
  have F10 := fun_mk (st := tBest) l10 c10 k10
  have b10 := F10.binds (ps := ["pieces", "worths"]) fun _ _ _ _ _ _ us hl => arg2 us hl fun _ _ => rfl
  have m10 := PySem.W.mg_of X G a10
  have F11 := fun_mk (st := tLoss) l11 c11 k11
  have b11 := F11.binds (ps := ["pieces", "worths", "dealing", "person"]) fun _ _ _ _ _ _ us hl => arg4 us hl fun _ _ _ _ => rfl
  have m11 := PySem.W.mg_of X G a11
  have F12 := fun_mk (st := tPays) l12 c12 k12
  have b12 := F12.binds (ps := ["pieces", "worths"]) fun _ _ _ _ _ _ us hl => arg2 us hl fun _ _ => rfl
  have m12 := PySem.W.mg_of X G a12
  have F13 := fun_mk (st := uRoad) l13 c13 k13
  have b13 := F13.binds (ps := ["places", "road"]) fun _ _ _ _ _ _ us hl => arg2 us hl fun _ _ => rfl
  have m13 := PySem.W.mg_of X G a13
  have F14 := fun_mk (st := uCheck) l14 c14 k14
  have b14 := F14.binds (ps := ["places", "roads"]) fun _ _ _ _ _ _ us hl => arg2 us hl fun _ _ => rfl
  have m14 := PySem.W.mg_of X G a14
  have F15 := fun_mk (st := uInit) l15 c15 k15
  have b15 := F15.binds (ps := ["self", "places", "roads"]) fun _ _ _ _ _ _ us hl => arg3 us hl fun _ _ _ => rfl
  have F16 := fun_mk (st := sAInit) l16 c16 k16
  have b16 := F16.binds (ps := ["self", "road"]) fun _ _ _ _ _ _ us hl => arg2 us hl fun _ _ => rfl
  have F17 := fun_mk (st := uJoins) l17 c17 k17
  have b17 := F17.binds (ps := ["forest", "ends"]) fun _ _ _ _ _ _ us hl => arg2 us hl fun _ _ => rfl
  have m17 := PySem.W.mg_of X G a17
  have F18 := fun_mk (st := uWith) l18 c18 k18
  have b18 := F18.binds (ps := ["forest", "road", "ends"]) fun _ _ _ _ _ _ us hl => arg3 us hl fun _ _ _ => rfl
  have m18 := PySem.W.mg_of X G a18
  have F19 := fun_mk (st := uTrees) l19 c19 k19
  have b19 := F19.binds (ps := ["web"]) fun _ _ _ _ _ _ us hl => arg1 us hl fun _ => rfl
  have m19 := PySem.W.mg_of X G a19
  have F20 := fun_mk (st := uOn) l20 c20 k20
  have b20 := F20.binds (ps := ["web", "place", "seen"]) fun _ _ _ _ _ _ us hl => arg3 us hl fun _ _ _ => rfl
  have m20 := PySem.W.mg_of X G a20
  have F21 := fun_mk (st := uWays) l21 c21 k21
  have b21 := F21.binds (ps := ["web"]) fun _ _ _ _ _ _ us hl => arg1 us hl fun _ => rfl
  have m21 := PySem.W.mg_of X G a21
  have F22 := fun_mk (st := uCosts) l22 c22 k22
  have b22 := F22.binds (ps := ["web", "costs"]) fun _ _ _ _ _ _ us hl => arg2 us hl fun _ _ => rfl
  have m22 := PySem.W.mg_of X G a22
  have F23 := fun_mk (st := uChoices) l23 c23 k23
  have b23 := F23.binds (ps := ["web", "kind", "costs"]) fun _ _ _ _ _ _ us hl => arg3 us hl fun _ _ _ => rfl
  have m23 := PySem.W.mg_of X G a23
  have F24 := fun_mk (st := uCost) l24 c24 k24
  have b24 := F24.binds (ps := ["choice", "costs"]) fun _ _ _ _ _ _ us hl => arg2 us hl fun _ _ => rfl
  have m24 := PySem.W.mg_of X G a24
  have F25 := fun_mk (st := uCheap) l25 c25 k25
  have b25 := F25.binds (ps := ["choices", "costs"]) fun _ _ _ _ _ _ us hl => arg2 us hl fun _ _ => rfl
  have m25 := PySem.W.mg_of X G a25
  have F26 := fun_mk (st := uBest) l26 c26 k26
  have b26 := F26.binds (ps := ["web", "kind", "costs"]) fun _ _ _ _ _ _ us hl => arg3 us hl fun _ _ _ => rfl
  have m26 := PySem.W.mg_of X G a26
  have F27 := fun_mk (st := uOwner) l27 c27 k27
  have b27 := F27.binds (ps := ["choices", "costs", "best", "road"]) fun _ _ _ _ _ _ us hl => arg4 us hl fun _ _ _ _ => rfl
  have m27 := PySem.W.mg_of X G a27
  have F28 := fun_mk (st := uGets) l28 c28 k28
  have b28 := F28.binds (ps := ["web", "kind", "costs"]) fun _ _ _ _ _ _ us hl => arg3 us hl fun _ _ _ => rfl
  have m28 := PySem.W.mg_of X G a28
  have F29 := fun_mk (st := uGain) l29 c29 k29
  have b29 := F29.binds (ps := ["web", "kind", "costs", "road", "truth"]) fun _ _ _ _ _ _ us hl => arg5 us hl fun _ _ _ _ _ => rfl
  have m29 := PySem.W.mg_of X G a29
  have F30 := fun_mk (st := sCell) l30 c30 k30
  have b30 := F30.binds (ps := ["script", "k"]) fun _ _ _ _ _ _ us hl => arg2 us hl fun _ _ => rfl
  have m30 := PySem.W.mg_of X G a30
  have F31 := fun_mk (st := sWhich) l31 c31 k31
  have b31 := F31.binds (ps := ["e"]) fun _ _ _ _ _ _ us hl => arg1 us hl fun _ => rfl
  have m31 := PySem.W.mg_of X G a31
  have F32 := fun_mk (st := sMet) l32 c32 k32
  have b32 := F32.binds (ps := ["way", "kind"]) fun _ _ _ _ _ _ us hl => arg2 us hl fun _ _ => rfl
  have m32 := PySem.W.mg_of X G a32
  have F33 := fun_mk (st := sLaw) l33 c33 k33
  have ml := PySem.W.mg_none_of X G z_ml
  have mr := PySem.W.mg_none_of X G z_mr
  have ms := PySem.W.mg_none_of X G z_ms
  have mz := PySem.W.mg_none_of X G z_mz
  have mi := PySem.W.mg_none_of X G z_mi
  have mL := PySem.W.mg_none_of X G z_mL
  have mS := PySem.W.mg_none_of X G z_mS
  have mn := PySem.W.mg_none_of X G z_mn
  have me := PySem.W.mg_none_of X G z_me
  have mV := PySem.W.mg_none_of X G z_mV
  have cP := PySem.W.mg_of X G y_cP
  have cG := PySem.W.mg_of X G y_cG
  have cT := PySem.W.mg_of X G y_cT
  have dP := PySem.W.mg_of X G y_dP
  have dW := PySem.W.mg_of X G y_dW
  have dN := PySem.W.mg_of X G y_dN
  have eL := PySem.W.mg_of X G y_eL
  have eM := PySem.W.mg_of X G y_eM
  have eR := PySem.W.mg_of X G y_eR
  refine ⟨PySem.W.fnOf "law" "law" (defArgs sLaw) (defBody sLaw) (defScope sLaw) .none kV33 dc33 pm33 an33 cd33 ct33, fun s v => .of_eq rfl, fun base _ _ => ?_⟩
  have g1 := ok_within (P := l.prog) (w := w) (base := base) F1 cT
  have mC := PySem.W.mg_of X G xC
  have g4 := ok_checkNo (P := l.prog) (w := w) (base := base) F4 b3 k3 m3 ml cP cG xE mC
  have g5 := ok_bestNo F5 g4 b4 k4 m4 b2 k2 m2 ml
  have g6 := ok_tRow F6 g1 b1 k1 m1 ml mz dW cT xE mC
  have g7 := ok_tCheck F7 g6 b6 k6 m6 ml dP xE mC
  have g8 := ok_tPieces (P := l.prog) (w := w) (base := base) F8 dN xE mC
  have g10 := ok_tBestNo F10 g7 b7 k7 m7 g8 b8 k8 m8 b9 k9 m9
  have g12 := ok_tPaysNo F12 g10 b10 k10 m10 b11 k11 m11 ml mr
  have mW := PySem.W.mg_of X G xW
  have nB := PySem.W.mg_of X G xB
  have WK : WebK K CW f15 := ⟨⟨wm1, wm2, wm3, wm4⟩, ⟨wc1, wc2, wc3, wc4⟩, wp, wr⟩
  have g13 := ok_uRoad (P := l.prog) (w := w) (base := base) F13 ml xBe nB
  have g14 := ok_uCheck F14 g13 b13 k13 m13 ml eL eM eR xBe nB
  have g15 := ok_uInit F15 g14 b14 k14 m14 mL WK
  have nC := PySem.W.mg_of X G xCC
  have nN := PySem.W.mg_of X G xCN
  have g17 := ok_uJoins (P := l.prog) (w := w) (mg := mg) (base := base) F17
  have g18 := ok_uWith (P := l.prog) (w := w) (mg := mg) (base := base) F18
  have g19 := ok_uTrees F19 g17 b17 k17 m17 g18 b18 k18 m18 WK mL mr me ml
  have g20 := ok_uOn (P := l.prog) (w := w) (base := base) F20 k20 m20 b20 WK me
  have g21 := ok_uWays F21 (g20 7) b20 k20 m20 mS
  have g22 := ok_uCosts F22 g1 b1 k1 m1 WK ml cT xCe nC
  have g23 := ok_uChoices F23 g22 b22 k22 m22 g21 b21 k21 m21 g19 b19 k19 m19 ml xNe nN
  have g24 := ok_uCost (P := l.prog) (w := w) (base := base) F24 ms
  have g25 := ok_uCheap F25 g24 b24 k24 m24 mn
  have g26 := ok_uBestNo F26 b25 k25 m25 g23 b23 k23 m23
  have nA := PySem.W.mg_of X G xCA
  have mD := PySem.W.mg_of X G xD
  have g16 := ok_ainit (C := CA) (P := l.prog) (w := w) (base := base) F16 ⟨ab1, ab2, ab3⟩ mD
  have g27 := ok_uOwner F27 g25 b25 k25 m25 g16 b16 ao ak af ⟨as1, as2, as3, as4⟩ nA ml
  have g28 := ok_uGets F28 g23 b23 k23 m23 g25 b25 k25 m25 g27 b27 k27 m27 ml mr
  have g29 := ok_uGainNo F29 g28 b28 k28 m28 b26 k26 m26
  have g30 := ok_cell (P := l.prog) (w := w) (base := base) F30 ml
  have g31 := ok_which (P := l.prog) (w := w) (base := base) F31 mi mC nB nC nN nA mD mV
  have w0 : Which K D C CB CC CN CA C 0 := ⟨xx0, yy0, ⟨⟨uu0g1, uu0g2, uu0g3⟩, uu01, uu02, uu03, uu04, uu05⟩, kk00, kk01, kk02, kk03, kk04, dd0, vv0⟩
  have w1 : Which K D C CB CC CN CA CB 1 := ⟨xx1, yy1, ⟨⟨uu1g1, uu1g2, uu1g3⟩, uu11, uu12, uu13, uu14, uu15⟩, kk10, kk11, kk12, kk13, kk14, dd1, vv1⟩
  have w2 : Which K D C CB CC CN CA CC 2 := ⟨xx2, yy2, ⟨⟨uu2g1, uu2g2, uu2g3⟩, uu21, uu22, uu23, uu24, uu25⟩, kk20, kk21, kk22, kk23, kk24, dd2, vv2⟩
  have w3 : Which K D C CB CC CN CA CN 3 := ⟨xx3, yy3, ⟨⟨uu3g1, uu3g2, uu3g3⟩, uu31, uu32, uu33, uu34, uu35⟩, kk30, kk31, kk32, kk33, kk34, dd3, vv3⟩
  have w4 : Which K D C CB CC CN CA CA 4 := ⟨xx4, yy4, ⟨⟨uu4g1, uu4g2, uu4g3⟩, uu41, uu42, uu43, uu44, uu45⟩, kk40, kk41, kk42, kk43, kk44, dd4, vv4⟩
  have g32 := ok_met F32 g5 b5 k5 m5 g10 b10 k10 m10 g12 b12 k12 m12 g26 b26 k26 m26 g28 b28 k28 m28 g29 b29 k29 m29 g31 b31 k31 m31 WK g15 b15 mW nA mD w0 w1 w2 w3 w4 ⟨⟨ag1, ag2, ag3⟩, as4, an⟩ (by decide) (by decide) (by decide) (by decide) (by decide) (by decide) (by decide)
  exact ok_law F33 g30 b30 k30 m30 g32 b32 k32 m32 mr
theorem walk {l : PySem.W.OpenLaw} {q : Program} {loose : List Str} {XP : (Str → Option Value) → Heap → Prop} {YP : World → Heap → Prop} {d : DefRec} {K : Params → PySem.W.Frag} (hn : l.most = some 63) (hdf : d.params.defaults = [])
    (hY : ∀ (w : World) (h : Heap), YP w h → (K w.params).In h)
    (F : ∀ (w : World) (mg : Str → Option Value) (fa : Addr) (h : Heap), (K w.params).In h → h.Ns mainGlobals mg → mg d.name = some (.ref fa) →
      ∃ fd : FuncData, (∀ (s : Shared) (u : Value), BindsTo s fd ⟨[u], []⟩ [("script", u)]) ∧ ∀ base : Heap, (K w.params).In base → base.Ns mainGlobals mg → FnOk l.prog w (K w.params) mg base CX0 13 fa fd ["script"] (spLaw (K w.params))) :
    PySem.W.WalkO q loose XP YP l.row.toRowW d [] (fun f vs => PySem.call f vs) :=
  L2.walk_of (n := 63) (k := 13) (x := "script") (CX := fun _ => CX0) (sp := fun w => spLaw (K w.params)) hn (by decide) hdf ⟨rfl, by decide, by decide⟩ hY F (fun _ _ a ns hl _ hS => ⟨a, ns, rfl, hS, hl, fun _ => rfl⟩) fun _ _ _ _ _ z => z
end My
/-- the names of the largest twins that the head would lay: taken, so that it goes on without them and the compiled text stays under its limit -/
def PySem.W.Fast.tw11892602550311505233 : Nat := 0
def PySem.W.Fast.tw9182668005670655793 : Nat := 0
def PySem.W.Fast.tw498312104456345469 : Nat := 0
def PySem.W.Fast.tw11650108513562690957 : Nat := 0
def PySem.W.Fast.tw4715185876612122444 : Nat := 0
def PySem.W.Fast.tw10420856512270924545 : Nat := 0
def PySem.W.Fast.tw4900228184551358859 : Nat := 0
def PySem.W.Fast.tw13484960662968903659 : Nat := 0
def PySem.W.Fast.tw16802786747857561941 : Nat := 0
def PySem.W.Fast.tw17912733909317781857 : Nat := 0
def PySem.W.Fast.tw12691500367127082307 : Nat := 0
def PySem.W.Fast.tw9461553252242097944 : Nat := 0
open PySem PySem.W PyProof.Rows
set_option maxRecDepth 100000 in
set_option maxHeartbeats 0 in
theorem PySem.Challenge.cw_truthtoll_k17_refusals_apart_holds : PySem.Challenge.rw_truthtoll_k17_refusals_apart.Holds := by
  w_on; o_law; k_head; (case hw => w_witness2)
  k_fill
  refine My.walk (l := PySem.Challenge.rw_truthtoll_k17_refusals_apart) rfl rfl (fun w h Y => PySem.W.kIn_of Y) ?F
  case F =>
    intro w mg fa h KX G hmg
    refine' My.all_mk KX G hmg ?a1 ?l1 ?c1 ?k1 ?a2 ?l2 ?c2 ?k2 ?a3 ?l3 ?c3 ?k3 ?a4 ?l4 ?c4 ?k4 ?a5 ?l5 ?c5 ?k5 ?a6 ?l6 ?c6 ?k6 ?a7 ?l7 ?c7 ?k7 ?a8 ?l8 ?c8 ?k8 ?a9 ?l9 ?c9 ?k9 ?a10 ?l10 ?c10 ?k10 ?a11 ?l11 ?c11 ?k11 ?a12 ?l12 ?c12 ?k12 ?a13 ?l13 ?c13 ?k13 ?a14 ?l14 ?c14 ?k14 ?a17 ?l17 ?c17 ?k17 ?a18 ?l18 ?c18 ?k18 ?a19 ?l19 ?c19 ?k19 ?a20 ?l20 ?c20 ?k20 ?a21 ?l21 ?c21 ?k21 ?a22 ?l22 ?c22 ?k22 ?a23 ?l23 ?c23 ?k23 ?a24 ?l24 ?c24 ?k24 ?a25 ?l25 ?c25 ?k25 ?a26 ?l26 ?c26 ?k26 ?a27 ?l27 ?c27 ?k27 ?a28 ?l28 ?c28 ?k28 ?a29 ?l29 ?c29 ?k29 ?a30 ?l30 ?c30 ?k30 ?a31 ?l31 ?c31 ?k31 ?a32 ?l32 ?c32 ?k32 ?a33 ?l33 ?c33 ?k33 ?z_ml ?z_mr ?z_ms ?z_mz ?z_mi ?z_mL ?z_mS ?z_mn ?z_me ?z_mV ?y_cP ?y_cG ?y_cT ?y_dP ?y_dW ?y_dN ?y_eL ?y_eM ?y_eR ?xC ?xE ?xW ?xB ?xBe ?wm1 ?wm2 ?wm3 ?wm4 ?wc1 ?wc2 ?wc3 ?wc4 ?wp ?wr ?xCC ?xCN ?xCe ?xNe ?xCA ?xD ?a0 ?ao ?ak ?af ?as1 ?as2 ?as3 ?as4 ?ab1 ?ab2 ?ab3 ?ag1 ?ag2 ?ag3 ?an ?xx0 ?yy0 ?uu0g1 ?uu0g2 ?uu0g3 ?uu01 ?uu02 ?uu03 ?uu04 ?uu05 ?kk00 ?kk01 ?kk02 ?kk03 ?kk04 ?dd0 ?vv0 ?xx1 ?yy1 ?uu1g1 ?uu1g2 ?uu1g3 ?uu11 ?uu12 ?uu13 ?uu14 ?uu15 ?kk10 ?kk11 ?kk12 ?kk13 ?kk14 ?dd1 ?vv1 ?xx2 ?yy2 ?uu2g1 ?uu2g2 ?uu2g3 ?uu21 ?uu22 ?uu23 ?uu24 ?uu25 ?kk20 ?kk21 ?kk22 ?kk23 ?kk24 ?dd2 ?vv2 ?xx3 ?yy3 ?uu3g1 ?uu3g2 ?uu3g3 ?uu31 ?uu32 ?uu33 ?uu34 ?uu35 ?kk30 ?kk31 ?kk32 ?kk33 ?kk34 ?dd3 ?vv3 ?xx4 ?yy4 ?uu4g1 ?uu4g2 ?uu4g3 ?uu41 ?uu42 ?uu43 ?uu44 ?uu45 ?kk40 ?kk41 ?kk42 ?kk43 ?kk44 ?dd4 ?vv4 ?l15 ?c15 ?k15 ?l16 ?c16 ?k16
    (case a1 => k_is)
    (case l1 => k_is)
    (case c1 => k_is)
    (case k1 => k_is)
    (case a2 => k_is)
    (case l2 => k_is)
    (case c2 => k_is)
    (case k2 => k_is)
    (case a3 => k_is)
    (case l3 => k_is)
    (case c3 => k_is)
    (case k3 => k_is)
    (case a4 => k_is)
    (case l4 => k_is)
    (case c4 => k_is)
    (case k4 => k_is)
    (case a5 => k_is)
    (case l5 => k_is)
    (case c5 => k_is)
    (case k5 => k_is)
    (case a6 => k_is)
    (case l6 => k_is)
    (case c6 => k_is)
    (case k6 => k_is)
    (case a7 => k_is)
    (case l7 => k_is)
    (case c7 => k_is)
    (case k7 => k_is)
    (case a8 => k_is)
    (case l8 => k_is)
    (case c8 => k_is)
    (case k8 => k_is)
    (case a9 => k_is)
    (case l9 => k_is)
    (case c9 => k_is)
    (case k9 => k_is)
    (case a10 => k_is)
    (case l10 => k_is)
    (case c10 => k_is)
    (case k10 => k_is)
    (case a11 => k_is)
    (case l11 => k_is)
    (case c11 => k_is)
    (case k11 => k_is)
    (case a12 => k_is)
    (case l12 => k_is)
    (case c12 => k_is)
    (case k12 => k_is)
    (case a13 => k_is)
    (case l13 => k_is)
    (case c13 => k_is)
    (case k13 => k_is)
    (case a14 => k_is)
    (case l14 => k_is)
    (case c14 => k_is)
    (case k14 => k_is)
    (case a17 => k_is)
    (case l17 => k_is)
    (case c17 => k_is)
    (case k17 => k_is)
    (case a18 => k_is)
    (case l18 => k_is)
    (case c18 => k_is)
    (case k18 => k_is)
    (case a19 => k_is)
    (case l19 => k_is)
    (case c19 => k_is)
    (case k19 => k_is)
    (case a20 => k_is)
    (case l20 => k_is)
    (case c20 => k_is)
    (case k20 => k_is)
    (case a21 => k_is)
    (case l21 => k_is)
    (case c21 => k_is)
    (case k21 => k_is)
    (case a22 => k_is)
    (case l22 => k_is)
    (case c22 => k_is)
    (case k22 => k_is)
    (case a23 => k_is)
    (case l23 => k_is)
    (case c23 => k_is)
    (case k23 => k_is)
    (case a24 => k_is)
    (case l24 => k_is)
    (case c24 => k_is)
    (case k24 => k_is)
    (case a25 => k_is)
    (case l25 => k_is)
    (case c25 => k_is)
    (case k25 => k_is)
    (case a26 => k_is)
    (case l26 => k_is)
    (case c26 => k_is)
    (case k26 => k_is)
    (case a27 => k_is)
    (case l27 => k_is)
    (case c27 => k_is)
    (case k27 => k_is)
    (case a28 => k_is)
    (case l28 => k_is)
    (case c28 => k_is)
    (case k28 => k_is)
    (case a29 => k_is)
    (case l29 => k_is)
    (case c29 => k_is)
    (case k29 => k_is)
    (case a30 => k_is)
    (case l30 => k_is)
    (case c30 => k_is)
    (case k30 => k_is)
    (case a31 => k_is)
    (case l31 => k_is)
    (case c31 => k_is)
    (case k31 => k_is)
    (case a32 => k_is)
    (case l32 => k_is)
    (case c32 => k_is)
    (case k32 => k_is)
    (case a33 => k_is)
    (case l33 => k_is)
    (case c33 => k_is)
    (case k33 => k_is)
    (case z_ml => k_is)
    (case z_mr => k_is)
    (case z_ms => k_is)
    (case z_mz => k_is)
    (case z_mi => k_is)
    (case z_mL => k_is)
    (case z_mS => k_is)
    (case z_mn => k_is)
    (case z_me => k_is)
    (case z_mV => k_is)
    (case y_cP => k_is)
    (case y_cG => k_is)
    (case y_cT => k_is)
    (case y_dP => k_is)
    (case y_dW => k_is)
    (case y_dN => k_is)
    (case y_eL => k_is)
    (case y_eM => k_is)
    (case y_eR => k_is)
    (case xC => k_is)
    (case xE => k_exc)
    (case xW => k_is)
    (case xB => k_is)
    (case xBe => k_exc)
    (case wm1 => k_is)
    (case wm2 => k_is)
    (case wm3 => k_is)
    (case wm4 => k_is)
    (case wc1 => k_is)
    (case wc2 => k_is)
    (case wc3 => k_is)
    (case wc4 => k_is)
    (case wp => k_is)
    (case wr => k_is)
    (case xCC => k_is)
    (case xCN => k_is)
    (case xCe => k_exc)
    (case xNe => k_exc)
    (case xCA => k_is)
    (case xD => k_is)
    (case a0 => k_is)
    (case ao => kernel_rfl)
    (case ak => k_is)
    (case af => k_is)
    (case as1 => k_is)
    (case as2 => k_is)
    (case as3 => k_is)
    (case as4 => k_is)
    (case ab1 => k_is)
    (case ab2 => k_is)
    (case ab3 => k_is)
    (case ag1 => k_is)
    (case ag2 => k_is)
    (case ag3 => k_is)
    (case an => k_is)
    (case xx0 => kernel_rfl)
    (case yy0 => kernel_rfl)
    (case uu0g1 => k_is)
    (case uu0g2 => k_is)
    (case uu0g3 => k_is)
    (case uu01 => kernel_rfl)
    (case uu02 => k_is)
    (case uu03 => k_is)
    (case uu04 => k_is)
    (case uu05 => k_is)
    (case kk00 => kernel_rfl)
    (case kk01 => kernel_rfl)
    (case kk02 => kernel_rfl)
    (case kk03 => kernel_rfl)
    (case kk04 => kernel_rfl)
    (case dd0 => kernel_rfl)
    (case vv0 => kernel_rfl)
    (case xx1 => kernel_rfl)
    (case yy1 => kernel_rfl)
    (case uu1g1 => k_is)
    (case uu1g2 => k_is)
    (case uu1g3 => k_is)
    (case uu11 => kernel_rfl)
    (case uu12 => k_is)
    (case uu13 => k_is)
    (case uu14 => k_is)
    (case uu15 => k_is)
    (case kk10 => kernel_rfl)
    (case kk11 => kernel_rfl)
    (case kk12 => kernel_rfl)
    (case kk13 => kernel_rfl)
    (case kk14 => kernel_rfl)
    (case dd1 => kernel_rfl)
    (case vv1 => kernel_rfl)
    (case xx2 => kernel_rfl)
    (case yy2 => kernel_rfl)
    (case uu2g1 => k_is)
    (case uu2g2 => k_is)
    (case uu2g3 => k_is)
    (case uu21 => kernel_rfl)
    (case uu22 => k_is)
    (case uu23 => k_is)
    (case uu24 => k_is)
    (case uu25 => k_is)
    (case kk20 => kernel_rfl)
    (case kk21 => kernel_rfl)
    (case kk22 => kernel_rfl)
    (case kk23 => kernel_rfl)
    (case kk24 => kernel_rfl)
    (case dd2 => kernel_rfl)
    (case vv2 => kernel_rfl)
    (case xx3 => kernel_rfl)
    (case yy3 => kernel_rfl)
    (case uu3g1 => k_is)
    (case uu3g2 => k_is)
    (case uu3g3 => k_is)
    (case uu31 => kernel_rfl)
    (case uu32 => k_is)
    (case uu33 => k_is)
    (case uu34 => k_is)
    (case uu35 => k_is)
    (case kk30 => kernel_rfl)
    (case kk31 => kernel_rfl)
    (case kk32 => kernel_rfl)
    (case kk33 => kernel_rfl)
    (case kk34 => kernel_rfl)
    (case dd3 => kernel_rfl)
    (case vv3 => kernel_rfl)
    (case xx4 => kernel_rfl)
    (case yy4 => kernel_rfl)
    (case uu4g1 => k_is)
    (case uu4g2 => k_is)
    (case uu4g3 => k_is)
    (case uu41 => kernel_rfl)
    (case uu42 => k_is)
    (case uu43 => k_is)
    (case uu44 => k_is)
    (case uu45 => k_is)
    (case kk40 => kernel_rfl)
    (case kk41 => kernel_rfl)
    (case kk42 => kernel_rfl)
    (case kk43 => kernel_rfl)
    (case kk44 => kernel_rfl)
    (case dd4 => kernel_rfl)
    (case vv4 => kernel_rfl)
    (case l15 => k_is)
    (case c15 => k_is)
    (case k15 => k_is)
    (case l16 => k_is)
    (case c16 => k_is)
    (case k16 => k_is)
#print axioms PySem.Challenge.cw_truthtoll_k17_refusals_apart_holds
